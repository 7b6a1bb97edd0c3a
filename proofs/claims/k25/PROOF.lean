import PyProof.Rows.All
import Wide.All
import OpenK.AllK
import Wide.FinOn
import Lean
import PyProof.EqAt
import PyProof.EqKinds
import PyProof.TupleCall
import PySem.Challenge.RW_whencewise_k25_worth
set_option compiler.extract_closed false
set_option bootstrap.genMatcherCode false
set_option maxHeartbeats 0
set_option linter.all false
section
open PySem PySem.Spec PyProof.Rows
def aQG:=@decide_eq_false
def aQH:=@beq_eq_false_iff_ne
def aQI:=@Paired.length
def aQJ:=@Option.some.inj
def aQK:=@Heap.get?_push_size
def aQL:=@Heap.lt_size
def aQM:=@Nat.lt_of_lt_of_le
def aQN:=@Nat.lt_irrefl
def aQO:=@Nat.ne_of_lt
def aQP:=@List.mem_range
def aQQ:=@Array.getElem?_eq_some_iff
def aQR:=@Nat.le_trans
def aQS:=@Nat.le_of_lt
def aQT:=@List.filterMap_cons
def aQU:=@List.mem_cons
def aQV:=@List.mem_append
def aQW:=@List.mem_append_left
def aQX:=@List.getElem?_eq_some_iff
def aQY:=@List.getElem?_set_self
def aQZ:=@List.getElem?_set_ne
def aQ0:=@wpAny_mono
def aQ1:=@wpAny_truthy_bool
def aQ2:=@Array.length_toList
def aQ3:=@wpAny_execs_nil
def aQ4:=@wpAny_execs_cons
def aQ5:=@wpAny_Return_some
def aQ6:=@wpAny_passesOwn
def aQ7:=@Bool.false_ne_true
def aQ8:=@Nat.ne_of_gt
def aQ9:=@wpAny_pure
def aRA:=@wpAny_bind
def aRB:=@wpAny_load
def aRC:=@wpAny_pyIter_list
def aRD:=@Nat.le_refl
def aRE:=@PyProof.Rows.callWith_type1
def aRF:=@List.mem_filterMap
def aRG:=@List.mem_append_right
def aRH:=@sizeLine_eq
def aRI:=@List.size_toArray
def aRJ:=@Array.mem_toList_iff
def aRK:=@beq_iff_eq
def aRL:=@Heap.size_push
def aRM:=@Nat.lt_succ_self
def aRN:=@Nat.zero_le
def aRO:=@Calls.spliced_nil
def aRP:=@Calls.spliced_cons
def aRQ:=@List.append_nil
def aRR:=@List.nodup_cons
def aRS:=@List.of_mem_zip
def aRT:=@W.cellsFrom_some
def aRU:=@List.length_take
def aRV:=@PySem.mem_of_lookup
def aRW:=@List.getElem?_append_right
def aRX:=@List.getElem?_replicate
def aRY:=@List.getElem?_append_left
def aRZ:=@List.getElem?_map
def aR0:=@List.mem_of_getElem?
def aR1:=@List.length_append
def aR2:=@List.length_map
def aR3:=@codeAny_call_function
def aR4:=@wpAny_Call_Name_kw
def aR5:=@concat_meets
def aR6:=@noFill_tuple_add
def aR7:=@F.slot_tuple_add
def aR8:=@F.entry_tuple_add
def aR9:=@F.args_tuple_add_2
def aSA:=@if_false
def aSB:=@wpAny_field
def aSC:=@List.length_drop
def aSD:=@wpAny_holding
def aSE:=@wpAny_callSpecial?_slot
def aSF:=@PyProof.Rows.slot_tuple_getitem
def aSG:=@wpAny_call_entry
def aSH:=@wpAny_typeOf
def aSI:=@Bool.and_eq_true
def aSJ:=@wpAny_newObj_type
def aSK:=@Option.getD_none
def aSL:=@Calls.callWith_builtin
def aSM:=@Calls.evalArgs_plain
def aSN:=@Heap.get?_update_other
def aSO:=@List.find?_cons
def aSP:=@decide_eq_true
def aSQ:=@List.length_cons
def aSR:=@List.length_nil
def aSS:=@List.map_cons
def aST:=@List.map_nil
def aSU:=@F.slot_dict_get
def aSV:=@F.entry_dict_get
def aSW:=@F.args_dict_get_3
def aSX:=@codeAny_mono
def aSY:=@List.cons.injEq
def aSZ:=@List.cons_append
def aS0:=@Nat.add_assoc
def aS1:=@wpAny_specialOf
def aS2:=@Array.forIn_toList
def aS3:=@wpAny_forIn_list
def aS4:=@SeqAt.eqAt_reads
def aS5:=@Nat.min_le_left
def aS6:=@wpAny_isInstance
def aS7:=@Bool.not_true
def aS8:=@Bool.false_eq_true
def aS9:=@List.nil_append
def aTA:=@Option.some.injEq
def aTB:=@List.lookup_cons
def aTC:=@decide_eq_true_eq
def aTD:=@of_decide_eq_true
def aTE:=@Bool.or_eq_true
def aTF:=@Array.all_eq_true_iff_forall_mem
def aTG:=@wpAny_getItem_str_slice
def aTH:=@post_val_or_str
def aTI:=@Txt.slice_le
def aTJ:=@Array.mem_of_getElem?
def aTK:=@W.kia_one
def aTL:=@List.length_set
def aTM:=@List.getElem?_set
def aTN:=@List.getElem?_range
def aTO:=@Option.map_some
def aTP:=@List.getElem?_eq_getElem
def aTQ:=@List.forIn_nil
def aTR:=@List.forIn_cons
def aTS:=@LawfulMonad.pure_bind
def aTT:=@beq_self_eq_true
def aTU:=@Nat.lt_succ_of_lt
def aTV:=@Nat.not_lt
def aTW:=@wpAny_call
def aTX:=@Nat.le_succ
def aTY:=@List.mem_singleton
def aTZ:=@Nat.le_succ_of_le
def aT0:=@List.zip_cons_cons
def aT1:=@List.mem_nil_iff
def aT2:=@or_false
def aT3:=@wpAny_setField
def aT4:=@plainId_quiet
def aT5:=@codeAny_builtin
def aT6:=@Around.under_plainId
def aT7:=@wpAny_askSetting
def aT8:=@List.append_assoc
def aT9:=@isSubtype_type
def aUA:=@wpAny_pyIter_slot
def aUB:=@Heap.get?_update_self
def aUC:=@Obj.isFreed_of_fields
def aUD:=@Obj.data_mapFields
def aUE:=@Heap.SameBut.update
def aUF:=@Obj.cls_mapFields
def aUG:=@wpAny_attempt
def aUH:=@wpAny_fieldsOf
def aUI:=@wpAny_setEntries_of
def aUJ:=@bne_self_eq_false
def aUK:=@Int.toNat_natCast
def aUL:=@wpAny_setState_of
def aUM:=@Array.getElem?_eq_getElem
def aUN:=@Array.getElem?_eq_none
def aUO:=@List.length_range
def aUP:=@List.getElem_mem
def aUQ:=@List.getElem?_toArray
def aUR:=@List.getElem?_eq_none
def aUS:=@wpAny_ite_split
def aUT:=@Array.getElem?_toList
def aUU:=@Bool.not_eq_true'
def aUV:=@Array.getD_eq_getD_getElem?
def aUW:=@Nat.lt_or_ge
def aUX:=@List.getElem_of_mem
def aUY:=@List.pairwise_append
def aUZ:=@List.pairwise_cons
def aU0:=@List.map_append
def aU1:=@List.nodup_nil
def aU2:=@Array.Perm.refl
def aU3:=@of_decide_eq_false
def aU4:=@List.Perm.refl
def aU5:=@List.pairwise_singleton
def aU6:=@List.pairwise_map
def aU7:=@wpAny_newList
def aU8:=@Calls.call_function_entry
def aU9:=@List.all_eq_true
def aVA:=@List.map_map
def aVB:=@wpAny_dictEntries
def aVC:=@wpAny_dictEpoch
def aVD:=@F.slot_dict_keyiterator_next
def aVE:=@F.entry_dict_keyiterator_next
def aVF:=@F.args_dict_keyiterator_next_1
def aVG:=@wpAny_typeNameOfWhole_keyiter
def aVH:=@wpAny_typeNameOf_keyiter
def aVI:=@wpAny_isOneOf_keyiter
def aVJ:=@List.mem_map
def aVK:=@List.not_mem_nil
def aVL:=@List.map_congr_left
def aVM:=@Array.toList_append
def aVN:=@List.isEmpty_iff
def aVO:=@Option.isNone_iff_eq_none
def aVP:=@bne_iff_ne
def aVQ:=@List.contains_iff_mem
def aVR:=@List.any_eq_true
def aVS:=@Nat.lt_of_le_of_lt
def aVT:=@List.all_cons
def aVU:=@Array.eq_empty_of_size_eq_zero
def aVV:=@W.mg_of
def aVW:=@Int.add_zero
def aVX:=@Int.zero_add
def aVY:=@List.nodup_append
def aVZ:=@Int.emod_nonneg
def aV0:=@Int.emod_lt_of_pos
def aV1:=@Int.eq_ofNat_of_zero_le
def aV2:=@List.getD_eq_getElem?_getD
end
abbrev aV8:=PySem.Challenge.pw_whencewise_k25_worth
abbrev aV3:=PySem.Value
abbrev aV4:=PySem.Shared
abbrev aV5:=PySem.Around
abbrev aV6:=PySem.World
abbrev aV7:=PySem.Program
abbrev VSP := PySem.Value -> PySem.Shared -> Prop
abbrev Fg := PySem.W.Frag
abbrev LAO := List (PySem.Addr × PySem.Obj)
abbrev SOV := PySem.Str -> Option PySem.Value
def mcm {α : Type} {a b : α} {l : List α} (h : a ∈ l) : a ∈ b :: l := List.mem_cons_of_mem _ h
def mcs {α : Type} {a : α} {l : List α} : a ∈ a :: l := List.mem_cons_self
def hps {h : PySem.Heap} {o p : PySem.Obj} {b : PySem.Addr} (e : h.get? b = some o) : (h.push p).get? b = some o := PySem.Heap.get?_push_of_some _ e
set_option Elab.async false
set_option maxRecDepth 100000
noncomputable section
open PySem PySem.Spec PyProof.Rows
namespace L2
abbrev Key:=Sum Int Str
def i9:Key->aV3->Bool
 |.inl k,v=>Value.isInt k v
 |.inr x,v=>Value.isStrOf x v
def keyH(w:aV6):Key->Int
 |.inl k=>hashInt k
 |.inr x=>hashStr w x
def gC:∀{k:Key}{v:aV3},i9 k v=true->(∃i t,k=Sum.inl i/\v=Value.int i t)\/(∃x t,k=Sum.inr x/\v=Value.str x t)
 |.inl i,v,h=>by obtain⟨t,e⟩:=Value.isInt_shape (k:=i) (v:=v) h;exact .inl ⟨i,t,rfl,e⟩
 |.inr x,v,h=>by obtain⟨t,e⟩:=Value.isStrOf_shape (x:=x) (v:=v) h;exact .inr ⟨x,t,rfl,e⟩
def aCP(i:Int)(t:Tok):i9 (.inl i) (.int i t)=true:=by simp[i9,Value.isInt]
def aCQ(x:Str)(t:Tok):i9 (.inr x) (.str x t)=true:=by simp[i9,Value.isStrOf]
def aCR(a b:Int):decide ((Sum.inl a:Key)=Sum.inl b)=(a==b):=by
 by_cases e:a=b
 . subst e;simp
 . have h:¬ (Sum.inl a:Key)=Sum.inl b:=λq=>e (Sum.inl.inj q);rw[aQG h];exact(aQH.mpr e).symm
def aCS(a b:Str):decide ((Sum.inr a:Key)=Sum.inr b)=decide (a=b):=by
 by_cases e:a=b
 . subst e;simp
 . have h:¬ (Sum.inr a:Key)=Sum.inr b:=λq=>e (Sum.inr.inj q);rw[aQG h,aQG e]
def aCT(a:Int)(b:Str):decide ((Sum.inl a:Key)=Sum.inr b)=false:=aQG (λq=>nomatch q)
def aCU(a:Str)(b:Int):decide ((Sum.inr a:Key)=Sum.inl b)=false:=aQG (λq=>nomatch q)
noncomputable def cC(prog:aV7)(w:aV6):PySem.KeyKind prog w Key where
 is:=i9
 hash:=keyH w
 inj:=λv a b ha hb=>by
  rcases gC ha with⟨i,t,rfl,rfl⟩|⟨x,t,rfl,rfl⟩
  . rcases gC hb with⟨j,u,rfl,e⟩|⟨y,u,rfl,e⟩
    . injection e with e1 _;rw[e1]
    . exact nomatch e
  . rcases gC hb with⟨j,u,rfl,e⟩|⟨y,u,rfl,e⟩
    . exact nomatch e
    . injection e with e1 _;rw[e1]
 byValue:=λk v h=>by rcases gC h with⟨i,t,rfl,rfl⟩|⟨x,t,rfl,rfl⟩ <;> rfl
 pyHash:=λhv h=>by
  rcases gC hv with⟨i,t,rfl,rfl⟩|⟨x,t,rfl,rfl⟩
  . exact wpAny_pyHash_int h
  . exact wpAny_pyHash_str h
 eqBool:=λhu hv h=>by
  rcases gC hu with⟨i,t,rfl,rfl⟩|⟨x,t,rfl,rfl⟩
  . rcases gC hv with⟨j,u,rfl,rfl⟩|⟨y,u,rfl,rfl⟩
    . rw[aCR]at h;exact wpAny_eqBool_int h
    . rw[aCT]at h;exact SeqAt.EqAt.int_str i t y u _ _ _ _ h
  . rcases gC hv with⟨j,u,rfl,rfl⟩|⟨y,u,rfl,rfl⟩
    . rw[aCU]at h;exact SeqAt.EqAt.str_int x t j u _ _ _ _ h
    . rw[aCS]at h;exact wpAny_eqBool_str h
 «strs»:=λk x t v h=>by
  rcases gC h with⟨i,u,rfl,e⟩|⟨y,u,rfl,e⟩
  . exact nomatch e
  . injection e with e1 _
    subst e1;cases v <;> rfl
def aCV(prog:aV7)(w:aV6)(i:Int)(t:Tok):(cC prog w).is (.inl i) (.int i t)=true:=aCP i t
def aCW(prog:aV7)(w:aV6)(x:Str)(t:Tok):(cC prog w).is (.inr x) (.str x t)=true:=aCQ x t
inductive V where
 |non|bl (b:Bool)|int (i:Int)|str (x:Str)|byt (b:Array UInt8)|flt (b:UInt64)|ref (a:Addr)|ty (n:String)
 deriving DecidableEq
def aI:V->aV3->Prop
 |.non,u=>u=Value.none
 |.bl b,u=>u=Value.bool b
 |.int i,u=>∃t,u=Value.int i t
 |.str x,u=>∃t,u=Value.str x t
 |.byt b,u=>∃t,u=Value.bytes b t
 |.flt b,u=>∃t,u=Value.float b t
 |.ref a,u=>u=Value.ref a
 |.ty n,u=>u=Value.type n
abbrev aM:List V->List aV3->Prop:=Paired aI
theorem aM.length{xs:List V}{us:List aV3}(r:aM xs us):xs.length=us.length:=aQI r
theorem aM.get:∀{xs:List V}{us:List aV3}{i:Nat}{x:V},aM xs us->xs[i]? = some x->∃u,us[i]? = some u/\aI x u
 |_,_,_,_,.nil,e=>by simp at e
 |_,_,0,_,.cons r _,e=>by simp at e;subst e;exact⟨_,rfl,r⟩
 |_,_,i+1,x,.cons _ t,e=>by
  obtain⟨u,h1,h2⟩:=aM.get (i:=i) (x:=x) t (by simpa using e)
  exact⟨u,by simpa using h1,h2⟩
theorem aM.append:∀{xs ys:List V}{us ws:List aV3},aM xs us->aM ys ws->aM (xs++ys) (us++ws)
 |_,_,_,_,.nil,s=>s
 |_,_,_,_,.cons r t,s=>.cons r (aM.append t s)
theorem aM.take:∀{xs:List V}{us:List aV3} (n:Nat),aM xs us->aM (xs.take n) (us.take n)
 |_,_,0,_=>.nil
 |_,_,_+1,.nil=>.nil
 |_,_,n+1,.cons r t=>.cons r (aM.take n t)
theorem aM.drop:∀{xs:List V}{us:List aV3} (n:Nat),aM xs us->aM (xs.drop n) (us.drop n)
 |_,_,0,r=>r
 |_,_,_+1,.nil=>.nil
 |_,_,n+1,.cons _ t=>aM.drop n t
def cK:Option V->Option aV3->Prop
 |some v,some u=>aI v u
 |none,none=>True
 |_,_=>False
def KV{κ:Type}:List (κ×V)->List (κ×aV3)->Prop:=Paired λ(p:κ×V) (q:κ×aV3)=>p.1=q.1/\aI p.2 q.2
def kV:Key->V
 |.inl i=>.int i
 |.inr x=>.str x
inductive N where|i (n:Int)|s (x:Str)|t (xs:List N)
mutual
def aX(w:aV6):N->Int
 |.i n=>hashInt n
 |.s x=>hashStr w x
 |.t xs=>reduceHash (Builtin.Tuple.tupleHashOf (eB w xs))
def eB(w:aV6):List N->List Int
 |[]=>[]
 |x::xs=>aX w x::eB w xs
end
def uQ(w:aV6)(x:N×Addr×aV3):DictEntry:=⟨aX w x.1,.ref x.2.1,x.2.2⟩
inductive HO where
 /-- a list -/
 |lst (xs:List V)
 /-- a tuple (never changes) -/
 |tup (xs:List V)
 /-- a dict whose keys are ints and texts;one whose keys are tuples of ints and texts (the empty one is both) -/
 |dK (kvs:List (Key×V))|dT (kvs:List (List Key×V))
 |dN (kvs:List (N×Addr×V))
 /-- a set of ints: its members,its size -/
 |set (S:Key->Bool) (n:Nat)
 /-- an instance of the class at C,its dict at dx,its attributes -/
 |ins (C dx:Addr) (fs:List (Str×V))
 /-- the dict of the instance at x -/
 |own (x:Addr)
 /-- the dict of an exception -/
 |xd (fs:List (Str×V))
 /-- a bound method,f of x -/
 |met (f x:Addr)
 /-- a range object lo,lo+1,.. below hi -/
 |rng (lo hi:Int)
 /-- a thing that is known to the object (the script;a dict while a loop walks it): read,never written while it is so -/
 |frz (o:Obj) (u:HO)
 /-- a code object's table -/
 |tbl (ps:Array aV3)
 /-- a code record of that name -/
 |crec (q:Str)
 /-- any other thing,by what is true of its one object (a def of one's own: SetO a S n:=HO.ext λh=>..) -/
 |ext (φ:Heap->Prop)
abbrev Hp:=Addr->Option HO
inductive HT where|tup (xs:List V)|crec (q:Str)
end L2
open L2
variable {α κ β:Type}{xs:List L2.V}{us vs:List aV3}{H H' F' F0 H0:L2.Hp}{b it dx tp I:Addr}{u cdv:aV3}{h h' base hp:Heap}{items:Array aV3}{P prog:aV7}{w:aV6}{x q qual z pn key:Str}{e c tg aU elt ke ea:Expr}{K:Fg}{aA:LAO}{s s':aV4}{t' i j k n ep j1:Nat}{ch fp:List Addr}{v y:L2.V}{Q:Unit->aV4->Prop}{pos pos' p apos p2 cpos q' ap cp p1 q1:Pos}{st:Stmt}{body sts:List Stmt}{lo hi:Option Int}{mA mg:SOV}{fd:FuncData}{ps loose aL tgN nms:List Str}{ks:List L2.N}{sc scope:Scope}{outer:List Env}{values ifs:List Expr}{XP:(Str->Option aV3)->Heap->Prop}{YP:aV6->Heap->Prop}{env:Env}{aF:List Nat}{neg:Bool}{fa:Str->Addr}
namespace L2
def HT.ho:HT->HO|.tup xs=>.tup xs|.crec q=>.crec q
noncomputable def upd(H:Hp)(a:Addr)(o:HO):Hp:=λb=>if b=a then some o else H b
def aV{a:Addr}{o:HO}:upd H a o a=some o:=by unfold upd;rw[if_pos rfl]
def aJ{a:Addr}{o:HO}(h:b≠a):upd H a o b=H b:=by unfold upd;rw[if_neg h]
def ne_of{a:Addr}{o u:HO}(h:H a=some o)(h':H b=some u)(d:o≠u):a≠b:=by intro e;subst e;rw[h]at h';exact d (aQJ h')
def bN{a:Addr}{o:HO}(h:H a=some o)(h':H b=none):a≠b:=by intro e;subst e;rw[h]at h';cases h'
def gD(h:Heap)(a:Addr)(items:Array aV3):Prop:=∃o,h.get? a=some o/\o.cls=.type "tuple" /\ o.dict=none/\∃n,o.data=.seq items n
def gD.isTup{a:Addr}(x:gD h a items):IsTup h a items:=by obtain⟨o,e,c,_,n,d⟩:=x;exact⟨o,e,c,n,d⟩
def gD.new(h:Heap)(items:Array aV3):gD (h.push { cls:=.type "tuple", data:=.seq items }) h.objs.size items:=⟨_,aQK _ rfl,rfl,rfl,_,rfl⟩
section
variable (P:aV7)(w:aV6)
def bD(H:Hp)(h:Heap)(a:Addr):HO->Prop
 |.lst xs=>xs.length<=sizeLine/\∃(its:List aV3) (n:Nat),aM xs its/\h.get? a=some { cls:=.type "list", data:=.seq its.toArray n }
 |.tup xs=>xs.length<=sizeLine/\∃its:List aV3,aM xs its/\gD h a its.toArray
 |.dK kvs=>kvs.length<=sizeLine/\(a==sysModules)=false/\∃vs,KV kvs vs/\h.DictOf (cC P w) a vs
 | .dT kvs => kvs.length ≤ sizeLine ∧ (a == sysModules) = false ∧ ∃ xs : List (List Key × Addr × aV3),
     Paired (λ(p:List Key×V) (q:List Key×Addr×aV3)=>p.1=q.1/\H q.2.1=some (.tup (p.1.map kV))/\aI p.2 q.2.2) kvs xs /\
     ∃o es ep,h.get? a=some o/\o.ExactDict/\o.data=.dict es ep/\es.toList=xs.map (entryOfKey (tupleKind (cC P w)))/\(xs.map (·.1)).Nodup
 | .dN kvs => kvs.length ≤ sizeLine ∧ (a == sysModules) = false ∧ ∃ xs : List (N × Addr × aV3), Paired (fun (p : N × Addr × V) (q : N × Addr × aV3) => p.1 = q.1 ∧ p.2.1 = q.2.1 ∧ aI p.2.2 q.2.2) kvs xs ∧
     ∃o es ep,h.get? a=some o/\o.ExactDict/\o.data=.dict es ep/\es.toList=xs.map (uQ w)/\(xs.map (·.1)).Nodup
 |.set S n=>h.SetOf (cC P w) a S n
 | .ins C dx fs => H dx = some (.own a) ∧ fs.length ≤ 1000 ∧ dx ≠ a ∧ h.get? a = some (W.instObj C dx) ∧
     ∃mA,h.Ns1 dx mA/\(∀f,cK (fs.lookup f) (mA f))/\PySem.Within mA (fs.map (·.1))
 |.own _=>∃o,h.get? a=some o
 |.xd fs=>∃mA,h.Ns1 a mA/\∀f,cK (fs.lookup f) (mA f)
 |.rng lo hi=>∃t u v,h.get? a=some { cls:=.type "range", data:=.fields #[.int lo t,.int hi u,.int 1 v] }
 |.frz o u=>h.get? a=some o/\bD H h a u
 |.tbl ps=>∃(q:Str) (m:Array aV3),ps[0]? = some (.str q 0)/\h.get? a=some ⟨.none,none,.fields m,#[]⟩/\TriplesOk m.toList/\∀z cv,codeAmong z m.toList=some cv->∃c,cv=.ref c/\H c=some (.crec q)
 |.crec q=>∃oc vs t,h.get? a=some oc/\oc.data=.fields vs/\vs[1]? = some (.str q t)
 |.met f x=>h.get? a=some (W.methodObj (.ref f) (.ref x))
 |.ext φ=>φ h/\(∃o,h.get? a=some o)/\∀h1 h2:Heap,φ h1->(∀o,h1.get? a=some o->h2.get? a=some o)->φ h2
def HOk(H:Hp)(h:Heap):Prop:=∀a o,H a=some o->bD P w H h a o
end
section
variable {a:Addr}{o:HO}
theorem bD.lt(x:bD P w H h a o):a<h.objs.size:=by
 cases o with
 |lst xs=>obtain⟨_,_,_,_,e⟩:=x;exact aQL e
 |tup xs=>obtain⟨_,_,_,p⟩:=x;exact p.isTup.lt
 |dK kvs=>obtain⟨_,_,_,_,o,_,_,e,_⟩:=x;exact aQL e
 |dT kvs=>obtain⟨_,_,_,_,o,_,_,e,_⟩:=x;exact aQL e
 |dN kvs=>obtain⟨_,_,_,_,o,_,_,e,_⟩:=x;exact aQL e
 |set S n=>obtain⟨o,_,_,_,e,_⟩:=x;exact aQL e
 |ins C dx fs=>obtain⟨_,_,_,e,_⟩:=x;exact aQL e
 |own y=>obtain⟨_,e⟩:=x;exact aQL e
 |xd fs=>obtain⟨_,⟨_,_,_,e,_⟩,_⟩:=x;exact aQL e
 |rng lo hi=>obtain⟨_,_,_,e⟩:=x;exact aQL e
 |frz ob u=>obtain⟨e,_⟩:=x;exact aQL e
 |tbl ps=>obtain⟨_,_,_,e,_⟩:=x;exact aQL e
 |crec q=>obtain⟨_,_,_,e,_⟩:=x;exact aQL e
 |met f y=>exact aQL (show h.get? a=some _ from x)
 |ext φ=>obtain⟨_,⟨_,e⟩,_⟩:=x;exact aQL e
theorem Paired.mapP{α β:Type}{F G:α->β->Prop}:∀{l₁:List α}{l₂:List β},Paired F l₁ l₂->(∀a b,F a b->G a b)->Paired G l₁ l₂
 |_,_,.nil,_=>.nil
 |_,_,.cons r t,f=>.cons (f _ _ r) (Paired.mapP t f)
def bD.stay(x:bD P w H h a o)(k:∀b u,(b=a\/H b=some (.own a))->h.get? b=some u->h'.get? b=some u)(ho:∀b,H b=some (.own a)->H' b=some (.own a))(ht:∀(b:Addr) (u:HT),H b=some u.ho->H' b=some u.ho):bD P w H' h' a o:=by
 induction o with
 |lst xs=>obtain⟨z,its,n,r,e⟩:=x;exact⟨z,its,n,r,k _ _ (.inl rfl) e⟩
 |tup xs=>obtain⟨z,its,r,ob,e,c⟩:=x;exact⟨z,its,r,ob,k _ _ (.inl rfl) e,c⟩
 |dK kvs=>obtain⟨z,y,vs,r,ob,es,ep,e,c⟩:=x;exact⟨z,y,vs,r,ob,es,ep,k _ _ (.inl rfl) e,c⟩
 |dT kvs=>obtain⟨z,y,xs,r,ob,es,ep,e,c⟩:=x;exact⟨z,y,xs,Paired.mapP r λp q z=>⟨z.1,ht _ (.tup _) z.2.1,z.2.2⟩,ob,es,ep,k _ _ (.inl rfl) e,c⟩
 |dN kvs=>obtain⟨z,y,xs,r,ob,es,ep,e,c⟩:=x;exact⟨z,y,xs,r,ob,es,ep,k _ _ (.inl rfl) e,c⟩
 |set S n=>obtain⟨ob,es,ep,t,e,c⟩:=x;exact⟨ob,es,ep,t,k _ _ (.inl rfl) e,c⟩
 |ins C dx fs=>obtain⟨d,z,ne,e,mA,⟨od,es,ep,e2,c⟩,r⟩:=x;exact⟨ho _ d,z,ne,k _ _ (.inl rfl) e,mA,⟨od,es,ep,k _ _ (.inr d) e2,c⟩,r⟩
 |own y=>obtain⟨ob,e⟩:=x;exact⟨ob,k _ _ (.inl rfl) e⟩
 |xd fs=>obtain⟨mA,⟨od,es,ep,e,c⟩,r⟩:=x;exact⟨mA,⟨od,es,ep,k _ _ (.inl rfl) e,c⟩,r⟩
 |rng lo hi=>obtain⟨t,u,v,e⟩:=x;exact⟨t,u,v,k _ _ (.inl rfl) e⟩
 |frz ob u ih=>obtain⟨e,q⟩:=x;exact⟨k _ _ (.inl rfl) e,ih q⟩
 |tbl ps =>
  obtain⟨q,m,e1,e2,e3,e4⟩:=x;exact⟨q,m,e1,k _ _ (.inl rfl) e2,e3,λz cv f=>by
   obtain⟨c,g1,g2⟩:=e4 z cv f;exact⟨c,g1,ht _ (.crec q) g2⟩⟩
 |crec q=>obtain⟨oc,vs,t,e,r⟩:=x;exact⟨oc,vs,t,k _ _ (.inl rfl) e,r⟩
 |met f y=>have e:h.get? a=some (W.methodObj (.ref f) (.ref y)):=x;show h'.get? a=some (W.methodObj (.ref f) (.ref y));exact k a _ (.inl rfl) e
 |ext φ=>obtain⟨p,⟨o,e⟩,st⟩:=x;exact⟨st _ _ p λo q=>k _ _ (.inl rfl) q,⟨o,k _ _ (.inl rfl) e⟩,st⟩
theorem HOk.lt(x:HOk P w H h)(e:H a=some o):a<h.objs.size:=(x a o e).lt
def HOk.fresh(x:HOk P w H h)(e:h.objs.size<=a):H a=none:=by
 cases q:H a with
 |none=>rfl
 |some u=>exact absurd (aQM (x.lt q) e) (aQN _)
def HOk.kept(x:HOk P w H h)(k:∀b u,h.get? b=some u->h'.get? b=some u):HOk P w H h':=λa o e =>
 (x a o e).stay (λb u _ q=>k b u q) (λ_ q=>q) λ_ _ q=>q
def HOk.laid(x:HOk P w H h)(k:∀b u,h.get? b=some u->h'.get? b=some u)(hp:h.objs.size<=a)(new:bD P w (upd H a o) h' a o):HOk P w (upd H a o) h':=λb u e=>by
 have hn:=x.fresh hp;by_cases hb:b=a
 . subst hb;rw[aV]at e;cases e;exact new
 . rw[aJ hb]at e;exact(x b u e).stay (λc v _ q=>k c v q) (λc q=>by rw[aJ (bN q hn)];exact q) λc xs q=>by rw[aJ (bN q hn)];exact q
end
def Rd(H:Hp)(a:Addr)(u:HO):Prop:=H a=some u\/∃o,H a=some (.frz o u)
def Rd.ok{a:Addr}{u:HO}(r:Rd H a u)(x:HOk P w H h):bD P w H h a u:=by
 rcases r with r|⟨o,r⟩
 . exact x a u r
 . obtain⟨_,q⟩:=x a _ r;exact q
def Mut:Option HO->Prop
 |some (.lst _)=>True
 |some (.dK _)=>True
 |some (.dT _)=>True
 |some (.dN _)=>True
 |some (.set _ _)=>True
 |some (.ins _ _ _)=>True
 |some (.ext _)=>True
 |_=>False
section
variable {x e:Addr}{o':HO}
def HOk.write(ok:HOk P w H h)(mu:Mut (H x))(he:e=x\/H e=some (.own x))(k:∀b u,b≠e->h.get? b=some u->h'.get? b=some u)(heo:∃u,h'.get? e=some u)(new:bD P w (upd H x o') h' x o'):HOk P w (upd H x o') h':=λb u q=>by
 have nown:∀c y,H c=some (.own y)->c≠x:=λc y r z=>by subst z;rw[r]at mu;exact mu
 have ntup:∀(c:Addr) (u:HT),H c=some u.ho->c≠x:=λc u r z=>by subst z;rw[r]at mu;cases u <;> exact mu
 by_cases hb:b=x
 . subst hb;rw[aV]at q;cases q;exact new
 . rw[aJ hb]at q;by_cases hbe:b=e
   . have q':H b=some (.own x):=by
       rcases he with z|z
       . exact absurd (hbe.trans z) hb
       . rw[hbe];exact z
     rw[q]at q';cases q';obtain⟨v,hv⟩:=heo;exact⟨v,by rw[hbe];exact hv⟩
   . refine(ok b u q).stay (λc v hc r=>k c v ?_ r) (λc r=>by rw[aJ (nown c b r)];exact r) λc xs r=>by rw[aJ (ntup c xs r)];exact r
     rcases hc with rfl|hc
     . exact hbe
     . rintro rfl;rcases he with z|z
       . exact nown c b hc z
       . rw[hc]at z;cases z;exact hb rfl
end
structure Un(fs ex:List Addr)(H H':Hp)(h h':Heap):Prop where
 keep:∀b o,h.get? b=some o->H b=none->b∉fs->b∉ex->h'.get? b=some o
 slot:∀b o,h.get? b=some o->H b=none->b∈fs->b∉ex->∃sl,h'.get? b=some {o with slots:=sl}
 free:∀b o,h.get? b=some o->H b=none->b∉ex->H' b=none
 there:∀b o,h.get? b=some o->b∉ex->∃o',h'.get? b=some o'
 tups:∀b xs,H b=some (.tup xs)->H' b=some (.tup xs)
 frzs:∀b o u,H b=some (.frz o u)->H' b=some (.frz o u)
 tbls:∀b ps,H b=some (.tbl ps)->∃more,H' b=some (.tbl (ps++more))
section
variable {fs fs' ex ex':List Addr}{H1 H2:Hp}{h1 h2:Heap}{a x e:Addr}{o:HO}
def Un.any(u:Un fs ex H H1 h h1){ob:Obj}(q:h.get? b=some ob)(n:H b=none)(hx:b∉ex):∃sl,h1.get? b=some {ob with slots:=sl}:=by
 by_cases hb:b∈fs
 . exact u.slot b ob q n hb hx
 . exact⟨ob.slots,u.keep b ob q n hb hx⟩
def Un.kept(k:∀b u,h.get? b=some u->h'.get? b=some u):Un fs ex H H h h' :=
 ⟨λb ob q _ _ _=>k b ob q,λb ob q _ _ _=>⟨ob.slots,k b ob q⟩,λ_ _ _ n _=>n,λb ob q _=>⟨ob,k b ob q⟩,λ_ _ q=>q,λ_ _ _ q=>q,λ_ ps q=>⟨#[],by rw[q];simp⟩⟩
def Un.refl:Un fs ex H H h h:=Un.kept λ_ _ q=>q
def Un.laid(k:∀b u,h.get? b=some u->h'.get? b=some u)(hp:h.objs.size<=a)(hn:H a=none):Un fs ex H (upd H a o) h h' where
 keep:=λb u q _ _ _=>k b u q
 slot:=λb u q _ _ _=>⟨u.slots,k b u q⟩
 free:=λb u q n _=>by rw[aJ (aQO (aQM (aQL q) hp))];exact n
 there:=λb u q _=>⟨u,k b u q⟩
 tups:=λb xs q=>by rw[aJ (bN q hn)];exact q
 frzs:=λb u xs q=>by rw[aJ (bN q hn)];exact q
 tbls:=λb ps q=>⟨#[],by rw[aJ (bN q hn),q];simp⟩
def Un.write(mu:Mut (H x))(he:e=x\/H e=some (.own x))(k:∀b u,b≠e->h.get? b=some u->h'.get? b=some u)(heo:∃u,h'.get? e=some u):Un fs ex H (upd H x o) h h':=by
 have hx:∀b,H b=none->b≠x:=λb n z=>by subst z;rw[n]at mu;exact mu
 have hb:∀b,H b=none->b≠e:=λb n z=>by
  subst z;rcases he with r|r
  . exact hx b n r
  . rw[n]at r;cases r
 have hm:∀b u,H b=some u -> ¬ Mut (some u)->b≠x:=λb u q nm z=>by subst z;rw[q]at mu;exact nm mu
 refine⟨λb u q n _ _=>k b u (hb b n) q,λb u q n _ _=>⟨u.slots,k b u (hb b n) q⟩,λb u q n _=>by rw[aJ (hx b n)];exact n,λb u q _=>?_,
  λb xs q=>by rw[aJ (hm b _ q λz=>z)];exact q,λb u xs q=>by rw[aJ (hm b _ q λz=>z)];exact q,λb ps q=>⟨#[],by rw[aJ (hm b _ q λz=>z),q];simp⟩⟩
 by_cases hbe:b=e
 . subst hbe;exact heo
 . exact⟨u,k b u hbe q⟩
end
def trk(h:Heap)(H:Hp):List Addr:=(List.range h.objs.size).filter λa=>(H a).isSome
def gE(h:Heap)(H:Hp):Heap:=W.hideAll h (trk h H)
def aCX(h:Heap)(H:Hp):(gE h H).objs.size=h.objs.size:=W.hideAll_size _ _
def pC{o:Obj}(e:h.get? b=some o)(n:H b=none):(gE h H).get? b=some o :=
 W.hideAll_get _ e λhm=>by have q:(H b).isSome=true:=(List.mem_filter.mp hm).2;rw[n]at q;simp at q
def aCY{o:Obj}(e:(gE h H).get? b=some o):h.get? b=some o/\H b=none:=by
 have e':h.get? b=some o:=W.of_hideAll (trk h H) e;refine⟨e',?_⟩;cases q:H b with
 |none=>rfl
 |some x =>
  have hm:b∈trk h H:=List.mem_filter.mpr ⟨aQP.mpr (aQL e'),by simp[q]⟩
  have z:(gE h H).get? b=none:=W.hideAll_none (trk h H) hm;rw[z]at e;cases e
structure Mod(K:Fg)(mg:SOV)(base:Heap):Prop where
 kin:K.In base
 glob:base.Ns mainGlobals mg
 blt:∃mb,base.Ns builtinsNs mb/\∀x:Str,x ≠ "__name__" -> mb x=bootBuiltins x
 nolimit:base.NoLimit
 bmod:∃bm ob,mg "__builtins__" = some (.ref bm)/\bm≠builtinsNs/\base.get? bm=some ob/\ob.cls=.type "module" /\ ob.dict=some builtinsNs/\ob.data=.plain
noncomputable def gG(q:Str):Str:=if q="valued" then "worth" else if q="lifted" then "lift" else "<lambda>"
def CdT(base:Heap)(H:Hp)(q:Str)(cd:aV3):Prop:=∃c T ps,cd=.ref c/\W.CodeHd base c T/\H T=some (.tbl ps)/\ps[0]? = some (.str (q ++ ".<locals>." ++ gG q) 0)
def CdT.mono{cd:aV3}(x:CdT base H q cd)(t:∀b ps,H b=some (.tbl ps)->∃more,H' b=some (.tbl (ps++more))):CdT base H' q cd:=by
 obtain⟨c,T,ps,e1,e2,e3,e4⟩:=x;obtain⟨m,e5⟩:=t T ps e3;refine⟨c,T,_,e1,e2,e5,?_⟩;rw[Array.getElem?_append_left (by have:=(aQQ.mp e4).1;exact this)]
 exact e4
def jA(K:Fg)(base:Heap)(H:Hp):Prop:=∀cd q,W.codeIn K cd q=true->CdT base H q cd
theorem jA.mono(x:jA K base H)(t:∀b ps,H b=some (.tbl ps)->∃more,H' b=some (.tbl (ps++more))):jA K base H':=λcd q e=>(x cd q e).mono t
structure Cx where
 prog:aV7
 w:aV6
 K:Fg
 mg:SOV
 base:Heap
 A:aV5
 N:List Str
 s₀:aV4
 H₀:Hp
 env:Env
 outer:List Env
 stack:List Env
 ex:List Addr
 fn:Str->Bool
 calm:Bool
 pn:LAO
 xe:VSP
def frs(l:List Env):List Addr:=l.filterMap (·.frame)
end L2
variable {X:L2.Cx}
namespace L2
abbrev Cx.fs(X:Cx):List Addr:=frs X.outer
def Vis(sc:Scope)(x:Str):Prop:=sc.names.lookup x=some .local\/sc.names.lookup x=some .cell\/sc.names.lookup x=some .free
def Loc(sc:Scope)(x:Str):Prop:=sc.names.lookup x=some .local\/sc.names.lookup x=some .cell
def Look(env:Env)(h:Heap)(m:SOV)(x:Str)(u:aV3):Prop :=
 (env.kindOf x=some .local/\m x=some u)\/((env.kindOf x=some .cell\/env.kindOf x=some .free)/\∃c,env.cells.lookup x=some c/\h.IsCell c (some u))
structure Cx.Ok(X:Cx):Prop where
 mod:Mod X.K X.mg X.base
 kind:X.env.scope.kind=.function
 glob:X.env.globals=mainGlobals
 blt:X.env.builtins=builtinsNs
 above:X.s₀.heap.objs.size<=X.env.locals
 inj:∀x y c,X.env.cells.lookup x=some c->X.env.cells.lookup y=some c->x=y
 has:∀x,(X.env.kindOf x=some .cell\/X.env.kindOf x=some .free)->∃c,X.env.cells.lookup x=some c
 cab:∀x c,X.fn x=true->X.env.cells.lookup x=some c->X.s₀.heap.objs.size<=c
 hd:X.calm=true->X.A.handled=none
 frames:X.A.frames=some X.stack
 stk:X.stack=X.outer\/(X.stack=X.env::X.outer/\X.env.frame=some X.env.locals)
 exf:∀b∈X.ex,b≠X.env.locals/\∀x c,X.env.cells.lookup x=some c->c≠b
 bs:∀b o,X.base.get? b=some o->X.s₀.heap.get? b=some o/\X.H₀ b=none
 bsz:X.base.objs.size<=X.s₀.heap.objs.size
 noex:∀b o,X.base.get? b=some o->b∉X.ex
 exfs:∀b∈X.ex,b∉X.fs
 funs:X.s₀.heap.FunFrames X.base X.outer
 frf:∀b∈X.fs,X.H₀ b=none
 tabs:jA X.K X.base X.H₀
structure Inv(X:Cx)(aA:LAO)(σ:List (Option V))(H:Hp)(s:aV4):Prop where
 ok:X.Ok
 os:s.os=X.s₀.os
 bare:AllBare s.gens
 base:Un X.fs X.ex X.H₀ H X.s₀.heap s.heap
 loc:∃m,s.heap.Ns X.env.locals m/\∀(i:Nat) (x:Str) (v:V),X.N[i]? = some x->σ[i]? = some (some v)->Vis X.env.scope x->∃u,aI v u/\Look X.env s.heap m x u
 cell:∀x c,X.env.cells.lookup x=some c->∃v,s.heap.IsCell c v
 free:H X.env.locals=none
 freeC:∀x c,X.env.cells.lookup x=some c->H c=none
 pin:∀p∈X.pn++aA,s.heap.get? p.1=some p.2/\H p.1=none/\p.1≠X.env.locals/\p.1∉X.fs/\∀v,p.2.data ≠ .cell v
 hok:HOk X.prog X.w H s.heap
 len:σ.length=X.N.length
section
variable {σ:List (Option V)}
def Cx.Ok.nofr(ok:X.Ok){o:Obj}(e:X.base.get? b=some o):b∉X.fs:=λhb=>by have:=(ok.funs.mem hb).1;rw[e]at this;cases this
theorem Inv.bs(I:Inv X aA σ H s):∀b o,X.base.get? b=some o->s.heap.get? b=some o/\H b=none:=λb o e =>
 ⟨I.base.keep b o (I.ok.bs b o e).1 (I.ok.bs b o e).2 (I.ok.nofr e) (I.ok.noex b o e),I.base.free b o (I.ok.bs b o e).1 (I.ok.bs b o e).2 (I.ok.noex b o e)⟩
def Inv.bk(I:Inv X aA σ H s):∀b o,X.base.get? b=some o->s.heap.get? b=some o:=λb o e=>(I.bs b o e).1
theorem Inv.mod(I:Inv X aA σ H s):Mod X.K X.mg X.base:=I.ok.mod
def Inv.kIn(I:Inv X aA σ H s):X.K.In s.heap:=I.ok.mod.kin.keeps I.bk
theorem Inv.lt(I:Inv X aA σ H s):X.env.locals<s.heap.objs.size:=let⟨_,hn,_⟩:=I.loc;hn.lt
def Inv.sz(I:Inv X aA σ H s):X.s₀.heap.objs.size<=s.heap.objs.size:=aQR I.ok.above (aQS I.lt)
def Inv.nofs(I:Inv X aA σ H s){a:Addr}(h:s.heap.objs.size<=a):a∉X.fs:=λhb=>by obtain⟨_,o,ho,_⟩:=I.ok.funs.mem hb;exact absurd (aQM (aQL ho) (aQR I.sz h)) (aQN _)
def Inv.cne(I:Inv X aA σ H s):∀x c,X.env.cells.lookup x=some c->c≠X.env.locals:=λx c e z=>by obtain⟨v,o,ho,hd⟩:=I.cell x c e;obtain⟨m,⟨o',es,ep,ho',hd',_⟩,_⟩:=I.loc;rw[z,ho']at ho;cases ho;rw[hd']at hd;cases hd
theorem Inv.funs(I:Inv X aA σ H s):s.heap.FunFrames X.base X.outer:=by
 have all:∀(l:List Env),(∀b∈frs l,b∈X.fs)->X.s₀.heap.FunFrames X.base l->s.heap.FunFrames X.base l:=by
  intro l
  induction l with
  |nil=>intro _ _;trivial
  |cons env r ih =>
   intro hs hl;obtain⟨hk,⟨L,o,hf,hn,ho,hd⟩,hr⟩:=hl;have hL:L∈X.fs:=hs L (by unfold frs;rw[aQT,hf];exact mcs)
   obtain⟨sl,e⟩:=I.base.slot L o ho (I.ok.frf L hL) hL λz=>I.ok.exfs L z hL;exact⟨hk,⟨L,_,hf,hn,e,hd⟩,ih (λb hb=>hs b (by unfold frs;rw[aQT,hf];exact mcm hb)) hr⟩
 exact all X.outer (λ_ hb=>hb) I.ok.funs
theorem Inv.stack(I:Inv X aA σ H s):s.heap.FunFrames X.base X.stack:=by
 rcases I.ok.stk with e|⟨e,hf⟩
 . rw[e];exact I.funs
 . rw[e];obtain⟨m,hn,_⟩:=I.loc;refine .cons (by rw[I.ok.kind];decide) hf hn ?_ I.funs
   exact Heap.get?_none_of_le (aQR I.ok.bsz I.ok.above)
def Inv.stkSub(I:Inv X aA σ H s):∀b∈frs X.stack,b∈X.env.locals::X.fs:=λb hb=>by
 rcases I.ok.stk with e|⟨e,hf⟩
 . rw[e]at hb;exact mcm hb
 . rw[e]at hb;unfold frs at hb;rw[aQT,hf]at hb;exact hb
def Inv.stkFree(I:Inv X aA σ H s):∀b∈frs X.stack,H b=none:=λb hb=>by
 rcases aQU.mp (I.stkSub b hb)with e|hb
 . rw[e];exact I.free
 . obtain⟨_,o,ho,_⟩:=I.ok.funs.mem hb;exact I.base.free b o ho (I.ok.frf b hb) λz=>I.ok.exfs b z hb
def Inv.step{g':Array GenState}{d':Drawn}(I:Inv X aA σ H s)(hch:∀b∈ch,(b∈X.ex\/X.s₀.heap.objs.size<=b)/\b≠X.env.locals/\(∀x c,X.env.cells.lookup x=some c->c≠b)/\∀p∈X.pn++aA,p.1≠b)(keep:∀b o,b≠X.env.locals->b∉X.fs->b∉ch->s.heap.get? b=some o->H b=none->h'.get? b=some o)(slot:∀b o,b≠X.env.locals->b∈X.fs->b∉ch->s.heap.get? b=some o->H b=none->∃sl,h'.get? b=some {o with slots:=sl})(free:∀b o,b∉ch->s.heap.get? b=some o->H b=none->H' b=none)(there:∀b o,b∉ch->s.heap.get? b=some o->∃o',h'.get? b=some o')(tups:∀b xs,H b=some (.tup xs)->H' b=some (.tup xs))(frzs:∀b o u,H b=some (.frz o u)->H' b=some (.frz o u))(tbls:∀b ps,H b=some (.tbl ps)->∃more,H' b=some (.tbl (ps++more)))(ns:∀m,s.heap.Ns X.env.locals m->h'.Ns X.env.locals m)(hok:HOk X.prog X.w H' h')(hg:AllBare g'):Inv X aA σ H' {s with heap:=h',gens:=g',drawn:=d',toks:=t'}:=by
 have neL:∀b o,X.s₀.heap.get? b=some o->b≠X.env.locals:=λb o e=>aQO (aQM (aQL e) I.ok.above);have neC:∀b o,X.s₀.heap.get? b=some o->b∉X.ex->b∉ch:=λb o e hx hb=>by
  rcases(hch b hb).1 with z|z
  . exact hx z
  . exact absurd (aQM (aQL e) z) (aQN _)
 have cellK:∀x c,X.env.cells.lookup x=some c->∀v,s.heap.IsCell c v->h'.IsCell c v:=λx c e v ⟨o,ho,hd⟩=>by
  have nch:c∉ch:=λz=>(hch c z).2.2.1 x c e rfl;by_cases hc:c∈X.fs
  . obtain⟨sl,q⟩:=slot c o (I.cne x c e) hc nch ho (I.freeC x c e);exact⟨_,q,hd⟩
  . exact⟨o,keep c o (I.cne x c e) hc nch ho (I.freeC x c e),hd⟩
 refine⟨I.ok,I.os,hg,⟨λb o e n hb hx=>?_,λb o e n hb hx=>?_,λb o e n hx=>?_,λb o e hx=>?_,λb xs e=>tups b xs (I.base.tups b xs e),λb o xs e=>frzs b o xs (I.base.frzs b o xs e),λb ps e=>?_⟩,?_,λx c e=>?_,?_,λx c e=>?_,λp hp=>?_,hok,I.len⟩
 . exact keep b o (neL b o e) hb (neC b o e hx) (I.base.keep b o e n hb hx) (I.base.free b o e n hx)
 . obtain⟨sl,e1⟩:=I.base.slot b o e n hb hx;obtain⟨sl',e2⟩:=slot b _ (neL b o e) hb (neC b o e hx) e1 (I.base.free b o e n hx);exact⟨sl',e2⟩
 . obtain⟨o',e1⟩:=I.base.there b o e hx;exact free b o' (neC b o e hx) e1 (I.base.free b o e n hx)
 . obtain⟨o',e1⟩:=I.base.there b o e hx;exact there b o' (neC b o e hx) e1
 . obtain⟨m1,e1⟩:=I.base.tbls b ps e;obtain⟨m2,e2⟩:=tbls b _ e1;exact⟨m1++m2,by rw[e2,Array.append_assoc]⟩
 . obtain⟨m,hn,hl⟩:=I.loc;refine⟨m,ns m hn,λi x v e1 e2 e3=>?_⟩;obtain⟨u,r,l⟩:=hl i x v e1 e2 e3;refine⟨u,r,?_⟩;rcases l with l|⟨k,c,e,z⟩
   . exact .inl l
   . exact .inr ⟨k,c,e,cellK x c e _ z⟩
 . obtain⟨v,z⟩:=I.cell x c e;exact⟨v,cellK x c e v z⟩
 . obtain⟨m,⟨o,_,_,ho,_⟩,_⟩:=I.loc;exact free _ o (λz=>(hch _ z).2.1 rfl) ho I.free
 . obtain⟨v,o,ho,hd⟩:=I.cell x c e;exact free c o (λz=>(hch c z).2.2.1 x c e rfl) ho (I.freeC x c e)
 . obtain⟨e,n,ne,nf,d⟩:=I.pin p hp;have nch:p.1∉ch:=λz=>(hch p.1 z).2.2.2 p hp rfl;exact⟨keep p.1 p.2 ne nf nch e n,free p.1 p.2 nch e n,ne,nf,d⟩
def Inv.un(I:Inv X aA σ H s)(u:Un X.fs [] H H' s.heap h')(hok:HOk X.prog X.w H' h'):Inv X aA σ H' {s with heap:=h',toks:=t'}:=by
 obtain⟨m,⟨o,es,ep,ho,r⟩,_⟩:=id I.loc;obtain⟨sl,hL⟩:=u.any ho I.free (by simp)
 exact I.step (g':=s.gens) (d':=s.drawn) (ch:=[]) (λ_ z=>nomatch z) (λb o _ hb _ e n=>u.keep b o e n hb (by simp)) (λb o _ hb _ e n=>u.slot b o e n hb (by simp)) (λb o _ e n=>u.free b o e n (by simp)) (λb o _ e=>u.there b o e (by simp)) u.tups u.frzs u.tbls (λm' hm=>by
  obtain⟨o',es',ep',ho',r'⟩:=hm;rw[ho]at ho';cases ho';exact⟨_,es',ep',hL,r'⟩) hok I.bare
def Inv.call{g':Array GenState}{d':Drawn}(I:Inv X aA σ H s)(u:Un (frs X.stack) ch H H' s.heap h')(hok:HOk X.prog X.w H' h')(hg:AllBare g')(hch:∀b∈ch,(b∈X.ex\/X.s₀.heap.objs.size<=b)/\b≠X.env.locals/\(∀x c,X.env.cells.lookup x=some c->c≠b)/\∀p∈X.pn++aA,p.1≠b):Inv X aA σ H' {s with heap:=h',gens:=g',drawn:=d',toks:=t'}:=by
 obtain⟨m,⟨o,es,ep,ho,r⟩,_⟩:=id I.loc;obtain⟨sl,hL⟩:=u.any ho I.free λz=>(hch _ z).2.1 rfl;exact I.step (ch:=ch) hch (λb o hL hb hc e n=>u.keep b o e n (λz=>(aQU.mp (I.stkSub b z)).elim hL hb) hc) (λb o _ _ hc e n=>u.any e n hc) (λb o hc e n=>u.free b o e n hc) (λb o hc e=>u.there b o e hc) u.tups u.frzs u.tbls (λm' hm=>by
  obtain⟨o',es',ep',ho',r'⟩:=hm;rw[ho]at ho';cases ho';exact⟨_,es',ep',hL,r'⟩) hok hg
def Inv.turned(I:Inv X aA σ H s)(k:∀b o,b≠it->s.heap.get? b=some o->h'.get? b=some o)(hn:H it=none)(hL:it≠X.env.locals)(h1:it∈X.ex\/X.s₀.heap.objs.size<=it)(h2:∀x c,X.env.cells.lookup x=some c->c≠it)(h3:∀p∈X.pn++aA,p.1≠it):Inv X aA σ H {s with heap:=h',toks:=t'}:=by
 have nit:∀b u,H b=some u->b≠it:=λb u e z=>by rw[z,hn]at e;cases e
 refine I.step (g':=s.gens) (d':=s.drawn) (ch:=[it]) (λb hb=>?_) (λb o _ _ hc e _=>k b o (λz=>hc (by simp[z])) e) (λb o _ _ hc e _=>⟨o.slots,k b o (λz=>hc (by simp[z])) e⟩) (λ_ _ _ _ n=>n)
  (λb o hc e=>⟨o,k b o (λz=>hc (by simp[z])) e⟩) (λ_ _ e=>e) (λ_ _ _ e=>e) (λb ps e=>⟨#[],by rw[e];simp⟩) (λm hm=>?_) (λb u e=>?_) I.bare
 . have e:b=it:=by simpa using hb
   subst e;exact⟨h1,hL,h2,h3⟩
 . obtain⟨o,es,ep,ho,r⟩:=hm;exact⟨o,es,ep,k _ o (Ne.symm hL) ho,r⟩
 . refine(I.hok b u e).stay (λc v hc q=>k c v ?_ q) (λ_ q=>q) λ_ _ q=>q;rcases hc with z|z
   . rw[z];exact nit b u e
   . exact nit c _ z
def Inv.tok(I:Inv X aA σ H s)(t:Nat):Inv X aA σ H {s with toks:=t}:=I.un (h':=s.heap) (t':=t) Un.refl I.hok
theorem Inv.kept(I:Inv X aA σ H s)(k:∀b u,s.heap.get? b=some u->h'.get? b=some u):Inv X aA σ H {s with heap:=h',toks:=t'}:=I.un (Un.kept k) (I.hok.kept k)
theorem Inv.laid{a:Addr}{o:HO}(I:Inv X aA σ H s)(k:∀b u,s.heap.get? b=some u->h'.get? b=some u)(hp:s.heap.objs.size<=a)(new:bD X.prog X.w (upd H a o) h' a o):Inv X aA σ (upd H a o) {s with heap:=h',toks:=t'}:=I.un (Un.laid k hp (I.hok.fresh hp)) (I.hok.laid k hp new)
theorem Inv.write{x e:Addr}{o:HO}(I:Inv X aA σ H s)(mu:Mut (H x))(he:e=x\/H e=some (.own x))(k:∀b u,b≠e->s.heap.get? b=some u->h'.get? b=some u)(heo:∃u,h'.get? e=some u)(new:bD X.prog X.w (upd H x o) h' x o):Inv X aA σ (upd H x o) {s with heap:=h',toks:=t'}:=I.un (Un.write mu he k heo) (I.hok.write mu he k heo new)
def Inv.weak{σ':List (Option V)}(I:Inv X aA σ H s)(hl:σ'.length=σ.length)(w:∀(i:Nat) v,σ'[i]? = some (some v)->σ[i]? = some (some v)):Inv X aA σ' H s :=
 ⟨I.ok,I.os,I.bare,I.base,let⟨m,hn,hl'⟩:=I.loc;⟨m,hn,λi x v e1 e2 e3=>hl' i x v e1 (w i v e2) e3⟩,I.cell,I.free,I.freeC,I.pin,I.hok,hl.trans I.len⟩
def Inv.pins_of{pins':LAO}(I:Inv X aA σ H s)(h:∀p∈pins',s.heap.get? p.1=some p.2/\H p.1=none/\p.1≠X.env.locals/\p.1∉X.fs/\∀v,p.2.data ≠ .cell v):Inv X pins' σ H s :=
 ⟨I.ok,I.os,I.bare,I.base,I.loc,I.cell,I.free,I.freeC,λp hp=>(aQV.mp hp).elim (λz=>I.pin p (aQW _ z)) (h p),I.hok,I.len⟩
def uR{N:List Str}(hN:N.Nodup)(a:N[i]? = some x)(b:N[j]? = some x):i=j:=by obtain⟨h1,e1⟩:=aQX.mp a;obtain⟨h2,e2⟩:=aQX.mp b;exact(List.getElem_inj hN).mp (e1.trans e2.symm)
def uS{M:Model}{A:aV5}{E:VSP}(I:Inv X aA σ H s)(hN:X.N.Nodup)(hi:X.N[i]? = some x)(hx:Loc X.env.scope x)(r:aI v u)(h:∀s',Inv X aA (σ.set i (some v)) H s'->(∃a,Heap.SameBut a s.heap s'.heap/\(a=X.env.locals\/X.env.cells.lookup x=some a))->Q () s')(hf:X.fn x=true\/X.env.scope.names.lookup x=some .local:=by first|exact .inl rfl|exact .inr rfl|assumption):wpAny M A (storeName X.env x u) Q E s:=by
 obtain⟨m,hn,hl⟩:=id I.loc;have hcls:(X.env.scope.kind == .class||(X.env.scope.kind == .module&&X.env.locals != X.env.globals))=false:=by rw[I.ok.kind];rfl
 have hiσ:i<σ.length:=by rw[I.len];exact(aQX.mp hi).1
 have cne:=I.cne;have tracked:∀{a:Addr}{h':Heap},(∃o,s.heap.get? a=some o/\H a=none)->Heap.SameBut a s.heap h'->HOk X.prog X.w H h':=λ{a h'} ha hs b ob e=>by
  obtain⟨_,_,eA⟩:=ha;refine(I.hok b ob e).stay (λc w' hc q=>(hs.2 c ?_).trans q) (λ_ q=>q) λ_ _ q=>q;rintro rfl;rcases hc with rfl|hc
  . rw[eA]at e;cases e
  . rw[eA]at hc;cases hc
 rcases hx with hk|hk
 . refine wpAny_storeName_local hk hn (λh' hn' hs=>?_) hcls;obtain⟨oL,_,_,hoL,_⟩:=id hn;refine h _ ⟨I.ok,I.os,I.bare,⟨λb o e n hb hx=>?_,λb o e n hb hx=>?_,I.base.free,λb o e hx=>?_,I.base.tups,I.base.frzs,I.base.tbls⟩,⟨_,hn',λj y v' e1 e2 e3=>?_⟩,λy c e=>?_,I.free,I.freeC,λp hp=>?_,tracked ⟨oL,hoL,I.free⟩ hs,by simpa using I.len⟩ ⟨_,hs,.inl rfl⟩
   . exact(hs.2 b (aQO (aQM (aQL e) I.ok.above))).trans (I.base.keep b o e n hb hx)
   . obtain⟨sl,e1⟩:=I.base.slot b o e n hb hx;exact⟨sl,(hs.2 b (aQO (aQM (aQL e) I.ok.above))).trans e1⟩
   . obtain⟨o',e1⟩:=I.base.there b o e hx;exact⟨o',(hs.2 b (aQO (aQM (aQL e) I.ok.above))).trans e1⟩
   . by_cases hj:j=i
     . subst hj;rw[hi]at e1;cases e1;rw[aQY hiσ]at e2;cases e2;exact⟨u,r,.inl ⟨hk,by simp⟩⟩
     . rw[aQZ (Ne.symm hj)]at e2;obtain⟨u',r',q⟩:=hl j y v' e1 e2 e3;refine⟨u',r',?_⟩;rcases q with⟨k,e⟩|⟨k,c,e,z⟩
       . refine .inl ⟨k,?_⟩;have:y≠x:=λe=>hj (uR hN e1 (e ▸ hi));simp[this,e]
       . exact .inr ⟨k,c,e,z.sameBut hs (cne y c e)⟩
   . obtain⟨w',z⟩:=I.cell y c e;exact⟨w',z.sameBut hs (cne y c e)⟩
   . obtain⟨e,n,ne,nf,d⟩:=I.pin p hp;exact⟨(hs.2 p.1 ne).trans e,n,ne,nf,d⟩
 . have hfn:X.fn x=true:=by
     rcases hf with z|z
     . exact z
     . rw[z]at hk;cases hk
   obtain⟨c,hc⟩:=I.ok.has x (.inl hk);obtain⟨w',z⟩:=I.cell x c hc;refine wpAny_storeName_cell I.ok.kind hk hc z (λh' hc' hs=>?_);obtain⟨oc,hoc,hocd⟩:=id z;refine h {s with heap:=h'} ⟨I.ok,I.os,I.bare,⟨λb o e n hb hx=>?_,λb o e n hb hx=>?_,I.base.free,λb o e hx=>?_,I.base.tups,I.base.frzs,I.base.tbls⟩,⟨m,hn.sameBut hs (Ne.symm (cne x c hc)),λj y v' e1 e2 e3=>?_⟩,λy c' e=>?_,I.free,I.freeC,λp hp=>?_,tracked ⟨oc,hoc,I.freeC x c hc⟩ hs,by simpa using I.len⟩ ⟨c,hs,.inr hc⟩
   . exact(hs.2 b (aQO (aQM (aQL e) (I.ok.cab x c hfn hc)))).trans (I.base.keep b o e n hb hx)
   . obtain⟨sl,e1⟩:=I.base.slot b o e n hb hx;exact⟨sl,(hs.2 b (aQO (aQM (aQL e) (I.ok.cab x c hfn hc)))).trans e1⟩
   . obtain⟨o',e1⟩:=I.base.there b o e hx;exact⟨o',(hs.2 b (aQO (aQM (aQL e) (I.ok.cab x c hfn hc)))).trans e1⟩
   . by_cases hj:j=i
     . subst hj;rw[hi]at e1;cases e1;rw[aQY hiσ]at e2;cases e2;exact⟨u,r,.inr ⟨.inl hk,c,hc,hc'⟩⟩
     . rw[aQZ (Ne.symm hj)]at e2;obtain⟨u',r',q⟩:=hl j y v' e1 e2 e3;refine⟨u',r',?_⟩;rcases q with q|⟨k,c',e,z'⟩
       . exact .inl q
       . refine .inr ⟨k,c',e,z'.sameBut hs ?_⟩;rintro rfl;exact hj (uR hN e1 (I.ok.inj _ _ _ e hc ▸ hi))
   . by_cases hcc:c'=c
     . subst hcc;exact⟨_,hc'⟩
     . obtain⟨w2,z2⟩:=I.cell y c' e;exact⟨w2,z2.sameBut hs hcc⟩
   . obtain⟨e,n,ne,nf,d⟩:=I.pin p hp;refine⟨(hs.2 p.1 ?_).trans e,n,ne,nf,d⟩;intro q;rw[q,hoc]at e;have q':oc=p.2:=aQJ e;exact d w' (by rw[<- q'];exact hocd)
def pD{M:Model}{A:aV5}{E:VSP}(I:Inv X aA σ H s)(hN:X.N.Nodup)(hi:X.N[i]? = some x)(hx:Loc X.env.scope x)(r:aI v u)(h:∀s',Inv X aA (σ.set i (some v)) H s'->Q () s')(hf:X.fn x=true\/X.env.scope.names.lookup x=some .local:=by first|exact .inl rfl|exact .inr rfl|assumption):wpAny M A (storeName X.env x u) Q E s :=
 uS I hN hi hx r (λs' I' _=>h s' I') hf
def Inv.call'(I:Inv X aA σ H s)(ho:s'.os=s.os)(u:Un (frs X.stack) ch H H' s.heap s'.heap)(hok:HOk X.prog X.w H' s'.heap)(hg:AllBare s'.gens)(hch:∀b∈ch,(b∈X.ex\/X.s₀.heap.objs.size<=b)/\b≠X.env.locals/\(∀x c,X.env.cells.lookup x=some c->c≠b)/\∀p∈X.pn++aA,p.1≠b):Inv X aA σ H' s':=by obtain⟨h',g',d',t',o'⟩:=s';have e:o'=s.os:=ho;subst e;exact I.call (g':=g') (t':=t') (d':=d') u hok hg hch
end
abbrev XK:=aV3->Option Addr->Hp->Prop
abbrev St:=List (Option V)
abbrev VK:=V->Hp->Prop
abbrev TE:=St->Hp->VK->Prop
abbrev TT:=St->Hp->(Bool->Hp->Prop)->Prop
abbrev TA:=St->Hp->(List V->Hp->Prop)->Prop
end L2
variable {σ:L2.St}{ta te tl tv td:L2.TE}{tt:L2.TT}
namespace L2
structure fB where
 nx:St->Hp->Prop
 rt:VK
 bk:St->Hp->Prop:=λ_ _=>False
 ct:St->Hp->Prop:=λ_ _=>False
abbrev TS:=fB->St->Hp->Prop
def EP(X:Cx)(aA:LAO)(σ:St)(Q:VK)(u:aV3)(s':aV4):Prop:=∃v H',Inv X aA σ H' s'/\aI v u/\Q v H'
def TP(X:Cx)(aA:LAO)(σ:St)(Q:Bool->Hp->Prop)(b:Bool)(s':aV4):Prop:=∃H',Inv X aA σ H' s'/\Q b H'
def AP(X:Cx)(aA:LAO)(σ:St)(Q:List V->Hp->Prop)(us:List aV3)(s':aV4):Prop:=∃vs H',Inv X aA σ H' s'/\aM vs us/\Q vs H'
def SP(X:Cx)(aA:LAO)(D:fB)(f:Flow)(s':aV4):Prop :=
 match f with
 |.next=>∃σ' H',Inv X aA σ' H' s'/\D.nx σ' H'
 |.brk=>∃σ' H',Inv X aA σ' H' s'/\D.bk σ' H'
 |.cont=>∃σ' H',Inv X aA σ' H' s'/\D.ct σ' H'
 |.ret u=>∃v σ' H',Inv X aA σ' H' s'/\aI v u/\D.rt v H'
def PE(X:Cx)(e:Expr)(t:TE):Prop :=
 ∀(aA:LAO) (s:aV4) (σ:St) (H:Hp) (Q:VK),Inv X aA σ H s->t σ H Q->wpAny (model X.prog X.w) X.A (eval e X.env) (EP X aA σ Q) X.xe s
def PT(X:Cx)(e:Expr)(t:TT):Prop :=
 ∀(aA:LAO) (s:aV4) (σ:St) (H:Hp) (Q:Bool->Hp->Prop),Inv X aA σ H s->t σ H Q->wpAny (model X.prog X.w) X.A (isTrue e X.env (eval e X.env)) (TP X aA σ Q) X.xe s
def PW(X:Cx)(e:Expr)(t:TT):Prop :=
 ∀(whole:Sem aV3) (aA:LAO) (s:aV4) (σ:St) (H:Hp) (Q:Bool->Hp->Prop),Inv X aA σ H s->t σ H Q->wpAny (model X.prog X.w) X.A (isTrue e X.env whole) (TP X aA σ Q) X.xe s
def PW.pt{t:TT}(h:PW X e t):PT X e t:=h _
def PA(X:Cx)(es:List Expr)(t:TA):Prop :=
 ∀(pos:Pos) (aA:LAO) (s:aV4) (σ:St) (H:Hp) (Q:List V->Hp->Prop),Inv X aA σ H s->t σ H Q->wpAny (model X.prog X.w) X.A (spliced (backTo pos (starEach es X.env))) (AP X aA σ Q) X.xe s
def PS(X:Cx)(st:Stmt)(t:TS):Prop :=
 ∀(aA:LAO) (s:aV4) (σ:St) (H:Hp) (D:fB),Inv X aA σ H s->t D σ H->wpAny (model X.prog X.w) X.A (exec st X.env) (SP X aA D) X.xe s
def PSs(X:Cx)(st:List Stmt)(t:TS):Prop :=
 ∀(aA:LAO) (s:aV4) (σ:St) (H:Hp) (D:fB),Inv X aA σ H s->t D σ H->wpAny (model X.prog X.w) X.A (execs st X.env) (SP X aA D) X.xe s
def thn{t:Sem α}{Q Q':α->aV4->Prop}{M:Model}{A:aV5}{E:VSP}(h:wpAny M A t Q E s)(hQ:∀a s,Q a s->Q' a s):wpAny M A t Q' E s:=aQ0 h hQ λ_ _ x=>x
section
def gH(i:Nat):TE:=λσ H Q=>∃v,σ[i]? = some (some v)/\Q v H
def tC(v:V):TE:=λ_ H Q=>Q v H
def gX(hN:X.N[i]? = some x)(hv:Vis X.env.scope x)(hd:(x==("__debug__":Str))=false:=by decide)(hcd:(x==("__classdict__":Str))=false:=by decide):PE X (.Name x pos) (gH i):=by
 intro aA s σ H Q I h;obtain⟨v,e,h⟩:=h;obtain⟨m,hn,hl⟩:=I.loc;obtain⟨u,r,l⟩:=hl i x v hN e hv;have fin:EP X aA σ Q u s:=⟨v,H,I,r,h⟩;rcases l with⟨hk,hm⟩|⟨hk,c,hc,cH⟩
 . exact wpAny_Name (wpAny_loadName_local I.ok.kind hk hn hm fin) hd
 . rcases hk with hk|hk
   . exact wpAny_Name (wpAny_loadName_cell I.ok.kind hk hc cH fin) hd
   . exact wpAny_Name (wpAny_loadName_free I.ok.kind hk hc cH fin hcd) hd
def aCZ{i j pos:_}:PE X (.Constant (.int i) j pos) (tC (.int i)):=λ_ _ _ H _ I h=>wpAny_Constant_int ⟨.int i,H,I.tok _,⟨_,rfl⟩,h⟩
def pe_bl{b j pos:_}:PE X (.Constant (.bool b) j pos) (tC (.bl b)):=λ_ _ _ H _ I h=>Constant_bool ⟨.bl b,H,I,rfl,h⟩
def aC0{j pos:_}:PE X (.Constant .none j pos) (tC .non):=λ_ _ _ H _ I h=>Constant_none ⟨.non,H,I,rfl,h⟩
def aC1{x j pos:_}:PE X (.Constant (.str x) j pos) (tC (.str x)):=λ_ _ _ H _ I h=>Calls.Constant_str ⟨.str x,H,I.tok _,⟨_,rfl⟩,h⟩
def Gl(X:Cx)(x:Str):Prop:=X.env.kindOf x=some .globalImplicit
def mU{E:VSP}{σ:St}{Q:VSP}(I:Inv X aA σ H s)(hg:Gl X x)(hm:X.mg x=some u)(h:Q u s)(hd:(x==("__debug__":Str))=false:=by decide):wpAny (model X.prog X.w) X.A (eval (.Name x pos) X.env) Q E s :=
 Calls.Name_function_global I.ok.kind hg (Calls.loadGlobal_global (by rw[I.ok.glob];exact I.mod.glob.keeps I.bk) hm h) hd
def kJ{E:VSP}{σ:St}{Q:VSP}(I:Inv X aA σ H s)(hg:Gl X x)(hm:X.mg x=none)(hv:bootBuiltins x=some u)(h:Q u s)(hn:x ≠ "__name__" := by decide)(hd:(x==("__debug__":Str))=false:=by decide):wpAny (model X.prog X.w) X.A (eval (.Name x pos) X.env) Q E s:=by obtain⟨mb,h1,h2⟩:=I.mod.blt;exact Calls.Name_function_global I.ok.kind hg (Calls.loadGlobal_builtin (by rw[I.ok.glob];exact I.mod.glob.keeps I.bk) hm (by rw[I.ok.blt];exact h1.keeps I.bk) ((h2 x hn).trans hv) h) hd
def uT(hg:Gl X x)(hm:X.mg x=some u)(r:aI v u)(hd:(x==("__debug__":Str))=false:=by decide):PE X (.Name x pos) (tC v) :=
 λ_ _ _ H _ I h=>mU I hg hm ⟨v,H,I,r,h⟩ hd
def aC2(hg:Gl X x)(hm:X.mg x=none)(hv:bootBuiltins x=some u)(r:aI v u)(hn:x ≠ "__name__" := by decide)(hd:(x==("__debug__":Str))=false:=by decide):PE X (.Name x pos) (tC v) :=
 λ_ _ _ H _ I h=>kJ I hg hm hv ⟨v,H,I,r,h⟩ hn hd
variable {a b:Expr}{tb:TE}
variable {tA tB':TT}{rest:List Expr}
def pE(t u:TT):TT:=λσ H Q=>t σ H λc H1=>if c=true then u σ H1 Q else Q false H1
def tOr(t u:TT):TT:=λσ H Q=>t σ H λc H1=>if c=true then Q true H1 else u σ H1 Q
def tNot(t:TT):TT:=λσ H Q=>t σ H λc H1=>Q (!c) H1
def aC3(ha:PT X a tA):PW X (.BoolOp .And [a] pos) tA:=by
 intro wh aA s σ H Q I h;refine isTrue_and (thn (ha aA s σ H Q I h) λc s1 e=>?_);cases c with
 |true=>exact isTrue_and_nil e
 |false=>exact e
def aC4(ha:PT X a tA):PW X (.BoolOp .Or [a] pos) tA:=by
 intro wh aA s σ H Q I h;refine isTrue_or (thn (ha aA s σ H Q I h) λc s1 e=>?_);cases c with
 |false=>exact isTrue_or_nil e
 |true=>exact e
def aC5(ha:PT X a tA)(hb:PW X (.BoolOp .And (b::rest) pos) tB'):PW X (.BoolOp .And (a::b::rest) pos) (pE tA tB'):=by
 intro wh aA s σ H Q I h;refine isTrue_and (thn (ha aA s σ H _ I h) λc s1 ⟨H1,I1,q1⟩=>?_);cases c with
 |true=>exact hb wh aA s1 σ H1 Q I1 q1
 |false=>exact⟨H1,I1,q1⟩
def pw_or(ha:PT X a tA)(hb:PW X (.BoolOp .Or (b::rest) pos) tB'):PW X (.BoolOp .Or (a::b::rest) pos) (tOr tA tB'):=by
 intro wh aA s σ H Q I h;refine isTrue_or (thn (ha aA s σ H _ I h) λc s1 ⟨H1,I1,q1⟩=>?_);cases c with
 |true=>exact⟨H1,I1,q1⟩
 |false=>exact hb wh aA s1 σ H1 Q I1 q1
def aC6(ha:PT X a tA):PT X (.UnaryOp .Not a pos) (tNot tA):=by intro aA s σ H Q I h;exact isTrue_not (ha aA s σ H (λc H1=>Q (!c) H1) I h)
def uU(ta tb:TE):TE:=λσ H Q=>ta σ H λx H1=>∃c,x=.bl c/\if c=true then tb σ H1 Q else Q (.bl false) H1
def tOrV(ta tb:TE):TE:=λσ H Q=>ta σ H λx H1=>∃c,x=.bl c/\if c=true then Q (.bl true) H1 else tb σ H1 Q
def uV(ta:TE):TE:=λσ H Q=>ta σ H λx H1=>∃c,x=.bl c/\Q (.bl (!c)) H1
def aC7{op}{t:TE}(h:PE X a t):PE X (.BoolOp op [a] pos) t:=λaA s σ H Q I hw=>BoolOp_one (h aA s σ H Q I hw)
def aC8(ha:PE X a ta)(hb:PE X (.BoolOp .And (b::rest) pos) tb):PE X (.BoolOp .And (a::b::rest) pos) (uU ta tb):=by
 intro aA s σ H Q I h;refine BoolOp_and (thn (ha aA s σ H _ I h) λv s1 ⟨x,H1,I1,r1,q1⟩=>?_);obtain⟨c,rfl,q1⟩:=q1;cases r1;refine aQ1 ?_;cases c with
 |true=>exact hb aA s1 σ H1 Q I1 q1
 |false=>exact⟨.bl false,H1,I1,rfl,q1⟩
def pe_or(ha:PE X a ta)(hb:PE X (.BoolOp .Or (b::rest) pos) tb):PE X (.BoolOp .Or (a::b::rest) pos) (tOrV ta tb):=by
 intro aA s σ H Q I h;refine BoolOp_or (thn (ha aA s σ H _ I h) λv s1 ⟨x,H1,I1,r1,q1⟩=>?_);obtain⟨c,rfl,q1⟩:=q1;cases r1;refine aQ1 ?_;cases c with
 |false=>exact hb aA s1 σ H1 Q I1 q1
 |true=>exact⟨.bl true,H1,I1,rfl,q1⟩
def aC9(ha:PE X a ta):PE X (.UnaryOp .Not a pos) (uV ta):=by intro aA s σ H Q I h;refine UnaryOp_ (thn (ha aA s σ H _ I h) λv s1 ⟨x,H1,I1,r1,q1⟩=>?_);obtain⟨c,rfl,q1⟩:=q1;cases r1;exact not_of (aQ1 ⟨.bl (!c),H1,I1,rfl,q1⟩)
end
def SqL(K:Fg)(H:Hp)(a:Addr)(xs:List V):Prop :=
 Rd H a (.lst xs) \/
  ∃(o:Obj) (its:Array aV3) (n:Nat),K.lookup a=some o/\o.cls=.type "list" /\ o.dict=none/\o.data=.seq its n/\its.size<=sizeLine/\aM xs its.toList
def SqT(K:Fg)(H:Hp)(a:Addr)(xs:List V):Prop :=
 Rd H a (.tup xs) \/
  ∃(o:Obj) (its:Array aV3) (n:Nat),K.lookup a=some o/\o.cls=.type "tuple" /\ o.dict=none/\o.data=.seq its n/\its.size<=sizeLine/\aM xs its.toList
def absV:aV3->Option V
 |.none=>some .non
 |.bool b=>some (.bl b)
 |.int i _=>some (.int i)
 |.str x _=>some (.str x)
 |.bytes b _=>some (.byt b)
 |.float b _=>some (.flt b)
 |.ref a=>some (.ref a)
 |.type n=>some (.ty n)
 |_=>none
def aI.abs{x:V}(r:aI x u):absV u=some x:=by
 cases x with
 |non=>cases r;rfl
 |bl _=>cases r;rfl
 |int _=>obtain⟨t,rfl⟩:=r;rfl
 |str _=>obtain⟨t,rfl⟩:=r;rfl
 |byt _=>obtain⟨t,rfl⟩:=r;rfl
 |flt _=>obtain⟨t,rfl⟩:=r;rfl
 |ref _=>cases r;rfl
 |ty _=>cases r;rfl
def aI.inj{x:V}(r:aI x u)(q:aI y u):x=y:=aQJ (r.abs.symm.trans q.abs)
theorem aM.inj:∀{xs ys:List V}{us:List aV3},aM xs us->aM ys us->xs=ys
 |_,_,_,.nil,.nil=>rfl
 |_,_,_,.cons r t,.cons r' t'=>by rw[r.inj r',aM.inj t t']
section
variable {σ:St}{a:Addr}{ys:List V}
def SqL.of(h:H a=some (.lst xs)):SqL K H a xs:=.inl (.inl h)
def SqT.of(h:H a=some (.tup xs)):SqT K H a xs:=.inl (.inl h)
theorem Inv.list(I:Inv X aA σ H s)(h:SqL X.K H a xs):∃its:List aV3,aM xs its/\PlainL s.heap a its.toArray/\xs.length<=sizeLine:=by
 rcases h with h|⟨o,its,n,hk,hc,hd,hs,hz,r⟩
 . obtain⟨z,its,n,r,e⟩:=h.ok I.hok;exact⟨its,r,⟨_,n,e,rfl,rfl,rfl⟩,z⟩
 . refine⟨its.toList,r,⟨o,n,I.kIn a o hk,hc,hd,by simpa using hs⟩,?_⟩
   have e:=r.length;simp only[aQ2]at e;lia
theorem Inv.tuple(I:Inv X aA σ H s)(h:SqT X.K H a xs):∃its:List aV3,aM xs its/\IsTup s.heap a its.toArray/\xs.length<=sizeLine:=by
 rcases h with h|⟨o,its,n,hk,hc,hdt,hs,hz,r⟩
 . obtain⟨z,its,r,p⟩:=h.ok I.hok;exact⟨its,r,p.isTup,z⟩
 . refine⟨its.toList,r,⟨o,I.kIn a o hk,hc,n,by simpa using hs⟩,?_⟩
   have e:=r.length;simp only[aQ2]at e;lia
def Inv.list_inj(I:Inv X aA σ H s)(h:SqL X.K H a xs)(h':SqL X.K H a ys):xs=ys:=by
 obtain⟨its,r,⟨o,n,e,_,_,d⟩,_⟩:=I.list h;obtain⟨its',r',⟨o',n',e',_,_,d'⟩,_⟩:=I.list h';rw[e]at e';cases e';rw[d]at d';injection d' with d1 _
 have:its=its':=by simpa using congrArg Array.toList d1
 subst this;exact r.inj r'
def Inv.tuple_inj(I:Inv X aA σ H s)(h:SqT X.K H a xs)(h':SqT X.K H a ys):xs=ys:=by
 obtain⟨its,r,⟨o,e,_,n,d⟩,_⟩:=I.tuple h;obtain⟨its',r',⟨o',e',_,n',d'⟩,_⟩:=I.tuple h';rw[e]at e';cases e';rw[d]at d';injection d' with d1 _
 have:its=its':=by simpa using congrArg Array.toList d1
 subst this;exact r.inj r'
end
abbrev Cx.wish(X:Cx)(E:VSP):Cx:={X with xe:=E}
section
variable {rest:List Stmt}{t u:TS}
def tNext:TS:=λD σ H=>D.nx σ H
def tSeq(t u:TS):TS:=λD σ H=>t {D with nx:=u D} σ H
def aDA:PSs X [] tNext:=λ_ _ σ H _ I h=>aQ3 ⟨σ,H,I,h⟩
def aDB(h1:PS X st t)(h2:PSs X rest u):PSs X (st::rest) (tSeq t u):=by
 intro aA s σ H D I h;refine aQ4 (thn (h1 aA s σ H {D with nx:=u D} I h) λf s1 q=>?_)
 cases f with
 |next=>obtain⟨σ',H',I',q⟩:=q;exact h2 aA s1 σ' H' D I' q
 |ret v=>exact q
 |brk=>exact q
 |cont=>exact q
def Inv.quiet{σ:St}(I:Inv X aA σ H s):interactive X.env=false:=by simp[interactive,I.ok.kind]
def uW(te:TE):TS:=λD σ H=>te σ H λ_ H1=>D.nx σ H1
def aDC(he:PE X e te)(hs:swapsWith e none pos.line X.env=pure false:=by rfl):PS X (.Expr e pos) (uW te):=by intro aA s σ H D I h;exact wpAny_Expr_any (thn (he aA s σ H _ I h) λv s1 ⟨x,H1,I1,r1,q1⟩=>⟨σ,H1,I1,q1⟩) I.quiet hs
def tRet(te:TE):TS:=λD σ H=>te σ H D.rt
def uX(he:PE X e te):PS X (.Return (some e) pos) (tRet te):=by intro aA s σ H D I h;exact aQ5 (thn (he aA s σ H _ I h) λv s1 ⟨x,H1,I1,r1,q1⟩=>⟨x,σ,H1,I1,r1,q1⟩)
def tIfS(c:TT)(t u:TS):TS:=λD σ H=>c σ H λb H1=>if b=true then t D σ H1 else u D σ H1
def ps_if{a b:List Stmt}{tc:TT}(hc:PT X c tc)(ha:PSs X a t)(hb:PSs X b u):PS X (.If c a b pos) (tIfS tc t u):=by
 intro aA s σ H D I h;refine wpAny_If (thn (hc aA s σ H _ I h) λd s1 ⟨H1,I1,q1⟩=>?_);cases d with
 |true=>exact ha aA s1 σ H1 D I1 q1
 |false=>exact hb aA s1 σ H1 D I1 q1
end
abbrev TG:=V->St->Hp->(St->Hp->Prop)->Prop
abbrev TGs:=List V->St->Hp->(St->Hp->Prop)->Prop
def PG(X:Cx)(target:Expr)(t:TG):Prop :=
 ∀(aA:LAO) (s:aV4) (σ:St) (H:Hp) (v:V) (u:aV3) (Q:St->Hp->Prop),Inv X aA σ H s->aI v u->t v σ H Q ->
  wpAny (model X.prog X.w) X.A (assign target X.env u) (λ_ s'=>∃σ' H',Inv X aA σ' H' s'/\Q σ' H') X.xe s
def PGs(X:Cx)(ts:List Expr)(t:TGs):Prop :=
 ∀(aA:LAO) (s:aV4) (σ:St) (H:Hp) (vs:List V) (us:List aV3) (Q:St->Hp->Prop),Inv X aA σ H s->aM vs us->t vs σ H Q ->
  wpAny (model X.prog X.w) X.A (assignInOrder ((assignEach ts X.env).map (·.2)) us) (λ_ s'=>∃σ' H',Inv X aA σ' H' s'/\Q σ' H') X.xe s
def kK(i:Nat):TG:=λv σ H Q=>Q (σ.set i (some v)) H
def aDD(hN:X.N.Nodup)(hi:X.N[i]? = some x)(hx:Loc X.env.scope x)(hf:X.fn x=true\/X.env.scope.names.lookup x=some .local:=by first|exact .inl rfl|exact .inr rfl|assumption):PG X (.Name x pos) (kK i):=by intro aA s σ H v u Q I r h;exact wpAny_assign_Name (pD I hN hi hx r (λs' I'=>⟨_,H,I',h⟩) hf)
def gNil:TGs:=λvs σ H Q=>vs=[]/\Q σ H
def uY(t:TG)(u:TGs):TGs:=λvs σ H Q=>∃v r,vs=v::r/\t v σ H λσ' H'=>u r σ' H' Q
def aDE:PGs X [] gNil:=by intro aA s σ H vs us Q I r h;obtain⟨e,h⟩:=h;subst e;cases r;exact assignInOrder_nil ⟨σ,H,I,h⟩
def aDF{es:List Expr}{t:TG}{u:TGs}(h1:PG X e t)(h2:PGs X es u)(hs:(assignEach (e::es) X.env).map (·.2)=assign e X.env::(assignEach es X.env).map (·.2):=by rfl):PGs X (e::es) (uY t u):=by
 intro aA s σ H vs us Q I r h;obtain⟨v,vr,e1,h⟩:=h;subst e1;cases r with
 |cons r rr=>rw[hs];refine assignInOrder_cons (thn (h1 aA s σ H _ _ _ I r h) λ_ s1 ⟨σ1,H1,I1,q1⟩=>?_);exact h2 aA s1 σ1 H1 _ _ Q I1 rr q1
def gTup(K:Fg)(n:Nat)(t:TGs):TG:=λv σ H Q=>∃a xs,v=.ref a/\SqT K H a xs/\xs.length=n/\t xs σ H Q
def aDG{es:List Expr}{t:TGs}(hc:X.calm=true)(h:PGs X es t)(hn:(assignEach es X.env).length=n:=by rfl)(hst:(assignEach es X.env).findIdx? (·.1)=none:=by rfl):PG X (.Tuple es k pos) (gTup X.K n t):=by
 intro aA s σ H v u Q I r hw;obtain⟨a,xs,e1,hq,hl,hw⟩:=hw;subst e1;cases r;obtain⟨its,rv,ht,hz⟩:=I.tuple hq;refine assign_Tuple_tuple (I.ok.hd hc) ht (by simp[hn,<- hl,rv.length]) hst λh' hx=>?_
 have I1:Inv X aA σ H {s with heap:=h'}:=I.kept (t':=s.toks) λb o e=>hx b o (aQO (aQL e)) e
 exact h aA _ σ H xs _ Q I1 (by simpa using rv) hw
def mV(te:TE)(g:TG):TS:=λD σ H=>te σ H λx H1=>g x σ H1 D.nx
def uZ(hN:X.N.Nodup)(hi:X.N[i]? = some x)(hx:Loc X.env.scope x)(he:PE X e te)(hs:swapsWith e (some (.Name x pos')) pos.line X.env=pure false:=by rfl)(hf:X.fn x=true\/X.env.scope.names.lookup x=some .local:=by first|exact .inl rfl|exact .inr rfl|assumption):PS X (.Assign [.Name x pos'] e pos) (mV te (kK i)):=by intro aA s σ H D I h;refine wpAny_Assign_Name (thn (he aA s σ H _ I h) λv s1 ⟨y,H1,I1,r1,q1⟩=>?_) hs;exact pD I1 hN hi hx r1 (λs2 I2=>⟨_,H1,I2,q1⟩) hf
def aDH(c:TT)(tb:TS):TS:=λD σ H=>∃W:Nat->St->Hp->Prop,(∃m,W m σ H)/\∀m σ H,W m σ H ->
 c σ H λb H1=>if b=true then ∃N:St->Hp->Prop,(∀σ' H',N σ' H'->∃m',m'<m/\W m' σ' H')/\tb {D with nx:=N,ct:=N,bk:=D.nx} σ H1 else D.nx σ H1
def aDI{tc:TT}{tb:TS}(hp:PassesOwn (model X.prog X.w) X.A X.env X.xe)(hc:PT X c tc)(hb:PSs X body tb):PS X (.While c body [] pos) (aDH tc tb):=by
 intro aA s σ H D I h;obtain⟨W,⟨m0,w0⟩,turn⟩:=h;refine wpAny_While (codeAny_whileLoop (λn s'=>∃σ' H',Inv X aA σ' H' s'/\W n σ' H') ?_ m0 ⟨σ,H,I,w0⟩);rintro n s1 ⟨σ1,H1,I1,w1⟩;refine aQ6 hp (thn (hc aA s1 σ1 H1 _ I1 (turn n σ1 H1 w1)) λb s2 ⟨H2,I2,q2⟩=>?_);cases b with
 |true =>
  obtain⟨N,hN,q2⟩:=q2;rw[if_pos rfl];refine aQ6 hp (thn (hb aA s2 σ1 H2 _ I2 q2) λf s3 q3=>?_);cases f with
  |next=>obtain⟨σ3,H3,I3,n3⟩:=q3;obtain⟨m',hm,w3⟩:=hN σ3 H3 n3;exact⟨m',hm,σ3,H3,I3,w3⟩
  |cont=>obtain⟨σ3,H3,I3,n3⟩:=q3;obtain⟨m',hm,w3⟩:=hN σ3 H3 n3;exact⟨m',hm,σ3,H3,I3,w3⟩
  |brk=>exact q3
  |ret v=>exact q3
 |false=>rw[if_neg aQ7];exact aQ3 ⟨σ1,H2,I2,q2⟩
structure It where
 go:Nat->Hp->Prop
 yld:Nat->Hp->V->Hp->Prop
 stop:Nat->Hp->Prop
def gY(X:Cx)(aA:LAO)(H:Hp)(b:Addr):Prop :=
 H b=none/\b≠X.env.locals/\b∉X.fs/\(b∈X.ex\/X.s₀.heap.objs.size<=b)/\(∀x c,X.env.cells.lookup x=some c->c≠b)/\∀p∈X.pn++aA,p.1≠b
def Inv.fpOk{σ:St}(I:Inv X aA σ H s)(hb:s.heap.objs.size<=b)(hn:H' b=none):gY X aA H' b:=by
 refine⟨hn,aQ8 (aQM I.lt hb),I.nofs hb,.inr (aQR I.sz hb),λx c e z=>?_,λp hp z=>?_⟩
 . obtain⟨v,q⟩:=I.cell x c e;exact absurd (aQM q.lt (by rw[z];exact hb)) (aQN _)
 . exact absurd (aQM (aQL (I.pin p hp).1) (by rw[z];exact hb)) (aQN _)
structure iF(P:aV7)(w:aV6)(K:Fg)(tg:Expr)(J:It)(fp:List Addr)(it:Addr)(tn:Nat->Heap->Prop):Prop where
 mem:it∈fp
 obj:∀i h,tn i h->∀b∈fp,∃o,h.get? b=some o/\∀v,o.data ≠ .cell v
 keep:∀i h h',tn i h->(∀b∈fp,∀o,h.get? b=some o->h'.get? b=some o)->tn i h'
 item:∀(X:Cx),X.prog=P->X.w=w->X.K=K->X.calm=true->∀(i:Nat) (aA:LAO) (s:aV4) (σ:St) (H:Hp) (E:VSP),Inv X aA σ H s->(∀b∈fp,gY X aA H b)->tn i s.heap->J.go i H ->
  wpAny (model P w) X.A (pyNext (.ref it)) (λr s1=>∃u,r=some u /\
   wpAny (model P w) X.A (letOwnedTupleGo tg (.ref it) u) (λ_ s2=>∃x H',Inv X aA σ H' s2/\aI x u/\J.yld i H x H'/\tn (i+1) s2.heap/\∀b∈fp,H' b=none) E s1) E s
 done:∀(X:Cx),X.prog=P->X.w=w->X.K=K->X.calm=true->∀(i:Nat) (aA:LAO) (s:aV4) (σ:St) (H:Hp) (E:VSP),Inv X aA σ H s->(∀b∈fp,gY X aA H b)->tn i s.heap->J.stop i H ->
  wpAny (model P w) X.A (pyNext (.ref it)) (λr s1=>r=none/\Inv X aA σ H s1) E s
 self:∀(A:aV5) (i:Nat) (s:aV4) (Q:VSP) (E:VSP),tn i s.heap->Q (.ref it) s->wpAny (model P w) A (pyIter (.ref it)) Q E s
abbrev TI:=St->Hp->(It->Hp->Prop)->Prop
def PIE(X:Cx)(aA:LAO)(σ:St)(tg:Expr)(R:It->Hp->Prop)(itv:aV3)(s2:aV4):Prop :=
 ∃(it:Addr) (fp:List Addr) (tn:Nat->Heap->Prop) (J:It) (H':Hp),itv=.ref it/\Inv X aA σ H' s2/\iF X.prog X.w X.K tg J fp it tn/\tn 0 s2.heap/\(∀b∈fp,gY X aA H' b)/\R J H'
def PI(X:Cx)(tg aU:Expr)(wi:TI):Prop :=
 ∀(aA:LAO) (s:aV4) (σ:St) (H:Hp) (R:It->Hp->Prop),Inv X aA σ H s->wi σ H R ->
  wpAny (model X.prog X.w) X.A (eval aU X.env) (λv s1=>wpAny (model X.prog X.w) X.A (pyIter v) (PIE X aA σ tg R) X.xe s1) X.xe s
def jB{M:Model}{A:aV5}{E:VSP}{o:Obj}{n:String}{vs:Array aV3}(ho:s.heap.get? it=some o)(hc:o.cls=.type n)(hd:o.data=.fields vs)(hn:["enumerate", "zip", "dict_itemiterator", "dict_reverseitemiterator", "odict_iterator", "itertools.zip_longest", "itertools.pairwise"].contains n=false)(hQ:Q () s):wpAny M A (letOwnedTupleGo tg (.ref it) u) Q E s:=by
 unfold letOwnedTupleGo;cases tg <;> first
  |exact aQ9 hQ
  | (cases u <;> first
      |exact aQ9 hQ
      | (refine aRA (aRB ho ?_)
         rw[hc,hd];show wpAny M A (if(["enumerate", "zip", "dict_itemiterator", "dict_reverseitemiterator", "odict_iterator", "itertools.zip_longest", "itertools.pairwise"].contains n&&vs[0]?==some (rawInt _))=true then _ else _) Q E s;rw[if_neg (by intro h;rw[hn,Bool.false_and]at h;cases h)]
         exact aQ9 hQ))
def Itl(K:Fg)(a:Addr):It :=
 ⟨λi H=>∃xs x,SqL K H a xs/\xs[i]? = some x,λi H x H'=>H'=H/\∀xs,SqL K H a xs->xs[i]? = some x,λi H=>∃xs,SqL K H a xs/\xs.length<=i⟩
def Itt(K:Fg)(a:Addr):It :=
 ⟨λi H=>∃xs x,SqT K H a xs/\xs[i]? = some x,λi H x H'=>H'=H/\∀xs,SqT K H a xs->xs[i]? = some x,λi H=>∃xs,SqT K H a xs/\xs.length<=i⟩
def Itr(lo:Int)(n:Nat):It:=⟨λi _=>i<n,λi H x H'=>H'=H/\x=.int (lo+i),λi _=>n<=i⟩
end L2
variable {wi:L2.TI}
namespace L2
theorem aDJ(a it:Addr):iF P w K tg (Itl K a) [it] it (λi h=>h.IsListIter it a i) where
 mem:=by simp
 obj:=λi h st b hb=>by
  have e:b=it:=by simpa using hb
  subst e;obtain⟨o,e,c,d⟩:=st;exact⟨o,e,λv z=>by rw[d]at z;cases z⟩
 keep:=λi h h' st k=>st.at λo e=>k it (by simp) o e
 item:=by
  intro X hP hw hK hc i aA s σ H E I hf st hg;subst hP hw hK;obtain⟨xs,x,hq,hx⟩:=hg;obtain⟨its,rv,p,hz⟩:=I.list hq;obtain⟨u,hu,ru⟩:=rv.get hx;obtain⟨f0,f1,f2,f3,f4,f5⟩:=hf it (by simp)
  refine wpAny_pyNext_list_item st p.isList (x:=u) (by simpa using hu) λh' st' sb=>?_
  have I1:Inv X aA σ H {s with heap:=h'}:=I.turned (t':=s.toks) (λb o hb e=>(sb.2 b hb).trans e) f0 f1 f3 f4 f5
  obtain⟨o,e,c,d⟩:=id st';exact⟨u,rfl,jB (s:={s with heap:=h'}) e c d (by decide) ⟨x,H,I1,ru,⟨rfl,λys hy=>by rw[I.list_inj hy hq];exact hx⟩,st',λb hb=>(hf b hb).1⟩⟩
 done:=by
  intro X hP hw hK hc i aA s σ H E I hf st hg;subst hP hw hK;obtain⟨xs,hq,hx⟩:=hg;obtain⟨its,rv,p,hz⟩:=I.list hq;obtain⟨f0,f1,f2,f3,f4,f5⟩:=hf it (by simp)
  have hl:=rv.length;exact wpAny_pyNext_list_end (I.ok.hd hc) st p.isList (by simp;lia) λh' eb=>⟨rfl,I.turned (t':=s.toks) (λb o hb e=>eb b o hb e) f0 f1 f3 f4 f5⟩
 self:=λ_ _ _ _ _ st h=>wpAny_pyIter_listiter st h
theorem aDK(a it:Addr):iF P w K tg (Itt K a) [it] it (λi h=>h.IsTupleIter it a i) where
 mem:=by simp
 obj:=λi h st b hb=>by
  have e:b=it:=by simpa using hb
  subst e;obtain⟨o,e,c,d⟩:=st;exact⟨o,e,λv z=>by rw[d]at z;cases z⟩
 keep:=λi h h' st k=>st.at λo e=>k it (by simp) o e
 item:=by
  intro X hP hw hK hc i aA s σ H E I hf st hg;subst hP hw hK;obtain⟨xs,x,hq,hx⟩:=hg;obtain⟨its,rv,p,hz⟩:=I.tuple hq;obtain⟨u,hu,ru⟩:=rv.get hx;obtain⟨f0,f1,f2,f3,f4,f5⟩:=hf it (by simp)
  refine wpAny_pyNext_tuple_item st (show s.heap.IsTuple a its.toArray from p) (x:=u) (by simpa using hu) λh' st' sb=>?_
  have I1:Inv X aA σ H {s with heap:=h'}:=I.turned (t':=s.toks) (λb o hb e=>(sb.2 b hb).trans e) f0 f1 f3 f4 f5
  obtain⟨o,e,c,d⟩:=id st';exact⟨u,rfl,jB (s:={s with heap:=h'}) e c d (by decide) ⟨x,H,I1,ru,⟨rfl,λys hy=>by rw[I.tuple_inj hy hq];exact hx⟩,st',λb hb=>(hf b hb).1⟩⟩
 done:=by
  intro X hP hw hK hc i aA s σ H E I hf st hg;subst hP hw hK;obtain⟨xs,hq,hx⟩:=hg;obtain⟨its,rv,p,hz⟩:=I.tuple hq;obtain⟨f0,f1,f2,f3,f4,f5⟩:=hf it (by simp)
  have hl:=rv.length;exact wpAny_pyNext_tuple_end (I.ok.hd hc) st (show s.heap.IsTuple a its.toArray from p) (by simp;lia) λh' eb=>⟨rfl,I.turned (t':=s.toks) (λb o hb e=>eb b o hb e) f0 f1 f3 f4 f5⟩
 self:=λ_ _ _ _ _ st h=>wpAny_pyIter_tupleiter st h
theorem aDL(it:Addr)(lo:Int)(n:Nat):iF P w K tg (Itr lo n) [it] it (λi h=>IsRangeIter h it (lo+(i:Nat) * 1) ((n:Int)-(i:Nat)) 1) where
 mem:=by simp
 obj:=λi h st b hb=>by
  have e:b=it:=by simpa using hb
  subst e;exact⟨_,st,λv z=>by
   have z':Data.fields _=Data.cell v:=z;cases z'⟩
 keep:=λi h h' st k=>k it (by simp) _ st
 item:=by
  intro X hP hw hK hc i aA s σ H E I hf st hg;subst hP hw hK;obtain⟨f0,f1,f2,f3,f4,f5⟩:=hf it (by simp)
  have W:=Walks.range (prog:=X.prog) (w:=X.w) (I.ok.hd hc) it lo 1 n;refine W.item i s _ _ hg st λv h' tk hv st' kk=>?_;obtain⟨t,rfl⟩:=hv;have I1:Inv X aA σ H {s with heap:=h',toks:=tk}:=I.turned (λb o hb e=>kk b o (by simpa using hb) e) f0 f1 f3 f4 f5
  refine⟨_,rfl,jB (s:={s with heap:=h',toks:=tk}) (n := "range_iterator") st' rfl rfl (by decide) ⟨.int (lo+i),H,I1,⟨t,?_⟩,⟨rfl,rfl⟩,st',λb hb=>(hf b hb).1⟩⟩
  rw[Int.mul_one]
 done:=by
  intro X hP hw hK hc i aA s σ H E I hf st hg;subst hP hw hK;obtain⟨f0,f1,f2,f3,f4,f5⟩:=hf it (by simp)
  exact wpAny_pyNext_range_end (I.ok.hd hc) st (by have:n<=i:=hg;lia) λh' eb=>⟨rfl,I.turned (t':=s.toks) (λb o hb e=>eb b o hb e) f0 f1 f3 f4 f5⟩
 self:=λ_ _ _ _ _ st h=>wpAny_pyIter_rangeiter st h
def pF(K:Fg)(tl:TE):TI:=λσ H R=>tl σ H λx H1=>∃a,x=.ref a/\(∃xs,SqL K H1 a xs)/\R (Itl K a) H1
def iTup(K:Fg)(tl:TE):TI:=λσ H R=>tl σ H λx H1=>∃a,x=.ref a/\(∃xs,SqT K H1 a xs)/\R (Itt K a) H1
def aDM{l:Expr}(hl:PE X l tl):PI X tg l (pF X.K tl):=by
 intro aA s σ H R I h;refine thn (hl aA s σ H _ I h) λv s1 ⟨x,H1,I1,r1,q1⟩=>?_;obtain⟨a,e,⟨xs,hq⟩,q⟩:=q1;subst e;cases r1;obtain⟨its,rv,p,hz⟩:=I1.list hq;refine aRC p.isList ?_;refine⟨s1.heap.objs.size,[s1.heap.objs.size],_,_,H1,rfl,I1.kept (t':=s1.toks) λb o e=>hps e,aDJ a _,⟨_,aQK _ rfl,rfl,rfl⟩,λb hb=>?_,q⟩;have e:b=s1.heap.objs.size:=by simpa using hb
 subst e;exact I1.fpOk (aRD _) (I1.hok.fresh (aRD _))
def aDN{l:Expr}(hl:PE X l tl):PI X tg l (iTup X.K tl):=by
 intro aA s σ H R I h;refine thn (hl aA s σ H _ I h) λv s1 ⟨x,H1,I1,r1,q1⟩=>?_;obtain⟨a,e,⟨xs,hq⟩,q⟩:=q1;subst e;cases r1;obtain⟨its,rv,p,hz⟩:=I1.tuple hq;refine wpAny_pyIter_tuple (show s1.heap.IsTuple a its.toArray from p) ?_
 refine⟨s1.heap.objs.size,[s1.heap.objs.size],_,_,H1,rfl,I1.kept (t':=s1.toks) λb o e=>hps e,aDK a _,⟨_,aQK _ rfl,rfl,rfl⟩,λb hb=>?_,q⟩;have e:b=s1.heap.objs.size:=by simpa using hb
 subst e;exact I1.fpOk (aRD _) (I1.hok.fresh (aRD _))
theorem aDO{σ:St}{R:It->Hp->Prop}{E:VSP}{lo hi:Int}{t u v:Tok}{tk:Nat}(I:Inv X aA σ H s)(h1:-(2 ^ 62)<=lo)(h2:lo<2 ^ 62)(h3:-(2 ^ 62)<=hi)(h4:hi<2 ^ 62)(q:R (Itr lo (hi-lo).toNat) H):wpAny (model X.prog X.w) X.A (pyIter (.ref s.heap.objs.size)) (PIE X aA σ tg R) E { s with heap:=s.heap.push { cls:=.type "range", data:=.fields #[.int lo t,.int hi u,.int 1 v] },toks:=tk }:=by
 refine wpAny_pyIter_range (IsRange.new ..) (small_one h1 h2 h3 h4) ?_;have I1:Inv X aA σ H { s with heap:=s.heap.push { cls:=.type "range", data:=.fields #[.int lo t,.int hi u,.int 1 v] },toks:=tk }:=I.kept λb o e=>hps e
 refine⟨(s.heap.push { cls:=.type "range", data:=.fields #[.int lo t,.int hi u,.int 1 v] }).objs.size,[(s.heap.push { cls:=.type "range", data:=.fields #[.int lo t,.int hi u,.int 1 v] }).objs.size],_,_,H,rfl,
  I1.kept (t':=tk) λb o e=>hps e,aDL _ lo (hi-lo).toNat,?_,λb hb=>?_,q⟩
 . have e1:lo+((0:Nat):Int) * 1=lo:=by simp
   have e2:(((hi-lo).toNat:Nat):Int)-((0:Nat):Int)=Builtin.Range.rangeSize lo hi 1:=by rw[rangeSize_one];split <;> lia
   show IsRangeIter _ _ (lo+((0:Nat):Int) * 1) ((((hi-lo).toNat:Nat):Int)-((0:Nat):Int)) 1;rw[e1,e2];exact aQK _ rfl
 . have e:b=(s.heap.push { cls:=.type "range", data:=.fields #[.int lo t,.int hi u,.int 1 v] }).objs.size:=by simpa using hb
   subst e;exact I1.fpOk (aRD _) (I1.hok.fresh (aRD _))
def u0(ta:TA):TI:=λσ H R=>ta σ H λvs H1=>∃j:Int,vs=[.int j] /\ -(2 ^ 62)<=j/\j<2 ^ 62/\R (Itr 0 j.toNat) H1
theorem aDP{a:Expr}{ta:TA}(hg:Gl X "range")(hm:X.mg "range" = none)(ha:PA X [a] ta)(hs:starEach [a] X.env=[(false,eval a X.env)]:=by rfl):PI X tg (.Call (.Name "range" p) [a] [] pos) (u0 ta):=by
 intro aA s σ H R I h;refine Call_ (kJ I hg hm boot_range (aRE (thn (ha pos aA s σ H _ I h) λus s1 ⟨vs,H1,I1,r1,q1⟩=>?_) hs rfl));obtain⟨j,e,q1,q2,q⟩:=q1;subst e;cases r1 with
 |cons r rr=>cases rr;obtain⟨t,rfl⟩:=r;exact call_range_1 (aDO I1 (by lia) (by lia) q1 q2 (by simpa using q))
def tFor(wi:TI)(g:TG)(tb:TS):TS:=λD σ H=>wi σ H λJ H1=>∃W:Nat->Nat->St->Hp->Prop,(∃m,W 0 m σ H1)/\∀i m σ H,W i m σ H ->
 (J.stop i H/\D.nx σ H)\/(J.go i H/\∃N:St->Hp->Prop,(∀σ' H',N σ' H'->∃m',m'<m/\W (i+1) m' σ' H')/\∀x H',J.yld i H x H'->g x σ H' λσ2 H2=>tb {D with nx:=N,ct:=N,bk:=D.nx} σ2 H2)
def kL(fp:List Addr)(h:Heap):LAO:=fp.filterMap λb=>(h.get? b).map λo=>(b,o)
def pG{o:Obj}(hb:b∈fp)(e:h.get? b=some o):(b,o)∈kL fp h:=aRF.mpr ⟨b,hb,by rw[e];rfl⟩
def aDQ{p:Addr×Obj}(hp:p∈kL fp h):p.1∈fp/\h.get? p.1=some p.2:=by
 obtain⟨b,hb,e⟩:=aRF.mp hp;cases q:h.get? b with
 |none=>rw[q]at e;cases e
 |some o=>rw[q]at e;have e':(b,o)=p:=aQJ e;subst e';exact⟨hb,q⟩
def Inv.pinned{σ:St}(I:Inv X aA σ H s)(hf:∀b∈fp,gY X aA H b)(ho:∀b∈fp,∃o,s.heap.get? b=some o/\∀v,o.data ≠ .cell v):Inv X (aA++kL fp s.heap) σ H s :=
 I.pins_of λp hp=>(aQV.mp hp).elim (λz=>I.pin p (aRG _ z)) λz=>by obtain⟨hb,e⟩:=aDQ z;obtain⟨f0,f1,f2,_⟩:=hf p.1 hb;obtain⟨o,e',d⟩:=ho p.1 hb;rw[e]at e';cases e';exact⟨e,f0,f1,f2,d⟩
def Inv.unpinned{pl:LAO}{σ:St}(I:Inv X (aA++pl) σ H s):Inv X aA σ H s:=I.pins_of λp hp=>I.pin p (aRG _ (aQW _ hp))
def aDR{g:TG}{tb:TS}(hp:PassesOwn (model X.prog X.w) X.A X.env X.xe)(hc:X.calm=true)(hi:PI X tg aU wi)(hg:PG X tg g)(hb:PSs X body tb)(hs:∀x,foldedSetIterable aU X.env x=pure x:=by intro _;rfl):PS X (.For tg aU body [] pos) (tFor wi g tb):=by
 intro aA s σ H D I h;refine wpAny_For (thn (hi aA s σ H _ I h) λv s1 h1=>thn h1 λitv s2 h2=>?_) hs;obtain⟨it,fp,tn,J,H2,e,I2,T,st2,f2,W,⟨m0,w0⟩,turn⟩:=h2;subst e;have stat:∀{H':Hp},(∀b∈fp,H' b=none)->∀b∈fp,gY X aA H' b:=λhn b hb=>⟨hn b hb,(f2 b hb).2⟩;refine codeAny_forLoop_any (λn s'=>∃i σ' H',Inv X aA σ' H' s'/\tn i s'.heap/\(∀b∈fp,H' b=none)/\W i n σ' H') ?_ m0 ⟨0,σ,H2,I2,st2,λb hb=>(f2 b hb).1,w0⟩;rintro n s3 ⟨i,σ3,H3,I3,st3,fr3,w3⟩;rcases turn i n σ3 H3 w3 with⟨stop,qn⟩|⟨go,N,hN,step⟩
 . refine aQ6 hp (thn (T.done X rfl rfl rfl hc i aA s3 σ3 H3 X.xe I3 (stat fr3) st3 stop) λr s4 ⟨hr,I4⟩=>?_);subst hr;exact aQ3 ⟨σ3,H3,I4,qn⟩
 . refine aQ6 hp (thn (T.item X rfl rfl rfl hc i aA s3 σ3 H3 X.xe I3 (stat fr3) st3 go) λr s4 ⟨u,hr,h4⟩=>?_);subst hr;refine aQ6 hp (thn h4 λ_ s5 ⟨x,H5,I5,r5,y5,st5,fr5⟩=>?_);have I5':=I5.pinned (stat fr5) (T.obj _ _ st5);refine aQ6 hp (thn (hg _ s5 σ3 H5 x u _ I5' r5 (step x H5 y5)) λ_ s6 ⟨σ6,H6,I6,q6⟩=>?_);refine aQ6 hp (thn (hb _ s6 σ6 H6 _ I6 q6) λf s7 q7=>?_);have again:∀{σ7:St}{H7:Hp},Inv X (aA++kL fp s5.heap) σ7 H7 s7->N σ7 H7->∃m,m<n/\∃i σ' H',Inv X aA σ' H' s7/\tn i s7.heap/\(∀b∈fp,H' b=none)/\W i m σ' H':=λ{σ7 H7} I7 n7=>by obtain⟨m',hm,w7⟩:=hN σ7 H7 n7;refine⟨m',hm,i+1,σ7,H7,I7.unpinned,T.keep _ _ _ st5 λb hb o e=>(I7.pin (b,o) (aRG _ (aRG _ (pG hb e)))).1,λb hb=>?_,w7⟩;obtain⟨o,e,d⟩:=T.obj _ _ st5 b hb;exact(I7.pin (b,o) (aRG _ (aRG _ (pG hb e)))).2.1
   cases f with
   |next=>obtain⟨σ7,H7,I7,n7⟩:=q7;exact again I7 n7
   |cont=>obtain⟨σ7,H7,I7,n7⟩:=q7;exact again I7 n7
   |brk=>obtain⟨σ7,H7,I7,q7⟩:=q7;exact⟨σ7,H7,I7.unpinned,q7⟩
   |ret v=>obtain⟨x7,σ7,H7,I7,r7,q7⟩:=q7;exact⟨x7,σ7,H7,I7.unpinned,r7,q7⟩
abbrev R2:=V->V->Hp->VK->Prop
def OpR(X:Cx)(f:aV3->aV3->Sem aV3)(r:R2):Prop :=
 ∀(aA:LAO) (s:aV4) (σ:St) (H:Hp) (x y:V) (v u:aV3) (Q:VK),Inv X aA σ H s->aI x v->aI y u->r x y H Q ->
  wpAny (model X.prog X.w) X.A (f v u) (EP X aA σ Q) X.xe s
def UnR(X:Cx)(f:aV3->Sem aV3)(r:V->Hp->VK->Prop):Prop :=
 ∀(aA:LAO) (s:aV4) (σ:St) (H:Hp) (x:V) (v:aV3) (Q:VK),Inv X aA σ H s->aI x v->r x H Q ->
  wpAny (model X.prog X.w) X.A (f v) (EP X aA σ Q) X.xe s
def cI(X:Cx)(f:aV3)(r:List V->Hp->VK->Prop):Prop :=
 ∀(aA:LAO) (s:aV4) (σ:St) (H:Hp) (xs:List V) (us:List aV3) (Q:VK),Inv X aA σ H s->aM xs us->r xs H Q ->
  wpAny (model X.prog X.w) X.A (call f us) (EP X aA σ Q) X.xe s
def TruR(X:Cx)(r:V->Hp->(Bool->Hp->Prop)->Prop):Prop :=
 ∀(aA:LAO) (s:aV4) (σ:St) (H:Hp) (x:V) (v:aV3) (Q:Bool->Hp->Prop),Inv X aA σ H s->aI x v->r x H Q ->
  wpAny (model X.prog X.w) X.A (truthy v) (TP X aA σ Q) X.xe s
def tOp(r:R2)(ta tb:TE):TE:=λσ H Q=>ta σ H λx H1=>tb σ H1 λy H2=>r x y H2 Q
def tUn(r:V->Hp->VK->Prop)(ta:TE):TE:=λσ H Q=>ta σ H λx H1=>r x H1 Q
def rI(C:Int->Int->Prop)(g:Int->Int->V):R2:=λx y H Q=>∃i j,x=.int i/\y=.int j/\C i j/\Q (g i j) H
def rI0(g:Int->Int->V):R2:=λx y H Q=>∃i j,x=.int i/\y=.int j/\Q (g i j) H
def rU(g:Int->V):V->Hp->VK->Prop:=λx H Q=>∃i,x=.int i/\Q (g i) H
section
variable  {a b:Expr}{tb tc:TE}
def pH(ha:PE X a ta)(hb:PE X b tb){σ:St}{R:V->V->Hp->Prop}(I:Inv X aA σ H s)(h:ta σ H λx H1=>tb σ H1 λy H2=>R x y H2){Q:VSP}{f:aV3->aV3->Sem aV3}(hf:∀v u s2 x y H2,Inv X aA σ H2 s2->aI x v->aI y u->R x y H2->wpAny (model X.prog X.w) X.A (f v u) Q X.xe s2):wpAny (model X.prog X.w) X.A (eval a X.env) (λv s₁=>wpAny (model X.prog X.w) X.A (eval b X.env) (λu s₂=>wpAny (model X.prog X.w) X.A (f v u) Q X.xe s₂) X.xe s₁) X.xe s:=by refine thn (ha aA s σ H _ I h) λv s1 ⟨x,H1,I1,r1,q1⟩=>?_;refine thn (hb aA s1 σ H1 _ I1 q1) λu s2 ⟨y,H2,I2,r2,q2⟩=>?_;exact hf v u s2 x y H2 I2 r1 r2 q2
def pe_op{op:Operator}{r:R2}(ho:OpR X (binaryOp op) r)(ha:PE X a ta)(hb:PE X b tb):PE X (.BinOp a op b pos) (tOp r ta tb):=by intro aA s σ H Q I h;exact wpAny_BinOp (pH ha hb I h λv u s2 x y H2 I2 rx ry q=>ho aA s2 σ H2 x y v u Q I2 rx ry q)
def pe_un{op:UnaryOp}{r:V->Hp->VK->Prop}(ho:UnR X (unaryOp op) r)(ha:PE X a ta):PE X (.UnaryOp op a pos) (tUn r ta):=by intro aA s σ H Q I h;exact UnaryOp_ (thn (ha aA s σ H _ I h) λv s1 ⟨x,H1,I1,r1,q1⟩=>ho aA s1 σ H1 x v Q I1 r1 q1)
def opI{f:aV3->aV3->Sem aV3}{C:Int->Int->Prop}{g:Int->Int->Int}(rule:∀(i j:Int) (t u:Tok) (s:aV4) (Q:VSP) (E:VSP),C i j->Q (.int (g i j) s.toks) {s with toks:=s.toks+1} -> wpAny (model X.prog X.w) X.A (f (.int i t) (.int j u)) Q E s):OpR X f (rI C λi j=>.int (g i j)):=by intro aA s σ H x y v u Q I rx ry h;obtain⟨i,j,rfl,rfl,hc,q⟩:=h;obtain⟨t,rfl⟩:=rx;obtain⟨t',rfl⟩:=ry;exact rule i j t t' s _ _ hc ⟨.int (g i j),H,I.tok _,⟨_,rfl⟩,q⟩
def opI0{f:aV3->aV3->Sem aV3}{g:Int->Int->Int}(rule:∀(i j:Int) (t u:Tok) (s:aV4) (Q:VSP) (E:VSP),Q (.int (g i j) s.toks) {s with toks:=s.toks+1} -> wpAny (model X.prog X.w) X.A (f (.int i t) (.int j u)) Q E s):OpR X f (rI0 λi j=>.int (g i j)):=by intro aA s σ H x y v u Q I rx ry h;obtain⟨i,j,rfl,rfl,q⟩:=h;obtain⟨t,rfl⟩:=rx;obtain⟨t',rfl⟩:=ry;exact rule i j t t' s _ _ ⟨.int (g i j),H,I.tok _,⟨_,rfl⟩,q⟩
def mW{f:aV3->aV3->Sem aV3}{g:Int->Int->Bool}(rule:∀(i j:Int) (t u:Tok) (s:aV4) (Q:VSP) (E:VSP),Q (.bool (g i j)) s->wpAny (model X.prog X.w) X.A (f (.int i t) (.int j u)) Q E s):OpR X f (rI0 λi j=>.bl (g i j)):=by intro aA s σ H x y v u Q I rx ry h;obtain⟨i,j,rfl,rfl,q⟩:=h;obtain⟨t,rfl⟩:=rx;obtain⟨t',rfl⟩:=ry;exact rule i j t t' s _ _ ⟨.bl (g i j),H,I,rfl,q⟩
def CPow(i j:Int):Prop:=0<=j/\j<=1000000/\i.natAbs<2 ^ 64
def aDS:OpR X (binaryOp .Add) (rI0 λi j=>.int (i+j)):=opI0 λ_ _ _ _ _ _ _ q=>add_int q
def aDT:OpR X (binaryOp .Sub) (rI0 λi j=>.int (i-j)):=opI0 λ_ _ _ _ _ _ _ q=>sub_int q
theorem aDU:OpR X (binaryOp .Mod) (rI (λ_ j=>0<j) λi j=>.int (i % j)):=opI λi j _ _ _ _ _ hc q=>by have h1:(0:Int)<j:=hc;exact mod_int' (by lia) (by rw[Int.fmod_eq_emod_of_nonneg i (by lia)];exact q)
def aDV:OpR X (binaryOp .Pow) (rI CPow λi j=>.int (i ^ j.toNat)):=opI λ_ _ _ _ _ _ _ hc q=>pow_int_small hc.1 hc.2.1 hc.2.2 q
def unI{f:aV3->Sem aV3}{g:Int->Int}(rule:∀(i:Int) (t:Tok) (s:aV4) (Q:VSP) (E:VSP),Q (.int (g i) s.toks) {s with toks:=s.toks+1} -> wpAny (model X.prog X.w) X.A (f (.int i t)) Q E s):UnR X f (rU λi=>.int (g i)):=by intro aA s σ H x v Q I rx h;obtain⟨i,rfl,q⟩:=h;obtain⟨t,rfl⟩:=rx;exact rule i t s _ _ ⟨.int (g i),H,I.tok _,⟨_,rfl⟩,q⟩
def aDW:UnR X (unaryOp .USub) (rU λi=>.int (-i)):=unI λ_ _ _ _ _ q=>neg_int q
end
section
variable  {a b:Expr}{tb tc:TE}
def mX{σ:St}{Q:VK}{k k':Bool}(I:Inv X aA σ H s)(q:Q (.bl k) H)(e:k=k'):EP X aA σ Q (.bool k') s:=by subst e;exact⟨.bl k,H,I,rfl,q⟩
def op_lt:OpR X (compareOp .Lt) (rI0 λi j=>.bl (decide (i<j))):=mW λ_ _ _ _ _ _ _ q=>lt_int q
def op_le:OpR X (compareOp .LtE) (rI0 λi j=>.bl (decide (i<=j))):=mW λ_ _ _ _ _ _ _ q=>le_int q
def op_gt:OpR X (compareOp .Gt) (rI0 λi j=>.bl (decide (j<i))):=mW λ_ _ _ _ _ _ _ q=>gt_int q
def op_ge:OpR X (compareOp .GtE) (rI0 λi j=>.bl (decide (j<=i))):=mW λ_ _ _ _ _ _ _ q=>ge_int q
def aDX:OpR X (compareOp .In) (λx y H Q=>∃i j,x=.str i/\y=.str j/\Q (.bl (!(Builtin.Str.occurrences j i 0 j.length 1).isEmpty)) H):=by intro aA s σ H x y v u Q I rx ry h;obtain⟨i,j,rfl,rfl,q⟩:=h;obtain⟨t,rfl⟩:=rx;obtain⟨t',rfl⟩:=ry;exact in_str (mX I q rfl)
def aDY:OpR X (compareOp .Is) (λx y H Q=>y=.non/\Q (.bl (decide (x=.non))) H):=by
 intro aA s σ H x y v u Q I rx ry h;obtain⟨rfl,q⟩:=h;cases ry;refine is_none_gen (mX I q ?_);cases x <;> first
  |(cases rx;rfl)
  |(obtain⟨t,rfl⟩:=rx;rfl)
def aDZ:OpR X (compareOp .IsNot) (λx y H Q=>y=.non/\Q (.bl (!decide (x=.non))) H):=by
 intro aA s σ H x y v u Q I rx ry h;obtain⟨rfl,q⟩:=h;cases ry;refine isnot_none_gen (mX I q ?_);cases x <;> first
  |(cases rx;rfl)
  |(obtain⟨t,rfl⟩:=rx;rfl)
def aD0:OpR X (compareOp .NotIn) (λx y H Q=>∃i j,x=.str i/\y=.str j/\Q (.bl (!(!(Builtin.Str.occurrences j i 0 j.length 1).isEmpty))) H):=by intro aA s σ H x y v u Q I rx ry h;obtain⟨i,j,rfl,rfl,q⟩:=h;obtain⟨t,rfl⟩:=rx;obtain⟨t',rfl⟩:=ry;exact notIn_str (mX I q rfl)
def OpR.or{f:aV3->aV3->Sem aV3}{r r':R2}(h:OpR X f r)(h':OpR X f r'):OpR X f (λx y H Q=>r x y H Q\/r' x y H Q):=by
 intro aA s σ H x y v u Q I rx ry q;rcases q with q|q
 . exact h aA s σ H x y v u Q I rx ry q
 . exact h' aA s σ H x y v u Q I rx ry q
def aD1{op:CmpOp}{r:R2}(ho:OpR X (compareOp op) r)(ha:PE X a ta)(hb:PE X b tb)(hm:behindInMarks op b=false):PE X (.Compare a [op] [b] pos) (tOp r ta tb):=by intro aA s σ H Q I h;exact wpAny_Compare1 (pH ha hb I h λv u s2 x y H2 I2 rx ry q=>ho aA s2 σ H2 x y v u Q I2 rx ry q) hm
def u4(t:TE):TT:=λσ H Q=>t σ H λx H'=>∃k,x=.bl k/\Q k H'
def aD2{op:CmpOp}{r:R2}(ho:OpR X (compareOp op) r)(ha:PE X a ta)(hb:PE X b tb)(hm:behindInMarks op b=false):PT X (.Compare a [op] [b] pos) (u4 (tOp r ta tb)):=by
 intro aA s σ H Q I h;refine wpAny_isTrue_Compare1 (thn (ha aA s σ H _ I h) λv s1 ⟨x,H1,I1,r1,q1⟩=>thn (hb aA s1 σ H1 _ I1 q1) λu s2 ⟨y,H2,I2,r2,q2⟩ =>
  thn (ho aA s2 σ H2 x y v u _ I2 r1 r2 q2) λc s3 ⟨z,H3,I3,r3,k,e,q3⟩=>?_) hm
 subst e;cases r3;exact aQ1 ⟨H3,I3,q3⟩
def pI(K:Fg)(x:V)(H:Hp)(k:Bool):Prop :=
 match x with
 |.non=>k=false
 |.bl b=>k=b
 |.int i=>k=(i != 0)
 |.str y=>y.length<=sizeLine/\k=((y.length:Int) != 0)
 |.byt y=>y.size<=sizeLine/\k=((y.size:Int) != 0)
 |.ref p=>(∃xs,SqL K H p xs/\k = !xs.isEmpty)\/(∃xs,SqT K H p xs/\k = !xs.isEmpty)\/∃kvs,H p=some (.dK kvs)/\k = !kvs.isEmpty
 |_=>False
def aD3{kvs:List (κ×V)}{vs:List (κ×aV3)}(r:KV kvs vs):(!vs.isEmpty) = !kvs.isEmpty:=by cases r <;> rfl
def u5{its:List aV3}(r:aM xs its):(!its.toArray.isEmpty) = !xs.isEmpty:=by cases r <;> simp
def kM:(sizeLine:Nat)<2 ^ 63:=by rw[aRH];decide
theorem aD4:TruR X (λx H Q=>∃k,pI X.K x H k/\Q k H):=by
 intro aA s σ H x v Q I rx h;obtain⟨k,e,q⟩:=h;have hl:=kM;have hs:sizeLine=16777216:=aRH;cases x with
 |non=>cases rx;have e':k=false:=e;subst e';exact truthy_none ⟨H,I,q⟩
 |bl b=>cases rx;have e':k=b:=e;subst e';exact aQ1 ⟨H,I,q⟩
 |int i=>obtain⟨t,rfl⟩:=rx;have e':k=(i != 0):=e;subst e';exact PySem.P.truthy_int ⟨H,I,q⟩
 |str y=>obtain⟨t,rfl⟩:=rx;obtain⟨hy,e'⟩:y.length<=sizeLine/\k=((y.length:Int) != 0):=e;subst e';exact PySem.P.truthy_str (by lia) ⟨H,I.tok _,q⟩
 |byt y=>obtain⟨t,rfl⟩:=rx;obtain⟨hy,e'⟩:y.size<=sizeLine/\k=((y.size:Int) != 0):=e;subst e';exact W.truthy_bytes (by lia) ⟨H,I.tok _,q⟩
 |ref p =>
  cases rx;have e':(∃xs,SqL X.K H p xs/\k = !xs.isEmpty)\/(∃xs,SqT X.K H p xs/\k = !xs.isEmpty)\/∃kvs,H p=some (.dK kvs)/\k = !kvs.isEmpty:=e;rcases e' with⟨xs,hx,e'⟩|⟨xs,hx,e'⟩|⟨kvs,hx,e'⟩
  . subst e';obtain⟨its,r,pl,hz⟩:=I.list hx;have hlen:=r.length;exact wpAny_truthy_list pl.isList (by simp only[aRI];lia) ⟨H,I.tok _,by rw[u5 r];exact q⟩
  . subst e';obtain⟨its,r,pl,hz⟩:=I.tuple hx;have hlen:=r.length;exact truthy_tuple pl (by simp only[aRI];lia) ⟨H,I.tok _,by rw[u5 r];exact q⟩
  . subst e';obtain⟨hz,hS,vs,r,m⟩:kvs.length<=sizeLine/\(p==sysModules)=false/\∃vs,KV kvs vs/\s.heap.DictOf (cC X.prog X.w) p vs:=I.hok p _ hx;have hlen:kvs.length=vs.length:=aQI r;exact wpAny_truthy_dict hS m (by lia) ⟨H,I.tok _,by rw[aD3 r];exact q⟩
 |_=>exact(show False from e).elim
def aD5 (ha : PE X a ta) (he : ∀ whole, isTrue a X.env whole = (do let v ← whole; standAt a.pos; holding [v] (truthy v))) :
    PT X a (λσ H Q=>ta σ H λx H'=>∃k,pI X.K x H' k/\Q k H'):=by
 intro aA s σ H Q I h;exact isTrue_plain (thn (ha aA s σ H _ I h) λv s1 ⟨x,H1,I1,r1,q1⟩=>aD4 aA s1 σ H1 x v Q I1 r1 q1) (he _)
def aD6:OpR X (binaryOp .Add) (λx y H Q=>∃i j,x=.str i/\y=.str j/\i.length+j.length<=sizeLine/\Q (.str (i++j)) H):=by intro aA s σ H x y v u Q I rx ry h;obtain⟨i,j,rfl,rfl,hz,q⟩:=h;obtain⟨t,rfl⟩:=rx;obtain⟨t',rfl⟩:=ry;exact add_str (λt' tk=>⟨.str (i++j),H,I.tok _,⟨_,rfl⟩,q⟩) hz
def eC{x:V}(r:aM [x] us):∃u,us=[u]/\aI x u:=by
 cases r with
 |cons r1 r2=>cases r2;exact⟨_,rfl,r1⟩
def u6{x:V}(r:aM [x,y] us):∃u w',us=[u,w']/\aI x u/\aI y w':=by
 cases r with
 |cons r1 r2 =>
  cases r2 with
  |cons r3 r4=>cases r4;exact⟨_,_,rfl,r1,r3⟩
def aD7(hc:X.calm=true):cI X (.builtin "min") (λxs H Q=>∃i j,xs=[.int i,.int j]/\Q (.int (if j<i then j else i)) H):=by
 intro aA s σ H xs us Q I r h;obtain⟨i,j,rfl,q⟩:=h;obtain⟨u,w',rfl,⟨t,rfl⟩,⟨t',rfl⟩⟩:=u6 r;refine min_two_ints (I.ok.hd hc) λh' tk k=>⟨_,H,I.kept k,?_,q⟩;by_cases hj:j<i
 . rw[if_pos hj,if_pos hj];exact⟨_,rfl⟩
 . rw[if_neg hj,if_neg hj];exact⟨_,rfl⟩
def aD8:cI X (.type "int") (λxs H Q=>(∃i,xs=[.int i]/\Q (.int i) H)\/∃k,xs=[.bl k]/\Q (.int (if k then 1 else 0)) H):=by
 intro aA s σ H xs us Q I r h;rcases h with⟨i,rfl,q⟩|⟨k,rfl,q⟩
 . obtain⟨u,rfl,t,rfl⟩:=eC r;exact call_int_int ⟨.int i,H,I,⟨_,rfl⟩,q⟩
 . obtain⟨u,rfl,r1⟩:=eC r;cases r1;exact call_int_bool ⟨.int (if k then 1 else 0),H,I.tok _,⟨_,rfl⟩,q⟩
def aD9:cI X (.type "str") (λxs H Q=>∃i,xs=[.int i]/\i.natAbs.log2<1920/\Q (.str (toString i)) H):=by intro aA s σ H xs us Q I r h;obtain⟨i,rfl,hz,q⟩:=h;obtain⟨u,rfl,t,rfl⟩:=eC r;exact PySem.P.str_of_int hz ⟨.str _,H,I.tok _,⟨_,rfl⟩,q⟩
def LenV(K:Fg)(x:V)(H:Hp)(n:Nat):Prop :=
 match x with
 |.str y=>y.length<=sizeLine/\n=y.length
 |.byt y=>y.size<=sizeLine/\n=y.size
 |.ref p=>(∃xs,SqL K H p xs/\n=xs.length)\/∃xs,SqT K H p xs/\n=xs.length
 |_=>False
theorem aEA:cI X (.builtin "len") (λxs H Q=>∃x n,xs=[x]/\LenV X.K x H n/\Q (.int n) H):=by
 intro aA s σ H xs us Q I r h;obtain⟨x,n,rfl,e,q⟩:=h;obtain⟨u,rfl,rx⟩:=eC r;have hl:=kM;have hs:sizeLine=16777216:=aRH;cases x with
 |str y=>obtain⟨t,rfl⟩:=rx;obtain⟨hy,e'⟩:y.length<=sizeLine/\n=y.length:=e;subst e';exact len_str (by lia) ⟨.int _,H,I.tok _,⟨_,rfl⟩,q⟩
 |byt y=>obtain⟨t,rfl⟩:=rx;obtain⟨hy,e'⟩:y.size<=sizeLine/\n=y.size:=e;subst e';exact W.len_bytes (by lia) ⟨.int _,H,I.tok _,⟨_,rfl⟩,q⟩
 |ref p =>
  cases rx;have e':(∃xs,SqL X.K H p xs/\n=xs.length)\/∃xs,SqT X.K H p xs/\n=xs.length:=e;rcases e' with⟨xs,hx,e'⟩|⟨xs,hx,e'⟩
  . subst e';obtain⟨its,r',pl,hz⟩:=I.list hx;have hlen:=r'.length;exact Calls.call_len_list pl.isList (by simp only[aRI];lia) ⟨.int xs.length,H,I.tok _,⟨_,by simp only[aRI];rw[hlen]⟩,q⟩
  . subst e';obtain⟨its,r',pl,hz⟩:=I.tuple hx;have hlen:=r'.length;exact len_tuple pl (by simp only[aRI];lia) ⟨.int xs.length,H,I.tok _,⟨_,by simp only[aRI];rw[hlen]⟩,q⟩
 |_=>exact(show False from e).elim
end
structure mY(h:Heap)(x dx C:Addr)(mA:SOV):Prop where
 obj:h.get? x=some (W.instObj C dx)
 ns:h.Ns1 dx mA
 ne:dx≠x
def aEB(n:h.Ns1 dx mA):∃od,h.get? dx=some od/\∀name,W.lookIn name od=some (mA name):=by
 obtain⟨o,es,ep,ho,hd,hk,_,hm⟩:=n;refine⟨o,ho,λname=>?_⟩;have e:=hm name;unfold nsFind findBy at e;rw[<- Array.find?_toList]at e;unfold W.lookIn;rw[hd];dsimp only;split
 . rename_i y q;rw[q]at e;exact congrArg some e
 . rename_i q;rw[q]at e;have a:es.toList.any (·.refKey)=false:=by rw[List.any_eq_false];intro y hy;obtain⟨z,t,hkey⟩:=hk y (aRJ.mp hy);simp[DictEntry.refKey,hkey]
   have a':¬ es.toList.any (·.refKey)=true:=by rw[a];exact aQ7
   rw[if_neg a'];exact congrArg some e
def mY.look{x C:Addr}(I:mY h x dx C mA):∃od,W.InstAt h x (W.instObj C dx) C (some od)/\∀name,W.lookIn name od=some (mA name) :=
 let⟨od,ho,hl⟩:=aEB I.ns
 ⟨od,⟨I.obj,rfl,rfl,ho⟩,hl⟩
section
variable {A:aV5}{E:VSP}{x C f:Addr}{name:Str}{v:aV3}
def aEC{pl:Sem Bool}{Q:aV3×List aV3->aV4->Prop}(X:K.In s.heap)(I:mY s.heap x dx C mA)(hg:W.plainGet K C name=true)(hf:W.findIn K (.ref C) name=some (some (.ref f)))(ht:W.isFn K (.ref f)=true)(hv:mA name=none)(h:Q (.ref f,[.ref x]) s):wpAny (model prog w) A (getMethod (.ref x) name pl) Q E s:=by obtain⟨od,J,hl⟩:=I.look;exact W.method_fn X J (W.plainGet_of hg).1 (W.plainGet_of hg).2 hf (aRK.mp ht) (by show(W.lookIn name od).map (·.isSome)=some false;rw[hl,hv];rfl) h
def aED{R:Result->aV4->Prop}(X:K.In s.heap)(hm:W.makesIn K C=true)(hi:W.findIn K (.ref C) "__init__" = some (some (.builtin "object.__init__")))(hb:∀self,W.Looks (model prog w) s.heap (bindSpecial (.builtin "object.__init__") self) (.builtin "object.__init__", [self]))(h:codeAny (model prog w) (A.under (.builtin "type.__call__" ⟨[.ref C],[]⟩)) (.call (.builtin "object.__init__") ⟨[.ref (s.heap.objs.size+1)],[]⟩) (W.InitBack (s.heap.objs.size+1) R) {s with heap:=(s.heap.push W.emptyDict).push (W.instObj C s.heap.objs.size)}):codeAny (model prog w) A (.call (.ref C) ⟨[],[]⟩) R s:=by obtain⟨hh,g,d,t,os⟩:=s;exact W.make_core (W.makes_of X hm) (W.looks_findIn X hi) hb (.inr ⟨rfl,rfl⟩) h
end
def cK.some_of{o:Option aV3}(r:cK (some v) o):∃u,o=some u/\aI v u:=by
 cases o with
 |none=>exact(show False from r).elim
 |some u=>exact⟨u,rfl,r⟩
def cK.none_of{o:Option aV3}(r:cK none o):o=none:=by
 cases o with
 |none=>rfl
 |some u=>exact(show False from r).elim
section
variable  {a C:Addr}{fs fs':List (Str×V)}
def aEE(hok:HOk P w H h)(e:H a=some (.ins C dx fs)):∃mA,mY h a dx C mA/\(∀f,cK (fs.lookup f) (mA f))/\PySem.Within mA (fs.map (·.1))/\fs.length<=1000/\H dx=some (.own a):=by
 obtain⟨d,z,ne,ob,mA,n,r,q⟩:=(show bD P w H h a (.ins C dx fs)from hok a _ e)
 exact⟨mA,⟨ob,n,ne⟩,r,q,z,d⟩
end
structure Cls(K:Fg)(C:Addr):Prop where
 pg:W.plainGet K C Str.empty=true
 hd:W.hasDictIn K C=true
 po:W.plainOver K C=true
 sa:W.findIn K (.ref C) "__setattr__" = some (some (.builtin "object.__setattr__"))
def Cls.get{C:Addr}(c:Cls K C)(f:Str):W.plainGet K C f=true:=c.pg
def pJ(K:Fg)(C:Addr)(f:Str):Prop:=W.findIn K (.ref C) f=some none
structure kN(K:Fg)(C:Addr)(m:Str)(f:Addr):Prop where
 at_:W.findIn K (.ref C) m=some (some (.ref f))
 fn:W.isFn K (.ref f)=true
 kp:W.keepIn K (.ref f)=true
section
variable {σ:St}{a C:Addr}{fs:List (Str×V)}{f:Str}{A:aV5}{E:VSP}
def aEF{m:Str}{g:Addr}{pl:Sem Bool}{Q:aV3×List aV3->aV4->Prop}(I:Inv X aA σ H s)(e:H a=some (.ins C dx fs))(c:Cls X.K C)(k:kN X.K C m g)(l:fs.lookup m=none)(h:Q (.ref g,[.ref a]) s):wpAny (model X.prog X.w) A (getMethod (.ref a) m pl) Q E s:=by
 obtain⟨mA,O,r,_,_,_⟩:=aEE I.hok e;have hn:mA m=none:=cK.none_of (by rw[<- l];exact r m)
 exact aEC I.kIn O (c.get m) k.at_ k.fn hn h
def Inv.made(I:Inv X aA σ H s):Inv X aA σ (upd (upd H s.heap.objs.size (.own (s.heap.objs.size+1))) (s.heap.objs.size+1) (.ins C s.heap.objs.size [])) {s with heap:=(s.heap.push W.emptyDict).push (W.instObj C s.heap.objs.size)}:=by
 have e1:(s.heap.push W.emptyDict).get? s.heap.objs.size=some W.emptyDict:=aQK s.heap rfl;have e2:((s.heap.push W.emptyDict).push (W.instObj C s.heap.objs.size)).get? (s.heap.objs.size+1)=some (W.instObj C s.heap.objs.size):=by
  have:=aQK (s.heap.push W.emptyDict) (o:=W.instObj C s.heap.objs.size) rfl
  rwa [aRL]at this
 have e3:(s.heap.push W.emptyDict).Ns s.heap.objs.size (λ_=>none):=⟨W.emptyDict,#[],_,e1,rfl,(λe he=>absurd he (by simp)),λ_=>rfl⟩
 have I1:=I.laid (a:=s.heap.objs.size) (o:=.own (s.heap.objs.size+1)) (h':=s.heap.push W.emptyDict) (t':=s.toks) (λb u q=>hps q) (aRD _) ⟨_,e1⟩;refine I1.laid (a:=s.heap.objs.size+1) (o:=.ins C s.heap.objs.size []) (t':=s.toks) (λb u q=>hps q) (Nat.le_of_eq (aRL _ _)) ?_;have ne:s.heap.objs.size≠s.heap.objs.size+1:=aQO (aRM _);refine⟨by rw[aJ ne,aV],aRN _,ne,e2,λ_=>none,(Heap.Ns1.of_empty e3).at λo q=>hps q,λ_=>True.intro,λy hy=>absurd rfl hy⟩
end
section
variable  {o value:Expr}{f:Str}{tpos:Pos}
def aEG {pl : Sem Bool} {m : Str} {apos : Pos} {args : List Expr} {aA : List (Addr × Obj)} {s : aV4} {σ : St} {H : Hp} {Q : aV3 → aV4 → Prop} {te : TE} (he : PE X e te) (I : Inv X aA σ H s) (h : te σ H fun x H1 => ∃ a C dx fs g, x = .ref a ∧ H1 a = some (.ins C dx fs) ∧ Cls X.K C ∧ kN X.K C m g ∧ fs.lookup m = none ∧ ∀ s1, Inv X aA σ H1 s1 → wpAny (model X.prog X.w) X.A (callWith pos (.ref g) [.ref a] (backTo pos (starEach args X.env)) (backToKw pos (keywordEach [] X.env))) Q X.xe s1)
    (ht:eval (.Call (.Attribute e m apos) args [] pos) X.env=(do
     let ov <- eval e X.env
     standAt apos.atName
     let(f,first) <- holding [ov] (getMethod ov m pl)
     callWith pos f first (backTo pos (starEach args X.env)) (backToKw pos (keywordEach [] X.env)))) :
    wpAny (model X.prog X.w) X.A (eval (.Call (.Attribute e m apos) args [] pos) X.env) Q X.xe s:=by
 refine W.methodCall_KW (pl:=pl) (thn (he aA s σ H _ I h) λu s1 ⟨x,H1,I1,rx,a,C,dx,fs,g,ex,ea,c,k,l,q⟩=>?_) ht;subst ex;obtain rfl:u=Value.ref a:=rx;exact aEF I1 ea c k l (q s1 I1)
end
structure cA(k:Nat)(A:aV5):Prop where
 hd:A.handled=none
 dp:A.depth+3 * k+5<recursionLimit
 un:A.units+16 * k+200<cLine
theorem cA.deeper{A:aV5}(r:cA (k+1) A)(env:Env):cA k (A.deeper env) :=
 ⟨r.hd,by have:=r.dp;show A.depth+1+3 * k+5<_;lia,by have:=r.un;show A.units+3+16 * k+200<_;lia⟩
theorem cA.depth{A:aV5}(r:cA k A):A.depth<recursionLimit:=by have:=r.dp;lia
theorem cA.units{A:aV5}(r:cA k A):A.units+64<cLine:=by have:=r.un;lia
def pK:TA:=λ_ H Q=>Q [] H
def kP(ta:TE)(tr:TA):TA:=λσ H Q=>ta σ H λx H1=>tr σ H1 λxs H2=>Q (x::xs) H2
section
variable {es:List Expr}{t:TA}
def kQ:PA X [] pK:=λ_ _ _ _ H Q I h=>aRO ⟨[],H,I,.nil,h⟩
def kR(ha:PE X e te)(hr:PA X es t)(hs:starEach (e::es) X.env=(false,eval e X.env)::starEach es X.env:=by rfl):PA X (e::es) (kP te t):=by intro pos aA s σ H Q I h;rw[hs];show wpAny _ _ (spliced ((false,eval e X.env)::backTo pos (starEach es X.env))) _ _ s;refine aRP (thn (ha aA s σ H _ I h) λu s1 ⟨x,H1,I1,r1,q1⟩=>?_);exact thn (hr pos aA s1 σ H1 _ I1 q1) λus s2 ⟨xs,H2,I2,r2,q2⟩=>⟨x::xs,H2,I2,.cons r1 r2,q2⟩
def tTup(t:TA):TE:=λσ H Q=>t σ H λxs H1=>xs.length<=sizeLine/\∀p,H1 p=none->Q (.ref p) (upd H1 p (.tup xs))
def tLst(t:TA):TE:=λσ H Q=>t σ H λxs H1=>xs.length<=sizeLine/\∀p,H1 p=none->Q (.ref p) (upd H1 p (.lst xs))
def aEH{x1}(h:PA X es t):PE X (.Tuple es x1 pos) (tTup t):=by
 intro aA s σ H Q I hq;refine wpAny_Tuple_spliced (thn (h pos aA s σ H _ I hq) λus s1 ⟨xs,H1,I1,r,z,q⟩=>⟨by rw[<- r.length];exact z,?_⟩)
 have hf:H1 s1.heap.objs.size=none:=I1.hok.fresh (aRD _);refine⟨.ref s1.heap.objs.size,upd H1 s1.heap.objs.size (.tup xs),I1.laid (t':=s1.toks) (λb u e=>hps e) (aRD _) ?_,rfl,q _ hf⟩;exact⟨z,us,r,⟨_,aQK _ rfl,rfl,rfl,_,rfl⟩⟩
def aEI(h:PA X es t):PE X (.List es pos) (tLst t):=by
 intro aA s σ H Q I hq;refine wpAny_List_spliced (thn (h pos aA s σ H _ I hq) λus s1 ⟨xs,H1,I1,r,z,q⟩=>⟨by rw[<- r.length];exact z,?_⟩)
 have hf:H1 s1.heap.objs.size=none:=I1.hok.fresh (aRD _);refine⟨.ref s1.heap.objs.size,upd H1 s1.heap.objs.size (.lst xs),I1.laid (t':=s1.toks) (λb u e=>hps e) (aRD _) ?_,rfl,q _ hf⟩;exact⟨z,us,0,r,aQK _ rfl⟩
end
abbrev Sp:=List V->Hp->VK->XK->Prop
abbrev CXT:=List Env->Hp->aV4->XK->aV3->aV4->Prop
structure kS(P:aV7)(w:aV6)(K:Fg)(mg:SOV)(base:Heap)(A:aV5)(outer:List Env)(s:aV4)(H:Hp):Prop where
 frames:A.frames=some outer
 mod:Mod K mg base
 bs:∀b o,base.get? b=some o->s.heap.get? b=some o/\H b=none
 bsz:base.objs.size<=s.heap.objs.size
 funs:s.heap.FunFrames base outer
 frf:∀b∈frs outer,H b=none
 hok:HOk P w H s.heap
 bare:AllBare s.gens
 tabs:jA K base H
def CE(outer:List Env)(P:aV7)(w:aV6)(H:Hp)(s:aV4)(Q:VK)(u:aV3)(s':aV4):Prop :=
 ∃v H',s'.os=s.os/\AllBare s'.gens/\Un (frs outer) [] H H' s.heap s'.heap/\HOk P w H' s'.heap/\aI v u/\Q v H'
def CR(CX:CXT)(outer:List Env)(P:aV7)(w:aV6)(H:Hp)(s:aV4)(Q:VK)(E:XK)(r:Result)(s':aV4):Prop :=
 match r with
 |.ok (.ret u)=>CE outer P w H s Q u s'
 |.ok _=>False
 |.error e=>CX outer H s E e s'
structure bS(P:aV7)(w:aV6)(K:Fg)(mg:SOV)(base:Heap)(CX:CXT)(k:Nat)(f:Addr)(fd:FuncData)(ps:List Str)(sp:Sp):Prop where
 len:∀vs H Q E,sp vs H Q E->vs.length=ps.length
 run:∀(A:aV5) (outer:List Env) (s:aV4) (H:Hp) (args:Args) (us:List aV3) (vs:List V) (Q:VK) (E:XK),cA k A->kS P w K mg base A outer s H->BindsTo s fd args (ps.zip us)->aM vs us->sp vs H Q E ->
  codeAny (model P w) A (.call (.ref f) args) (CR CX outer P w H s Q E) s
def bS.imp{CX:CXT}{f:Addr}{sp sp':Sp}(F:bS P w K mg base CX k f fd ps sp)(h:∀vs H Q E,sp' vs H Q E->sp vs H Q E):bS P w K mg base CX k f fd ps sp' :=
 ⟨λvs H Q E q=>F.len vs H Q E (h _ _ _ _ q),λA outer s H args us vs Q E hr he hb hv hs=>F.run A outer s H args us vs Q E hr he hb hv (h _ _ _ _ hs)⟩
section
variable {σ:St}
def Inv.env0(I:Inv X aA σ H s):kS X.prog X.w X.K X.mg X.base X.A X.stack s H :=
 ⟨I.ok.frames,I.ok.mod,I.bs,aQR I.ok.bsz I.sz,I.stack,I.stkFree,I.hok,I.bare,I.ok.tabs.mono I.base.tbls⟩
def Inv.after{Q:VK}(I:Inv X aA σ H s)(h:CE X.stack X.prog X.w H s Q u s'):EP X aA σ Q u s':=by obtain⟨v,H',os,bare,un,hok,r,q⟩:=h;obtain⟨hh,g,d,t,os'⟩:=s';obtain rfl:os'=s.os:=os;exact⟨v,H',I.call (h':=hh) (g':=g) (d':=d) (t':=t) (ch:=[]) un hok bare (λb z=>absurd z (by simp)),r,q⟩
end
end L2
variable {CX:L2.CXT}{sp:L2.Sp}
namespace L2
def dA(K:Fg)(fd:FuncData)(ps:List Str)(ds:List aV3):Prop :=
 ∀(s:aV4) (us:List aV3),K.In s.heap->(us++ds).length=ps.length->BindsTo s fd ⟨us,[]⟩ (ps.zip (us++ds))
def dA.all(h:∀us:List aV3,us.length=ps.length->bindArgs fd ⟨us,[]⟩=pure (ps.zip us)):dA K fd ps []:=λs us _ hl=>by rw[aRQ]at hl ⊢;exact .of_eq (h us hl)
section
variable {f C:Addr}{dvs:List V}{ds:List aV3}{E:XK}{m:Str}{o:Expr}{es:List Expr}{t:TA}
structure Mk(K:Fg)(C f:Addr):Prop where
 makes:W.makesIn K C=true
 init:W.findIn K (.ref C) "__init__" = some (some (.ref f))
 fn:W.isFn K (.ref f)=true
 kp:W.keepIn K (.ref C)=true
end
structure jC(N P:List Str)(sc:Scope):Prop where
 kind:sc.kind=.function
 co:sc.isCoroutine=false
 gen:sc.isGenerator=false
 nd:N.Nodup
 pre:N.take P.length=P
 par:∀x∈P,sc.names.lookup x=some .local\/sc.names.lookup x=some .cell
 nofree:∀y∈sc.names,y.2 ≠ .free
theorem vA{kindOf:Str->Option NameKind}{x:Str}:∀{binds:List (Str×aV3)}{m:SOV},(∀v,(x,v)∉binds)->bindL kindOf binds m x=m x
 |[],_,_=>rfl
 |(n,v)::r,m,h=>by
  unfold bindL;rw[vA λw hw=>h w (mcm hw)];split
  . have:x≠n:=by rintro rfl;exact h v mcs
    simp[this]
  . rfl
theorem vB{kindOf:Str->Option NameKind}{x:Str}:∀{binds:List (Str×aV3)}{m:SOV},(∀v,(x,v)∉binds)->bindC kindOf binds m x=m x
 |[],_,_=>rfl
 |(n,v)::r,m,h=>by
  unfold bindC;rw[vB λw hw=>h w (mcm hw)];split
  . rfl
  . have:x≠n:=by rintro rfl;exact h v mcs
    simp[this]
theorem vD{kindOf:Str->Option NameKind}{x:Str}{v:aV3}:∀{P:List Str}{vs:List aV3}{i:Nat}{m:SOV},P.Nodup->P[i]? = some x->vs[i]? = some v->kindOf x=some .local->bindL kindOf (P.zip vs) m x=some v
 |[],_,_,_,_,h,_,_=>by simp at h
 |_::_,[],_,_,_,_,h,_=>by simp at h
 |p::P,w::vs,0,m,nd,h1,h2,hk=>by simp at h1 h2;subst h1;subst h2;show bindL kindOf ((p,w)::P.zip vs) m p=_;unfold bindL;rw[vA λv hv=>(aRR.mp nd).1 (aRS hv).1,if_pos hk];simp
 |p::P,w::vs,i+1,m,nd,h1,h2,hk=>by show bindL kindOf ((p,w)::P.zip vs) m x=_;unfold bindL;exact vD (i:=i) (aRR.mp nd).2 (by simpa using h1) (by simpa using h2) hk
theorem vE{kindOf:Str->Option NameKind}{x:Str}{v:aV3}:∀{P:List Str}{vs:List aV3}{i:Nat}{m:SOV},P.Nodup->P[i]? = some x->vs[i]? = some v->kindOf x≠some .local->bindC kindOf (P.zip vs) m x=some v
 |[],_,_,_,_,h,_,_=>by simp at h
 |_::_,[],_,_,_,_,h,_=>by simp at h
 |p::P,w::vs,0,m,nd,h1,h2,hk=>by simp at h1 h2;subst h1;subst h2;show bindC kindOf ((p,w)::P.zip vs) m p=_;unfold bindC;rw[vB λv hv=>(aRR.mp nd).1 (aRS hv).1,if_neg hk];simp
 |p::P,w::vs,i+1,m,nd,h1,h2,hk=>by show bindC kindOf ((p,w)::P.zip vs) m x=_;unfold bindC;exact vE (i:=i) (aRR.mp nd).2 (by simpa using h1) (by simpa using h2) hk
def cD(N:List Str)(vs:List V):St:=vs.map some++List.replicate (N.length-vs.length) none
noncomputable def cR(CX:CXT)(P:aV7)(w:aV6)(K:Fg)(mg:SOV)(base:Heap)(N:List Str)(qual:Str)(scope:Scope)(f:Addr)(cd:aV3)(A:aV5)(outer:List Env)(s:aV4)(H:Hp)(E:XK):Cx where
 prog:=P
 w:=w
 K:=K
 mg:=mg
 base:=base
 A:=A.deeper (envOfC qual scope s.heap.objs.size f cd)
 N:=N
 s₀:=s
 H₀:=H
 env:=envOfC qual scope s.heap.objs.size f cd
 outer:=outer
 stack:=envOfC qual scope s.heap.objs.size f cd::outer
 ex:=[]
 calm:=true
 fn:=λ_=>true
 pn:=[]
 xe:=λe s'=>wpAny (model P w) (A.deeper (envOfC qual scope s.heap.objs.size f cd)) (leaving (envOfC qual scope s.heap.objs.size f cd) e) (λ_ s''=>CX outer H s E e s'') (λe' s''=>CX outer H s E e' s'') s'
def vF(h:sc.names.lookup x=some .cell):∃c,(cellsFrom n sc.names []).lookup x=some c:=by have q:=aRT sc.names n [] (.inl h);exact Option.isSome_iff_exists.mp q
theorem vG{N:List Str}{f:Addr}{cd:aV3}{A:aV5}{s1:aV4}{E:XK}{vs:List V}(S:jC N ps scope)(hd:A.handled=none)(e0:kS P w K mg base A outer s H)(hl:vs.length=ps.length)(r:aM vs us)(x:InCallC s s.heap.objs.size (bindL (envOfC qual scope s.heap.objs.size f cd).kindOf (ps.zip us) λ_=>none) (cellsFrom (s.heap.objs.size+1) scope.names []) (bindC (envOfC qual scope s.heap.objs.size f cd).kindOf (ps.zip us) λ_=>none) s1):Inv (cR CX P w K mg base N qual scope f cd A outer s H E) [] (cD N vs) H s1:=by
 have hpl:ps.length<=N.length:=by have:=congrArg List.length S.pre;rw[aRU]at this;lia
 obtain⟨h1,tk,rfl,hk⟩:=x.done;have noA:∀b:Addr,b∉(cR CX P w K mg base N qual scope f cd A outer s H E).ex:=λb z=>absurd (show b∈([]:List Addr)from z) (by simp)
 refine⟨⟨e0.mod,S.kind,rfl,rfl,aRD _,λy z c h1 h2=>?_,λy hy=>?_,λy c _ h=>?_,λ_=>hd,Around.frames_deeper e0.frames,.inr ⟨rfl,rfl⟩,λb z=>absurd z (noA b),e0.bs,e0.bsz,λb _ _=>noA b,λb z=>absurd z (noA b),e0.funs,e0.frf,e0.tabs⟩,
  rfl,e0.bare,Un.kept hk,⟨_,x.toInCall.ns,λi y v h1 h2 h3=>?_⟩,λy c h=>⟨_,x.cell y c h⟩,e0.hok.fresh (aRD _),λy c h=>?_,λp hp=>absurd (show p∈([]:LAO)from hp) (by simp),e0.hok.kept hk,?_⟩
 . exact name_of_addr x.apart (aRV h1) (aRV h2)
 . have hy:scope.names.lookup y=some .cell\/scope.names.lookup y=some .free:=hy;rcases hy with hy|hy
   . exact vF hy
   . exact absurd rfl (S.nofree _ (aRV hy))
 . exact aQS (x.above y c (aRV h))
 . have hi:i<vs.length:=by
     unfold cD at h2;by_cases hi:i<vs.length
     . exact hi
     . rw[aRW (by simpa using hi)]at h2
       rw[aRX]at h2;split at h2 <;> cases h2
   have ha:vs[i]? = some v:=by
    unfold cD at h2;rw[aRY (by simpa using hi),aRZ]at h2
    cases e:vs[i]? with
    |none=>rw[e]at h2;cases h2
    |some a=>rw[e]at h2;cases h2;rfl
   obtain⟨u,hu,rv⟩:=r.get ha;have hp:ps[i]? = some y:=by rw[<- S.pre,List.getElem?_take_of_lt (by lia)];exact h1
   have ndP:ps.Nodup:=by rw[<- S.pre];exact S.nd.sublist (List.take_sublist _ _)
   refine⟨u,rv,?_⟩;rcases S.par y (aR0 hp)with k|k
   . exact .inl ⟨k,vD ndP hp hu k⟩
   . obtain⟨c,e⟩:=vF (n:=s.heap.objs.size+1) k;refine .inr ⟨.inl k,c,e,?_⟩;have q:=x.cell y c e;rw[vE ndP hp hu (by show scope.names.lookup y≠_;rw[k];decide)]at q
     exact q
 . exact e0.hok.fresh (aQS (x.above y c (aRV h)))
 . unfold cD;show _=N.length;rw[aR1,aR2,List.length_replicate];lia
def fn_of{f:Addr}{name:Str}{params:Arguments}{dV kV doc pm ct oc:aV3}{an od:Option Addr}{osl:Array (Option aV3)}{N:List Str}(lk:K.lookup f=some ⟨oc,od,.func (W.fnOf name qual params body scope dV kV doc pm an cdv ct),osl⟩)(hcd:W.codeIn K cdv qual=true)(S:jC N ps scope)(len:∀vs H Q E,sp vs H Q E->vs.length=ps.length)(hbody:∀(A:aV5) (outer:List Env) (s:aV4) (H:Hp) (vs:List V) (Q:VK) (E:XK),cA k (A.deeper (envOfC qual scope s.heap.objs.size f cdv))->sp vs H Q E->∃t,PSs (cR CX P w K mg base N qual scope f cdv A outer s H E) body t/\t {nx:=λ_ H'=>Q .non H',rt:=Q} (cD N vs) H):bS P w K mg base CX (k+1) f (W.fnOf name qual params body scope dV kV doc pm an cdv ct) ps sp:=by
 refine⟨len,λA outer s H args us vs Q E hr e0 hb r hsp=>?_⟩;have hl:=len _ _ _ _ hsp;have KX:K.In s.heap:=e0.mod.kin.keeps λb o e=>(e0.bs b o e).1;have lim:s.heap.NoLimit:=e0.mod.nolimit.keeps λb o e=>(e0.bs b o e).1;have cZ:∀y∈ps.zip us,scope.names.lookup y.1=some .local\/(scope.names.lookup y.1=some .cell/\((cellsFrom (s.heap.objs.size+1) scope.names []).lookup y.1).isSome=true):=λ⟨n,v⟩ hy=>by
  rcases S.par n (aRS hy).1 with q|q
  . exact .inl q
  . exact .inr ⟨q,aRT _ _ _ (.inl q)⟩
 refine aR3 hr.depth (KX _ _ lk) rfl S.co S.gen rfl (W.codeRec_of KX hcd) (hb _ _ _ _ ?_);refine wpAny_newFunctionEnv_cells S.kind cZ λenv he s1 x=>?_;subst he;refine⟨lim.keeps x.toInCall.keep,codeAny_func ?_⟩;obtain⟨t,ht,hq⟩:=hbody A outer s H vs Q E (hr.deeper _) hsp;have I:Inv (cR CX P w K mg base N qual scope f cdv A outer s H E) [] (cD N vs) H s1:=vG S hr.hd e0 hl r x;refine aQ0 (ht [] s1 (cD N vs) H _ I hq) (λfl s' hs=>?_) λe s' hs=>hs;have fin:∀{σ':St}{H':Hp}{v:V}{u:aV3},Inv (cR CX P w K mg base N qual scope f cdv A outer s H E) [] σ' H' s'->aI v u->Q v H'->CE outer P w H s Q u s' :=
  λ{σ' H' v u} J rv q=>⟨v,H',J.os,J.bare,J.base,J.hok,rv,q⟩
 cases fl with
 |ret u=>obtain⟨v,σ',H',J,rv,q⟩:=hs;exact fin J rv q
 |next=>obtain⟨σ',H',J,q⟩:=hs;exact fin (v:=V.non) (u:=Value.none) J rfl q
 |brk=>obtain⟨_,_,_,q⟩:=hs;exact False.elim q
 |cont=>obtain⟨_,_,_,q⟩:=hs;exact False.elim q
section
variable {es:List Expr}{t:TA}{id T:String}{r:List V->Hp->VK->Prop}
def tCB(r:List V->Hp->VK->Prop)(t:TA):TE:=λσ H Q=>t σ H λvs H1=>r vs H1 Q
def vH(hc:cI X (.builtin id) r)(hg:Gl X x)(hm:X.mg x=none)(hv:bootBuiltins x=some (.builtin id))(ha:PA X (e::es) t)(hn:x ≠ "__name__" := by decide)(hdb:(x==("__debug__":Str))=false:=by decide)(he:starEach (e::es) X.env=(false,eval e X.env)::starEach es X.env:=by rfl)(hpl:(backTo pos (starEach es X.env)).any (·.1)=false:=by rfl):PE X (.Call (.Name x p) (e::es) [] pos) (tCB r t):=by intro aA s σ H Q I h;refine aR4 (kJ I hg hm hv ?_ hn hdb);exact PyProof.Rows.callWith_builtin1 (thn (ha pos aA s σ H _ I h) λus s1 ⟨vs,H1,I1,r1,q1⟩=>hc aA s1 σ H1 vs us Q I1 r1 q1) he hpl
def pL(hc:cI X (.type T) r)(hg:Gl X x)(hm:X.mg x=none)(hv:bootBuiltins x=some (.type T))(ha:PA X (e::es) t)(hn:x ≠ "__name__" := by decide)(hdb:(x==("__debug__":Str))=false:=by decide)(he:starEach (e::es) X.env=(false,eval e X.env)::starEach es X.env:=by rfl)(hpl:(backTo pos (starEach es X.env)).any (·.1)=false:=by rfl):PE X (.Call (.Name x p) (e::es) [] pos) (tCB r t):=by intro aA s σ H Q I h;refine aR4 (kJ I hg hm hv ?_ hn hdb);exact aRE (thn (ha pos aA s σ H _ I h) λus s1 ⟨vs,H1,I1,r1,q1⟩=>hc aA s1 σ H1 vs us Q I1 r1 q1) he hpl
end
end L2
namespace HT
section
open PySem.SeqAt
open PySem.AutoSeq1 (wpAny_loadPart')
open PySem.MeetsSeq PySem.MeetsSeq2 PySem.MeetsSeq3
end
section
variable {A:aV5}{E:VSP}
def aEJ{t:Addr}{ws:List aV3}{Q:VSP}(ht:IsTup s.heap t vs.toArray)(hb:IsTup s.heap b ws.toArray)(hv:vs≠[])(h1:ws=[]->Q (.ref t) s)(h2:ws≠[]->Q (.ref s.heap.objs.size) { s with heap:=s.heap.push { cls:=.type "tuple", data:=.seq (vs++ws).toArray } })(hsz:vs.length+ws.length<=sizeLine):wpAny (model prog w) A (binaryOp .Add (.ref t) (.ref b)) Q E s:=by
 obtain⟨⟨cls,dd,data,sl⟩,ho,hc,n,hd⟩:=id ht;obtain⟨⟨cls2,dd2,data2,sl2⟩,ho2,hc2,n2,hd2⟩:=id hb;simp only at hc hd hc2 hd2;subst hc hd hc2 hd2;have e:vs.toArray++ws.toArray=(vs++ws).toArray:=by simp
 by_cases hw:ws=[]
 . exact aR5 ⟨_,ho,rfl⟩ ⟨_,ho2,rfl⟩ aR6 seq_tuple_add aR7 aR8 (aR9 _ _)
     (tuple_addW1 t b vs.toArray ws.toArray n n2 dd dd2 sl sl2 (by simpa using hv) (by simp[hw])) ⟨ho,ho2,h1 hw⟩
 . refine aR5 ⟨_,ho,rfl⟩ ⟨_,ho2,rfl⟩ aR6 seq_tuple_add aR7 aR8 (aR9 _ _)
     (tuple_addW2 t b vs.toArray ws.toArray n n2 dd dd2 sl sl2 (by simpa using hv) (by simpa using hw) (by rw[aRI,aRI];exact hsz)) ⟨ho,ho2,?_⟩
   rw[e];exact h2 hw
def sIx(n d:Nat):Option Int->Nat
 |none=>d
 |some v=>if v<0 then(v+(n:Int)).toNat else min v.toNat n
theorem aEK(n d:Nat)(hd:d<=n)(o:Option Int):sIx n d o<=n:=by
 cases o with
 |none=>exact hd
 |some v =>
  show(if v<0 then(v+(n:Int)).toNat else min v.toNat n)<=n;by_cases hv:v<0
  . rw[if_pos hv];lia
  . rw[if_neg hv];exact Nat.min_le_right _ _
theorem vI(v:Int)(n d:Nat):(if v<0 then max (v+(n:Int)) 0 else min v (n:Int))=((sIx n d (some v):Nat):Int):=by
 show(if v<0 then max (v+(n:Int)) 0 else min v (n:Int))=(((if v<0 then(v+(n:Int)).toNat else min v.toNat n):Nat):Int);by_cases hv:v<0
 . simp only[if_pos hv];lia
 . simp only[if_neg hv];lia
theorem aEL(lo hi:Option Int)(n:Nat):Builtin.Slice.sliceAdjust lo hi 1 (n:Int)=(((sIx n 0 lo:Nat):Int),((sIx n n hi:Nat):Int)):=by
 have h1:¬ ((1:Int)<0):=by lia
 unfold Builtin.Slice.sliceAdjust;simp only[h1,aSA];refine Prod.ext ?_ ?_
 . cases lo with
   |none=>rfl
   |some v=>exact vI v n 0
 . cases hi with
   |none=>rfl
   |some v=>exact vI v n n
theorem aEM(i j:Nat):Builtin.Slice.slicePlaces (i:Int) (j:Int) 1=j-i:=by
 unfold Builtin.Slice.slicePlaces;have h1:(1:Int) > 0:=by lia
 simp only[h1,if_true,Int.ediv_one];split <;> lia
def vJ{v:aV3}{o:Option Int}{Q:Option Int->aV4->Prop}(p:IsPart v o)(h:Q o s):wpAny (model prog w) A (Builtin.Slice.slicePartIndex v) Q E s:=by
 cases p with
 |none=>exact slicePart_none h
 |int i t=>exact slicePart_int h
def vK{sl:Addr}{vl vu:aV3}{Q:Int×Int×Nat->aV4->Prop}(hs:s.heap.IsSliceOf sl vl vu .none)(pl:IsPart vl lo)(pu:IsPart vu hi)(h:Q (((sIx n 0 lo:Nat):Int),1,sIx n n hi-sIx n 0 lo) s):wpAny (model prog w) A (Builtin.Slice.sliceApplied (.ref sl) (pure (n:Int))) Q E s:=by
 obtain⟨os,hos,hcs,hds⟩:=id hs;unfold Builtin.Slice.sliceApplied Builtin.Slice.sliceFields;refine aRA (aRA (aSB hos hds (x:=vl) rfl (aRA (aSB hos hds (x:=vu) rfl (aRA (aSB hos hds (x:=.none) rfl (aQ9 ?_)))))));refine aRA (slicePart_none ?_);show wpAny _ _ (if((1:Int)==0)=true then _ else _) _ _ s;rw[if_neg (by decide)]
 refine aRA (vJ pl (aRA (vJ pu (aRA (aQ9 ?_)))));show wpAny _ _ (match Builtin.Slice.sliceAdjust lo hi 1 (n:Int)with|(lo,hi)=>pure (lo,(1:Int),Builtin.Slice.slicePlaces lo hi 1)) _ _ s
 rw[aEL lo hi n];show wpAny _ _ (pure (((sIx n 0 lo:Nat):Int),(1:Int),Builtin.Slice.slicePlaces ((sIx n 0 lo:Nat):Int) ((sIx n n hi:Nat):Int) 1)) _ _ s;rw[aEM];exact aQ9 h
theorem aEN(xs:Array aV3)(i k:Nat):((List.range k).filterMap λ(m:Nat)=>xs[((i:Int)+(m:Int) * 1).toNat]?).toArray=((xs.toList.drop i).take k).toArray:=by
 have e:(λ(m:Nat)=>xs[((i:Int)+(m:Int) * 1).toNat]?)=λm=>xs[i+m]?:=by
  funext m;have:((i:Int)+(m:Int) * 1).toNat=i+m:=by lia
  rw[this]
 rw[e];have:=pick_run xs i k;rw[List.filterMap_map]at this;have e2:((λx=>xs[x]?) ∘ λx=>i+x)=λm=>xs[i+m]?:=rfl;rw[e2]at this;rw[this]
theorem aEO{t sl:Addr}{vl vu:aV3}{Q:VSP}(ht:IsTup s.heap t items)(hs:s.heap.IsSliceOf sl vl vu .none)(pl:IsPart vl lo)(pu:IsPart vu hi)(hw:¬ (sIx items.size 0 lo=0/\sIx items.size items.size hi=items.size))(h:Q (.ref s.heap.objs.size) { s with heap:=s.heap.push { cls:=.type "tuple", data:=.seq ((items.toList.drop (sIx items.size 0 lo)).take (sIx items.size items.size hi-sIx items.size 0 lo)).toArray } })(hsz:items.size<=sizeLine):wpAny (model prog w) A (getItem (.ref t) (.ref sl)) Q E s:=by
 have htake:sizeOk (.seq ((items.toList.drop (sIx items.size 0 lo)).take (sIx items.size items.size hi-sIx items.size 0 lo)).toArray):=by show((items.toList.drop (sIx items.size 0 lo)).take (sIx items.size items.size hi-sIx items.size 0 lo)).toArray.size<=sizeLine;rw[aRI,aRU,aSC,aQ2];lia
 have hj:sIx items.size items.size hi<=items.size:=aEK _ _ (aRD _) hi;obtain⟨os,hos,hcs,hds⟩:=id hs;have hTs:s.TypeIs (.ref sl) "slice" := ⟨os,hos,hcs⟩;unfold getItem
 try with_reducible refine aSD ?_
 first|refine aRA (aQ9 ?_)|skip
 refine aRA (wpAny_sequenceKey ht.typeIs (by decide) ?_)
 refine aRA (aSE (name:=Str.ofString "__getitem__") ht.typeIs aSF
  (aSG aSF ht.typeIs entry_tuple_getitem ?_ (args_tuple_getitem _ _)))
 show wpAny _ _ (Builtin.Tuple.tupleItemsOf (.ref t)>>=_) _ _ s;refine aRA (tupleItemsOf_ ht ?_);refine aRA (aSH hTs ?_);rw[if_pos (by decide)]
 refine aRA (vK hs pl pu ?_);have hno:¬ ((((sIx items.size 0 lo:Nat):Int)==0&&(1:Int)==1&&(sIx items.size items.size hi-sIx items.size 0 lo)==items.size)=true):=by intro q;rw[aSI,aSI]at q;have q1:((sIx items.size 0 lo:Nat):Int)=0:=eq_of_beq q.1.1;have q2:sIx items.size items.size hi-sIx items.size 0 lo=items.size:=eq_of_beq q.2;exact hw ⟨by lia,by lia⟩
 show wpAny _ _ (if(((sIx items.size 0 lo:Nat):Int)==0&&(1:Int)==1&&(sIx items.size items.size hi-sIx items.size 0 lo)==items.size)=true then _ else _) _ _ s;rw[if_neg hno,aEN]
 first
  |exact aRA (m:=Builtin.Tuple.tupleExact _) (aSJ (aQ9 ⟨_,rfl,aQ9 h⟩) htake)
  |exact aRA (m:=Builtin.Tuple.tupleExact _) (aSJ (aRA (aQ9 (aQ9 ⟨_,rfl,aQ9 h⟩))) htake)
  |exact aRA (aRA (m:=Builtin.Tuple.tupleExact _) (aSJ (aQ9 (aQ9 ⟨_,rfl,aQ9 h⟩)) htake))
  |exact aRA (aRA (m:=Builtin.Tuple.tupleExact _) (aSJ (aQ9 ⟨_,rfl,aQ9 h⟩) htake))
end
end HT
namespace L2
abbrev TO:=St->Hp->(Option Int->Hp->Prop)->Prop
def PO(X:Cx)(e:Option Expr)(t:TO):Prop :=
 ∀(aA:LAO) (s:aV4) (σ:St) (H:Hp) (Q:Option Int->Hp->Prop),Inv X aA σ H s->t σ H Q ->
  wpAny (model X.prog X.w) X.A (evalPart e X.env) (λu s'=>∃o H',Inv X aA σ H' s'/\IsPart u o/\Q o H') X.xe s
def vL:TO:=λ_ H Q=>Q none H
def mZ(t:TE):TO:=λσ H Q=>t σ H λx H1=>∃i,x=.int i/\Q (some i) H1
section
variable {lo hi:Option Expr}{tl th:TO}
def aEP:PO X none vL:=by intro aA s σ H Q I h;rw[evalPart_none];exact aQ9 ⟨none,H,I,.none,h⟩
def aEQ(h:PE X e te):PO X (some e) (mZ te):=by intro aA s σ H Q I hw;rw[evalPart_some];refine thn (h aA s σ H _ I hw) λu s1 ⟨x,H1,I1,r1,q1⟩=>?_;obtain⟨i,rfl,q⟩:=q1;obtain⟨t,rfl⟩:=r1;exact⟨some i,H1,I1,.int i t,q⟩
def SlR(X:Cx)(r:V->Option Int->Option Int->Hp->VK->Prop):Prop :=
 ∀(aA:LAO) (s:aV4) (σ:St) (H:Hp) (x:V) (v vl vu:aV3) (lo hi:Option Int) (sl:Addr) (Q:VK),Inv X aA σ H s->aI x v->s.heap.IsSliceOf sl vl vu .none->IsPart vl lo->IsPart vu hi->r x lo hi H Q ->
  ∃T id,typeLookup (.type T) "__getitem__" = pure (some (.builtin id))/\s.TypeIs v T/\wpAny (model X.prog X.w) X.A (getItem v (.ref sl)) (EP X aA σ Q) X.xe s
def SlR.or{r r':V->Option Int->Option Int->Hp->VK->Prop}(h:SlR X r)(h':SlR X r'):SlR X (λx lo hi H Q=>r x lo hi H Q\/r' x lo hi H Q):=by
 intro aA s σ H x v vl vu lo hi sl Q I rx hs pl pu q;rcases q with q|q
 . exact h aA s σ H x v vl vu lo hi sl Q I rx hs pl pu q
 . exact h' aA s σ H x v vl vu lo hi sl Q I rx hs pl pu q
def tSl(r:V->Option Int->Option Int->Hp->VK->Prop)(te:TE)(tl th:TO):TE:=λσ H Q=>te σ H λx H1=>tl σ H1 λl H2=>th σ H2 λu H3=>r x l u H3 Q
def aER{r:V->Option Int->Option Int->Hp->VK->Prop}(hr:SlR X r)(he:PE X e te)(hl:PO X lo tl)(hu:PO X hi th):PE X (.Subscript e (.Slice lo hi none p2) pos) (tSl r te tl th):=by
 intro aA s σ H Q I h;refine Subscript_ (thn (he aA s σ H _ I h) λv s1 ⟨x,H1,I1,r1,q1⟩=>?_);refine wpAny_Slice (thn (hl aA s1 σ H1 _ I1 q1) λvl s2 ⟨l,H2,I2,pl,q2⟩=>thn (hu aA s2 σ H2 _ I2 q2) λvu s3 ⟨u,H3,I3,pu,q3⟩=>?_);rw[evalPart_none];refine aQ9 ?_;have I4:Inv X aA σ H3 { s3 with heap:=s3.heap.push { cls:=.type "slice", data:=.fields #[vl,vu,.none] } }:=I3.kept (t':=s3.toks) λb ob q=>hps q
 obtain⟨T,id,hT,ht,hg⟩:=hr aA { s3 with heap:=s3.heap.push { cls:=.type "slice", data:=.fields #[vl,vu,.none] } } σ H3 x v vl vu l u s3.heap.objs.size Q I4 r1 (Heap.IsSliceOf.new ..) pl pu q3
 show wpAny (model X.prog X.w) X.A (subscriptTail e (.Slice lo hi none p2) v (.ref s3.heap.objs.size)) (EP X aA σ Q) X.xe { s3 with heap:=s3.heap.push { cls:=.type "slice", data:=.fields #[vl,vu,.none] } }
 exact tail_any (ops:=[.ref s3.heap.objs.size,v]) ht hT hg (by with_unfolding_all rfl)
def gI(xs:List V)(lo hi:Option Int):List V:=(xs.drop (HT.sIx xs.length 0 lo)).take (HT.sIx xs.length xs.length hi-HT.sIx xs.length 0 lo)
theorem vM(xs:List V)(lo hi:Option Int):(gI xs lo hi).length<=xs.length:=by unfold gI;rw[aRU,aSC];lia
def rSlT(K:Fg):V->Option Int->Option Int->Hp->VK->Prop:=λx lo hi H Q=>∃a xs,x=.ref a/\SqT K H a xs /\
 ¬ (HT.sIx xs.length 0 lo=0/\HT.sIx xs.length xs.length hi=xs.length)/\∀p,H p=none->Q (.ref p) (upd H p (.tup (gI xs lo hi)))
def aES:SlR X (rSlT X.K):=by
 intro aA s σ H x v vl vu lo hi sl Q I rx hs pl pu h;obtain⟨a,xs,rfl,hx,hw,q⟩:=h;cases rx;obtain⟨its,r,ht,hz⟩:=I.tuple hx;have hlen:its.toArray.size=xs.length:=by rw[aRI];exact r.length.symm
 refine⟨"tuple", _,PyProof.Rows.slot_tuple_getitem.lookup,ht.typeIs,?_⟩;refine HT.aEO ht hs pl pu (by rw[hlen];exact hw) ?_ (by rw[hlen];exact hz)
 rw[hlen];refine⟨.ref s.heap.objs.size,_,I.laid (t':=s.toks) (o:=.tup (gI xs lo hi)) (λb ob q=>hps q) (aRD _) ?_,rfl,q _ (I.hok.fresh (aRD _))⟩;exact⟨aQR (vM xs lo hi) hz,_,(r.drop (HT.sIx xs.length 0 lo)).take (HT.sIx xs.length xs.length hi-HT.sIx xs.length 0 lo),gD.new _ _⟩
def aM.nil_iff(r:aM xs us):us=[]↔xs=[]:=by
 cases r with
 |nil=>simp
 |cons _ _=>simp
end
def ixN(n:Nat)(i:Int):Option Nat:=if 0<=i then(if i<n then some i.toNat else none)else if -(n:Int)<=i then some (i+n).toNat else none
noncomputable def atI(xs:List α)(i:Int):Option α:=(ixN xs.length i).bind λj=>xs[j]?
theorem aET{i:Int}(h:ixN n i=some j):seqIndex? i n=some j/\j<n /\ -(n:Int)<=i/\i<n:=by
 unfold ixN at h;by_cases h0:0<=i
 . rw[if_pos h0]at h;by_cases h1:i<n
   . rw[if_pos h1]at h;have e:i.toNat=j:=aQJ h;exact⟨by rw[seqIndex_of h0 h1,e],by lia,by lia,h1⟩
   . rw[if_neg h1]at h;cases h
 . rw[if_neg h0]at h;by_cases h1:-(n:Int)<=i
   . rw[if_pos h1]at h;have e:(i+n).toNat=j:=aQJ h;exact⟨by rw[seqIndex_neg (by lia) h1,e],by lia,h1,by lia⟩
   . rw[if_neg h1]at h;cases h
def m5{xs:List α}{i:Int}{v:α}(h:atI xs i=some v):∃j,seqIndex? i xs.length=some j/\xs[j]? = some v/\j<xs.length /\ -(xs.length:Int)<=i/\i<xs.length:=by
 unfold atI at h;cases e:ixN xs.length i with
 |none=>rw[e]at h;cases h
 |some j=>rw[e]at h;obtain⟨h1,h2,h3,h4⟩:=aET e;exact⟨j,h1,h,h2,h3,h4⟩
theorem jD{xs:List α}{v:α}(h:xs[j]? = some v):atI xs (j:Int)=some v:=by
 have hj:j<xs.length:=(aQX.mp h).1;have e:ixN xs.length (j:Int)=some j:=by unfold ixN;rw[if_pos (by lia),if_pos (by lia)];simp
 unfold atI;rw[e];exact h
theorem aEU(xs:List α)(v:α):atI (xs++[v]) (-1)=some v:=by
 have hl:(xs++[v]).length=xs.length+1:=by simp
 have e:ixN (xs++[v]).length (-1)=some xs.length:=by
  unfold ixN;rw[hl,if_neg (by decide),if_pos (by lia)]
  congr 1;lia
 unfold atI;rw[e];show(xs++[v])[xs.length]? = some v;simp
def m7(b:Expr):Prop:=∀o i,subscripted b false o i=operate [o,i] (getItem o i)
def IxR(X:Cx)(r:R2):Prop :=
 ∀(value slice:Expr) (aA:LAO) (s:aV4) (σ:St) (H:Hp) (x y:V) (v u:aV3) (Q:VK),Inv X aA σ H s->aI x v->aI y u->r x y H Q ->
  subscripted slice false v u=operate [v,u] (getItem v u)->wpAny (model X.prog X.w) X.A (subscriptTail value slice v u) (EP X aA σ Q) X.xe s
def MtR(X:Cx)(id:String)(r:V->List V->Hp->VK->Prop):Prop :=
 ∀(aA:LAO) (s:aV4) (σ:St) (H:Hp) (x:V) (xs:List V) (v:aV3) (us:List aV3) (Q:VK),Inv X aA σ H s->aI x v->aM xs us->r x xs H Q ->
  wpAny (model X.prog X.w) X.A (call (.builtin id) (v::us)) (EP X aA σ Q) X.xe s
section
variable {a b:Expr}{tb:TE}
def IxR.or{r r':R2}(h:IxR X r)(h':IxR X r'):IxR X (λx y H Q=>r x y H Q\/r' x y H Q):=by
 intro value slice aA s σ H x y v u Q I rx ry q hs;rcases q with q|q
 . exact h value slice aA s σ H x y v u Q I rx ry q hs
 . exact h' value slice aA s σ H x y v u Q I rx ry q hs
def vN{r:R2}(hr:IxR X r)(ha:PE X a ta)(hb:PE X b tb)(hs:m7 b):PE X (.Subscript a b pos) (tOp r ta tb):=by intro aA s σ H Q I h;exact Subscript_ (pH ha hb I h λv u s2 x y H2 I2 rx ry q=>hr a b aA s2 σ H2 x y v u Q I2 rx ry q (hs _ _))
def rIxL(K:Fg):R2:=λx y H Q=>∃p xs i v,x=.ref p/\y=.int i/\SqL K H p xs/\atI xs i=some v/\Q v H
def rIxT(K:Fg):R2:=λx y H Q=>∃p xs i v,x=.ref p/\y=.int i/\SqT K H p xs/\atI xs i=some v/\Q v H
def rIxS:R2:=λx y H Q=>∃z i c,x=.str z/\y=.int i/\z.length<=sizeLine/\atI z.cps.toList i=some c/\Q (.str ⟨#[c]⟩) H
theorem aEV:IxR X (rIxL X.K):=by
 intro value slice aA s σ H x y v u Q I rx ry h hs;obtain⟨p,xs,i,z,rfl,rfl,hq,he,q⟩:=h;cases rx;obtain⟨t,rfl⟩:=ry;obtain⟨its,r,pl,hz⟩:=I.list hq;obtain⟨j,h1,h2,h3,h4,h5⟩:=m5 he;obtain⟨w,ew,rw'⟩:=r.get h2;have hl:=r.length;have hn:=kM;have fin:EP X aA σ Q w s:=⟨z,H,I,rw',q⟩;by_cases h0:0<=i
 . have hj:i.toNat=j:=by rw[seqIndex_of h0 h5]at h1;exact aQJ h1
   exact item_listR pl.isList h0 (by lia) (by rw[hj];simpa using ew) fin hs
 . have hj:(i+(its.toArray.size:Int)).toNat=j:=by
     rw[seqIndex_neg (by lia) h4]at h1
     rw[aRI,<- hl];exact aQJ h1
   exact subscriptTail_builtinR (x:=w) pl.isList.typeIs slot_list_getitem.lookup
    (wpAny_getItem_list_neg (Q:=λr s'=>r=w/\EP X aA σ Q r s') pl.isList (by lia) (by rw[aRI] <;> lia) (by lia) (by rw[hj];simpa using ew) ⟨rfl,fin⟩) hs
theorem aEW:IxR X (rIxT X.K):=by
 intro value slice aA s σ H x y v u Q I rx ry h hs;obtain⟨p,xs,i,z,rfl,rfl,hq,he,q⟩:=h;cases rx;obtain⟨t,rfl⟩:=ry;obtain⟨its,r,pl,hz⟩:=I.tuple hq;obtain⟨j,h1,h2,h3,h4,h5⟩:=m5 he;obtain⟨w,ew,rw'⟩:=r.get h2;have hl:=r.length;have hn:=kM;have fin:EP X aA σ Q w s:=⟨z,H,I,rw',q⟩;exact subscriptTail_builtinR (x:=w) pl.typeIs slot_tuple_getitem.lookup
  (getItem_tuple (j:=j) (Q:=λr s'=>r=w/\EP X aA σ Q r s') pl (by lia) (by lia) (by rw[aRI,<- hl];exact h1) (by simpa using ew) ⟨rfl,fin⟩) hs
theorem aEX:IxR X rIxS:=by
 intro value slice aA s σ H x y v u Q I rx ry h hs;obtain⟨z,i,c,rfl,rfl,hz,he,q⟩:=h;obtain⟨t,rfl⟩:=rx;obtain⟨t',rfl⟩:=ry;obtain⟨j,h1,h2,h3,h4,h5⟩:=m5 he;have hl:z.cps.toList.length=z.length:=by simp[Str.length]
 rw[hl]at h1 h4 h5;have hn:=kM;exact tail_any (typeIs_str s z t) slot_str_getitem.lookup (getItem_str (c:=c) (by
  have e1:decide (i < -(2 ^ 63:Int))=false:=aQG (by lia)
  have e2:decide (i ≥ 2 ^ 63)=false:=aQG (by lia)
  rw[e1,e2,Bool.or_false]) (by rw[h1];simpa using h2) ⟨.str ⟨#[c]⟩,H,I.tok _,⟨_,rfl⟩,q⟩) hs
def rIx(K:Fg):R2:=λx y H Q=>rIxL K x y H Q\/rIxT K x y H Q\/rIxS x y H Q
def aEY:IxR X (rIx X.K):=aEV.or (aEW.or aEX)
theorem aEZ(lo hi:Option Int)(n:Nat):(sliceBounds lo hi none n).1=((HT.sIx n 0 lo:Nat):Int)/\(sliceBounds lo hi none n).2.1=((HT.sIx n n hi:Nat):Int)/\(sliceBounds lo hi none n).2.2=1:=by
 refine⟨?_,?_,rfl⟩
 . cases lo with
   |none=>simp[sliceBounds,HT.sIx]
   |some i =>
    simp only[sliceBounds,HT.sIx,aSK,show(1:Int) > 0 by decide,if_true]
    by_cases h:i<0
    . simp only[h,if_true] <;> lia
    . simp only[h,aSA] <;> lia
 . cases hi with
   |none=>simp[sliceBounds,HT.sIx]
   |some i =>
    simp only[sliceBounds,HT.sIx,aSK,show(1:Int) > 0 by decide,if_true]
    by_cases h:i<0
    . simp only[h,if_true] <;> lia
    . simp only[h,aSA] <;> lia
def aE0(its:List aV3)(lo hi:Option Int):slicePick its.toArray lo hi none=((its.drop (HT.sIx its.length 0 lo)).take (HT.sIx its.length its.length hi-HT.sIx its.length 0 lo)).toArray:=by obtain⟨h1,h2,h3⟩:=aEZ lo hi its.toArray.size;unfold slicePick;rw[h1,h2,h3];simp only[sliceRange_one,pick_run,aRI] <;> rfl
def rSlL(K:Fg):V->Option Int->Option Int->Hp->VK->Prop:=λx lo hi H Q=>∃a xs,x=.ref a/\SqL K H a xs/\∀p,H p=none->Q (.ref p) (upd H p (.lst (gI xs lo hi)))
theorem aE1:SlR X (rSlL X.K):=by
 intro aA s σ H x v vl vu lo hi sl Q I rx hs pl pu h;obtain⟨a,xs,rfl,hx,q⟩:=h;cases rx;obtain⟨its,r,ht,hz⟩:=I.list hx;have hlen:=r.length;refine⟨"list", _,slot_list_getitem.lookup,ht.isList.typeIs,?_⟩;refine wpAny_getItem_list_slice ht.isList hs pl pu .none (by simp) ?_ (by rw[aRI] <;> lia)
 rw[aE0,<- hlen];refine⟨.ref s.heap.objs.size,_,I.laid (t':=s.toks) (o:=.lst (gI xs lo hi)) (λb ob q=>hps q) (aRD _) ?_,rfl,q _ (I.hok.fresh (aRD _))⟩;exact⟨aQR (vM xs lo hi) hz,_,0,(r.drop (HT.sIx xs.length 0 lo)).take (HT.sIx xs.length xs.length hi-HT.sIx xs.length 0 lo),aQK _ rfl⟩
theorem aE2:cI X (.type "list") (λxs H Q=>∃p ys,xs=[.ref p]/\(SqL X.K H p ys\/SqT X.K H p ys)/\∀l,H l=none->Q (.ref l) (upd H l (.lst ys))):=by
 intro aA s σ H xs us Q I r h; obtain ⟨p, ys, rfl, hq, q⟩ := h; obtain ⟨u, rfl, rx⟩ := eC r; cases rx; have fin : ∀ (its : List aV3), aM ys its → ys.length ≤ sizeLine → ∀ (h' : Heap) (c' : Nat), (∀ b o', s.heap.get? b = some o' → h'.get? b = some o') →
     h'.get? s.heap.objs.size=some { cls:=.type "list", dict:=none,data:=.seq its.toArray c',slots:=#[] } -> EP X aA σ Q (.ref s.heap.objs.size) {s with heap:=h'}:=λits r' hz h' c' kp e =>
  ⟨.ref s.heap.objs.size,_,I.laid (t':=s.toks) kp (aRD _) (show bD X.prog X.w _ h' _ (.lst ys)from⟨hz,its,c',r',e⟩),rfl,q _ (I.hok.fresh (aRD _))⟩
 rcases hq with hq|hq
 . obtain⟨its,r',pl,hz⟩:=I.list hq;have hlen:=r'.length;obtain⟨o,ho,hc,n,hd⟩:=pl.isList;exact call_list_seq p (.inl rfl) ho hc hd (λh' c' kp e=>fin its r' hz h' c' kp e) (by simp only[aRI] <;> lia)
 . obtain⟨its,r',pl,hz⟩:=I.tuple hq;have hlen:=r'.length;obtain⟨o,ho,hc,n,hd⟩:=pl;exact call_list_seq p (.inr rfl) ho hc hd (λh' c' kp e=>fin its r' hz h' c' kp e) (by simp only[aRI] <;> lia)
theorem aE3:cI X (.type "tuple") (λxs H Q=>∃p ys,xs=[.ref p]/\((SqL X.K H p ys/\∀l,H l=none->Q (.ref l) (upd H l (.tup ys)))\/(SqT X.K H p ys/\Q (.ref p) H))):=by
 intro aA s σ H xs us Q I r h;obtain⟨p,ys,rfl,h⟩:=h;obtain⟨u,rfl,rx⟩:=eC r;cases rx;rcases h with⟨hq,q⟩|⟨hq,q⟩
 . obtain⟨its,r',pl,hz⟩:=I.list hq;have hlen:=r'.length;refine call_tuple_list pl.isList (λh' kp=>?_) (by simp only[aRI] <;> lia)
   have I1:Inv X aA σ H {s with heap:=h'}:=I.kept (t':=s.toks) kp
   have I2:Inv X aA σ (upd H h'.objs.size (.tup ys)) { s with heap:=h'.push { cls:=.type "tuple", data:=.seq its.toArray } } :=
    I1.laid (t':=s.toks) (λb o e=>hps e) (aRD _) (show bD X.prog X.w _ _ _ (.tup ys)from⟨hz,its,r',gD.new _ _⟩)
   exact⟨.ref h'.objs.size,_,I2,rfl,q _ (I1.hok.fresh (aRD _))⟩
 . obtain⟨its,r',pl,hz⟩:=I.tuple hq;exact call_tuple_same pl ⟨.ref p,H,I,rfl,q⟩
def tyV(K:Fg)(T:String)(x:V)(H:Hp):Prop:=match x with
 |.str _=>T="str"
 |.int _=>T="int"
 | .ref p => (T = "list" ∧ ∃ xs, SqL K H p xs) ∨ (T = "tuple" ∧ ∃ o, K.lookup p = some o ∧ o.cls = .type "tuple" ∧ o.dict = none) ∨
     (T="dict" /\ ((∃kvs,H p=some (.dK kvs))\/∃kvs,H p=some (.dT kvs)))\/(T="set" /\ ∃S n,H p=some (.set S n))
 |_=>False
def aE4{σ:St}{T:String}{x:V}{v:aV3}(I:Inv X aA σ H s)(r:aI x v)(ty:tyV X.K T x H):s.TypeIs v T/\∀a,v=.ref a->∃ob,s.heap.get? a=some ob/\ob.dict=none:=by
 cases x with
 |str z =>
  obtain⟨t,rfl⟩:=r;cases(show T="str" from ty)
  exact⟨typeIs_str s z t,λ_ e=>nomatch e⟩
 |int i =>
  obtain⟨t,rfl⟩:=r;cases(show T="int" from ty)
  exact⟨typeIs_int s i t,λ_ e=>nomatch e⟩
 |ref p =>
  cases r;rcases ty with⟨rfl,xs,hq⟩|⟨rfl,o,hk,hc,hd⟩|⟨rfl,hk⟩|⟨rfl,S,n,hk⟩
  . obtain⟨its,_,pl,_⟩:=I.list hq;refine⟨pl.isList.typeIs,λa e=>?_⟩;cases e;obtain⟨o,n,e,c,hd,_⟩:=pl;exact⟨o,e,hd⟩
  . refine⟨⟨o,I.kIn p o hk,hc⟩,λa e=>?_⟩;cases e;exact⟨o,I.kIn _ o hk,hd⟩
  . have z:∃o,s.heap.get? p=some o/\o.ExactDict:=by
      rcases hk with⟨kvs,hk⟩|⟨kvs,hk⟩
      . obtain⟨_,_,_,_,o,_,_,e,ex,_⟩:=I.hok p _ hk;exact⟨o,e,ex⟩
      . obtain⟨_,_,_,_,o,_,_,e,ex,_⟩:=I.hok p _ hk;exact⟨o,e,ex⟩
    obtain⟨o,e,ex⟩:=z;refine⟨⟨o,e,ex.1⟩,λa e2=>?_⟩;cases e2;exact⟨o,e,ex.2.1⟩
  . obtain⟨o,_,_,_,e,ex,_⟩:=I.hok p _ hk;refine⟨⟨o,e,ex.1⟩,λa e2=>?_⟩;cases e2;exact⟨o,e,ex.2.1⟩
 |_=>exact False.elim ty
def tBM(K:Fg)(T:String)(r:V->List V->Hp->VK->Prop)(to:TE)(t:TA):TE:=λσ H Q=>to σ H λx H1=>tyV K T x H1/\t σ H1 λxs H2=>r x xs H2 Q
variable  {o:Expr}{es:List Expr}{to:TE}{t:TA}{name:Str}{T id:String}{r:V->List V->Hp->VK->Prop}
def pe_bm(pa:PlainAttrs T)(slot:Slot T name id)(hty:typeOf (.builtin id)=pure (.type "method_descriptor"))(hm:MtR X id r)(ho:PE X o to)(ha:PA X (e::es) t)(hbase:attributeBase o name X.env (eval o X.env)=eval o X.env:=by rfl)(hfew:((backTo cpos (starEach (e::es) X.env)).all (λx=>!x.1)&&(backToKw cpos (keywordEach [] X.env)).all (λx=>x.1.isSome)&&decide ((e::es).length+([]:List Keyword).length+(if([]:List Keyword).isEmpty then 0 else 1)<30))=true:=by rfl)(hline:(apos.endLine==cpos.line)=true:=by rfl)(hs:starEach (e::es) X.env=(false,eval e X.env)::starEach es X.env:=by rfl)(hplain:(backTo cpos (starEach es X.env)).any (·.1)=false:=by rfl):PE X (.Call (.Attribute o name apos) (e::es) [] cpos) (tBM X.K T r to t):=by
 intro aA s σ H Q I h;refine wpAny_Call_method_late hbase hfew hline rfl (thn (ho aA s σ H _ I h) λv s1 ⟨x,H1,I1,r1,ty,q1⟩=>?_);obtain⟨h1,h2⟩:=aE4 I1 r1 ty;refine⟨T,id,pa,slot,hty,h1,h2,?_⟩;have hA:=ha cpos aA s1 σ H1 _ I1 q1;rw[hs]at hA ⊢;refine aSL (by show(false||(backTo cpos (starEach es X.env)).any (·.1))=false;rw[hplain] <;> rfl) (aSM ?_)
 exact thn hA λus s2 ⟨vs,H2,I2,r2,q2⟩=>hm aA s2 σ H2 x vs v us Q I2 r1 r2 q2
end
def MtM(X:Cx)(id:String)(r:V->List V->Hp->VK->Prop):Prop :=
 ∀(aA:LAO) (s:aV4) (σ:St) (H:Hp) (x:V) (xs:List V) (v:aV3) (us:List aV3) (Q:VK),Inv X aA σ H s->aI x v->aM xs us->r x xs H Q ->
  wpAny (model X.prog X.w) X.A (call (.builtin id) (v::us)) (EP X aA σ Q) X.xe s
def aM.one:∀{x:V}{us:List aV3},aM [x] us->∃u,us=[u]/\aI x u
 |_,_,.cons r .nil=>⟨_,rfl,r⟩
section
variable {σ:St}{l:Addr}{ys zs:List V}
def Inv.lset{its its':List aV3}{f:Array aV3->Array aV3}(I:Inv X aA σ H s)(hH:H l=some (.lst xs))(e:s.heap.get? l=some { cls:=.type "list", data:=.seq its.toArray n })(hf:f its.toArray=its'.toArray)(hv:aM ys its')(hz:ys.length<=sizeLine):Inv X aA σ (upd H l (.lst ys)) {s with heap:=s.heap.update l (Obj.mapSeq f),toks:=t'}:=by
 have q:=PySem.IsL.update e f;rw[hf]at q;refine I.write (x:=l) (e:=l) (by rw[hH];exact trivial) (.inl rfl) (λb' u hb hu=>(aSN s.heap (Obj.mapSeq f) (Ne.symm hb)).trans hu) ⟨_,q⟩ ?_
 exact⟨hz,its',_,hv,q⟩
def Inv.lstM(I:Inv X aA σ H s)(hH:H l=some (.lst xs)):xs.length<=sizeLine/\∃(its:List aV3) (n:Nat),aM xs its/\xs.length=its.length/\s.heap.get? l=some { cls:=.type "list", data:=.seq its.toArray n }:=by obtain⟨z,its,n,r,e⟩:=I.hok l _ hH;exact⟨z,its,n,r,r.length,e⟩
end
def aE5:V->List V->Hp->VK->Prop:=λx vs H Q=>∃l xs y,x=.ref l/\vs=[y]/\H l=some (.lst xs)/\xs.length<sizeLine/\Q .non (upd H l (.lst (xs++[y])))
theorem vO:MtM X "list.append" aE5:=by
 intro aA s σ H x vs v us Q I rx rv h;obtain⟨l,xs,y,rfl,rfl,hH,hz,q⟩:=h;cases rx;obtain⟨u,rfl,ru⟩:=rv.one;obtain⟨z,its,n,r,hl,e⟩:=I.lstM hH;refine call_meets F.slot_list_append ⟨_,e,rfl⟩ F.entry_list_append (F.args_list_append_2 _ _) (PySem.list_append l its.toArray n u (by rw[aRI];lia)) ⟨e,?_⟩
 refine⟨.non,_,I.lset (its':=its++[u]) hH e (by simp) (r.append (.cons ru .nil)) ?_,rfl,q⟩
 rw[aR1,List.length_singleton];lia
section
variable [DecidableEq κ]
noncomputable def eD(kvs:List (κ×V))(k:κ):Option V:=(kvs.find? λkv=>decide (kv.1=k)).map (·.2)
noncomputable def cS(kvs:List (κ×V))(k:κ)(v:V):List (κ×V) :=
 if(kvs.any λkv=>decide (kv.1=k))=true then kvs.map (λkv=>if kv.1=k then(kv.1,v)else kv)else kvs++[(k,v)]
def m8{p:κ×V}{r:List (κ×V)}{k:κ}(e:p.1=k):eD (p::r) k=some p.2:=by simp[eD,aSO,e]
def m9{p:κ×V}{r:List (κ×V)}{k:κ}(e:¬ p.1=k):eD (p::r) k=eD r k:=by simp[eD,aSO,e]
theorem vP(k:κ):∀kvs:List (κ×V),(kvs.any λkv=>decide (kv.1=k))=(eD kvs k).isSome
 |[]=>rfl
 |p::r=>by
  rw[List.any_cons];by_cases e:p.1=k
  . simp only[m8 e,aSP e,Bool.true_or,Option.isSome_some]
  . rw[m9 e,aQG e,Bool.false_or];exact vP k r
theorem pM(kvs:List (κ×V))(k:κ)(v:V):(cS kvs k v).length<=kvs.length+1:=by
 unfold cS;split
 . rw[aR2];lia
 . rw[aR1,aSQ,aSR];lia
def cK.isSome_eq{o:Option V}{u:Option aV3}(r:cK o u):o.isSome=u.isSome:=by
 cases o with
 |none=>cases u with
  |none=>rfl
  |some _=>exact(show False from r).elim
 |some _=>cases u with
  |none=>exact(show False from r).elim
  |some _=>rfl
theorem cK.getD{o:Option V}{u:Option aV3}{d:V}{d':aV3}(r:cK o u)(rd:aI d d'):aI (o.getD d) (u.getD d'):=by
 cases o with
 |none=>cases u with
  |none=>exact rd
  |some _=>exact(show False from r).elim
 |some _=>cases u with
  |none=>exact(show False from r).elim
  |some _=>exact r
def KV.val{kvs:List (κ×V)}{vs:List (κ×aV3)}(r:KV kvs vs)(k:κ):cK (eD kvs k) (valueAt vs k):=by
 unfold KV at r
 induction r with
 |nil=>exact True.intro
 | @cons p q ps qs h t ih =>
  obtain⟨h1,h2⟩:=h;by_cases e:p.1=k
  . have e':q.1=k:=h1.symm.trans e;have b:valueAt (q::qs) k=some q.2:=by simp[valueAt,aSO,e']
    rw[m8 e,b];exact h2
  . have e':¬ q.1=k:=λz=>e (h1.trans z);have b:valueAt (q::qs) k=valueAt qs k:=by simp[valueAt,aSO,e']
    rw[m9 e,b];exact ih
theorem KV.any{kvs:List (κ×V)}{vs:List (κ×aV3)}(r:KV kvs vs)(k:κ):(kvs.any λkv=>decide (kv.1=k))=vs.any λkv=>decide (kv.1=k):=by
 unfold KV at r
 induction r with
 |nil=>rfl
 |cons h t ih=>rw[List.any_cons,List.any_cons,ih,h.1]
def KV.repl{kvs:List (κ×V)}{vs:List (κ×aV3)}(r:KV kvs vs)(k:κ)(ry:aI y u):KV (kvs.map λkv=>if kv.1=k then(kv.1,y)else kv) (vs.map λkv=>if kv.1=k then(kv.1,u)else kv):=by
 unfold KV at r ⊢
 induction r with
 |nil=>exact .nil
 | @cons p q ps qs h t ih =>
  rw[aSS,aSS];refine .cons ?_ ih;obtain⟨h1,h2⟩:=h;by_cases e:p.1=k
  . rw[if_pos e,if_pos (h1.symm.trans e)];exact⟨h1,ry⟩
  . rw[if_neg e,if_neg (λz=>e (h1.trans z))];exact⟨h1,h2⟩
def KV.put{kvs:List (κ×V)}{vs:List (κ×aV3)}(r:KV kvs vs)(k:κ)(ry:aI y u):KV (cS kvs k y) (stored vs k u):=by
 unfold cS stored;rw[r.any k];by_cases e:(vs.any λkv=>decide (kv.1=k))=true
 . rw[if_pos e,if_pos e];exact r.repl k ry
 . rw[if_neg e,if_neg e];exact Paired.snoc r ⟨rfl,ry⟩
theorem KV.length{kvs:List (κ×V)}{vs:List (κ×aV3)}(r:KV kvs vs):kvs.length=vs.length:=aQI r
end
def nA{k:Key}(r:aI (kV k) u):(cC P w).is k u=true:=by
 cases k with
 |inl i=>obtain⟨t,e⟩:=(show ∃t,u=Value.int i t from r);subst e;exact aCV P w i t
 |inr x=>obtain⟨t,e⟩:=(show ∃t,u=Value.str x t from r);subst e;exact aCW P w x t
theorem vQ{P:aV7}{w:aV6}:∀{ks:List Key}{us:List aV3},aM (ks.map kV) us->ItemsAre (cC P w) ks us
 |[],_,r=>by rw[aST]at r;cases r;exact .nil
 |k::ks,_,r=>by
  rw[aSS]at r;cases r with
  |cons h t=>exact .cons (nA h) (vQ t)
abbrev KT(H:Hp):List (List Key×V)->List (List Key×Addr×aV3)->Prop:=Paired λp q=>p.1=q.1/\H q.2.1=some (.tup (p.1.map kV))/\aI p.2 q.2.2
def KT.val{kvs:List (List Key×V)}{xs:List (List Key×Addr×aV3)}(r:KT H kvs xs)(k:List Key):cK (eD kvs k) ((atKey xs k).map (·.2)):=by
 induction r with
 |nil=>exact True.intro
 | @cons p q ps qs h t ih =>
  obtain⟨h1,_,h2⟩:=h;by_cases e:p.1=k
  . have e':q.1=k:=h1.symm.trans e;have b:atKey (q::qs) k=some q.2:=by simp[atKey,aSO,e']
    rw[m8 e,b];exact h2
  . have e':¬ q.1=k:=λz=>e (h1.trans z);have b:atKey (q::qs) k=atKey qs k:=by simp[atKey,aSO,e']
    rw[m9 e,b];exact ih
def KT.repl{kvs:List (List Key×V)}{xs:List (List Key×Addr×aV3)}(r:KT H kvs xs)(k:List Key)(ry:aI y u):KT H (kvs.map λkv=>if kv.1=k then(kv.1,y)else kv) (xs.map (putAt k u)):=by
 induction r with
 |nil=>exact .nil
 | @cons p q ps qs h t ih =>
  rw[aSS,aSS];refine .cons ?_ ih;obtain⟨h1,h2,h3⟩:=h;unfold putAt;by_cases e:p.1=k
  . rw[if_pos e,if_pos (h1.symm.trans e)];exact⟨h1,h2,ry⟩
  . rw[if_neg e,if_neg (λz=>e (h1.trans z))];exact⟨h1,h2,h3⟩
def KT.put{kvs:List (List Key×V)}{xs:List (List Key×Addr×aV3)}(r:KT H kvs xs)(k:List Key)(hb:H b=some (.tup (k.map kV)))(ry:aI y u):KT H (cS kvs k y) (storedH xs k b u):=by
 have e:(kvs.any λkv=>decide (kv.1=k))=(atKey xs k).isSome:=by rw[vP,(r.val k).isSome_eq,Option.isSome_map]
 unfold cS storedH;rw[e];by_cases q:(atKey xs k).isSome=true
 . rw[if_pos q,if_pos q];exact r.repl k ry
 . rw[if_neg q,if_neg q];exact Paired.snoc r ⟨rfl,hb,ry⟩
def KT.keeps{kvs:List (List Key×V)}{xs:List (List Key×Addr×aV3)}(r:KT H kvs xs)(ht:∀b ys,H b=some (.tup ys)->H' b=some (.tup ys)):KT H' kvs xs :=
 Paired.mapP r λ_ _ z=>⟨z.1,ht _ _ z.2.1,z.2.2⟩
section
variable {a:Addr}
def vR{u:HO}(ok:HOk P w H h)(e:Rd H a u):bD P w H h a u:=e.ok ok
def nB{kvs:List (Key×V)}(ok:HOk P w H h)(e:Rd H a (.dK kvs)):kvs.length<=sizeLine/\(a==sysModules)=false/\∃vs,KV kvs vs/\h.DictOf (cC P w) a vs :=
 show bD P w H h a (.dK kvs)from vR ok e
def nC{kvs:List (Key×V)}(ok:HOk P w H h)(e:H a=some (.dK kvs)):kvs.length<=sizeLine/\(a==sysModules)=false/\∃vs,KV kvs vs/\h.DictOf (cC P w) a vs:=nB ok (.inl e)
def pN{ks:List Key}(ok:HOk P w H h)(e:H a=some (.tup (ks.map kV))):(tupleKind (cC P w)).is h ks a:=by
 obtain⟨_,its,r,o,h1,h2,_,n,h3⟩:=(show bD P w H h a (.tup (ks.map kV))from ok a _ e)
 exact⟨o,its.toArray,n,h1,h2,h3,by simpa using vQ r⟩
def pO{kvs:List (List Key×V)}(ok:HOk P w H h)(e:Rd H a (.dT kvs)):kvs.length<=sizeLine/\(a==sysModules)=false/\∃xs,KT H kvs xs/\h.DictOfH (tupleKind (cC P w)) a xs:=by
 obtain⟨z,y,xs,r,o,es,ep,h1,h2,h3,h4,h5⟩:=(show bD P w H h a (.dT kvs)from vR ok e)
 refine⟨z,y,xs,r,o,es,ep,h1,h2,h3,h4,λx hx=>?_,h5⟩;have all:∀{l:List (List Key×V)}{m:List (List Key×Addr×aV3)},KT H l m->∀x∈m,(tupleKind (cC P w)).is h x.1 x.2.1:=by
  intro l m q
  induction q with
  |nil=>intro x hx;exact nomatch hx
  | @cons p q ps qs hq t ih =>
   intro x hx;rcases aQU.mp hx with e|hx
   . subst e;exact pN ok (by rw[<- hq.1];exact hq.2.1)
   . exact ih x hx
 exact all r x hx
def dt_of{kvs:List (List Key×V)}(ok:HOk P w H h)(e:H a=some (.dT kvs)):kvs.length<=sizeLine/\(a==sysModules)=false/\∃xs,KT H kvs xs/\h.DictOfH (tupleKind (cC P w)) a xs:=pO ok (.inl e)
end
def pP(H:Hp)(a:Addr)(y:V)(r:Option V):Prop :=
 (∃kvs k,Rd H a (.dK kvs)/\y=kV k/\r=eD kvs k)\/∃kvs k b,Rd H a (.dT kvs)/\y=.ref b/\H b=some (.tup (k.map kV))/\r=eD kvs k
def DPut(H:Hp)(a:Addr)(y v:V)(H':Hp):Prop :=
 (∃kvs k,H a=some (.dK kvs)/\y=kV k/\kvs.length<sizeLine/\H'=upd H a (.dK (cS kvs k v))) \/
 ∃kvs k b,H a=some (.dT kvs)/\y=.ref b/\H b=some (.tup (k.map kV))/\kvs.length<sizeLine/\H'=upd H a (.dT (cS kvs k v))
section
variable {σ:St}{a:Addr}{r:aV3}{o:Option V}{A:aV5}{E:VSP}
def Inv.big(I:Inv X aA σ H s):sysModules<s.heap.objs.size:=by have h:mainGlobals<s.heap.objs.size:=(I.mod.glob.keeps I.bk).lt;exact Nat.lt_trans (by decide) h
def nE{ob:HO}(I:Inv X aA σ H s)(mu:Mut (H a))(hs:Heap.SameBut a s.heap h')(he:∃q,h'.get? a=some q)(new:bD X.prog X.w (upd H a ob) h' a ob):Inv X aA σ (upd H a ob) {s with heap:=h',toks:=t'} :=
 I.write (x:=a) (e:=a) mu (.inl rfl) (λb q hb z=>(hs.2 b hb).trans z) he new
def pQ{kvs:List (Key×V)}{vs:List (Key×aV3)}(z:kvs.length<=sizeLine)(hd:(a==sysModules)=false)(rel:KV kvs vs)(dd:h'.DictOf (cC P w) a vs):bD P w H' h' a (.dK kvs):=⟨z,hd,vs,rel,dd⟩
theorem aE6(hu:A.units+1<cLine)(I:Inv X aA σ H s)(g:DPut H a y v H')(ry:aI y u)(rv:aI v r)(h:∀s',Inv X aA σ H' s'->Q () s'):wpAny (model X.prog X.w) A (setItem (.ref a) u r) Q E s:=by
 rcases g with⟨kvs,k,e,ey,l,eH⟩|⟨kvs,k,b,e,ey,eb,l,eH⟩
 . subst ey eH;obtain⟨z,hd,vs,rel,dd⟩:=nC I.hok e;have hz:vs.length<=sizeLine:=by rw[<- rel.length];exact z
   have hl:(cS kvs k v).length<=sizeLine:=by have:=pM kvs k v;lia
   refine wpAny_setItem_pairs (hsz:=hz) (nA ry) dd λh' dd' hs=>h _ ?_;have he:∃q,h'.get? a=some q:=let⟨q,_,_,hq,_⟩:=dd';⟨q,hq⟩
   exact nE I (by rw[e];exact True.intro) hs he (pQ hl hd (rel.put k rv) dd')
 . subst ey eH;cases(show u=Value.ref b from ry)
   obtain⟨z,hd,xs,rel,dd⟩:=dt_of I.hok e;have hz:xs.length<=sizeLine:=by rw[<- aQI rel];exact z
   have hl:(cS kvs k v).length<=sizeLine:=by have:=pM kvs k v;lia
   refine wpAny_setItem_heap (hsz:=hz) (tupleKind_room_in1 hu) (pN I.hok eb) dd λh' dd' hs=>h _ ?_;obtain⟨q,es,ep,hq,h2,h3,h4,_,h5⟩:=dd';refine nE I (by rw[e];exact True.intro) hs ⟨q,hq⟩ ⟨hl,hd,_,(rel.put k eb rv).keeps λc ys ec=>?_,q,es,ep,hq,h2,h3,h4,h5⟩
   rw[aJ (ne_of ec e (λz=>nomatch z))];exact ec
end
def vS(td ty tv:TE):TS:=λD σ H=>tv σ H λv H1=>td σ H1 λx H2=>ty σ H2 λy H3=>∃a H4,x=.ref a/\DPut H3 a y v H4/\D.nx σ H4
section
variable  {o i value:Expr}{tpos:Pos}{ty:TE}
def aE7(hu:X.A.units+1<cLine)(ho:PE X o td)(hi:PE X i ty)(hv:PE X value tv)(hs:swapsWith value (some (.Subscript o i pos')) pos.line X.env=pure false):PS X (.Assign [.Subscript o i pos'] value pos) (vS td ty tv):=by intro aA s σ H D I h;refine wpAny_Assign_Subscript (thn (hv aA s σ H _ I h) λr s1 ⟨v,H1,I1,rv,q1⟩=>thn (ho aA s1 σ H1 _ I1 q1) λu s2 ⟨x,H2,I2,rx,q2⟩=>thn (hi aA s2 σ H2 _ I2 q2) λiv s3 ⟨y,H3,I3,ry,a,H4,ex,g,q3⟩=>?_) hs;subst ex;obtain rfl:u=Value.ref a:=rx;exact aE6 hu I3 g ry rv λs4 I4=>⟨σ,H4,I4,q3⟩
end
def vT(h:Heap)(hb:sysModules<h.objs.size):bD P w H (h.push { cls:=.type "dict", data:=.dict #[] }) h.objs.size (.dK []) :=
 ⟨aRN _,aQH.mpr (Ne.symm (aQO hb)),[],.nil,Heap.DictOf.new h⟩
def aE8:TE:=λ_ H Q=>∀p,H p=none->Q (.ref p) (upd H p (.dK []))
def aE9:PE X (.Dict [] [] pos) aE8:=λaA s σ H Q I h =>
 wpAny_Dict_empty ⟨.ref s.heap.objs.size,_,I.laid (a:=s.heap.objs.size) (o:=.dK []) (t':=s.toks) (λ_ _ q=>hps q) (aRD _) (vT s.heap I.big),rfl,h _ (I.hok.fresh (aRD _))⟩
def nF:List (TE×TE)->St->Hp->(List (V×V)->Hp->Prop)->Prop
 |[],_,H,Q=>Q [] H
 |(tk,tv)::r,σ,H,Q=>tk σ H λx H1=>tv σ H1 λy H2=>nF r σ H2 λps H3=>Q ((x,y)::ps) H3
abbrev VV:List (V×V)->List (aV3×aV3)->Prop:=Paired λp q=>aI p.1 q.1/\aI p.2 q.2
def PPs(X:Cx)(pos:Pos)(keys:List (Option Expr))(values:List Expr)(trs:List (TE×TE)):Prop :=
 ∀(aA:LAO) (s:aV4) (σ:St) (H:Hp) (Q:List (V×V)->Hp->Prop),Inv X aA σ H s->nF trs σ H Q ->
  wpAny (model X.prog X.w) X.A (evalPairs (pairTrees keys values X.env pos)) (λvs s'=>∃ps H',Inv X aA σ H' s'/\VV ps vs/\Q ps H') X.xe s
def aFA:PPs X pos [] [] []:=λaA s σ H Q I h=>pairTrees_nil_walk ⟨[],H,I,.nil,h⟩
def aFB{k v:Expr}{ks:List (Option Expr)}{vs:List Expr}{tk:TE}{trs:List (TE×TE)}(hk:PE X k tk)(hv:PE X v tv)(hr:PPs X pos ks vs trs):PPs X pos (some k::ks) (v::vs) ((tk,tv)::trs):=λaA s σ H Q I h =>
 pairTrees_cons_walk (thn (hk aA s σ H _ I h) λu s1 ⟨x,H1,I1,rx,q1⟩=>thn (hv aA s1 σ H1 _ I1 q1) λw2 s2 ⟨y,H2,I2,ry,q2⟩ =>
  thn (hr aA s2 σ H2 _ I2 q2) λws s3 ⟨ps,H3,I3,rel,q3⟩=>⟨(x,y)::ps,H3,I3,.cons ⟨rx,ry⟩ rel,q3⟩)
def gZ(kvs more:List (Key×V)):List (Key×V):=more.foldl (λacc kv=>cS acc kv.1 kv.2) kvs
def KV.merge:∀{more:List (Key×V)}{rs:List (Key×aV3)}{kvs:List (Key×V)}{vs:List (Key×aV3)},KV more rs->KV kvs vs->KV (gZ kvs more) (merged vs rs):=by
 intro more rs kvs vs r;unfold KV at r
 induction r generalizing kvs vs with
 |nil=>intro q;exact q
 | @cons p q ps qs h t ih =>
  intro r0;have e:KV (cS kvs p.1 p.2) (stored vs q.1 q.2):=by have:=r0.put p.1 h.2;rw[<- h.1];exact this
  exact ih e
theorem vU:∀(more kvs:List (Key×V)),(gZ kvs more).length<=kvs.length+more.length
 |[],kvs=>by show kvs.length<=kvs.length+0;lia
 |p::r,kvs=>by have h1:=vU r (cS kvs p.1 p.2);have h2:=pM kvs p.1 p.2;show(gZ (cS kvs p.1 p.2) r).length<=_;rw[aSQ];lia
theorem vV{P:aV7}{w:aV6}:∀{kvs:List (Key×V)}{ws:List (aV3×aV3)},VV (kvs.map λkv=>(kV kv.1,kv.2)) ws->∃rs,Carries (cC P w) ws rs/\KV kvs rs
 |[],_,r=>by rw[aST]at r;cases r;exact⟨[],True.intro,.nil⟩
 |p::kvs,_,r=>by
  rw[aSS]at r;cases r with
  | @cons a b as bs h t=>obtain⟨rs,c,q⟩:=vV (P:=P) (w:=w) t;obtain⟨b1,b2⟩:=b;exact⟨(p.1,b2)::rs,⟨nA h.1,rfl,c⟩,.cons ⟨rfl,h.2⟩ q⟩
def tDisp(trs:List (TE×TE)):TE:=λσ H Q=>∀p,H p=none->nF trs σ (upd H p (.dK [])) λps H2=>H2 p=some (.dK [])/\∃kvs:List (Key×V),ps=kvs.map (λkv=>(kV kv.1,kv.2))/\kvs.length<=15/\Q (.ref p) (upd H2 p (.dK (gZ [] kvs)))
theorem aFC{keys:List (Option Expr)}{trs:List (TE×TE)}(h:PPs X pos keys values trs)(hall:keys.all (·.isSome)=true)(hl:keys.length=values.length)(h0:keys≠[])(h15:keys.length<=15):PE X (.Dict keys values pos) (tDisp trs):=by
 intro aA s σ H Q I q;have hn:=I.hok.fresh (aRD s.heap.objs.size);have I1:=I.laid (a:=s.heap.objs.size) (o:=.dK []) (h':=s.heap.push { cls:=.type "dict", data:=.dict #[] }) (t':=s.toks) (λ_ _ q=>hps q) (aRD _) (vT s.heap I.big);refine wpAny_Dict_walk (knd:=cC X.prog X.w) hall hl h0 h15 (thn (h aA _ σ _ _ I1 (q _ hn)) λws s2 ⟨ps,H2,I2,rel,e,kvs,ep,lk,q2⟩=>?_);subst ep;obtain⟨rs,c,rk⟩:=vV (P:=X.prog) (w:=X.w) rel;obtain⟨z,hd,vs0,r0,dd⟩:=nC I2.hok e;cases r0;refine⟨rs,c,dd,λh' dd' hs=>⟨.ref s.heap.objs.size,_,?_,rfl,q2⟩⟩;have hz:(gZ [] kvs).length<=sizeLine:=by have h1:=vU kvs [];rw[aSR]at h1;rw[aRH];lia
 have he:∃q,h'.get? s.heap.objs.size=some q:=let⟨q,_,_,hq,_⟩:=dd';⟨q,hq⟩
 exact nE I2 (by rw[e];exact True.intro) hs he (pQ hz hd (rk.merge .nil) dd')
structure M2(X:Cx)(o:Expr)(m:Str)(apos:Pos)(e f:Expr)(cpos:Pos):Prop where
 base:attributeBase o m X.env (eval o X.env)=eval o X.env
 few:((backTo cpos (starEach [e,f] X.env)).all (λx=>!x.1)&&(backToKw cpos (keywordEach [] X.env)).all (λx=>x.1.isSome)
  && decide (([e,f]:List Expr).length+([]:List Keyword).length+(if([]:List Keyword).isEmpty then 0 else 1)<30))=true
 line:(apos.endLine==cpos.line)=true
 trees:backTo cpos (starEach [e,f] X.env)=[(false,eval e X.env),(false,eval f X.env)]
def IsD(H:Hp)(a:Addr):Prop:=(∃kvs,Rd H a (.dK kvs))\/∃kvs,Rd H a (.dT kvs)
def aFD{σ:St}{a:Addr}(I:Inv X aA σ H s)(d:IsD H a):s.TypeIs (.ref a) "dict" /\ (∀b,Value.ref a=.ref b->∃ob,s.heap.get? b=some ob/\ob.dict=none)/\(a==sysModules)=false:=by
 rcases d with⟨kvs,e⟩|⟨kvs,e⟩
 . obtain⟨_,hd,vs,_,dd⟩:=nB I.hok e;refine⟨dd.typeIs,λb q=>?_,hd⟩;cases q;obtain⟨ob,_,_,h1,h2,_⟩:=dd;exact⟨ob,h1,h2.2.1⟩
 . obtain⟨_,hd,xs,_,dd⟩:=pO I.hok e;refine⟨dd.typeIs,λb q=>?_,hd⟩;cases q;obtain⟨ob,_,_,h1,h2,_⟩:=dd;exact⟨ob,h1,h2.2.1⟩
section
variable {σ:St}{a:Addr}{d:V}{r:aV3}{o:Option V}{A:aV5}{E:VSP}
def aFE{Q:VSP}(hu:A.units+1<cLine)(I:Inv X aA σ H s)(g:pP H a y o)(ry:aI y u)(rd:aI d r)(h:∀w' s',Inv X aA σ H s'->aI (o.getD d) w'->Q w' s'):wpAny (model X.prog X.w) A (call (.builtin "dict.get") [.ref a,u,r]) Q E s:=by
 rcases g with⟨kvs,k,e,ey,l⟩|⟨kvs,k,b,e,ey,eb,l⟩
 . subst ey;obtain⟨z,hd,vs,rel,dd⟩:=nB I.hok e;refine call_meetsIn aSU dd.typeIs aSV (aSW _ _ _) (meets_dict_get_default (cC X.prog X.w) a (nA ry) hd r) ⟨_,dd.mapOf,h _ _ (I.tok _) ?_⟩;rw[l];exact(rel.val k).getD rd
 . subst ey;cases(show u=Value.ref b from ry)
   obtain⟨z,hd,xs,rel,dd⟩:=pO I.hok e;refine call_meetsIn aSU dd.typeIs aSV (aSW _ _ _) (meetsH_dict_get_default (tupleKind (cC X.prog X.w)) a b hd r) ⟨tupleKind_room_in1 hu,k,xs,pN I.hok eb,dd,h _ _ (I.tok _) ?_⟩;rw[l];exact(rel.val k).getD rd
end
def vW(td ty tx:TE):TE:=λσ H Q=>td σ H λx H1=>∃a,x=.ref a/\IsD H1 a/\ty σ H1 λy H2=>tx σ H2 λz H3=>∃o,pP H3 a y o/\Q (o.getD z) H3
section
variable  {o f:Expr}{ty tx:TE}
def aFF(hu:X.A.units+1<cLine)(ho:PE X o td)(he:PE X e ty)(hf:PE X f tx)(m:M2 X o "get" apos e f cpos):PE X (.Call (.Attribute o "get" apos) [e,f] [] cpos) (vW td ty tx):=by
 intro aA s σ H Q I h;refine wpAny_Call_method m.base m.few m.line PySem.F.plainAttrs_dict aSU PySem.F.type_dict_get (thn (ho aA s σ H _ I h) λu s1 ⟨x,H1,I1,rx,a,ex,d,q1⟩=>?_);subst ex;obtain rfl:u=Value.ref a:=rx;obtain⟨t1,t2,_⟩:=aFD I1 d;refine⟨t1,t2,?_⟩;rw[m.trees];refine aSL rfl (aSM (aRP (thn (he aA s1 σ H1 _ I1 q1) λiv s2 ⟨y,H2,I2,ry,q2⟩ =>
  aRP (thn (hf aA s2 σ H2 _ I2 q2) λfv s3 ⟨z,H3,I3,rz,ov,g,q3⟩=>aRO ?_))))
 exact aFE hu I3 g ry rz λw' s4 I4 rw'=>⟨_,H3,I4,rw',q3⟩
end
section
variable {σ:St}{a:Addr}{kvs:List (Key×V)}{A:aV5}{E:VSP}
def vX{Q:VSP}(I:Inv X aA σ H s)(e:Rd H a (.dK kvs))(h:∀p s',H p=none->Inv X aA σ (upd H p (.dK kvs)) s'->Q (.ref p) s'):wpAny (model X.prog X.w) A (call (.type "dict") [.ref a]) Q E s:=by
 obtain⟨z,hd,vs,rel,dd⟩:=nB I.hok e;refine kt_call_dict hd dd (by rw[<- rel.length];exact z) λh' dd' hs=>?_
 refine h _ _ (I.hok.fresh (aRD _)) (I.laid (a:=s.heap.objs.size) (o:=.dK kvs) (t':=s.toks) (λb q hq=>?_) (aRD _) (pQ z (aQH.mpr (Ne.symm (aQO I.big))) rel dd'));exact(hs.2 b (aQO (aQL hq))).trans (hps hq)
end
end L2
namespace Att
open PySem.W PySem.Calls
def aFG{P:Params}:∀(ns:List Int) (vs:List aV3),WellAll P h vs (ns.map WData.int)->IntsAre vs ns:=by
 intro ns
 induction ns with
 |nil=>intro vs w;rw[aST]at w;cases w;exact .nil
 |cons n ns ih =>
  intro vs w;rw[aSS]at w;cases w with
  |cons a b=>cases a;exact .cons _ _ (ih _ b)
theorem aFH{l:OpenLaw}(hn:l.most=some n){P:Params}{args:List WData}{vals:List aV3}(hpre:l.row.toRowW.claim.pre args=true)(hwl:WellAll P h vals args):∃a vs ns,vals=[Value.ref a]/\args=[WData.list (ns.map WData.int)]/\h.get? a=some { cls:=.type "list", data:=.seq vs.toArray }/\IntsAre vs ns/\ns.length<=n:=by
 have hsh:WShape.hasAll [] args [.list .int]=true:=(pre_splitW hpre).1;have hc:l.pre.holds [] {args:=args}=true:=(pre_splitW hpre).2;obtain⟨d,r,rfl,h1,h2⟩:=hasAllW_cons hsh;obtain rfl:=hasAllW_nil h2;obtain⟨xs,rfl,h3⟩:=hasW_list h1;obtain⟨ns,rfl⟩:=items_int h3;have hlen:ns.length<=n:=by
  unfold OpenLaw.pre at hc;have h4:(WTm.not (.lt (.lit (.int (n:Int))) (.len (.arg 0)))).holds [] {args:=[.list (ns.map .int)]}=true:=by have h4:=(holds_andW hc).1;rw[hn]at h4;exact h4
  have h5:=condW_of h4 (w_not (w_lt w_lit (w_len_list (w_arg rfl))));rw[aR2]at h5;refine Nat.le_of_not_lt λq=>?_;have q':(n:Int)<((ns.length:Nat):Int):=by lia
  first
   |(rw[aSP q']at h5;exact absurd h5 (by decide))
   |(simp at h5;lia)
 cases hwl with
 |cons w1 w2 =>
  cases w2;cases w1 with
  |list ho hall=>exact⟨_,_,ns,rfl,rfl,ho,aFG ns _ hall,hlen⟩
def aFI(l:OpenLaw)(args:List WData):l.row.toRowW.claim.post args (.bool true) args=true :=
 postW_of (r:=l.row.toRowW) (X:=(true==true))
  (show WShape.has [] (.bool true) .bool=true by first|rfl|decide|simp[WShape.has,WShape.arms,WShape.armsAll])
  (show(WTm.eq .res (.lit (.bool true))).value [] {args:=args,res:=some (.bool true),after:=args}=some (.bool (true==true))from w_eq_bool (w_res rfl) w_lit) rfl
def aFJ{l:OpenLaw}{q:aV7}{d:DefRec}(hn:l.most=some n)(hdf:d.params.defaults=[])(call:∀(w:aV6) (s₀ s₁:aV4) (mg mb:SOV) (fa:Addr) (o:Obj) (pm cd doc:aV3) (a:Addr) (vs:List aV3) (ns:List Int),Ground q loose [] XP w s₀ mg mb s₁.heap->YP w s₁.heap->s₁.heap.get? fa=some o->o.data=.func (docDef d.name d.params d.body d.scope pm cd doc)->s₁.heap.CodeRec cd d.name->mg d.name=some (.ref fa)->s₁.heap.get? a=some { cls:=.type "list", data:=.seq vs.toArray } -> IntsAre vs ns->ns.length<=n->s₁.gens = #[]->codeAny (model l.prog w) callerA (.call (.ref fa) ⟨[.ref a],[]⟩) (λr s'=>r=.ok (.ret (.bool true))/\OldK s₁.heap s'.heap/\s'.os=s₁.os/\AllBare s'.gens) s₁):WalkO q loose XP YP l.row.toRowW d [] (λf vs=>PySem.call f vs):=by intro w s₀ s₁ mg mb G Y fa o pm cd doc dV kV ho hd hcd hD hmg hg args vals as hpre hlay hrd hwl hlo;obtain rfl:dV=.none:=Dflts.none hD hdf;obtain rfl:kV=.none:=Dflts.noKw hD;obtain⟨a,vs,ns,rfl,rfl,hobj,hints,hlen⟩:=aFH hn hpre hwl;refine enter_call (aSX (call w s₀ s₁ mg mb fa o pm cd doc a vs ns G Y ho (fd_plain hd) hcd hmg hobj hints hlen hg) λr s' hq=>?_);obtain⟨rfl,h2,h3,h4⟩:=hq;exact⟨.inl ⟨.bool true,.bool true,[],rfl,λ_=>rfl,.bool true,aFI l _,λ_=>⟨List.Pairwise.nil,λ_ hm=>(nomatch hm)⟩⟩,h2,h3,h4⟩
section
variable {A:aV5}{E:VSP}{K:Frag}
def ledger(h:Heap)(L d:Addr):LAO:=(List.range h.objs.size).filterMap λa=>if a=L\/a=d then none else(h.get? a).map λo=>(a,o)
end
end Att
namespace L2
theorem vY:∀{vs:List aV3}{ns:List Int},IntsAre vs ns->aM (ns.map V.int) vs
 |_,_,.nil=>.nil
 |_,_,.cons n t h=>.cons ⟨t,rfl⟩ (vY h)
noncomputable abbrev KOf(_:K.In h):Fg:=K
def kT(s:Stmt):Arguments:=match s with
 |.FunctionDef _ a _ _ _ _ _ _ _ _=>a
 |_=>{posonlyargs:=[],args:=[],vararg:=none,kwonlyargs:=[],kw_defaults:=[],kwarg:=none,defaults:=[]}
def fC(s:Stmt):List Stmt:=match s with
 |.FunctionDef _ _ b _ _ _ _ _ _ _=>b
 |_=>[]
def bG(s:Stmt):Scope:=match s with
 |.FunctionDef _ _ _ _ _ _ sc _ _ _=>sc
 |_=>{kind:=.function,names:=[],isGenerator:=false,isCoroutine:=false}
abbrev CX0:CXT:=λ_ _ _ _ _ _=>False
structure Fun(K:Fg)(x qual:Str)(st:Stmt)(f:Addr)(fd:FuncData):Prop where
 ex:∃(oc:aV3) (od:Option Addr) (kV doc pm:aV3) (an:Option Addr) (cdv ct:aV3) (osl:Array (Option aV3)),
  fd=W.fnOf x qual (kT st) (fC st) (bG st) .none kV doc pm an cdv ct/\K.lookup f=some ⟨oc,od,.func fd,osl⟩/\W.codeIn K cdv qual=true
 kp:W.keepIn K (.ref f)=true
def aFK{f:Addr}{oc:aV3}{od an:Option Addr}{osl:Array (Option aV3)}{kV doc pm ct:aV3}(l:K.lookup f=some ⟨oc,od,.func (W.fnOf x qual (kT st) (fC st) (bG st) .none kV doc pm an cdv ct),osl⟩)(c:W.codeIn K cdv qual=true)(k:W.keepIn K (.ref f)=true):Fun K x qual st f (W.fnOf x qual (kT st) (fC st) (bG st) .none kV doc pm an cdv ct):=⟨⟨oc,od,kV,doc,pm,an,cdv,ct,osl,rfl,l,c⟩,k⟩
def aD(H H':Hp):Prop:=∀b o,H b=some o->H' b=some o
def aD.refl(H:Hp):aD H H:=λ_ _ h=>h
def aD.trans{H1 H2:Hp}(a:aD H H1)(b:aD H1 H2):aD H H2:=λc o h=>b c o (a c o h)
def aD.free(e:aD H H'){l:Addr}(h:H' l=Option.none):H l=Option.none:=by
 cases q:H l with
 |none=>rfl
 |some o=>rw[e l o q]at h;cases h
def aD.seq{a:Addr}(e:aD H H')(h:SqL K H a xs):SqL K H' a xs:=by
 rcases h with(h|⟨o,h⟩)|h
 . exact .inl (.inl (e _ _ h))
 . exact .inl (.inr ⟨o,e _ _ h⟩)
 . exact .inr h
def N.ind{P:N->Prop}(hi:∀n,P (.i n))(hs:∀x,P (.s x))(ht:∀xs,(∀x∈xs,P x)->P (.t xs))(k:N):P k :=
 N.rec (motive_1:=P) (motive_2:=λxs=>∀x∈xs,P x) hi hs ht (λ_ h=>nomatch h) (λa l h1 h2 x hx=>by
  rcases aQU.mp hx with rfl|hx
  . exact h1
  . exact h2 x hx) k
mutual
def N.eq:N->N->Bool
 |.i n,.i m=>n==m
 |.s x,.s y=>x==y
 |.t xs,.t ys=>N.eqL xs ys
 |_,_=>false
def N.eqL:List N->List N->Bool
 |[],[]=>true
 |x::xs,y::ys=>N.eq x y&&N.eqL xs ys
 |_,_=>false
end
theorem N.eqL_iff:∀{xs ys:List N},(∀x∈xs,∀y,N.eq x y=true↔x=y)->(N.eqL xs ys=true↔xs=ys)
 |[],[],_=>by simp[N.eqL]
 |[],_::_,_=>by simp[N.eqL]
 |_::_,[],_=>by simp[N.eqL]
 |x::xs,y::ys,h=>by rw[N.eqL,aSI,h x mcs y,N.eqL_iff λz hz=>h z (mcm hz),aSY]
def N.eq_iff(k:N):∀y,N.eq k y=true↔k=y:=by
 induction k using N.ind with
 |hi n=>intro y;cases y <;> simp[N.eq]
 |hs x=>intro y;cases y <;> simp[N.eq]
 |ht xs ih =>
  intro y;cases y with
  |t ys=>rw[N.eq,N.eqL_iff ih];simp
  |_=>simp[N.eq]
instance:DecidableEq N:=λa b=>decidable_of_iff _ (N.eq_iff a b)
mutual
def N.py:N->PyData
 |.i n=>.int n
 |.s x=>.str x
 |.t xs=>.tuple (N.pyL xs)
def N.pyL:List N->List PyData
 |[]=>[]
 |x::xs=>N.py x::N.pyL xs
end
mutual
def N.dp:N->Nat
 |.i _=>0
 |.s _=>0
 |.t xs=>N.dpL xs+1
def N.dpL:List N->Nat
 |[]=>0
 |x::xs=>max (N.dp x) (N.dpL xs)
end
theorem N.dp_mem:∀{xs:List N}{x:N},x∈xs->x.dp<=N.dpL xs
 |y::ys,x,h=>by
  rw[N.dpL];rcases aQU.mp h with rfl|h
  . lia
  . have:=N.dp_mem h;lia
theorem N.py_depthL:∀{xs:List N},(∀x∈xs,x.py.depth=x.dp)->PyData.depthAll (N.pyL xs)=N.dpL xs
 |[],_=>by simp[N.pyL,N.dpL,PyData.depthAll]
 |x::xs,h=>by simp only[N.pyL,N.dpL,PyData.depthAll];rw[h x mcs,N.py_depthL λz hz=>h z (mcm hz)]
def N.py_depth(k:N):k.py.depth=k.dp:=by
 induction k using N.ind with
 |hi n=>simp[N.py,N.dp,PyData.depth]
 |hs x=>simp[N.py,N.dp,PyData.depth]
 |ht xs ih=>simp only[N.py,N.dp,PyData.depth];rw[N.py_depthL ih]
theorem N.py_eqvL:∀{xs ys:List N},(∀x∈xs,∀y:N,PyData.eqv x.py y.py=decide (x=y))->PyData.eqvAll (N.pyL xs) (N.pyL ys)=decide (xs=ys)
 |[],[],_=>by simp[N.pyL,PyData.eqvAll]
 |[],_::_,_=>by simp[N.pyL,PyData.eqvAll]
 |_::_,[],_=>by simp[N.pyL,PyData.eqvAll]
 |x::xs,y::ys,h=>by simp only[N.pyL,PyData.eqvAll];rw[h x mcs y,N.py_eqvL λz hz=>h z (mcm hz)];by_cases e1:x=y <;> by_cases e2:xs=ys <;> simp[e1,e2]
def N.py_eqv(k:N):∀y:N,PyData.eqv k.py y.py=decide (k=y):=by
 induction k using N.ind with
 |hi n =>
  intro y;cases y with
  |i m=>simp only[N.py,PyData.eqv];by_cases e:n=m <;> simp[e]
  |s x=>simp[N.py,PyData.eqv]
  |t xs=>simp[N.py,PyData.eqv]
 |hs x =>
  intro y;cases y with
  |i m=>simp[N.py,PyData.eqv]
  |s z=>simp only[N.py,PyData.eqv];by_cases e:x=z <;> simp[e]
  |t xs=>simp[N.py,PyData.eqv]
 |ht xs ih =>
  intro y;cases y with
  |i m=>simp[N.py,PyData.eqv]
  |s z=>simp[N.py,PyData.eqv]
  |t ys=>simp only[N.py,PyData.eqv];rw[N.py_eqvL ih];by_cases e:xs=ys <;> simp[e]
mutual
def IsN(h:Heap):N->aV3->Prop
 |.i n,v=>∃t,v=.int n t
 |.s x,v=>(∃t,v=.str x t)/\PyData.strOk x=true
 |.t xs,v=>∃a o items n,v=.ref a/\h.get? a=some o/\o.cls=.type "tuple" /\ o.data=.seq items n/\aP h xs items.toList
def aP(h:Heap):List N->List aV3->Prop
 |[],vs=>vs=[]
 |x::xs,vs=>∃v us,vs=v::us/\IsN h x v/\aP h xs us
end
theorem aP.mem:∀{h:Heap}{xs:List N}{vs:List aV3},aP h xs vs->∀v∈vs,∃x∈xs,IsN h x v
 |h,[],vs,q,v,hv=>by rw[aP]at q;subst q;cases hv
 |h,x::xs,vs,q,v,hv=>by
  rw[aP]at q;obtain⟨u,us,rfl,q1,q2⟩:=q;rcases aQU.mp hv with rfl|hv
  . exact⟨x,mcs,q1⟩
  . obtain⟨y,hy,e⟩:=q2.mem v hv;exact⟨y,mcm hy,e⟩
theorem aP.map:∀{h h':Heap}{xs:List N}{vs:List aV3},aP h xs vs->(∀x∈xs,∀v,IsN h x v->IsN h' x v)->aP h' xs vs
 |h,h',[],vs,q,k=>by rw[aP]at q ⊢;exact q
 |h,h',x::xs,vs,q,k=>by rw[aP]at q ⊢;obtain⟨u,us,e,q1,q2⟩:=q;exact⟨u,us,e,k x mcs u q1,q2.map λy hy=>k y (mcm hy)⟩
def IsN.keeps{d:Addr}{o:Obj}{es ep:_}(ho:h.get? d=some o)(hd:o.data=.dict es ep)(hs:Heap.SameBut d h h')(k:N):∀v,IsN h k v->IsN h' k v:=by
 induction k using N.ind with
 |hi n=>intro v q;rw[IsN]at q ⊢;exact q
 |hs x=>intro v q;rw[IsN]at q ⊢;exact q
 |ht xs ih =>
  intro v q;rw[IsN]at q ⊢;obtain⟨a,o',items,n,e,ha,hc,hd',hi⟩:=q;have hne:a≠d:=by rintro rfl;obtain rfl:o'=o:=aQJ (ha.symm.trans ho);rw[hd]at hd';exact nomatch hd'
  exact⟨a,o',items,n,e,(hs.2 a hne).trans ha,hc,hd',hi.map ih⟩
theorem aP.readsL:∀{h:Heap}{xs:List N}{vs:List aV3},aP h xs vs->(∀x∈xs,∀v,IsN h x v->(∃as,Reads h v x.py as)/\x.py.canLay0=true)->(∃as,ReadsAll h vs (N.pyL xs) as)/\PyData.canLayAll0 (N.pyL xs)=true
 |h,[],vs,q,k=>by rw[aP]at q;subst q;exact⟨⟨_,.nil⟩,by simp[N.pyL,PyData.canLayAll0]⟩
 |h,x::xs,vs,q,k=>by rw[aP]at q;obtain⟨u,us,rfl,q1,q2⟩:=q;obtain⟨⟨as,ra⟩,ca⟩:=k x mcs u q1;obtain⟨⟨bs,rb⟩,cb⟩:=q2.readsL λy hy=>k y (mcm hy);exact⟨⟨_,.cons ra rb⟩,by simp only[N.pyL,PyData.canLayAll0,ca,cb,Bool.and_self]⟩
def IsN.reads(k:N):∀v,IsN h k v->(∃as,Reads h v k.py as)/\k.py.canLay0=true:=by
 induction k using N.ind with
 |hi n=>intro v q;rw[IsN]at q;obtain⟨t,rfl⟩:=q;exact⟨⟨_,.int n t⟩,rfl⟩
 |hs x=>intro v q;rw[IsN]at q;obtain⟨⟨t,rfl⟩,hk⟩:=q;exact⟨⟨_,.str x t⟩,by simpa only [N.py,PyData.canLay0]using hk⟩
 |ht xs ih=>intro v q;rw[IsN]at q;obtain⟨a,o',items,n,rfl,ha,hc,hd',hi⟩:=q;obtain⟨⟨as,ra⟩,ca⟩:=hi.readsL ih;exact⟨⟨_,.tuple ha hc hd' ra⟩,by simpa only [N.py,PyData.canLay0]using ca⟩
theorem aP.inj:∀{h:Heap}{xs ys:List N}{vs:List aV3},(∀x∈xs,∀y v,IsN h x v->IsN h y v->x=y)->aP h xs vs->aP h ys vs->xs=ys
 |h,[],[],vs,_,_,_=>rfl
 |h,[],y::ys,vs,_,p,q=>by rw[aP]at p;subst p;rw[aP]at q;obtain⟨_,_,e,_⟩:=q;cases e
 |h,x::xs,[],vs,_,p,q=>by rw[aP]at q;subst q;rw[aP]at p;obtain⟨_,_,e,_⟩:=p;cases e
 |h,x::xs,y::ys,vs,k,p,q=>by rw[aP]at p q;obtain⟨u,us,rfl,p1,p2⟩:=p;obtain⟨_,_,e,q1,q2⟩:=q;cases e;rw[k x mcs y _ p1 q1,aP.inj (λz hz=>k z (mcm hz)) p2 q2]
theorem IsN.inj(k:N):∀y v,IsN h k v->IsN h y v->k=y:=by
 induction k using N.ind with
 |hi n =>
  intro y v p q;rw[IsN]at p;obtain⟨t,rfl⟩:=p;cases y with
  |i m=>rw[IsN]at q;obtain⟨u,e⟩:=q;cases e;rfl
  |s x=>rw[IsN]at q;obtain⟨⟨u,e⟩,_⟩:=q;cases e
  |t xs=>rw[IsN]at q;obtain⟨_,_,_,_,e,_⟩:=q;cases e
 |hs x =>
  intro y v p q;rw[IsN]at p;obtain⟨⟨t,rfl⟩,_⟩:=p;cases y with
  |i m=>rw[IsN]at q;obtain⟨u,e⟩:=q;cases e
  |s x=>rw[IsN]at q;obtain⟨⟨u,e⟩,_⟩:=q;cases e;rfl
  |t xs=>rw[IsN]at q;obtain⟨_,_,_,_,e,_⟩:=q;cases e
 |ht xs ih =>
  intro y v p q;rw[IsN]at p;obtain⟨a,o,items,n,rfl,ha,hc,hd,hi⟩:=p;cases y with
  |i m=>rw[IsN]at q;obtain⟨u,e⟩:=q;cases e
  |s x=>rw[IsN]at q;obtain⟨⟨u,e⟩,_⟩:=q;cases e
  |t ys =>
   rw[IsN]at q;obtain⟨a',o',items',n',e,ha',_,hd',hi'⟩:=q;cases e;obtain rfl:o=o':=aQJ (ha.symm.trans ha');rw[hd]at hd';injection hd' with h1 _
   subst h1;rw[aP.inj ih hi hi']
mutual
def N.dr:N->Nat
 |.i _=>1
 |.s _=>1
 |.t xs=>N.drL xs+1
def N.drL:List N->Nat
 |[]=>0
 |x::xs=>N.dr x+N.drL xs
end
section
variable {A:aV5}{E:VSP}
theorem vZ:∀(xs:List N) (y:N),N.drL (xs++[y])=N.drL xs+N.dr y
 |[],y=>by simp[N.drL]
 |x::xs,y=>by rw[aSZ,N.drL,vZ xs y,N.drL,aS0]
theorem v4:∀(xs:List N) (y:N),eB w (xs++[y])=eB w xs++[aX w y]
 |[],y=>by simp[eB]
 |x::xs,y=>by rw[aSZ,eB,v4 xs y,eB,aSZ]
theorem pS(k:N):∀{A:aV5}{E:VSP}{s:aV4}{v:aV3}{Q:Int->aV4->Prop},A.units+k.dp<cLine->IsN s.heap k v->Q (aX w k) {s with toks:=s.toks+k.dr} -> wpAny (model prog w) A (pyHash v) Q E s:=by
 induction k using N.ind with
 |hi n=>intro A E s v Q hu hk h;rw[IsN]at hk;obtain⟨t,rfl⟩:=hk;rw[aX,N.dr]at h;exact wpAny_pyHash_int h
 |hs x=>intro A E s v Q hu hk h;rw[IsN]at hk;obtain⟨⟨t,rfl⟩,_⟩:=hk;rw[aX,N.dr]at h;exact wpAny_pyHash_str h
 |ht xs ih =>
  intro A E s v Q hu hk h;rw[IsN]at hk;obtain⟨a,o,items,n,rfl,ho,hc,hd,hi⟩:=hk;rw[N.dp]at hu;have hT:s.TypeIs (.ref a) "tuple" := ⟨o,ho,hc⟩;unfold pyHash
  first|unfold pyHashByItsType|skip
  first|refine aRA (wpAny_cRoomFor_or (.inr (by lia)) ?_)|skip
  refine aRA (aS1 hT F.slot_tuple_hash.lookup ?_);show wpAny _ _ (if(some (Value.builtin "tuple.__hash__")==some Value.none)=true then _ else _) Q E s;rw[if_neg (by rw[beq_builtin_none];exact aQ7)]
  refine aRA (aS1 hT F.slot_tuple_hash.lookup ?_);show wpAny _ _ (callSpecialIfBoundUnlessNone? (.ref a) "__hash__" _>>=_) Q E s;refine aRA (wpAny_callSpecialIfBoundUnlessNone?_slot hT F.slot_tuple_hash (aSG F.slot_tuple_hash hT F.entry_tuple_hash ?_ (F.args_tuple_hash_1 _)));show wpAny _ _ (Builtin.Tuple.tupleItemsOf (.ref a)>>=_) _ _ s;refine aRA (wpAny_tupleItemsOf ho hd ?_);refine aRA ?_;rw[<- aS2];refine aS3 _
   (λrest (b:Array Int) s'=>∃done left,xs=done++left/\aP s.heap left rest/\b.toList=eB w done/\s'={s with toks:=s.toks+N.drL done})
   _ ?_ ?_ _ _ ⟨[],xs,rfl,hi,by simp[eB],by simp[N.drL]⟩
  . rintro x rest b s' ⟨done,left,e,hl,hb,rfl⟩;cases left with
    |nil=>rw[aP]at hl;cases hl
    |cons k ks =>
     rw[aP]at hl;obtain⟨_,_,e',h1,hl'⟩:=hl;cases e';have hm:k∈xs:=by rw[e];simp
     refine aRA (ih k hm (A:=A.in1) (by have:=N.dp_mem hm;show A.units+1+_<_;lia) h1 ?_)
     have fin:∃done' left',xs=done'++left'/\aP s.heap left' rest/\(b.push (aX w k)).toList=eB w done'/\({s with toks:=s.toks+N.drL done+k.dr}:aV4)={s with toks:=s.toks+N.drL done'} :=
      ⟨done++[k],ks,by rw[e];simp,hl',by rw[v4,Array.toList_push,hb],by rw[vZ,aS0]⟩
     first
      |exact aQ9 fin
      |exact aRA (aQ9 (aQ9 fin))
  . rintro b s' ⟨done,left,e,hl,hb,rfl⟩;cases left with
    |cons k ks=>rw[aP]at hl;obtain⟨_,_,e',_⟩:=hl;cases e'
    |nil =>
    rw[aRQ]at e;subst e;show wpAny _ _ (retInt (Builtin.Tuple.tupleHashOf b.toList)) _ _ _;rw[hb];refine wpAny_ret_mkInt ?_;show wpAny _ _ (if(decide (-(2:Int) ^ 63<=Builtin.Tuple.tupleHashOf (eB w xs))&&decide (Builtin.Tuple.tupleHashOf (eB w xs)<2 ^ 63))=true then _ else _) Q E _;rw[aX,N.dr]at h;unfold reduceHash at h;by_cases hr:(decide (-(2:Int) ^ 63<=Builtin.Tuple.tupleHashOf (eB w xs))&&decide (Builtin.Tuple.tupleHashOf (eB w xs)<2 ^ 63))=true
    . rw[if_pos hr];rw[if_pos hr]at h;exact aQ9 (by simpa[aS0]using h)
    . rw[if_neg hr];rw[if_neg hr]at h;exact aRA (wpAny_rule (aQ9 (by simpa[aS0]using h)))
theorem pT{x y:N}{v:aV3}{Q:Bool->aV4->Prop}(hu:A.units+x.dp<cLine)(hx:IsN s.heap x u)(hy:IsN s.heap y v)(h:Q (decide (x=y)) s):wpAny (model prog w) A (eqBool u v) Q E s:=by
 obtain⟨⟨as,ra⟩,ca⟩:=IsN.reads x u hx;obtain⟨⟨bs,rb⟩,cb⟩:=IsN.reads y v hy;refine aS4 x.py y.py A s u v as bs ra rb ca cb (by rw[N.py_depth];have:=aS5 x.dp y.py.depth;lia) prog w E Q ?_
 rw[N.py_eqv];exact h
theorem pU(k:N):∀{n:Nat}{v:aV3}{Q:Bool->aV4->Prop},k.dp<=n->IsN s.heap k v->Q true s->wpAny (model prog w) A (eqIsQuiet n v) Q E s:=by
 induction k using N.ind with
 |hi m=>intro n v Q hn hk h;rw[IsN]at hk;obtain⟨t,rfl⟩:=hk;rw[eqIsQuiet_byValue n rfl];exact aQ9 h
 |hs x=>intro n v Q hn hk h;rw[IsN]at hk;obtain⟨⟨t,rfl⟩,_⟩:=hk;rw[eqIsQuiet_byValue n rfl];exact aQ9 h
 |ht xs ih =>
  intro n v Q hn hk h;rw[IsN]at hk;obtain⟨a,o,items,c,rfl,ho,hc,hd,hi⟩:=hk;rw[N.dp]at hn;cases n with
  |zero=>lia
  |succ n =>
   have hT:s.TypeIs (.ref a) "tuple" := ⟨o,ho,hc⟩;unfold eqIsQuiet;refine aRA (aS1 hT F.slot_tuple_eq.lookup ?_);show wpAny _ _ (isInstance (.ref a) (.type "tuple")>>=_) _ _ s;refine aRA (aS6 hT isSubtype_tuple_tuple ?_);simp only[aS7,aS8,aSA];refine aRA (wpAny_seqItems ho hd ?_);refine aRA ?_;show wpAny _ _ (forIn items _ _) _ _ s;rw[<- aS2];refine aS3 _ (λrest r s'=>r.1=none/\s'=s/\∀v∈rest,∃x∈xs,IsN s.heap x v) _ ?_ ?_ _ _ ⟨rfl,rfl,hi.mem⟩
   . rintro v rest r s' ⟨hr,rfl,hall⟩;obtain⟨x,hx,hv⟩:=hall v mcs;refine aRA (ih x hx (n:=n) (by have:=N.dp_mem hx;lia) hv ?_)
     simp only[aS7,aS8,aSA];exact aQ9 ⟨rfl,rfl,λu hu'=>hall u (mcm hu')⟩
   . rintro⟨r1,r2⟩ s' ⟨hr,rfl,_⟩;simp only at hr;subst hr;exact aQ9 h
end
noncomputable def nG(prog:aV7)(w:aV6):HeapKind prog w N where
 is:=λh k a=>IsN h k (.ref a)/\k.dp<=8
 hash:=aX w
 draws:=N.dr
 room:=λA=>A.units+8<cLine
 inj:=λhx hy=>IsN.inj _ _ _ hx.1 hy.1
 keeps:=λx ho hd hs=>⟨IsN.keeps ho hd hs _ _ x.1,x.2⟩
 pyHash:=λhu hk h=>pS _ (by have:=hk.2;omega) hk.1 h
 eqBool:=λhu hx hy h=>pT (by have:=hx.2;omega) hx.1 hy.1 h
 quiet:=λhk h=>pU _ hk.2 hk.1 h
def eQ(f:Addr)(o:Obj):HO:=.ext λh=>h.get? f=some o
def v5{f:Addr}{o:Obj}(e:h.get? f=some o):bD P w H h f (eQ f o):=⟨e,⟨o,e⟩,λ_ _ p k=>k o p⟩
def v6{f:Addr}{o:Obj}(ok:HOk P w H h)(e:H f=some (eQ f o)):h.get? f=some o:=(ok f _ e).1
def aFL{c:Addr}(ok:HOk P w H h)(e:H c=some (.crec q)):h.CodeRec (.ref c) q:=by obtain⟨oc,vs,t,e1,e2,e3⟩:=ok c _ e;exact⟨c,oc,vs,t,rfl,e1,e2,e3⟩
def aFM{z:Pos}{c' cv:aV3}:∀{l:List aV3},TriplesOk l->codeAmong z (l++[rawInt pos.line,rawInt pos.col,c'])=some cv->codeAmong z l=some cv\/cv=c':=by
 intro l
 fun_induction TriplesOk l with
 |case1 =>
  intro _ h;simp only[aS9,codeAmong,rawInt]at h;split at h
  . cases h;exact .inr rfl
  . cases h
 |case2 a t b u x rest ih =>
  intro h1 h;simp only[aSZ,codeAmong]at h ⊢;split at h
  . rename_i hc;rw[if_pos hc];exact .inl h
  . rename_i hc;rw[if_neg hc];exact ih h1 h
 |case3 l h1 h2=>intro h;exact h.elim
end L2
namespace D3
inductive D where
 |non|bl (b:Bool)|int (i:Int)|str (x:Str)|tup (xs:List D)|lst (xs:List D)|dct (kvs:List (Key×D))|ty (n:String)|ob (a:Addr)|ins (c:Str) (fs:List (Str×D))|fn (x:Str)|exn (c:Str)|set (ks:List Key)|dtn (kvs:List (N×D))|dtf (kvs:List (N×D))|dcf (kvs:List (Key×D))|clo (f:Str) (fs:List (Str×D))
inductive Md where|fz|fr|bo
 deriving DecidableEq
inductive Res where
 |ok (m:Md) (d:D)|exc (c:Str)|stuck
def fU(c:Addr)(y:V):HO:=.ext λh=>∃u,h.IsCell c (some u)/\aI y u
end D3
variable {ds:List D3.D}{kvs kc:List (L2.Key×D3.D)}{Φ:List D3.D->D3.Res}{m':D3.Md}{x5 x4 x6 x2 x0:Option (Bool×D3.D)}{Kd No M:D3.D}
namespace D3
def defNm:Stmt->Str
 |.FunctionDef n _ _ _ _ _ _ _ _ _=>n
 |_ => ""
def jE(K:Fg)(f0 q:Str)(st:Stmt):Prop:=∃x qual st0 f fd s1 s3,W.nsIn K mainGlobals f0=some (some (.ref f))/\Fun K x qual st0 f fd/\fC st0=[s1,st,s3]/\q=qual ++ ".<locals>." ++ defNm st
def jE.one{f0 q':Str}{st':Stmt}(h:jE K f0 q st)(h':jE K f0 q' st'):q=q'/\st=st':=by obtain⟨x,qual,st0,f,fd,s1,s3,n,F,b,rfl⟩:=h;obtain⟨x',qual',st0',f',fd',s1',s3',n',F',b',rfl⟩:=h';rw[n]at n';cases n';obtain⟨_,_,_,_,_,_,_,_,_,rfl,lk,_⟩:=F.ex;obtain⟨_,_,_,_,_,_,_,_,_,rfl,lk',_⟩:=F'.ex;rw[lk]at lk';simp only[aTA,Obj.mk.injEq,Data.func.injEq,FuncData.mk.injEq,FuncBody.stmts.injEq]at lk';obtain⟨_,_,⟨_,e1,_,e2,_⟩,_⟩:=lk';rw[b,b']at e2;cases e2;exact⟨by rw[e1],rfl⟩
def ClOk(fs:List (Str×D))(cl:List (Str×Addr)):Prop:=(∀x c,cl.lookup x=some c->x∈fs.map (·.1))/\∀x y c,cl.lookup x=some c->cl.lookup y=some c->x=y
def xobj(a C:Addr):HO:=.ext λh=>∃o,h.get? a=some o/\o.cls=.ref C
mutual
def NAt(K:Fg)(F:Hp):N->V->Prop
 |.i n,v=>v=.int n
 |.s x,v=>v=.str x/\x.length<=sizeLine/\PyData.strOk x=true
 |.t xs,v=>∃a ys,v=.ref a/\SqT K F a ys/\bO K F xs ys
def bO(K:Fg)(F:Hp):List N->List V->Prop
 |[],ys=>ys=[]
 |x::xs,ys=>∃y zs,ys=y::zs/\NAt K F x y/\bO K F xs zs
end
def v7(S:Key->Bool)(ks:List Key):Prop:=ks.Nodup/\∀k,S k=true↔k∈ks
mutual
def aB(K:Fg)(F:Hp):D->V->Prop
 |.non,v=>v=.non
 |.bl b,v=>v=.bl b
 |.int i,v=>v=.int i
 |.str x,v=>v=.str x/\x.length<=sizeLine/\PyData.strOk x=true
 |.tup ds,v=>∃a xs,v=.ref a/\SqT K F a xs/\aC K F ds xs
 |.lst ds,v=>∃a xs,v=.ref a/\SqL K F a xs/\aC K F ds xs
 |.dct kvs,v=>∃a xs,v=.ref a/\F a=some (.dK xs)/\aE K F kvs xs
 |.ty n,v=>v=.ty n
 |.ob a,v=>v=.ref a
 |.ins c fs,v=>∃a C dx gs,v=.ref a/\W.nsIn K mainGlobals c=some (some (.ref C))/\F a=some (.ins C dx gs)/\bV K F fs gs
 |.fn x,v=>∃a,v=.ref a/\W.nsIn K mainGlobals x=some (some (.ref a))
 |.exn c,v=>∃a C,v=.ref a/\W.nsIn K mainGlobals c=some (some (.ref C))/\F a=some (xobj a C)
 |.set ks,v=>∃a S,v=.ref a/\F a=some (.set S ks.length)/\v7 S ks
 |.dtn kvs,v=>∃a xs,v=.ref a/\F a=some (.dN xs)/\aN K F kvs xs
 |.dtf kvs,v=>∃a o xs,v=.ref a/\F a=some (.frz o (.dN xs))/\aN K F kvs xs
 |.dcf kvs,v=>∃a o xs,v=.ref a/\F a=some (.frz o (.dK xs))/\aE K F kvs xs
 |.clo f0 fs,v=>∃f c name q st doc pm ct cl,jE K f0 q st/\v=.ref f/\F f=some (eQ f (W.fnMade name q (kT st) (fC st) (bG st) cl doc pm c ct))/\F c=some (.crec q)/\ClOk fs cl/\fD K F fs cl
def aN(K:Fg)(F:Hp):List (N×D)->List (N×Addr×V)->Prop
 |[],xs=>xs=[]
 |(k,d)::ds,xs=>∃b y ys,xs=(k,b,y)::ys/\(NAt K F k (.ref b)/\k.dp<=8)/\aB K F d y/\aN K F ds ys
def aC(K:Fg)(F:Hp):List D->List V->Prop
 |[],xs=>xs=[]
 |d::ds,xs=>∃y ys,xs=y::ys/\aB K F d y/\aC K F ds ys
def aE(K:Fg)(F:Hp):List (Key×D)->List (Key×V)->Prop
 |[],xs=>xs=[]
 |(k,d)::ds,xs=>∃y ys,xs=(k,y)::ys/\aB K F d y/\aE K F ds ys
def fD(K:Fg)(F:Hp):List (Str×D)->List (Str×Addr)->Prop
 |[],_=>True
 |(x,d)::ds,cl=>(∃a y,cl.lookup x=some a/\F a=some (fU a y)/\aB K F d y)/\fD K F ds cl
def bV(K:Fg)(F:Hp):List (Str×D)->List (Str×V)->Prop
 |[],xs=>xs=[]
 |(k,d)::ds,xs=>∃y ys,xs=(k,y)::ys/\aB K F d y/\bV K F ds ys
end
def aD.seqT{a:Addr}(e:aD H H')(h:SqT K H a xs):SqT K H' a xs:=by
 rcases h with(h|⟨o,h⟩)|h
 . exact .inl (.inl (e _ _ h))
 . exact .inl (.inr ⟨o,e _ _ h⟩)
 . exact .inr h
section
variable  {F:Hp}
theorem bO.map:∀{xs:List N}{ys:List V},bO K F xs ys->(∀x∈xs,∀v,NAt K F x v->NAt K F' x v)->bO K F' xs ys
 |[],_,h,_=>by simpa only [bO]using h
 |x::xs,ys,h,k=>by simp only[bO]at h ⊢;obtain⟨y,zs,e,q,r⟩:=h;exact⟨y,zs,e,k x mcs y q,r.map λz hz=>k z (mcm hz)⟩
def NAt.mono(s:aD F F')(k:N):∀v,NAt K F k v->NAt K F' k v:=by
 induction k using N.ind with
 |hi n=>intro v h;simpa only [NAt]using h
 |hs x=>intro v h;simpa only [NAt]using h
 |ht xs ih=>intro v h;simp only[NAt]at h ⊢;obtain⟨a,ys,e,q,r⟩:=h;exact⟨a,ys,e,aD.seqT s q,r.map ih⟩
mutual
theorem aB.mono(s:aD F F'):∀(d:D) (v:V),aB K F d v->aB K F' d v
 |.non,_,h=>by simpa only [aB]using h
 |.bl _,_,h=>by simpa only [aB]using h
 |.int _,_,h=>by simpa only [aB]using h
 |.str _,_,h=>by simpa only [aB]using h
 |.tup ds,v,h=>by simp only[aB]at h ⊢;obtain⟨a,xs,e,q,r⟩:=h;exact⟨a,xs,e,aD.seqT s q,aC.mono s ds xs r⟩
 |.lst ds,v,h=>by simp only[aB]at h ⊢;obtain⟨a,xs,e,q,r⟩:=h;exact⟨a,xs,e,s.seq q,aC.mono s ds xs r⟩
 |.dct ds,v,h=>by simp only[aB]at h ⊢;obtain⟨a,xs,e,q,r⟩:=h;exact⟨a,xs,e,s _ _ q,aE.mono s ds xs r⟩
 |.ty _,_,h=>by simpa only [aB]using h
 |.ob _,_,h=>by simpa only [aB]using h
 |.fn _,_,h=>by simpa only [aB]using h
 |.exn _,_,h=>by simp only[aB]at h ⊢;obtain⟨a,C,e,n,q⟩:=h;exact⟨a,C,e,n,s _ _ q⟩
 |.set _,_,h=>by simp only[aB]at h ⊢;obtain⟨a,S,e,q,r⟩:=h;exact⟨a,S,e,s _ _ q,r⟩
 |.dtn ds,v,h=>by simp only[aB]at h ⊢;obtain⟨a,xs,e,q,r⟩:=h;exact⟨a,xs,e,s _ _ q,aN.mono s ds xs r⟩
 |.dtf ds,v,h=>by simp only[aB]at h ⊢;obtain⟨a,o,xs,e,q,r⟩:=h;exact⟨a,o,xs,e,s _ _ q,aN.mono s ds xs r⟩
 |.dcf ds,v,h=>by simp only[aB]at h ⊢;obtain⟨a,o,xs,e,q,r⟩:=h;exact⟨a,o,xs,e,s _ _ q,aE.mono s ds xs r⟩
 |.clo f0 fs,v,h=>by simp only[aB]at h ⊢;obtain⟨f,c,name,q,st,doc,pm,ct,cl,k,e,q1,q2,o,r⟩:=h;exact⟨f,c,name,q,st,doc,pm,ct,cl,k,e,s _ _ q1,s _ _ q2,o,fD.mono s fs cl r⟩
 |.ins c fs,v,h=>by simp only[aB]at h ⊢;obtain⟨a,C,dx,gs,e,n,q,r⟩:=h;exact⟨a,C,dx,gs,e,n,s _ _ q,bV.mono s fs gs r⟩
theorem aC.mono(s:aD F F'):∀(ds:List D) (xs:List V),aC K F ds xs->aC K F' ds xs
 |[],_,h=>by simpa only [aC]using h
 |d::ds,xs,h=>by simp only[aC]at h ⊢;obtain⟨y,ys,e,q,r⟩:=h;exact⟨y,ys,e,aB.mono s d y q,aC.mono s ds ys r⟩
theorem aE.mono(s:aD F F'):∀(ds:List (Key×D)) (xs:List (Key×V)),aE K F ds xs->aE K F' ds xs
 |[],_,h=>by simpa only [aE]using h
 |(k,d)::ds,xs,h=>by simp only[aE]at h ⊢;obtain⟨y,ys,e,q,r⟩:=h;exact⟨y,ys,e,aB.mono s d y q,aE.mono s ds ys r⟩
theorem fD.mono(s:aD F F'):∀(fs:List (Str×D)) (cl:List (Str×Addr)),fD K F fs cl->fD K F' fs cl
 |[],_,h=>by simpa only [fD]using h
 |(x,d)::fs,cl,h=>by simp only[fD]at h ⊢;obtain⟨⟨a,y,e,q,r⟩,t⟩:=h;exact⟨⟨a,y,e,s _ _ q,aB.mono s d y r⟩,fD.mono s fs cl t⟩
theorem aN.mono(s:aD F F'):∀(ds:List (N×D)) (xs:List (N×Addr×V)),aN K F ds xs->aN K F' ds xs
 |[],_,h=>by simpa only [aN]using h
 |(k,d)::ds,xs,h=>by simp only[aN]at h ⊢;obtain⟨b,y,ys,e,n,q,r⟩:=h;exact⟨b,y,ys,e,⟨NAt.mono s k _ n.1,n.2⟩,aB.mono s d y q,aN.mono s ds ys r⟩
theorem bV.mono(s:aD F F'):∀(ds:List (Str×D)) (xs:List (Str×V)),bV K F ds xs->bV K F' ds xs
 |[],_,h=>by simpa only [bV]using h
 |(k,d)::ds,xs,h=>by simp only[bV]at h ⊢;obtain⟨y,ys,e,q,r⟩:=h;exact⟨y,ys,e,aB.mono s d y q,bV.mono s ds ys r⟩
end
theorem bV.lookN:∀{ds:List (Str×D)}{xs:List (Str×V)}{f:Str},bV K F ds xs->ds.lookup f=none->xs.lookup f=none
 |[],_,_,h,e=>by simp only[bV]at h;subst h;rfl
 |(k,d')::ds,_,f,h,e=>by
  simp only[bV]at h;obtain⟨y,ys,rfl,q,r⟩:=h;rw[aTB]at e ⊢;split at e
  . cases e
  . exact bV.lookN r e
theorem aC.length:∀{ds:List D}{xs:List V},aC K F ds xs->xs.length=ds.length
 |[],_,h=>by simp only[aC]at h;subst h;rfl
 |d::ds,_,h=>by simp only[aC]at h;obtain⟨y,ys,rfl,_,r⟩:=h;rw[aSQ,aSQ,aC.length r]
theorem aC.get:∀{ds:List D}{xs:List V}{i:Nat}{x:V},aC K F ds xs->xs[i]? = some x->∃d,ds[i]? = some d/\aB K F d x
 |[],_,_,_,h,e=>by simp only[aC]at h;subst h;simp at e
 |d::ds,_,0,_,h,e=>by simp only[aC]at h;obtain⟨y,ys,rfl,r,_⟩:=h;simp at e;subst e;exact⟨d,rfl,r⟩
 |d::ds,_,i+1,_,h,e=>by
  simp only[aC]at h;obtain⟨y,ys,rfl,_,r⟩:=h;obtain⟨d',e',r'⟩:=aC.get (i:=i) r (by simpa using e)
  exact⟨d',by simpa using e',r'⟩
theorem aC.get':∀{ds:List D}{xs:List V}{i:Nat}{d:D},aC K F ds xs->ds[i]? = some d->∃x,xs[i]? = some x/\aB K F d x
 |[],_,_,_,h,e=>by simp at e
 |d::ds,_,0,_,h,e=>by simp only[aC]at h;obtain⟨y,ys,rfl,r,_⟩:=h;simp at e;subst e;exact⟨y,rfl,r⟩
 |d::ds,_,i+1,_,h,e=>by
  simp only[aC]at h;obtain⟨y,ys,rfl,_,r⟩:=h;obtain⟨d',e',r'⟩:=aC.get' (i:=i) r (by simpa using e)
  exact⟨d',by simpa using e',r'⟩
theorem aC.append:∀{ds es:List D}{xs ys:List V},aC K F ds xs->aC K F es ys->aC K F (ds++es) (xs++ys)
 |[],_,_,_,h,r=>by simp only[aC]at h;subst h;exact r
 |d::ds,_,_,_,h,r=>by simp only[aC]at h;obtain⟨y,ys,rfl,q,t⟩:=h;show aC K F (d::(ds++_)) (y::(ys++_));simp only[aC];exact⟨y,_,rfl,q,aC.append t r⟩
def aC.nil:aC K F [] []:=by simp only[aC]
def aC.cons{d:D}{ds:List D}{x:V}{xs:List V}(h:aB K F d x)(r:aC K F ds xs):aC K F (d::ds) (x::xs):=by simp only[aC];exact⟨x,xs,rfl,h,r⟩
end
def Top(K:Fg)(F H:Hp)(a:Addr):D->Prop
 |.lst ds=>∃xs,H a=some (.lst xs)/\aC K F ds xs
 |.dct ds=>∃xs,H a=some (.dK xs)/\aE K F ds xs
 |.ins c fs=>∃C dx gs,W.nsIn K mainGlobals c=some (some (.ref C))/\H a=some (.ins C dx gs)/\bV K F fs gs
 |.set ks=>∃S,H a=some (.set S ks.length)/\v7 S ks
 |.dtn ds=>∃xs,H a=some (.dN xs)/\aN K F ds xs
 |_=>False
def Rp(K:Fg)(F H:Hp)(m:Md)(d:D)(v:V):Prop :=
 match m with
 |.fz=>aB K F d v
 |_=>∃a,v=.ref a/\F a=none/\Top K F H a d
inductive iG:Option HO->Prop
 |no:iG none
 |cr {q:Str}:iG (some (.crec q))
def fV{o:Option HO}(h:o=none):iG o:=h ▸ .no
structure aH(F H F' H':Hp):Prop where
 same:aD H H'
 fsame:aD F F'
 sub:aD F' H'
 new:∀a,F a=none -> ¬ iG (H a)->F' a=none
theorem aH.refl{F:Hp}(h:aD F H):aH F H F H:=⟨aD.refl _,aD.refl _,h,λ_ h _=>h⟩
theorem aH.trans{F F1 H1 F2 H2:Hp}(a:aH F H F1 H1)(b:aH F1 H1 F2 H2):aH F H F2 H2 :=
 ⟨a.same.trans b.same,a.fsame.trans b.fsame,b.sub,λx h1 h2=>b.new x (a.new x h1 h2) (by
  cases e:H x with
  |none=>exact absurd (fV e) h2
  |some o=>rw[a.same x o e,<- e];exact h2)⟩
def aH.laid{F:Hp}{p:Addr}(o:HO)(h:aD F H)(hp:H p=none):aH F H (upd F p o) (upd H p o):=by
 have hf:F p=none:=h.free hp;refine⟨λb u e=>?_,λb u e=>?_,λb u e=>?_,λa h1 h2=>?_⟩
 . rw[aJ (bN e hp)];exact e
 . rw[aJ (bN e hf)];exact e
 . by_cases hb:b=p
   . subst hb;rw[aV]at e ⊢;exact e
   . rw[aJ hb]at e ⊢;exact h b u e
 . have:a≠p:=by rintro rfl;exact h2 (fV hp)
   rw[aJ this];exact h1
def aH.fresh{F:Hp}{p:Addr}(o:HO)(h:aD F H)(hp:H p=none):aH F H F (upd H p o):=by
 refine⟨λb u e=>?_,aD.refl _,λb u e=>?_,λa h1 _=>h1⟩
 . rw[aJ (bN e hp)];exact e
 . rw[aJ (bN (h b u e) hp)];exact h b u e
def Top.step{F:Hp}{a:Addr}{d:D}(st:aH F H F' H')(h:Top K F H a d):Top K F' H' a d:=by
 cases d with
 |lst ds=>obtain⟨xs,e,r⟩:=h;exact⟨xs,st.same _ _ e,r.mono st.fsame _ _⟩
 |dct ds=>obtain⟨xs,e,r⟩:=h;exact⟨xs,st.same _ _ e,r.mono st.fsame _ _⟩
 |ins c fs=>obtain⟨C,dx,gs,n,e,r⟩:=h;exact⟨C,dx,gs,n,st.same _ _ e,r.mono st.fsame _ _⟩
 |set ks=>obtain⟨S,e,r⟩:=h;exact⟨S,st.same _ _ e,r⟩
 |dtn ds=>obtain⟨xs,e,r⟩:=h;exact⟨xs,st.same _ _ e,r.mono st.fsame _ _⟩
 |_=>exact h.elim
def Top.there{F:Hp}{a:Addr}{d:D}(h:Top K F H a d):¬ iG (H a):=by
 cases d with
 |lst ds=>obtain⟨xs,e,r⟩:=h;rw[e];exact λz=>nomatch z
 |dct ds=>obtain⟨xs,e,r⟩:=h;rw[e];exact λz=>nomatch z
 |ins c fs=>obtain⟨C,dx,gs,n,e,r⟩:=h;rw[e];exact λz=>nomatch z
 |set ks=>obtain⟨S,e,r⟩:=h;rw[e];exact λz=>nomatch z
 |dtn ds=>obtain⟨xs,e,r⟩:=h;rw[e];exact λz=>nomatch z
 |_=>exact h.elim
theorem Rp.step{F:Hp}{m:Md}{d:D}(st:aH F H F' H')(h:Rp K F H m d v):Rp K F' H' m d v:=by
 cases m with
 |fz=>exact aB.mono st.fsame d v h
 |fr=>obtain⟨a,e,n,t⟩:=h;exact⟨a,e,st.new a n t.there,t.step st⟩
 |bo=>obtain⟨a,e,n,t⟩:=h;exact⟨a,e,st.new a n t.there,t.step st⟩
def Rp.seqL{F:Hp}{m:Md}(s:aD F H)(h:Rp K F H m (.lst ds) v):∃a xs,v=.ref a/\SqL K H a xs/\aC K F ds xs:=by
 cases m with
 |fz=>have h:aB K F (.lst ds) v:=h;simp only[aB]at h;obtain⟨a,xs,e,q,r⟩:=h;exact⟨a,xs,e,s.seq q,r⟩
 |fr=>obtain⟨a,e,n,xs,q,r⟩:=h;exact⟨a,xs,e,SqL.of q,r⟩
 |bo=>obtain⟨a,e,n,xs,q,r⟩:=h;exact⟨a,xs,e,SqL.of q,r⟩
theorem Rp.seqT{F:Hp}{m:Md}(s:aD F H)(h:Rp K F H m (.tup ds) v):∃a xs,v=.ref a/\SqT K H a xs/\aC K F ds xs:=by
 cases m with
 |fz=>have h:aB K F (.tup ds) v:=h;simp only[aB]at h;obtain⟨a,xs,e,q,r⟩:=h;exact⟨a,xs,e,aD.seqT s q,r⟩
 |fr=>obtain⟨a,e,n,q⟩:=h;exact q.elim
 |bo=>obtain⟨a,e,n,q⟩:=h;exact q.elim
def Rp.dict{F:Hp}{m:Md}{ds:List (Key×D)}(s:aD F H)(h:Rp K F H m (.dct ds) v):∃a xs,v=.ref a/\H a=some (.dK xs)/\aE K F ds xs:=by
 cases m with
 |fz=>have h:aB K F (.dct ds) v:=h;simp only[aB]at h;obtain⟨a,xs,e,q,r⟩:=h;exact⟨a,xs,e,s _ _ q,r⟩
 |fr=>obtain⟨a,e,n,xs,q,r⟩:=h;exact⟨a,xs,e,q,r⟩
 |bo=>obtain⟨a,e,n,xs,q,r⟩:=h;exact⟨a,xs,e,q,r⟩
theorem Rp.ins{F:Hp}{m:Md}{c:Str}{fs:List (Str×D)}(s:aD F H)(h:Rp K F H m (.ins c fs) v):∃a C dx gs,v=.ref a/\W.nsIn K mainGlobals c=some (some (.ref C))/\H a=some (.ins C dx gs)/\bV K F fs gs:=by
 cases m with
 |fz=>have h:aB K F (.ins c fs) v:=h;simp only[aB]at h;obtain⟨a,C,dx,gs,e,n,q,r⟩:=h;exact⟨a,C,dx,gs,e,n,s _ _ q,r⟩
 |fr=>obtain⟨a,e,n,C,dx,gs,z,q,r⟩:=h;exact⟨a,C,dx,gs,e,z,q,r⟩
 |bo=>obtain⟨a,e,n,C,dx,gs,z,q,r⟩:=h;exact⟨a,C,dx,gs,e,z,q,r⟩
theorem Rp.int{F:Hp}{m:Md}{i:Int}(h:Rp K F H m (.int i) v):v=.int i:=by
 cases m with
 |fz=>have h:aB K F (.int i) v:=h;simpa only [aB]using h
 |fr=>obtain⟨a,e,n,q⟩:=h;exact q.elim
 |bo=>obtain⟨a,e,n,q⟩:=h;exact q.elim
theorem Rp.bl{F:Hp}{m:Md}{i:Bool}(h:Rp K F H m (.bl i) v):v=.bl i:=by
 cases m with
 |fz=>have h:aB K F (.bl i) v:=h;simpa only [aB]using h
 |fr=>obtain⟨a,e,n,q⟩:=h;exact q.elim
 |bo=>obtain⟨a,e,n,q⟩:=h;exact q.elim
theorem Rp.non{F:Hp}{m:Md}(h:Rp K F H m .non v):v=.non:=by
 cases m with
 |fz=>have h:aB K F .non v:=h;simpa only [aB]using h
 |fr=>obtain⟨a,e,n,q⟩:=h;exact q.elim
 |bo=>obtain⟨a,e,n,q⟩:=h;exact q.elim
theorem Rp.str{F:Hp}{m:Md}(h:Rp K F H m (.str x) v):v=.str x/\x.length<=sizeLine/\PyData.strOk x=true:=by
 cases m with
 |fz=>have h:aB K F (.str x) v:=h;simpa only [aB]using h
 |fr=>obtain⟨a,e,n,q⟩:=h;exact q.elim
 |bo=>obtain⟨a,e,n,q⟩:=h;exact q.elim
theorem Rp.ty{F:Hp}{m:Md}{n:String}(h:Rp K F H m (.ty n) v):v=.ty n:=by
 cases m with
 |fz=>have h:aB K F (.ty n) v:=h;simpa only [aB]using h
 |fr=>obtain⟨a,e,n,q⟩:=h;exact q.elim
 |bo=>obtain⟨a,e,n,q⟩:=h;exact q.elim
theorem Rp.ob{F:Hp}{m:Md}{n:Addr}(h:Rp K F H m (.ob n) v):v=.ref n:=by
 cases m with
 |fz=>have h:aB K F (.ob n) v:=h;simpa only [aB]using h
 |fr=>obtain⟨a,e,n,q⟩:=h;exact q.elim
 |bo=>obtain⟨a,e,n,q⟩:=h;exact q.elim
def rp_ty{F:Hp}(i:String):Rp K F H .fz (.ty i) (.ty i):=by show aB K F _ _;simp only[aB]
def dB{F:Hp}(i:Int):Rp K F H .fz (.int i) (.int i):=by show aB K F _ _;simp only[aB]
def dQ{F:Hp}(i:Bool):Rp K F H .fz (.bl i) (.bl i):=by show aB K F _ _;simp only[aB]
def v8{F:Hp}:Rp K F H .fz .non .non:=by show aB K F _ _;simp only[aB]
def jF{F:Hp}(h:x.length<=sizeLine/\PyData.strOk x=true):Rp K F H .fz (.str x) (.str x):=by show aB K F _ _;simp only[aB,true_and];exact h
abbrev Rho:=List (Option (Bool×D))
structure aS(K:Fg)(F0 H0 F H:Hp)(σ:L2.St)(ρ:Rho):Prop where
 st:aH F0 H0 F H
 slot:∀(i:Nat) (m:Bool) (d:D),ρ[i]? = some (some (m,d))->∃v,σ[i]? = some (some v)/\Rp K F H (if m then .bo else .fz) d v/\(m=true->∀a,v=.ref a->H0 a=none)
 apart:∀(i j:Nat) (d d':D) (a:Addr),i≠j->ρ[i]? = some (some (true,d))->ρ[j]? = some (some (true,d'))->σ[i]? = some (some (.ref a))->σ[j]? = some (some (.ref a))->False
 len:σ.length=ρ.length
theorem aS.step{F:Hp}{ρ:Rho}(r:aS K F0 H0 F H σ ρ)(st:aH F H F' H'):aS K F0 H0 F' H' σ ρ :=
 ⟨r.st.trans st,λi m d e=>by obtain⟨v,e1,e2,e3⟩:=r.slot i m d e;exact⟨v,e1,e2.step st,e3⟩,r.apart,r.len⟩
theorem aS.sub{F:Hp}{ρ:Rho}(r:aS K F0 H0 F H σ ρ):aD F H:=r.st.sub
abbrev XE:=Str->L2.St->Hp->Prop
structure Cw where
 K:Fg
 F0:Hp
 H0:Hp
 EE:XE
def tG(C:Cw)(g:Rho->Res):TE:=λσ H Q=>∃ρ F,aS C.K C.F0 C.H0 F H σ ρ/\match g ρ with
 |.ok m d=>∀v F' H',aH F H F' H'->Rp C.K F' H' m d v->(m=.fr->∀a,v=.ref a->H a=none)->Q v H'
 |.exc c=>∀F' H',aH F H F' H'->C.EE c σ H'
 |.stuck=>False
abbrev Cw.at(C:Cw)(X:Cx):Cw:={C with K:=X.K}
end D3
variable {g ga gb gi ge:D3.Rho->D3.Res}{C:D3.Cw}{ρ:D3.Rho}
namespace D3
def PV(C:Cw)(X:Cx)(e:Expr)(g:Rho->Res):Prop:=PE X e (tG (C.at X) g)
def PE.imp{t t':TE}(h:PE X e t)(i:∀σ H Q,t' σ H Q->t σ H Q):PE X e t':=λaA s σ H Q I q=>h aA s σ H Q I (i σ H Q q)
noncomputable def Res.thn(r:Res)(k:Md->D->Res):Res:=match r with
 |.ok m d=>k m d
 |.exc c=>.exc c
 |.stuck=>.stuck
@[simp] theorem Res.thn_ok(m:Md)(d:D)(k:Md->D->Res):(Res.ok m d).thn k=k m d:=rfl
@[simp] theorem Res.thn_exc(c:Str)(k:Md->D->Res):(Res.exc c).thn k=.exc c:=rfl
@[simp] theorem Res.thn_stuck(k:Md->D->Res):Res.stuck.thn k=.stuck:=rfl
def Res.of:Option (Md×D)->Res
 |some (m,d)=>.ok m d
 |none=>.stuck
@[simp] theorem Res.of_some(m:Md)(d:D):Res.of (some (m,d))=.ok m d:=rfl
@[simp] theorem Res.of_none:Res.of none=.stuck:=rfl
def aT(C:Cw)(F H:Hp)(σ:L2.St)(r:Res)(Q:VK):Prop:=match r with
 |.ok m d=>∀v F' H',aH F H F' H'->Rp C.K F' H' m d v->(m=.fr->∀a,v=.ref a->H a=none)->Q v H'
 |.exc c=>∀F' H',aH F H F' H'->C.EE c σ H'
 |.stuck=>False
def aQ{Q:VK}:tG C g σ H Q=∃ρ F,aS C.K C.F0 C.H0 F H σ ρ/\aT C F H σ (g ρ) Q:=by unfold tG aT;rfl
def aT.step{F F1 H1:Hp}{r:Res}{Q:VK}(st:aH F H F1 H1)(h:aT C F H σ r Q):aT C F1 H1 σ r Q:=by
 cases r with
 |ok m d=>exact λv F' H' s2 rp hf=>h v F' H' (st.trans s2) rp λe a ea=>st.same.free (hf e a ea)
 |exc c=>exact λF' H' s2=>h F' H' (st.trans s2)
 |stuck=>exact h
section
variable {a b:Expr}
def cM(ρ:Rho)(i:Nat):Res:=match ρ[i]? with
 |some (some (false,d))=>.ok .fz d
 |some (some (true,d))=>.ok .bo d
 |_=>.stuck
def v9(i:Nat)(h:PE X (.Name x pos) (gH i)):PV C X (.Name x pos) (λρ=>cM ρ i):=by
 refine PE.imp h λσ H Q q=>?_;rw[aQ]at q;obtain⟨ρ,F,R,w⟩:=q;unfold cM at w;cases e:ρ[i]? with
 |none=>rw[e]at w;exact w.elim
 |some o =>
  cases o with
  |none=>rw[e]at w;exact w.elim
  |some p =>
   obtain⟨m,d⟩:=p;obtain⟨v,e1,r,_⟩:=R.slot i m d e;rw[e]at w;cases m with
   |false=>exact⟨v,e1,w v F H (.refl R.sub) r (by nofun)⟩
   |true=>exact⟨v,e1,w v F H (.refl R.sub) r (by nofun)⟩
def iH(d:D)(h:PE X e (tC v))(r:∀F H,Rp X.K F H .fz d v):PV C X e (λ_=>.ok .fz d):=by refine PE.imp h λσ H Q q=>?_;rw[aQ]at q;obtain⟨ρ,F,R,w⟩:=q;exact w v F H (.refl R.sub) (r F H) (by nofun)
def aFN{i j:_}:PV C X (.Constant (.int i) j pos) (λ_=>.ok .fz (.int i)):=iH _ aCZ λ_ _=>dB i
def pv_bl{i j:_}:PV C X (.Constant (.bool i) j pos) (λ_=>.ok .fz (.bl i)):=iH _ pe_bl λ_ _=>dQ i
def aFO{j:_}:PV C X (.Constant .none j pos) (λ_=>.ok .fz .non):=iH _ aC0 λ_ _=>v8
def aFP{j:_}(h:(decide (x.length<=sizeLine)&&PyData.strOk x)=true:=by decide +kernel):PV C X (.Constant (.str x) j pos) (λ_=>.ok .fz (.str x)) :=
 iH _ aC1 λ_ _=>jF (by rw[aSI,aTC]at h;exact h)
noncomputable def op2(φ:Md->D->Md->D->Option (Md×D))(x y:Res):Res:=x.thn λm d=>y.thn λn e=>Res.of (φ m d n e)
def OpD(C:Cw)(X:Cx)(f:aV3->aV3->Sem aV3)(φ:Md->D->Md->D->Option (Md×D)):Prop :=
 ∃r:R2,OpR X f r/\∀F H m x n y v u k d Q,aD F H->Rp X.K F H m x v->Rp X.K F H n y u->φ m x n y=some (k,d) ->
  (∀v' F' H',aH F H F' H'->Rp X.K F' H' k d v'->(k=.fr->∀a,v'=.ref a->H a=none)->Q v' H')->r v u H Q
def kU{φ:Md->D->Md->D->Option (Md×D)}{r:R2}(h:∀F H m x n y v u k d Q,aD F H->Rp C.K F H m x v->Rp C.K F H n y u->φ m x n y=some (k,d)->(∀v' F' H',aH F H F' H'->Rp C.K F' H' k d v'->(k=.fr->∀a,v'=.ref a->H a=none)->Q v' H')->r v u H Q){Q:VK}(q:tG C (λρ=>op2 φ (ga ρ) (gb ρ)) σ H Q):tOp r (tG C ga) (tG C gb) σ H Q:=by
 unfold tOp;rw[aQ]at q ⊢;obtain⟨ρ,F,R,w⟩:=q;refine⟨ρ,F,R,?_⟩;cases ea:ga ρ with
 |stuck=>simp only[op2,ea,Res.thn]at w;exact w
 |exc c=>simp only[op2,ea,Res.thn]at w;exact w
 |ok m d =>
  intro v F1 H1 s1 r1 _;rw[aQ];refine⟨ρ,F1,R.step s1,?_⟩;have w1:=w.step s1;simp only[op2,ea,Res.thn]at w1;cases eb:gb ρ with
  |stuck=>rw[eb]at w1;exact w1
  |exc c=>rw[eb]at w1;exact w1
  |ok n e =>
   rw[eb]at w1;intro u F2 H2 s2 r2 _;have w2:aT C F2 H2 σ (Res.of (φ m d n e)) Q:=aT.step s2 w1;cases ef:φ m d n e with
   |none=>rw[ef]at w2;exact w2.elim
   |some kd=>obtain⟨k,d'⟩:=kd;rw[ef]at w2;exact h F2 H2 m d n e v u k d' Q s2.sub (r1.step s2) r2 ef w2
def pv_op{op:Operator}{φ}(o:OpD C X (binaryOp op) φ)(ha:PV C X a ga)(hb:PV C X b gb):PV C X (.BinOp a op b pos) (λρ=>op2 φ (ga ρ) (gb ρ)):=by obtain⟨r,h1,h2⟩:=o;exact PE.imp (pe_op h1 ha hb) λσ H Q q=>kU h2 q
def pV{op:CmpOp}{φ}(o:OpD C X (compareOp op) φ)(ha:PV C X a ga)(hb:PV C X b gb)(hm:behindInMarks op b=false):PV C X (.Compare a [op] [b] pos) (λρ=>op2 φ (ga ρ) (gb ρ)):=by obtain⟨r,h1,h2⟩:=o;exact PE.imp (aD1 h1 ha hb hm) λσ H Q q=>kU h2 q
def orO(φ ψ:Md->D->Md->D->Option (Md×D)):Md->D->Md->D->Option (Md×D):=λm x n y=>(φ m x n y).orElse λ_=>ψ m x n y
theorem OpD.or{f:aV3->aV3->Sem aV3}{φ ψ}(h:OpD C X f φ)(h':OpD C X f ψ):OpD C X f (orO φ ψ):=by
 obtain⟨r,h1,h2⟩:=h;obtain⟨r',h1',h2'⟩:=h';refine⟨_,h1.or h1',λF H m x n y v u k d Q s rx ry e w=>?_⟩;unfold orO at e;cases e1:φ m x n y with
 |none=>rw[e1]at e;exact .inr (h2' F H m x n y v u k d Q s rx ry e w)
 |some p=>rw[e1]at e;cases e;exact .inl (h2 F H m x n y v u k d Q s rx ry e1 w)
noncomputable def fI(c:Int->Int->Bool)(g:Int->Int->D):Md->D->Md->D->Option (Md×D):=λ_ x _ y=>match x,y with
 |.int i,.int j=>if c i j=true then some (.fz,g i j)else none
 |_,_=>none
def nH{f:aV3->aV3->Sem aV3}{Cc:Int->Int->Prop}{c:Int->Int->Bool}{g:Int->Int->V}{g':Int->Int->D}(o:OpR X f (rI Cc g))(hc:∀i j,c i j=true->Cc i j)(hg:∀F H i j,Rp X.K F H .fz (g' i j) (g i j)):OpD C X f (fI c g'):=by
 refine⟨_,o,λF H m x n y v u k d Q s rx ry e w=>?_⟩;unfold fI at e;split at e
 . rename_i i j;cases rx.int;cases ry.int;split at e
   . rename_i hcc;cases e;exact⟨i,j,rfl,rfl,hc i j hcc,w _ F H (.refl s) (hg F H i j) (by nofun)⟩
   . cases e
 . cases e
def jG{f:aV3->aV3->Sem aV3}{g:Int->Int->V}{g':Int->Int->D}(o:OpR X f (rI0 g))(hg:∀F H i j,Rp X.K F H .fz (g' i j) (g i j)):OpD C X f (fI (λ_ _=>true) g'):=by
 refine⟨_,o,λF H m x n y v u k d Q s rx ry e w=>?_⟩;unfold fI at e;split at e
 . rename_i i j;cases rx.int;cases ry.int;rw[if_pos rfl]at e;cases e;exact⟨i,j,rfl,rfl,w _ F H (.refl s) (hg F H i j) (by nofun)⟩
 . cases e
def bits(i:Int):Bool:=decide (i.natAbs.log2<9000)
def aFQ:OpD C X (binaryOp .Add) (fI (λ_ _=>true) λi j=>.int (i+j)):=jG aDS λ_ _ i j=>dB _
def aFR:OpD C X (binaryOp .Sub) (fI (λ_ _=>true) λi j=>.int (i-j)):=jG aDT λ_ _ i j=>dB _
theorem aFS{i j:Int}(h:(bits i&&bits j)=true):IntMulOk i j:=by
 rw[aSI]at h;have b:∀{i:Int},bits i=true->Builtin.Int.intBits i<=2 ^ 20:=λ{i} h=>by
  unfold bits at h;have:=aTD h;unfold Builtin.Int.intBits;split
  . exact aRN _
  . have e:(2:Nat) ^ 20=1048576:=by decide
    lia
 exact IntMulOk.of_bits (b h.1) (b h.2)
def w64(i:Int):Bool:=decide (i.natAbs<2 ^ 63)
theorem wA{i:Int}(h:w64 i=true):Builtin.Int.intBits i<=64:=by
 have h:=aTD h;unfold Builtin.Int.intBits;split
 . exact aRN _
 . rename_i hz;have:i.natAbs.log2<63:=(Nat.log2_lt (by simpa using hz)).mpr h
   lia
def aFT:OpD C X (binaryOp .Mult) (fI (λi j=>(bits i&&bits j)||(w64 i||w64 j)) λi j=>.int (i * j)) :=
 nH (Cc:=λi j=>IntMulOk i j) (opI λ_ _ _ _ _ _ _ hc q=>mul_int q hc) (λi j h=>by
  rcases(aTE _ _).mp h with h|h
  . exact aFS h
  . rcases(aTE _ _).mp h with h|h
    . exact IntMulOk.of_left (wA h)
    . exact IntMulOk.of_right (wA h)) λ_ _ i j=>dB _
def aFU:OpD C X (binaryOp .Mod) (fI (λ_ j=>decide (0<j)) λi j=>.int (i % j)):=nH aDU (λi j h=>aTD h) λ_ _ i j=>dB _
theorem aFV:OpR X (binaryOp .FloorDiv) (rI (λ_ j=>0<j/\bits j=true) λi j=>.int (i / j)):=opI λi j _ _ _ _ _ hc q=>by
 obtain⟨h1,h2⟩:=hc;refine floordiv_int (by lia) ?_ (.inl (PyProof.noPylong_of_log2 (aTD h2)))
 rw[Int.fdiv_eq_ediv_of_nonneg i (by lia)]
 exact q
def aFW:OpD C X (binaryOp .FloorDiv) (fI (λ_ j=>decide (0<j)&&bits j) λi j=>.int (i / j)):=nH aFV (λi j h=>by rw[aSI,aTC]at h;exact h) λ_ _ i j=>dB _
def aFX:OpD C X (binaryOp .Pow) (fI (λi j=>decide (0<=j)&&decide (j<=1000000)&&decide (i.natAbs<2 ^ 64)) λi j=>.int (i ^ j.toNat)) :=
 nH aDV (λi j h=>by simp only[aSI,aTC]at h;exact⟨h.1.1,h.1.2,h.2⟩) λ_ _ i j=>dB _
def aFY:OpD C X (compareOp .Lt) (fI (λ_ _=>true) λi j=>.bl (decide (i<j))):=jG op_lt λ_ _ i j=>dQ _
def aFZ:OpD C X (compareOp .LtE) (fI (λ_ _=>true) λi j=>.bl (decide (i<=j))):=jG op_le λ_ _ i j=>dQ _
def aF0:OpD C X (compareOp .Gt) (fI (λ_ _=>true) λi j=>.bl (decide (j<i))):=jG op_gt λ_ _ i j=>dQ _
def aF1:OpD C X (compareOp .GtE) (fI (λ_ _=>true) λi j=>.bl (decide (j<=i))):=jG op_ge λ_ _ i j=>dQ _
noncomputable def fS(c:Str->Str->Bool)(g:Str->Str->D):Md->D->Md->D->Option (Md×D):=λ_ x _ y=>match x,y with
 |.str i,.str j=>if c i j=true then some (.fz,g i j)else none
 |_,_=>none
def aF2{y:Str}(hx:PyData.strOk x=true)(hy:PyData.strOk y=true):PyData.strOk (x++y)=true:=by unfold PyData.strOk at *;show(x.cps++y.cps).all _=true;rw[Array.all_append,hx,hy];rfl
def aF3:OpD C X (binaryOp .Add) (fS (λi j=>decide (i.length+j.length<=sizeLine)) λi j=>.str (i++j)):=by
 refine⟨_,aD6,λF H m x n y v u k d Q s rx ry e w=>?_⟩;unfold fS at e;split at e
 . rename_i i j;obtain⟨rfl,h1⟩:=rx.str;obtain⟨rfl,h2⟩:=ry.str;split at e
   . rename_i hc;cases e;have hc:=aTD hc;exact⟨i,j,rfl,rfl,hc,w _ F H (.refl s) (jF ⟨by rw[strLen_append];exact hc,aF2 h1.2 h2.2⟩) (by nofun)⟩
   . cases e
 . cases e
def jH(i j:Str):Bool:=!(Builtin.Str.occurrences j i 0 j.length 1).isEmpty
def aF4:OpD C X (compareOp .In) (fS (λ_ _=>true) λi j=>.bl (jH i j)):=by
 refine⟨_,aDX,λF H m x n y v u k d Q s rx ry e w=>?_⟩;unfold fS at e;split at e
 . rename_i i j;obtain⟨rfl,h1⟩:=rx.str;obtain⟨rfl,h2⟩:=ry.str;rw[if_pos rfl]at e;cases e;exact⟨i,j,rfl,rfl,w _ F H (.refl s) (dQ _) (by nofun)⟩
 . cases e
def aF5:OpD C X (compareOp .NotIn) (fS (λ_ _=>true) λi j=>.bl (!jH i j)):=by
 refine⟨_,aD0,λF H m x n y v u k d Q s rx ry e w=>?_⟩;unfold fS at e;split at e
 . rename_i i j;obtain⟨rfl,h1⟩:=rx.str;obtain⟨rfl,h2⟩:=ry.str;rw[if_pos rfl]at e;cases e;exact⟨i,j,rfl,rfl,w _ F H (.refl s) (dQ _) (by nofun)⟩
 . cases e
end
section
variable  {a b:Expr}{gc:Rho->Res}
def aW:Res->Res
 |.ok .bo _=>.stuck
 |.ok _ d=>.ok .fz d
 |r=>r
def aH.freeze{F:Hp}{x:Addr}{o:HO}(st:aH F H F' H')(hx:H x=none)(hx':F' x=none)(ho:H' x=some o):aH F H (upd F' x o) H':=by
 refine⟨st.same,λb u q=>?_,λb u q=>?_,λy h1 h2=>?_⟩
 . rw[aJ (bN (st.fsame b u q) hx')];exact st.fsame b u q
 . by_cases hb:b=x
   . subst hb;rw[aV]at q;rw[<- q];exact ho
   . rw[aJ hb]at q;exact st.sub b u q
 . have:y≠x:=by rintro rfl;exact h2 (fV hx)
   rw[aJ this];exact st.new y h1 h2
def Top.freeze{F:Hp}{x:Addr}{d:D}(hx:F x=none)(h:Top K F H x d):∃o,H x=some o/\aB K (upd F x o) d (.ref x):=by
 have s:∀o,aD F (upd F x o):=λo b u q=>by rw[aJ (bN q hx)];exact q
 cases d with
 |lst ds=>obtain⟨xs,q,r⟩:=h;refine⟨_,q,?_⟩;simp only[aB];exact⟨x,xs,rfl,SqL.of aV,r.mono (s _) _ _⟩
 |dct ds=>obtain⟨xs,q,r⟩:=h;refine⟨_,q,?_⟩;simp only[aB];exact⟨x,xs,rfl,aV,r.mono (s _) _ _⟩
 |ins c fs=>obtain⟨C,dx,gs,n,q,r⟩:=h;refine⟨_,q,?_⟩;simp only[aB];exact⟨x,C,dx,gs,rfl,n,aV,r.mono (s _) _ _⟩
 |set ks=>obtain⟨S,q,r⟩:=h;refine⟨_,q,?_⟩;simp only[aB];exact⟨x,S,rfl,aV,r⟩
 |dtn ds=>obtain⟨xs,q,r⟩:=h;refine⟨_,q,?_⟩;simp only[aB];exact⟨x,xs,rfl,aV,r.mono (s _) _ _⟩
 |_=>exact h.elim
def aT.frz{F:Hp}{r:Res}{Q:VK}(w:aT C F H σ (aW r) Q):aT C F H σ r Q:=by
 cases r with
 |exc c=>exact w
 |stuck=>exact w
 |ok m d =>
  cases m with
  |fz=>exact w
  |bo=>exact(show False from w).elim
  |fr=>intro v F' H' st rp fr;obtain⟨x,rfl,n,t⟩:=rp;obtain⟨o,ho,r⟩:=t.freeze n;exact w (.ref x) (upd F' x o) H' (st.freeze (fr rfl x rfl) n ho) r (by nofun)
def fW(h:PV C X e g):PV C X e (λρ=>aW (g ρ)):=PE.imp h λσ H Q q=>by
 rw[aQ]at q ⊢;obtain⟨ρ,F,R,w⟩:=q
 try dsimp only at w
 exact⟨ρ,F,R,w.frz⟩
def iI(C:Cw)(F H:Hp)(σ:L2.St)(r:Res)(Q:Bool->Hp->Prop):Prop:=match r with
 |.ok _ (.bl b)=>∀F' H',aH F H F' H'->Q b H'
 |.exc c=>∀F' H',aH F H F' H'->C.EE c σ H'
 |_=>False
def iI.step{F F1 H1:Hp}{r:Res}{Q:Bool->Hp->Prop}(st:aH F H F1 H1)(h:iI C F H σ r Q):iI C F1 H1 σ r Q:=by
 cases r with
 |ok m d =>
  cases d with
  |bl b=>exact λF' H' s2=>h F' H' (st.trans s2)
  |_=>exact h
 |exc c=>exact λF' H' s2=>h F' H' (st.trans s2)
 |stuck=>exact h
def tT(C:Cw)(g:Rho->Res):TT:=λσ H Q=>∃ρ F,aS C.K C.F0 C.H0 F H σ ρ/\iI C F H σ (g ρ) Q
def PTv(C:Cw)(X:Cx)(e:Expr)(g:Rho->Res):Prop:=PT X e (tT (C.at X) g)
def PWv(C:Cw)(X:Cx)(e:Expr)(g:Rho->Res):Prop:=PW X e (tT (C.at X) g)
def PT.imp{t t':TT}(h:PT X e t)(i:∀σ H Q,t' σ H Q->t σ H Q):PT X e t':=λaA s σ H Q I q=>h aA s σ H Q I (i σ H Q q)
def PW.imp{t t':TT}(h:PW X e t)(i:∀σ H Q,t' σ H Q->t σ H Q):PW X e t':=λwhole aA s σ H Q I q=>h whole aA s σ H Q I (i σ H Q q)
def nI:D->Option Bool
 |.non=>some false
 |.bl b=>some b
 |.int i=>some (i != 0)
 |.str x=>some ((x.length:Int) != 0)
 |.tup ds=>some (!ds.isEmpty)
 |.lst ds=>some (!ds.isEmpty)
 |.dct ds=>some (!ds.isEmpty)
 |_=>none
def kW(r:Res):Res:=r.thn λ_ d=>match nI d with|some b=>.ok .fz (.bl b)|none=>.stuck
theorem aC.isEmpty{F:Hp}(h:aC K F ds xs):ds.isEmpty=xs.isEmpty:=by
 cases ds with
 |nil=>simp only[aC]at h;subst h;rfl
 |cons d ds=>simp only[aC]at h;obtain⟨y,ys,rfl,_⟩:=h;rfl
theorem aE.isEmpty{F:Hp}{ds:List (Key×D)}{xs:List (Key×V)}(h:aE K F ds xs):ds.isEmpty=xs.isEmpty:=by
 cases ds with
 |nil=>simp only[aE]at h;subst h;rfl
 |cons d ds=>obtain⟨k,d⟩:=d;simp only[aE]at h;obtain⟨y,ys,rfl,_⟩:=h;rfl
def aF6{F:Hp}{m:Md}{d:D}{k:Bool}(s:aD F H)(h:Rp K F H m d v)(e:nI d=some k):pI K v H k:=by
 cases d with
 |non=>cases h.non;cases e;rfl
 |bl b=>cases h.bl;cases e;rfl
 |int i=>cases h.int;cases e;rfl
 |str x=>obtain⟨rfl,hl,_⟩:=h.str;cases e;exact⟨hl,rfl⟩
 |tup ds=>obtain⟨a,xs,rfl,q,r⟩:=h.seqT s;cases e;exact .inr (.inl ⟨xs,q,by rw[r.isEmpty]⟩)
 |lst ds=>obtain⟨a,xs,rfl,q,r⟩:=h.seqL s;cases e;exact .inl ⟨xs,q,by rw[r.isEmpty]⟩
 |dct ds=>obtain⟨a,xs,rfl,q,r⟩:=h.dict s;cases e;exact .inr (.inr ⟨xs,q,by rw[r.isEmpty]⟩)
 |ty n=>cases e
 |ob n=>cases e
 |ins n=>cases e
 |fn n=>cases e
 |exn n=>cases e
 |set n=>cases e
 |dtn n=>cases e
 |dtf n=>cases e
 |dcf n=>cases e
 |clo _ _=>cases e
def aF7(h:PV C X e g)(he:∀whole,isTrue e X.env whole=(do let v <- whole;standAt e.pos;holding [v] (truthy v)):=by intro _;rfl):PTv C X e (λρ=>kW (g ρ)):=by
 refine PT.imp (aD5 h he) λσ H Q q=>?_;obtain⟨ρ,F,R,w⟩:=q
 try dsimp only at w
 rw[aQ];refine⟨ρ,F,R,?_⟩;cases er:g ρ with
 |stuck=>rw[er]at w;exact w
 |exc c=>rw[er]at w;exact w
 |ok m d =>
  rw[er]at w;intro v F' H' st rp _;have w:iI (C.at X) F H σ (match nI d with|some b=>.ok .fz (.bl b)|none=>.stuck) Q:=w
  cases ed:nI d with
  |none=>rw[ed]at w;exact w.elim
  |some k=>rw[ed]at w;exact⟨k,aF6 st.sub rp ed,w F' H' st⟩
def pW{op:CmpOp}{φ}(o:OpD C X (compareOp op) φ)(hb':∀m x n y k d,φ m x n y=some (k,d)->∃t,k=.fz/\d=.bl t)(ha:PV C X a ga)(hb:PV C X b gb)(hm:behindInMarks op b=false):PTv C X (.Compare a [op] [b] pos) (λρ=>op2 φ (ga ρ) (gb ρ)):=by
 obtain⟨r,h1,h2⟩:=o;refine PT.imp (aD2 h1 ha hb hm) λσ H Q q=>?_;obtain⟨ρ,F,R,w⟩:=q
 try dsimp only at w
 unfold u4;refine kU h2 ?_;rw[aQ];refine⟨ρ,F,R,?_⟩;cases er:op2 φ (ga ρ) (gb ρ)with
 |stuck=>rw[er]at w;exact w
 |exc c=>rw[er]at w;exact w
 |ok m d =>
  rw[er]at w;have:∃t,m=.fz/\d=.bl t:=by
   unfold op2 at er;cases e1:ga ρ with
   |stuck=>rw[e1]at er;cases er
   |exc c=>rw[e1]at er;cases er
   |ok m1 d1 =>
    cases e2:gb ρ with
    |stuck=>rw[e1,e2]at er;cases er
    |exc c=>rw[e1,e2]at er;cases er
    |ok m2 d2 =>
     rw[e1,e2]at er;have er:Res.of (φ m1 d1 m2 d2)=.ok m d:=er;cases e3:φ m1 d1 m2 d2 with
     |none=>rw[e3]at er;cases er
     |some kd=>rw[e3]at er;obtain⟨k,d'⟩:=kd;cases er;exact hb' _ _ _ _ _ _ e3
  obtain⟨t,rfl,rfl⟩:=this;intro v F' H' st rp _;cases rp.bl;exact⟨t,rfl,w F' H' st⟩
def eR(x:Res)(y:Res):Res:=x.thn λ_ d=>match d with|.bl true=>y|.bl false=>.ok .fz (.bl false)|_=>.stuck
def orR(x:Res)(y:Res):Res:=x.thn λ_ d=>match d with|.bl true=>.ok .fz (.bl true)|.bl false=>y|_=>.stuck
def kX(x:Res):Res:=x.thn λ_ d=>match d with|.bl b=>.ok .fz (.bl (!b))|_=>.stuck
def aF8(ha:PTv C X a ga):PTv C X (.UnaryOp .Not a pos) (λρ=>kX (ga ρ)):=by
 refine PT.imp (aC6 ha) λσ H Q q=>?_;obtain⟨ρ,F,R,w⟩:=q
 try dsimp only at w
 refine⟨ρ,F,R,?_⟩;cases er:ga ρ with
 |stuck=>rw[er]at w;exact w
 |exc c=>rw[er]at w;exact w
 |ok m d =>
  rw[er]at w;cases d with
  |bl b=>exact w
  |_=>exact w
def wB{op:BoolOp}(h:PTv C X a ga):PWv C X (.BoolOp op [a] pos) ga:=by
 cases op with
 |And=>exact aC3 h
 |Or=>exact aC4 h
def wC{Q:Bool->Hp->Prop}(q:tT C (λρ=>eR (ga ρ) (gb ρ)) σ H Q):pE (tT C ga) (tT C gb) σ H Q:=by
 obtain⟨ρ,F,R,w⟩:=q
 try dsimp only at w
 refine⟨ρ,F,R,?_⟩;cases er:ga ρ with
 |stuck=>rw[er]at w;exact w
 |exc c=>rw[er]at w;exact w
 |ok m d =>
  rw[er]at w;cases d with
  |bl b =>
   intro F' H' st;cases b with
   |true=>rw[if_pos rfl];exact⟨ρ,F',R.step st,iI.step st w⟩
   |false=>rw[if_neg aQ7];exact w F' H' st
  |_=>exact w
def tT_or{Q:Bool->Hp->Prop}(q:tT C (λρ=>orR (ga ρ) (gb ρ)) σ H Q):tOr (tT C ga) (tT C gb) σ H Q:=by
 obtain⟨ρ,F,R,w⟩:=q
 try dsimp only at w
 refine⟨ρ,F,R,?_⟩;cases er:ga ρ with
 |stuck=>rw[er]at w;exact w
 |exc c=>rw[er]at w;exact w
 |ok m d =>
  rw[er]at w;cases d with
  |bl b =>
   intro F' H' st;cases b with
   |true=>rw[if_pos rfl];exact w F' H' st
   |false=>rw[if_neg aQ7];exact⟨ρ,F',R.step st,iI.step st w⟩
  |_=>exact w
def aF9{rest:List Expr}(ha:PTv C X a ga)(hb:PWv C X (.BoolOp .And (b::rest) pos) gb):PWv C X (.BoolOp .And (a::b::rest) pos) (λρ=>eR (ga ρ) (gb ρ)):=PW.imp (aC5 ha hb) λ_ _ _ q=>wC q
def aGA{rest:List Expr}(ha:PTv C X a ga)(hb:PWv C X (.BoolOp .Or (b::rest) pos) gb):PWv C X (.BoolOp .Or (a::b::rest) pos) (λρ=>orR (ga ρ) (gb ρ)):=PW.imp (pw_or ha hb) λ_ _ _ q=>tT_or q
def pt_w(h:PWv C X e g):PTv C X e g:=PW.pt h
def wD{op}(h:PV C X a ga):PV C X (.BoolOp op [a] pos) ga:=aC7 h
def aGB{rest:List Expr}(ha:PV C X a ga)(hb:PV C X (.BoolOp .And (b::rest) pos) gb):PV C X (.BoolOp .And (a::b::rest) pos) (λρ=>eR (ga ρ) (gb ρ)):=by
 refine PE.imp (aC8 ha hb) λσ H Q q=>?_;unfold uU;rw[aQ]at q ⊢;obtain⟨ρ,F,R,w⟩:=q
 try dsimp only at w
 refine⟨ρ,F,R,?_⟩;cases er:ga ρ with
 |stuck=>rw[er]at w;exact w
 |exc c=>rw[er]at w;exact w
 |ok m d =>
  rw[er]at w;cases d with
  |bl k =>
   intro v F' H' st rp _;cases rp.bl;refine⟨k,rfl,?_⟩;cases k with
   |true=>rw[if_pos rfl,aQ];exact⟨ρ,F',R.step st,aT.step st w⟩
   |false=>rw[if_neg aQ7];exact w (.bl false) F' H' st (dQ _) (by nofun)
  |_=>exact w.elim
def aGC{rest:List Expr}(ha:PV C X a ga)(hb:PV C X (.BoolOp .Or (b::rest) pos) gb):PV C X (.BoolOp .Or (a::b::rest) pos) (λρ=>orR (ga ρ) (gb ρ)):=by
 refine PE.imp (pe_or ha hb) λσ H Q q=>?_;unfold tOrV;rw[aQ]at q ⊢;obtain⟨ρ,F,R,w⟩:=q
 try dsimp only at w
 refine⟨ρ,F,R,?_⟩;cases er:ga ρ with
 |stuck=>rw[er]at w;exact w
 |exc c=>rw[er]at w;exact w
 |ok m d =>
  rw[er]at w;cases d with
  |bl k =>
   intro v F' H' st rp _;cases rp.bl;refine⟨k,rfl,?_⟩;cases k with
   |true=>rw[if_pos rfl];exact w (.bl true) F' H' st (dQ _) (by nofun)
   |false=>rw[if_neg aQ7,aQ];exact⟨ρ,F',R.step st,aT.step st w⟩
  |_=>exact w.elim
def aGD(ha:PV C X a ga):PV C X (.UnaryOp .Not a pos) (λρ=>kX (ga ρ)):=by
 refine PE.imp (aC9 ha) λσ H Q q=>?_;unfold uV;rw[aQ]at q ⊢;obtain⟨ρ,F,R,w⟩:=q
 try dsimp only at w
 refine⟨ρ,F,R,?_⟩;cases er:ga ρ with
 |stuck=>rw[er]at w;exact w
 |exc c=>rw[er]at w;exact w
 |ok m d =>
  rw[er]at w;cases d with
  |bl k=>intro v F' H' st rp _;cases rp.bl;exact⟨k,rfl,w _ F' H' st (dQ _) (by nofun)⟩
  |_=>exact w.elim
def nJ(x:Res):Res:=x.thn λ_ d=>match d with|.int i=>.ok .fz (.int (-i))|_=>.stuck
def aGE(ha:PV C X a ga):PV C X (.UnaryOp .USub a pos) (λρ=>nJ (ga ρ)):=by
 refine PE.imp (pe_un aDW ha) λσ H Q q=>?_;unfold tUn;rw[aQ]at q ⊢;obtain⟨ρ,F,R,w⟩:=q
 try dsimp only at w
 refine⟨ρ,F,R,?_⟩;cases er:ga ρ with
 |stuck=>rw[er]at w;exact w
 |exc c=>rw[er]at w;exact w
 |ok m d =>
  rw[er]at w;cases d with
  |int i=>intro v F' H' st rp _;cases rp.int;exact⟨i,rfl,w _ F' H' st (dB _) (by nofun)⟩
  |_=>exact w.elim
def ixD:Md->D->Md->D->Option (Md×D):=λ_ x _ y=>match x,y with
 |.lst ds,.int i=>(atI ds i).map λd=>(.fz,d)
 |.tup ds,.int i=>(atI ds i).map λd=>(.fz,d)
 |.str z,.int i=>(atI z.cps.toList i).map λc=>(.fz,.str ⟨#[c]⟩)
 |_,_=>none
theorem aC.atI{F:Hp}{i:Int}{d:D}(h:aC K F ds xs)(e:atI ds i=some d):∃x,L2.atI xs i=some x/\aB K F d x:=by
 unfold L2.atI at *;rw[h.length];cases q:ixN ds.length i with
 |none=>rw[q]at e;cases e
 |some j=>rw[q]at e;exact h.get' e
def aGF{F:Hp}{m n k:Md}{x y d:D}{u:V}{Q:VK}(s:aD F H)(rx:Rp X.K F H m x v)(ry:Rp X.K F H n y u)(e:ixD m x n y=some (k,d))(w:∀v' F' H',aH F H F' H'->Rp X.K F' H' k d v'->(k=.fr->∀a,v'=.ref a->H a=none)->Q v' H'):rIx X.K v u H Q:=by
 unfold ixD at e;split at e
 . rename_i ds i;cases ry.int;obtain⟨p,xs,rfl,hq,r⟩:=rx.seqL s;cases ei:atI ds i with
   |none=>rw[ei]at e;cases e
   |some d'=>rw[ei]at e;cases e;obtain⟨x',ex,rx'⟩:=r.atI ei;exact .inl ⟨p,xs,i,x',rfl,rfl,hq,ex,w x' F H (.refl s) rx' (by nofun)⟩
 . rename_i ds i;cases ry.int;obtain⟨p,xs,rfl,hq,r⟩:=rx.seqT s;cases ei:atI ds i with
   |none=>rw[ei]at e;cases e
   |some d'=>rw[ei]at e;cases e;obtain⟨x',ex,rx'⟩:=r.atI ei;exact .inr (.inl ⟨p,xs,i,x',rfl,rfl,hq,ex,w x' F H (.refl s) rx' (by nofun)⟩)
 . rename_i z i;cases ry.int;obtain⟨rfl,hl,hk⟩:=rx.str;cases ei:atI z.cps.toList i with
   |none=>rw[ei]at e;cases e
   |some c =>
    rw[ei]at e;cases e;refine .inr (.inr ⟨z,i,c,rfl,rfl,hl,ei,w _ F H (.refl s) (jF ⟨?_,?_⟩) (by nofun)⟩)
    . show 1<=sizeLine;decide
    . obtain⟨j,_,hj,_⟩:=m5 ei;unfold PyData.strOk at hk ⊢;rw[aTF]at hk;have hc:=hk c (by rw[<- aRJ];exact aR0 hj)
      simpa using hc
 . cases e
def pv_ix(ha:PV C X a ga)(hb:PV C X b gb)(hs:m7 b:=by intro _ _;rfl):PV C X (.Subscript a b pos) (λρ=>op2 ixD (ga ρ) (gb ρ)):=by exact PE.imp (vN aEY ha hb hs) λσ H Q q=>kU (λF H m x n y v u k d Q s rx ry e w=>aGF s rx ry e w) q
def aGG:SlR X (λx lo hi H Q=>∃z,x=.str z/\z.length<=sizeLine/\Q (.str (Txt.slice z lo hi)) H):=by
 intro aA s σ H x v vl vu lo hi sl Q I rx hs pl pu h;obtain⟨z,rfl,hz,q⟩:=h;obtain⟨t,rfl⟩:=rx;refine⟨"str", _,PySem.F.slot_str_getitem.lookup,typeIs_str _ _ _,?_⟩;have fin:∀t' k,EP X aA σ Q (.str (Txt.slice z lo hi) t') {s with toks:=k}:=λt' k=>⟨.str (Txt.slice z lo hi),H,I.tok _,⟨_,rfl⟩,q⟩
 cases pl with
 |none =>
  cases pu with
  |none=>exact aTG (l:=none) (u:=none) (st:=none) hs rfl (aTH ⟨aQR (aTI z _ _) hz,λt' k=>fin t' k⟩)
  |int j tj=>exact aTG (l:=none) (u:=some (j,tj)) (st:=none) hs rfl (aTH ⟨aQR (aTI z _ _) hz,λt' k=>fin t' k⟩)
 |int i ti =>
  cases pu with
  |none=>exact aTG (l:=some (i,ti)) (u:=none) (st:=none) hs rfl (aTH ⟨aQR (aTI z _ _) hz,λt' k=>fin t' k⟩)
  |int j tj=>exact aTG (l:=some (i,ti)) (u:=some (j,tj)) (st:=none) hs rfl (aTH ⟨aQR (aTI z _ _) hz,λt' k=>fin t' k⟩)
def aGH(h:PyData.strOk z=true):PyData.strOk (Txt.slice z lo hi)=true:=by
 unfold Txt.slice;split
 . exact h
 . unfold PyData.strOk at *;rw[aTF]at h ⊢;intro c hc;rw[<- aRJ,List.toList_toArray,aRF]at hc;obtain⟨j,_,hj⟩:=hc;exact h c (aTJ hj)
def POv(C:Cw)(X:Cx):Option Expr->Option (Rho->Res)->Prop
 |none,none=>True
 |some e,some g=>PV C X e g
 |_,_=>False
def wE(C:Cw):Option (Rho->Res)->TO
 |none=>vL
 |some g=>mZ (tG C g)
def wF{e:Option Expr}{g:Option (Rho->Res)}(h:POv C X e g):PO X e (wE (C.at X) g):=by
 cases e with
 |none=>cases g with
  |none=>exact aEP
  |some g=>exact h.elim
 |some e=>cases g with
  |none=>exact h.elim
  |some g=>exact aEQ h
def cU(g:Option (Rho->Res))(ρ:Rho)(k:Option Int->Res):Res:=match g with
 |none=>k none
 |some g=>(g ρ).thn λ_ d=>match d with|.int i=>k (some i)|_=>.stuck
def jI{F:Hp}{g:Option (Rho->Res)}{k:Option Int->Res}{Q:VK}{R:Option Int->Hp->Prop}(RS:aS C.K C.F0 C.H0 F H σ ρ)(w:aT C F H σ (cU g ρ k) Q)(h:∀i F' H',aH F H F' H'->aS C.K C.F0 C.H0 F' H' σ ρ->aT C F' H' σ (k i) Q->R i H'):wE C g σ H R:=by
 cases g with
 |none=>exact h none F H (.refl RS.sub) RS w
 |some g =>
  show mZ (tG C g) σ H R;unfold mZ;rw[aQ];refine⟨ρ,F,RS,?_⟩;have w:aT C F H σ ((g ρ).thn λ_ d=>match d with|.int i=>k (some i)|_=>.stuck) Q:=w
  cases er:g ρ with
  |stuck=>rw[er]at w;exact w
  |exc c=>rw[er]at w;exact w
  |ok m d =>
   rw[er]at w;intro v F' H' st rp _;cases d with
   |int i=>cases rp.int;exact⟨i,rfl,h (some i) F' H' st (RS.step st) (aT.step st w)⟩
   |_=>exact(show False from w).elim
end
inductive aR where
 |ok (xs:List (Md×D))|exc (c:Str)|stuck
def RpL(K:Fg)(F H:Hp):List (Md×D)->List V->Prop
 |[],vs=>vs=[]
 |(m,d)::r,vs=>∃v us,vs=v::us/\Rp K F H m d v/\RpL K F H r us
def aR.thn(r:aR)(k:List (Md×D)->Res):Res:=match r with
 |.ok xs=>k xs
 |.exc c=>.exc c
 |.stuck=>.stuck
@[simp] theorem aR.thn_ok(xs:List (Md×D))(k:List (Md×D)->Res):(aR.ok xs).thn k=k xs:=rfl
@[simp] theorem aR.thn_exc(c:Str)(k:List (Md×D)->Res):(aR.exc c).thn k=.exc c:=rfl
@[simp] theorem aR.thn_stuck(k:List (Md×D)->Res):aR.stuck.thn k=.stuck:=rfl
def kY(C:Cw)(F H:Hp)(σ:L2.St)(r:aR)(Q:List V->Hp->Prop):Prop:=match r with
 |.ok xs=>∀vs F' H',aH F H F' H'->RpL C.K F' H' xs vs->Q vs H'
 |.exc c=>∀F' H',aH F H F' H'->C.EE c σ H'
 |.stuck=>False
def kY.step{F F1 H1:Hp}{r:aR}{Q:List V->Hp->Prop}(st:aH F H F1 H1)(h:kY C F H σ r Q):kY C F1 H1 σ r Q:=by
 cases r with
 |ok m=>exact λv F' H' s2 rp=>h v F' H' (st.trans s2) rp
 |exc c=>exact λF' H' s2=>h F' H' (st.trans s2)
 |stuck=>exact h
def tAv(C:Cw)(g:Rho->aR):TA:=λσ H Q=>∃ρ F,aS C.K C.F0 C.H0 F H σ ρ/\kY C F H σ (g ρ) Q
def PAv(C:Cw)(X:Cx)(es:List Expr)(g:Rho->aR):Prop:=PA X es (tAv (C.at X) g)
def PA.imp{e:List Expr}{t t':TA}(h:PA X e t)(i:∀σ H Q,t' σ H Q->t σ H Q):PA X e t':=λp aA s σ H Q I q=>h p aA s σ H Q I (i σ H Q q)
def bP(x:Res)(y:aR):aR:=match x with
 |.ok m d=>(match y with|.ok r=>.ok ((m,d)::r)|.exc c=>.exc c|.stuck=>.stuck)
 |.exc c=>.exc c
 |.stuck=>.stuck
@[simp] theorem aGI(m:Md)(d:D)(r:List (Md×D)):bP (.ok m d) (.ok r)=.ok ((m,d)::r):=rfl
section
variable  {a b:Expr}{es:List Expr}{gc:Rho->Res}{gs:Rho->aR}
def kZ:PAv C X [] (λ_=>.ok []):=PA.imp kQ λσ H Q q=>by obtain⟨ρ,F,R,w⟩:=q;exact w [] F H (.refl R.sub) rfl
def gJ(ha:PV C X e g)(hr:PAv C X es gs)(hs:starEach (e::es) X.env=(false,eval e X.env)::starEach es X.env:=by rfl):PAv C X (e::es) (λρ=>bP (g ρ) (gs ρ)):=by
 refine PA.imp (kR ha hr hs) λσ H Q q=>?_;unfold kP;obtain⟨ρ,F,R,w⟩:=q;dsimp only at w;rw[aQ];refine⟨ρ,F,R,?_⟩;cases er:g ρ with
 |stuck=>rw[er]at w;exact w
 |exc c=>rw[er]at w;exact w
 |ok m d =>
  rw[er]at w;intro v F1 H1 s1 r1 _;refine⟨ρ,F1,R.step s1,?_⟩;have w1:=kY.step s1 w;cases es':gs ρ with
  |stuck=>rw[es']at w1;exact w1
  |exc c=>rw[es']at w1;exact w1
  |ok r=>rw[es']at w1;intro vs F2 H2 s2 r2;exact w1 (v::vs) F2 H2 s2 ⟨v,vs,rfl,r1.step s2,r2⟩
def cN:List (Md×D)->Option (List D)
 |[]=>some []
 |(.fz,d)::r=>(cN r).map (d :: ·)
 |_::_=>none
theorem RpL.fz{K:Fg}{F H:Hp}:∀{xs:List (Md×D)}{vs:List V}{ds:List D},RpL K F H xs vs->cN xs=some ds->aC K F ds vs
 |[],_,_,h,e=>by cases e;rw[show _=[]from h];exact aC.nil
 |(.fz,d)::r,_,_,h,e=>by
  obtain⟨v,us,rfl,r1,r2⟩:=h;unfold cN at e;cases q:cN r with
  |none=>rw[q]at e;cases e
  |some ds'=>rw[q]at e;cases e;exact aC.cons r1 (RpL.fz r2 q)
 |(.fr,d)::r,_,_,h,e=>by cases e
 |(.bo,d)::r,_,_,h,e=>by cases e
def hC(r:aR):Res:=r.thn λxs=>match cN xs with|some ds=>if ds.length<=sizeLine then .ok .fz (.tup ds)else .stuck|none=>.stuck
def fX(r:aR):Res:=r.thn λxs=>match cN xs with|some ds=>if ds.length<=sizeLine then .ok .fr (.lst ds)else .stuck|none=>.stuck
def aB.tup_of{F:Hp}{p:Addr}(hp:F p=none)(r:aC K F ds xs):aB K (upd F p (.tup xs)) (.tup ds) (.ref p):=by simp only[aB];exact⟨p,xs,rfl,SqT.of aV,r.mono (λb u q=>by rw[aJ (bN q hp)];exact q) _ _⟩
def aGJ{x1}(h:PAv C X es gs):PV C X (.Tuple es x1 pos) (λρ=>hC (gs ρ)):=by
 refine PE.imp (aEH h) λσ H Q q=>?_;unfold tTup;rw[aQ]at q;obtain⟨ρ,F,R,w⟩:=q;refine⟨ρ,F,R,?_⟩;cases er:gs ρ with
 |stuck=>rw[er]at w;exact w
 |exc c=>rw[er]at w;exact w
 |ok xs =>
  rw[er]at w;intro vs F1 H1 s1 r1;have w1:aT (C.at X) F1 H1 σ (match cN xs with|some ds=>if ds.length<=sizeLine then .ok .fz (.tup ds)else .stuck|none=>.stuck) Q:=aT.step s1 w
  cases ef:cN xs with
  |none=>rw[ef]at w1;exact w1.elim
  |some ds =>
   rw[ef]at w1;dsimp only at w1;split at w1
   . rename_i hl;have r2:=r1.fz ef;refine⟨by rw[r2.length];exact hl,λp hp=>?_⟩
     exact w1 (.ref p) _ _ (aH.laid (.tup vs) s1.sub hp) (aB.tup_of (s1.sub.free hp) r2) (by nofun)
   . exact w1.elim
def aGK(h:PAv C X es gs):PV C X (.List es pos) (λρ=>fX (gs ρ)):=by
 refine PE.imp (aEI h) λσ H Q q=>?_;unfold tLst;rw[aQ]at q;obtain⟨ρ,F,R,w⟩:=q;refine⟨ρ,F,R,?_⟩;cases er:gs ρ with
 |stuck=>rw[er]at w;exact w
 |exc c=>rw[er]at w;exact w
 |ok xs =>
  rw[er]at w;intro vs F1 H1 s1 r1;have w1:aT (C.at X) F1 H1 σ (match cN xs with|some ds=>if ds.length<=sizeLine then .ok .fr (.lst ds)else .stuck|none=>.stuck) Q:=aT.step s1 w
  cases ef:cN xs with
  |none=>rw[ef]at w1;exact w1.elim
  |some ds =>
   rw[ef]at w1;dsimp only at w1;split at w1
   . rename_i hl;have r2:=r1.fz ef;refine⟨by rw[r2.length];exact hl,λp hp=>?_⟩
     refine w1 (.ref p) F1 _ (aH.fresh (.lst vs) s1.sub hp) ⟨p,rfl,s1.sub.free hp,vs,aV,r2⟩ λ_ a ea=>by cases ea;exact hp
   . exact w1.elim
def hG:D->Option Key
 |.int i=>some (.inl i)
 |.str x=>some (.inr x)
 |_=>none
def pX{F:Hp}{m:Md}{d:D}{k:Key}(e:hG d=some k)(r:Rp K F H m d v):v=kV k:=by
 cases d with
 |int i=>cases e;exact r.int
 |str x=>cases e;exact r.str.1
 |_=>cases e
def dR(X:Cx)(f:aV3)(φ:List (Md×D)->Option (Md×D)):Prop :=
 ∃r:List V->Hp->VK->Prop,cI X f r/\∀F H xs vs k d Q,aD F H->RpL X.K F H xs vs->φ xs=some (k,d) ->
  (∀v' F' H',aH F H F' H'->Rp X.K F' H' k d v'->(k=.fr->∀a,v'=.ref a->H a=none)->Q v' H')->r vs H Q
def eE(φ:List (Md×D)->Option (Md×D))(r:aR):Res:=r.thn λxs=>Res.of (φ xs)
def wG{φ:List (Md×D)->Option (Md×D)}{r:List V->Hp->VK->Prop}(h:∀F H xs vs k d Q,aD F H->RpL C.K F H xs vs->φ xs=some (k,d)->(∀v' F' H',aH F H F' H'->Rp C.K F' H' k d v'->(k=.fr->∀a,v'=.ref a->H a=none)->Q v' H')->r vs H Q){Q:VK}(q:tG C (λρ=>eE φ (gs ρ)) σ H Q):tCB r (tAv C gs) σ H Q:=by
 unfold tCB;rw[aQ]at q;obtain⟨ρ,F,R,w⟩:=q;refine⟨ρ,F,R,?_⟩;cases er:gs ρ with
 |stuck=>rw[er]at w;exact w
 |exc c=>rw[er]at w;exact w
 |ok xs =>
  rw[er]at w;intro vs F1 H1 s1 r1;have w1:aT C F1 H1 σ (Res.of (φ xs)) Q:=aT.step s1 w;cases ef:φ xs with
  |none=>rw[ef]at w1;exact w1.elim
  |some kd=>obtain⟨k,d⟩:=kd;rw[ef]at w1;exact h F1 H1 xs vs k d Q s1.sub r1 ef w1
def wH{id:String}{φ}(o:dR X (.builtin id) φ)(hg:Gl X x)(hm:X.mg x=none)(hv:bootBuiltins x=some (.builtin id))(ha:PAv C X (e::es) gs)(hn:x ≠ "__name__" := by decide)(hdb:(x==("__debug__":Str))=false:=by decide)(he:starEach (e::es) X.env=(false,eval e X.env)::starEach es X.env:=by rfl)(hpl:(backTo pos (starEach es X.env)).any (·.1)=false:=by rfl):PV C X (.Call (.Name x p) (e::es) [] pos) (λρ=>eE φ (gs ρ)):=by obtain⟨r,h1,h2⟩:=o;exact PE.imp (vH h1 hg hm hv ha hn hdb he hpl) λσ H Q q=>wG h2 q
def fE:List (Md×D)->Option (Md×D)
 |[(_,.str z)]=>some (.fz,.int z.length)
 |[(_,.lst ds)]=>some (.fz,.int ds.length)
 |[(_,.tup ds)]=>some (.fz,.int ds.length)
 |_=>none
def RpL.one{F:Hp}{m:Md}{d:D}{vs:List V}(h:RpL K F H [(m,d)] vs):∃v,vs=[v]/\Rp K F H m d v:=by obtain⟨v,us,rfl,r,e⟩:=h;exact⟨v,by rw[show us=[]from e],r⟩
def RpL.two{F:Hp}{m n:Md}{d e:D}{vs:List V}(h:RpL K F H [(m,d),(n,e)] vs):∃v u,vs=[v,u]/\Rp K F H m d v/\Rp K F H n e u:=by obtain⟨v,us,rfl,r,v',us',rfl,r',e⟩:=h;exact⟨v,v',by rw[show us'=[]from e],r,r'⟩
def aGL:dR X (.builtin "len") fE:=by
 refine⟨_,aEA,λF H xs vs k d Q s rx e w=>?_⟩;unfold fE at e;split at e
 . rename_i m z;cases e;obtain⟨v,rfl,r⟩:=rx.one;obtain⟨rfl,hz,_⟩:=r.str;exact⟨_,z.length,rfl,⟨hz,rfl⟩,w _ F H (.refl s) (dB _) (by nofun)⟩
 . rename_i m ds;cases e;obtain⟨v,rfl,r⟩:=rx.one;obtain⟨a,xs,rfl,q,rl⟩:=r.seqL s;exact⟨_,xs.length,rfl,.inl ⟨xs,q,rfl⟩,by rw[rl.length];exact w _ F H (.refl s) (dB _) (by nofun)⟩
 . rename_i m ds;cases e;obtain⟨v,rfl,r⟩:=rx.one;obtain⟨a,xs,rfl,q,rl⟩:=r.seqT s;exact⟨_,xs.length,rfl,.inr ⟨xs,q,rfl⟩,by rw[rl.length];exact w _ F H (.refl s) (dB _) (by nofun)⟩
 . cases e
noncomputable def tyN:D->Option String
 |.non=>some "NoneType" |.bl _=>some "bool" |.int _=>some "int" |.str _=>some "str" |.tup _=>some "tuple" |.lst _=>some "list" |.dct _=>some "dict" |_=>none
noncomputable def k5(t c:String):Option Bool:=if["int", "bool", "str", "list", "tuple", "dict"].contains c=true then some (t==c||(t == "bool" && c == "int"))else none
def jJ:List (Md×D)->Option (Md×D)
 |[(_,d),(_,.ty c)]=>match tyN d with|some t=>(k5 t c).map λb=>(.fz,.bl b)|none=>none
 |_=>none
def aGM{d:D}{t c:String}{b:Bool}(ht:tyN d=some t)(e:k5 t c=some b):W.kitOne K (.type t) (.type c)=some b:=by
 unfold k5 at e;split at e
 . rename_i hc;simp only[List.contains_cons,List.contains_nil,Bool.or_false,aTE,aRK]at hc;cases e;have ht':t="NoneType" \/ t="bool" \/ t="int" \/ t="str" \/ t="tuple" \/ t="list" \/ t="dict" := by cases d <;> cases ht <;> simp
   rcases hc with rfl|rfl|rfl|rfl|rfl|rfl <;> rcases ht' with rfl|rfl|rfl|rfl|rfl|rfl|rfl <;> rfl
 . cases e
def aGN:dR X (.builtin "isinstance") jJ:=by
 refine⟨λvs H Q=>∃(F:Hp) (m:Md) (d:D) (v:V) (t c:String) (b:Bool),aD F H/\Rp X.K F H m d v/\vs=[v,.ty c]/\tyN d=some t/\k5 t c=some b/\Q (.bl b) H,?_,?_⟩
 . intro aA s σ H xs us Q I r h;obtain⟨F,m,d,v,t,c,b,sF,rp,rfl,ht,hb,q⟩:=h;obtain⟨u,u',rfl,ru,ru'⟩:=u6 r;cases(show u'=Value.type c from ru')
   have e:=aGM (K:=X.K) ht hb;have fin:∀tk,EP X aA σ Q (.bool b) {s with toks:=tk}:=λtk=>⟨.bl b,H,I.tok _,rfl,q⟩
   cases d with
   |non=>cases rp.non;cases ht;cases(show u=Value.none from ru);exact aTK W.kitx_none I.kIn True.intro e (λz=>nomatch z) fin
   |bl y=>cases rp.bl;cases ht;cases(show u=Value.bool y from ru);exact aTK W.kitx_bool I.kIn True.intro e (λz=>nomatch z) fin
   |int i=>cases rp.int;cases ht;obtain⟨t,q⟩:=(show ∃t,u=Value.int i t from ru);cases q;exact aTK W.kitx_int I.kIn True.intro e (λz=>nomatch z) fin
   |str y=>obtain⟨rfl,_⟩:=rp.str;cases ht;obtain⟨t,q⟩:=(show ∃t,u=Value.str y t from ru);cases q;exact aTK W.kitx_str I.kIn True.intro e (λz=>nomatch z) fin
   |tup ds =>
    obtain⟨a,xs,rfl,hq,_⟩:=rp.seqT sF;cases ht;cases(show u=Value.ref a from ru)
    obtain⟨its,_,⟨o,h1,h2,_⟩,_⟩:=I.tuple hq;exact aTK W.kitx_tuple I.kIn ⟨o,h1,h2⟩ e (λz=>nomatch z) fin
   |lst ds =>
    obtain⟨a,xs,rfl,hq,_⟩:=rp.seqL sF;cases ht;cases(show u=Value.ref a from ru)
    obtain⟨its,_,⟨o,n,h1,h2,_⟩,_⟩:=I.list hq;exact aTK W.kitx_list I.kIn ⟨o,h1,h2⟩ e (λz=>nomatch z) fin
   |dct ds =>
    obtain⟨a,xs,rfl,hq,_⟩:=rp.dict sF;cases ht;cases(show u=Value.ref a from ru)
    obtain⟨_,_,vs,_,p⟩:=(show bD X.prog X.w H s.heap a (.dK xs)from I.hok a _ hq)
    obtain⟨o,es,ep,h1,h2,_⟩:=p;exact aTK W.kitx_dict I.kIn ⟨o,h1,h2.1⟩ e (λz=>nomatch z) fin
   |_=>cases ht
 . intro F H xs vs k d Q s rx e w;unfold jJ at e;split at e
   . rename_i m d' n c;obtain⟨v,u,rfl,r1,r2⟩:=rx.two;cases r2.ty;cases et:tyN d' with
     |none=>rw[et]at e;cases e
     |some t =>
      rw[et]at e;dsimp only at e;cases eb:k5 t c with
      |none=>rw[eb]at e;cases e
      |some b=>rw[eb]at e;cases e;exact⟨F,m,d',v,t,c,b,s,r1,rfl,et,eb,w _ F H (.refl s) (dQ _) (by nofun)⟩
   . cases e
def pv_ty{T:String}(hg:Gl X x)(hm:X.mg x=none)(hv:bootBuiltins x=some (.type T))(hn:x ≠ "__name__" := by decide)(hd:(x==("__debug__":Str))=false:=by decide):PV C X (.Name x pos) (λ_=>.ok .fz (.ty T)) :=
 iH _ (aC2 (v:=.ty T) hg hm hv rfl hn hd) λ_ _=>rp_ty T
def aGO{y:Str}{t:Tok}(hg:Gl X x)(hm:X.mg x=some (.str y t))(h:(decide (y.length<=sizeLine)&&PyData.strOk y)=true:=by decide +kernel)(hd:(x==("__debug__":Str))=false:=by decide):PV C X (.Name x pos) (λ_=>.ok .fz (.str y)) :=
 iH _ (uT (v:=.str y) hg hm ⟨t,rfl⟩ hd) λ_ _=>jF (by rw[aSI,aTC]at h;exact h)
def aGP{y:Int}{t:Tok}(hg:Gl X x)(hm:X.mg x=some (.int y t))(hd:(x==("__debug__":Str))=false:=by decide):PV C X (.Name x pos) (λ_=>.ok .fz (.int y)) :=
 iH _ (uT (v:=.int y) hg hm ⟨t,rfl⟩ hd) λ_ _=>dB _
end
inductive aG where
 |nx (ρ:Rho)|rt (m:Md) (d:D)|bk (ρ:Rho)|ct (ρ:Rho)|exc (c:Str) (ρ:Rho)|stuck
def bW(C:Cw)(Fa:Hp)(r:aG)(E:fB):Prop:=match r with
 |.nx ρ=>∀σ F H,aD Fa F->aS C.K C.F0 C.H0 F H σ ρ->E.nx σ H
 |.bk ρ=>∀σ F H,aD Fa F->aS C.K C.F0 C.H0 F H σ ρ->E.bk σ H
 |.ct ρ=>∀σ F H,aD Fa F->aS C.K C.F0 C.H0 F H σ ρ->E.ct σ H
 |.exc c ρ=>∀σ F H,aD Fa F->aS C.K C.F0 C.H0 F H σ ρ->C.EE c σ H
 |.rt m d=>∀v F H,aH C.F0 C.H0 F H->Rp C.K F H m d v->(m=.fr->∀a,v=.ref a->C.H0 a=none)->E.rt v H
 |.stuck=>False
def bW.mono{F F1:Hp}{r:aG}{E:fB}(s:aD F F1)(w:bW C F r E):bW C F1 r E:=by
 cases r with
 |nx ρ=>exact λσ F' H' z R=>w σ F' H' (s.trans z) R
 |bk ρ=>exact λσ F' H' z R=>w σ F' H' (s.trans z) R
 |ct ρ=>exact λσ F' H' z R=>w σ F' H' (s.trans z) R
 |exc c ρ=>exact λσ F' H' z R=>w σ F' H' (s.trans z) R
 |rt m d=>exact w
 |stuck=>exact w
def tH(C:Cw)(g:Rho->aG):TS:=λE σ H=>∃ρ F,aS C.K C.F0 C.H0 F H σ ρ/\bW C F (g ρ) E
def PSv(C:Cw)(X:Cx)(st:Stmt)(g:Rho->aG):Prop:=PS X st (tH (C.at X) g)
def PBv(C:Cw)(X:Cx)(st:List Stmt)(g:Rho->aG):Prop:=PSs X st (tH (C.at X) g)
def PS.imp{e:Stmt}{t t':TS}(h:PS X e t)(i:∀E σ H,t' E σ H->t E σ H):PS X e t':=λaA s σ H E I q=>h aA s σ H E I (i E σ H q)
def PSs.imp{e:List Stmt}{t t':TS}(h:PSs X e t)(i:∀E σ H,t' E σ H->t E σ H):PSs X e t':=λaA s σ H E I q=>h aA s σ H E I (i E σ H q)
def aG.thn(r:aG)(k:Rho->aG):aG:=match r with
 |.nx ρ=>k ρ
 |r=>r
@[simp] theorem aG.thn_nx(ρ:Rho)(k:Rho->aG):(aG.nx ρ).thn k=k ρ:=rfl
@[simp] theorem aG.thn_rt(m:Md)(d:D)(k:Rho->aG):(aG.rt m d).thn k=.rt m d:=rfl
@[simp] theorem aG.thn_bk(ρ:Rho)(k:Rho->aG):(aG.bk ρ).thn k=.bk ρ:=rfl
@[simp] theorem aG.thn_ct(ρ:Rho)(k:Rho->aG):(aG.ct ρ).thn k=.ct ρ:=rfl
@[simp] theorem aG.thn_exc(c:Str)(ρ:Rho)(k:Rho->aG):(aG.exc c ρ).thn k=.exc c ρ:=rfl
@[simp] theorem aG.thn_stuck(k:Rho->aG):aG.stuck.thn k=.stuck:=rfl
section
variable  {a b:Expr}{es:List Expr}{gc:Rho->Res}{gs:Rho->aR}{h1 h2:Rho->aG}
def aGQ:PBv C X [] (λρ=>.nx ρ):=PSs.imp aDA λE σ H q=>by obtain⟨ρ,F,R,w⟩:=q;exact w σ F H (aD.refl _) R
def aGR{E:fB}(q:tH C (λρ=>(h1 ρ).thn h2) E σ H):tSeq (tH C h1) (tH C h2) E σ H:=by
 obtain⟨ρ,F,R,w⟩:=q;refine⟨ρ,F,R,?_⟩;dsimp only at w;cases er:h1 ρ with
 |nx ρ'=>rw[er]at w;exact λσ' F' H' z R'=>⟨ρ',F',R',bW.mono z w⟩
 |rt m d=>rw[er]at w;exact w
 |bk ρ'=>rw[er]at w;exact w
 |ct ρ'=>rw[er]at w;exact w
 |exc c ρ'=>rw[er]at w;exact w
 |stuck=>rw[er]at w;exact w
def aGS(ha:PSv C X st h1)(hb:PBv C X sts h2):PBv C X (st::sts) (λρ=>(h1 ρ).thn h2):=PSs.imp (aDB ha hb) λE σ H q=>aGR q
def Res.thS(r:Res)(ρ:Rho)(k:Md->D->aG):aG:=match r with
 |.ok m d=>k m d
 |.exc c=>.exc c ρ
 |.stuck=>.stuck
@[simp] theorem Res.thS_ok(m:Md)(d:D)(ρ:Rho)(k:Md->D->aG):(Res.ok m d).thS ρ k=k m d:=rfl
@[simp] theorem Res.thS_exc(c:Str)(ρ:Rho)(k:Md->D->aG):(Res.exc c).thS ρ k=.exc c ρ:=rfl
@[simp] theorem Res.thS_stuck(ρ:Rho)(k:Md->D->aG):Res.stuck.thS ρ k=.stuck:=rfl
def iJ{F:Hp}{k:Md->D->aG}{E:fB}{Q:VK}(R:aS C.K C.F0 C.H0 F H σ ρ)(w:bW C F ((g ρ).thS ρ k) E)(h:∀m d v F' H',bW C F' (k m d) E->aH F H F' H'->aS C.K C.F0 C.H0 F' H' σ ρ->Rp C.K F' H' m d v->(m=.fr->∀a,v=.ref a->H a=none)->Q v H'):tG C g σ H Q:=by
 rw[aQ];refine⟨ρ,F,R,?_⟩;cases er:g ρ with
 |stuck=>rw[er]at w;exact w
 |exc c=>rw[er]at w;exact λF' H' s=>w σ F' H' s.fsame (R.step s)
 |ok m d=>rw[er]at w;exact λv F' H' s rp fr=>h m d v F' H' (bW.mono s.fsame w) s (R.step s) rp fr
noncomputable def jK(r:Res)(ρ:Rho):aG:=r.thS ρ λm d=>match m with|.bo=>.stuck|m=>.rt m d
def aGT(he:PV C X e g):PSv C X (.Return (some e) pos) (λρ=>jK (g ρ) ρ):=PS.imp (uX he) λE σ H q=>by
 obtain⟨ρ,F,R,w⟩:=q;refine iJ R w λm d v F' H' w' s R' rp fr=>?_;cases m with
 |bo=>exact(show False from w').elim
 |fz=>exact w' v F' H' R'.st rp (by nofun)
 |fr=>exact w' v F' H' R'.st rp λ_ a ea=>R.st.same.free (fr rfl a ea)
def fF(ρ:Rho)(i:Nat):aG:=match ρ[i]? with
 |some (some (false,d))=>.rt .fz d
 |some (some (true,d))=>.rt .fr d
 |_=>.stuck
def aGU(i:Nat)(h:PE X (.Name x p) (gH i)):PSv C X (.Return (some (.Name x p)) pos) (λρ=>fF ρ i):=PS.imp (uX h) λE σ H q=>by
 obtain⟨ρ,F,R,w⟩:=q;dsimp only at w;unfold fF at w;cases e:ρ[i]? with
 |none=>rw[e]at w;exact w.elim
 |some o =>
  cases o with
  |none=>rw[e]at w;exact w.elim
  |some q =>
   obtain⟨m,d⟩:=q;obtain⟨v,e1,r,hh⟩:=R.slot i m d e;rw[e]at w;cases m with
   |false=>exact⟨v,e1,w v F H R.st r (by nofun)⟩
   |true=>exact⟨v,e1,w v F H R.st r λ_=>hh rfl⟩
noncomputable def ifS(t:Res)(ρ:Rho)(x y:aG):aG:=t.thS ρ λ_ d=>match d with|.bl true=>x|.bl false=>y|_=>.stuck
def aGV{s1 s2:List Stmt}(hc:PTv C X c gc)(ha:PBv C X s1 h1)(hb:PBv C X s2 h2):PSv C X (.If c s1 s2 pos) (λρ=>ifS (gc ρ) ρ (h1 ρ) (h2 ρ)):=by
 refine PS.imp (ps_if hc ha hb) λE σ H q=>?_;obtain⟨ρ,F,R,w⟩:=q;dsimp only at w;refine⟨ρ,F,R,?_⟩;cases er:gc ρ with
 |stuck=>rw[er]at w;exact w
 |exc c=>rw[er]at w;exact λF' H' s=>w σ F' H' s.fsame (R.step s)
 |ok m d =>
  rw[er]at w;cases d with
  |bl k =>
   intro F' H' s;cases k with
   |true=>rw[if_pos rfl];exact⟨ρ,F',R.step s,bW.mono s.fsame w⟩
   |false=>rw[if_neg aQ7];exact⟨ρ,F',R.step s,bW.mono s.fsame w⟩
  |_=>exact w.elim
noncomputable def eT(ρ:Rho)(i:Nat)(r:Res):aG:=r.thS ρ λm d=>match m with
 |.fz=>.nx (ρ.set i (some (false,d)))
 |.fr=>.nx (ρ.set i (some (true,d)))
 |.bo=>.stuck
theorem aS.set{F:Hp}{m:Bool}{d:D}(R0:aS K F0 H0 F H σ ρ)(s:aH F H F' H')(rp:Rp K F' H' (if m then .bo else .fz) d v)(fr:m=true->∀a,v=.ref a->H a=none):aS K F0 H0 F' H' (σ.set i (some v)) (ρ.set i (some (m,d))):=by
 have R:=R0.step s;refine⟨R.st,λj m' d' e=>?_,λj k d1 d2 a hjk e1 e2 q1 q2=>?_,by rw[aTL,aTL];exact R.len⟩
 . by_cases hj:j=i
   . subst hj;rw[aTM]at e;by_cases hl:j<ρ.length
     . rw[if_pos rfl,if_pos hl]at e;cases e;refine⟨v,by rw[aTM,if_pos rfl,if_pos (by rw[R.len];exact hl)],rp,λz a ea=>R0.st.same.free (fr z a ea)⟩
     . rw[if_pos rfl,if_neg hl]at e;cases e
   . rw[aQZ (λz=>hj z.symm)]at e ⊢;exact R.slot j m' d' e
 . have old:∀(l:Nat) (d:D) (b:Addr),l≠i->ρ[l]? = some (some (true,d))->σ[l]? = some (some (.ref b)) -> ¬ iG (H b):=λl d b hl e q=>by obtain⟨u,q',r,_⟩:=R0.slot l true d e;rw[q]at q';cases q';obtain⟨b',eb,_,t⟩:=r;cases eb;exact t.there
   by_cases hj:j=i
   . subst hj;rw[aQZ hjk]at e2 q2;rw[aTM]at e1 q1;by_cases hl:j<ρ.length
     . rw[if_pos rfl,if_pos hl]at e1;rw[if_pos rfl,if_pos (by rw[R.len];exact hl)]at q1
       cases e1;cases q1;exact old k d2 a (λz=>hjk z.symm) e2 q2 (fV (fr rfl a rfl))
     . rw[if_pos rfl,if_neg hl]at e1;cases e1
   . by_cases hk:k=i
     . subst hk;rw[aQZ (λz=>hjk z.symm)]at e1 q1;rw[aTM]at e2 q2;by_cases hl:k<ρ.length
       . rw[if_pos rfl,if_pos hl]at e2;rw[if_pos rfl,if_pos (by rw[R.len];exact hl)]at q2
         cases e2;cases q2;exact old j d1 a hjk e1 q1 (fV (fr rfl a rfl))
       . rw[if_pos rfl,if_neg hl]at e2;cases e2
     . rw[aQZ (λz=>hj z.symm)]at e1 q1;rw[aQZ (λz=>hk z.symm)]at e2 q2;exact R.apart j k d1 d2 a hjk e1 e2 q1 q2
def pY{E:fB}(q:tH (C.at X) (λρ=>eT ρ i (g ρ)) E σ H):mV (tG (C.at X) g) (kK i) E σ H:=by
 obtain⟨ρ,F,R,w⟩:=q;dsimp only at w;refine iJ R w λm d v F' H' w' s R' rp fr=>?_;cases m with
 |bo=>exact(show False from w').elim
 |fz=>exact w' _ F' H' (aD.refl _) (R.set (m:=false) s rp (by nofun))
 |fr=>exact w' _ F' H' (aD.refl _) (R.set (m:=true) s rp λ_ a ea=>fr rfl a ea)
def aGW(hN:X.N.Nodup)(hi:X.N[i]? = some x)(hx:Loc X.env.scope x)(he:PV C X e g)(hs:swapsWith e (some (.Name x pos')) pos.line X.env=pure false:=by rfl)(hf:X.fn x=true\/X.env.scope.names.lookup x=some .local:=by first|exact .inl rfl|exact .inr rfl|assumption):PSv C X (.Assign [.Name x pos'] e pos) (λρ=>eT ρ i (g ρ)):=PS.imp (uZ hN hi hx he hs hf) λE σ H q=>pY q
end
def Its(x:Str):It:=⟨λi _=>i<x.cps.size,λi H v H'=>H'=H/\∃c,x.cps[i]? = some c/\v=.str ⟨#[c]⟩,λi _=>x.cps.size<=i⟩
def wI(it:Addr)(x:Str)(t:Tok)(ty:String)(hty:["enumerate", "zip", "dict_itemiterator", "dict_reverseitemiterator", "odict_iterator", "itertools.zip_longest", "itertools.pairwise"].contains ty=false)(W:∀A':aV5,A'.handled=none->Walks P w A' it [it] [it] x.cps.size (SignAt x) (λi h=>h.IsStrIter it ty x t i))(Sf:∀(A:aV5) (i:Nat) (s:aV4) (Q:VSP) (E:VSP),s.heap.IsStrIter it ty x t i->Q (.ref it) s->wpAny (model P w) A (pyIter (.ref it)) Q E s):iF P w K tg (Its x) [it] it (λi h=>i<=x.cps.size/\h.IsStrIter it ty x t i) where
 mem:=by simp
 obj:=λi h st b hb=>by
  have e:b=it:=by simpa using hb
  subst e;obtain⟨_,o,e,c,d⟩:=st;exact⟨o,e,λv z=>by rw[d]at z;cases z⟩
 keep:=λi h h' st k=>⟨st.1,let⟨o,e,r⟩:=st.2;⟨o,k it (by simp) o e,r⟩⟩
 item:=by
  intro X hP hw hK hc i aA s σ H E I hf st hg;subst hP hw hK;obtain⟨f0,f1,f2,f3,f4,f5⟩:=hf it (by simp)
  refine(W X.A (I.ok.hd hc)).item i s _ _ hg st.2 λv h' tk hv st' kk=>?_;obtain⟨c,u,hc',rfl⟩:=hv;have I1:Inv X aA σ H {s with heap:=h',toks:=tk}:=I.turned (λb o hb e=>kk b o (by simpa using hb) e) f0 f1 f3 f4 f5
  obtain⟨o,e,oc,d⟩:=id st';exact⟨_,rfl,jB (s:={s with heap:=h',toks:=tk}) e oc d hty ⟨.str ⟨#[c]⟩,H,I1,⟨u,rfl⟩,⟨rfl,c,hc',rfl⟩,⟨hg,st'⟩,λb hb=>(hf b hb).1⟩⟩
 done:=by
  intro X hP hw hK hc i aA s σ H E I hf st hg;subst hP hw hK;obtain⟨f0,f1,f2,f3,f4,f5⟩:=hf it (by simp)
  have e:i=x.cps.size:=Nat.le_antisymm st.1 hg;subst e;exact(W X.A (I.ok.hd hc)).done s _ _ st.2 λh' tk kk=>⟨rfl,I.turned (λb o hb e=>kk b o (by simpa using hb) e) f0 f1 f3 f4 f5⟩
 self:=λA i s Q E st h=>Sf A i s Q E st.2 h
def iStr(te:TE):TI:=λσ H R=>te σ H λx H1=>∃z,x=.str z/\R (Its z) H1
def aGX{l:Expr}(hl:PE X l tl):PI X tg l (iStr tl):=by
 intro aA s σ H R I h;refine thn (hl aA s σ H _ I h) λv s1 ⟨x,H1,I1,r1,q1⟩=>?_;obtain⟨z,e,q⟩:=q1;subst e;obtain⟨t,rfl⟩:=r1;have fin:∀(ty:String) (o:Obj),o={cls:=.type ty,data:=.fields #[.str z t,.int ((0:Nat):Int) 0]} -> (∀b:Addr,b∈[s1.heap.objs.size]->gY X aA H1 b)/\Inv X aA σ H1 {s1 with heap:=s1.heap.push o}/\(s1.heap.push o).IsStrIter s1.heap.objs.size ty z t 0:=λty o eo=>by
  refine⟨λb hb=>?_,I1.kept (t':=s1.toks) λb o e=>hps e,⟨o,aQK _ (by rw[eo];rfl),by rw[eo],by rw[eo]⟩⟩
  have e:b=s1.heap.objs.size:=by simpa using hb
  subst e;exact I1.fpOk (aRD _) (I1.hok.fresh (aRD _))
 cases ha:z.cps.all (· < 128)
 . refine wpAny_pyIter_wide ha ?_;obtain⟨f1,f2,f3⟩:=fin "str_iterator" _ rfl;exact⟨s1.heap.objs.size,[s1.heap.objs.size],_,Its z,H1,rfl,f2,wI _ z t "str_iterator" (by decide) (λA' hA=>Walks.strWide hA _ z t) (λA i s Q E st h=>wpAny_pyIter_striter_wide st h),⟨aRN _,f3⟩,f1,q⟩
 . refine wpAny_pyIter_ascii ha ?_;obtain⟨f1,f2,f3⟩:=fin "str_ascii_iterator" _ rfl;exact⟨s1.heap.objs.size,[s1.heap.objs.size],_,Its z,H1,rfl,f2,wI _ z t "str_ascii_iterator" (by decide) (λA' hA=>Walks.strAscii hA _ z t) (λA i s Q E st h=>wpAny_pyIter_striter_ascii st h),⟨aRN _,f3⟩,f1,q⟩
def PI.imp{t t':TI}(h:PI X tg e t)(i:∀σ H R,t' σ H R->t σ H R):PI X tg e t':=λaA s σ H R I q=>h aA s σ H R I (i σ H R q)
def PI.or{t t':TI}(h:PI X tg e t)(h':PI X tg e t'):PI X tg e (λσ H R=>t σ H R\/t' σ H R):=λaA s σ H R I q=>by
 rcases q with q|q
 . exact h aA s σ H R I q
 . exact h' aA s σ H R I q
structure jL(K:Fg)(F:Hp)(J:It)(ds:List D):Prop where
 go:∀i H,aD F H->i<ds.length->J.go i H
 stop:∀i H,aD F H->ds.length<=i->J.stop i H
 yld:∀i Fc H x H',aD F Fc->aD Fc H->i<ds.length->J.yld i H x H'->∃F' d,ds[i]? = some d/\aH Fc H F' H'/\aB K F' d x
def WantI(C:Cw)(F H:Hp)(σ:L2.St)(r:Res)(R:It->Hp->Prop):Prop:=match r with
 |.ok _ (.lst ds)=>∀J F' H',aH F H F' H'->jL C.K F' J ds->R J H'
 |.exc c=>∀F' H',aH F H F' H'->C.EE c σ H'
 |_=>False
def tIv(C:Cw)(g:Rho->Res):TI:=λσ H R=>∃ρ F,aS C.K C.F0 C.H0 F H σ ρ/\WantI C F H σ (g ρ) R
def PIv(C:Cw)(X:Cx)(tg e:Expr)(g:Rho->Res):Prop:=PI X tg e (tIv (C.at X) g)
def jM(z:Str):List D:=z.cps.toList.map λc=>.str ⟨#[c]⟩
def eU(r:Res):Res:=r.thn λ_ d=>match d with
 |.lst ds=>.ok .fz (.lst ds)
 |.tup ds=>.ok .fz (.lst ds)
 |.str z=>.ok .fz (.lst (jM z))
 |_=>.stuck
section
variable {gs:Rho->aR}
def aGY{F:Hp}{a:Addr}(hq:SqT K F a xs)(r:aC K F ds xs):jL K F (Itt K a) ds where
 go:=λi H s hi=>by
  have hl:i<xs.length:=by rw[r.length];exact hi
  exact⟨xs,xs[i],aD.seqT s hq,by simp[hl]⟩
 stop:=λi H s hi=>⟨xs,aD.seqT s hq,by rw[r.length];exact hi⟩
 yld:=λi Fc H x H' s1 s2 hi y=>by obtain⟨rfl,y⟩:=y;have hx:=y xs (aD.seqT s2 (aD.seqT s1 hq));obtain⟨d,e,rd⟩:=r.get hx;exact⟨Fc,d,e,.refl s2,rd.mono s1 _ _⟩
def aGZ{F:Hp}(hk:PyData.strOk z=true):jL K F (Its z) (jM z) where
 go:=λi H s hi=>by simpa[jM,Its]using hi
 stop:=λi H s hi=>by simpa[jM,Its]using hi
 yld:=λi Fc H x H' s1 s2 hi y=>by
  obtain⟨rfl,c,hc,rfl⟩:=y;refine⟨Fc,.str ⟨#[c]⟩,by simp[jM,hc],.refl s2,?_⟩
  simp only[aB,true_and];refine⟨by show 1<=sizeLine;decide,?_⟩
  unfold PyData.strOk at hk ⊢;rw[aTF]at hk;simpa using hk c (aTJ hc)
def aG0(h:PV C X e g):PIv C X tg e (λρ=>eU (aW (g ρ))):=by
 have h:=fW h;refine PI.imp (PI.or (aDM h) (PI.or (aDN h) (aGX h))) λσ H R q=>?_;obtain⟨ρ,F,RS,w⟩:=q;dsimp only at w;cases er:aW (g ρ)with
 |stuck=>rw[er]at w;exact w.elim
 |exc c=>refine .inl ?_;unfold pF;rw[aQ];refine⟨ρ,F,RS,?_⟩;rw[er]at w ⊢;exact w
 |ok m d =>
  rw[er]at w;have hm:m=.fz:=by
   cases h:g ρ with
   |ok m' d'=>rw[h]at er;cases m' <;> cases er <;> rfl
   |exc c=>rw[h]at er;cases er
   |stuck=>rw[h]at er;cases er
  subst hm;cases d with
  |lst ds =>
   refine .inl ?_; unfold pF; rw [aQ]; refine ⟨ρ, F, RS, ?_⟩; rw [er]; intro v F' H' st rp _; have rp : aB X.K F' (.lst ds) v := rp; simp only [aB] at rp; obtain ⟨a, xs, rfl, hq, r⟩ := rp; exact ⟨a, rfl, ⟨xs, st.sub.seq hq⟩, w _ F' H' st ⟨fun i H s hi => by
       have hl:i<xs.length:=by rw[r.length];exact hi
       exact⟨xs,xs[i],s.seq hq,by simp[hl]⟩,λi H s hi=>⟨xs,s.seq hq,by rw[r.length];exact hi⟩,λi Fc H x H' s1 s2 hi y=>by
       obtain⟨rfl,y⟩:=y;have hx:=y xs (s2.seq (s1.seq hq));obtain⟨d,e,rd⟩:=r.get hx;exact⟨Fc,d,e,.refl s2,rd.mono s1 _ _⟩⟩⟩
  |tup ds=>refine .inr (.inl ?_);unfold iTup;rw[aQ];refine⟨ρ,F,RS,?_⟩;rw[er];intro v F' H' st rp _;have rp:aB X.K F' (.tup ds) v:=rp;simp only[aB]at rp;obtain⟨a,xs,rfl,hq,r⟩:=rp;exact⟨a,rfl,⟨xs,aD.seqT st.sub hq⟩,w _ F' H' st (aGY hq r)⟩
  |str z=>refine .inr (.inr ?_);unfold iStr;rw[aQ];refine⟨ρ,F,RS,?_⟩;rw[er];intro v F' H' st rp _;obtain⟨rfl,hz,hk⟩:=Rp.str rp;exact⟨z,rfl,w _ F' H' st (aGZ hk)⟩
  |_=>exact w.elim
def eF(lo hi:Int):List D:=(List.range (hi-lo).toNat).map λi=>.int (lo+(i:Nat))
def gK(r:aR):Res:=r.thn λxs=>match xs with
 |[(_,.int n)]=>if(decide (-(2 ^ 62)<=n)&&decide (n<2 ^ 62))=true then .ok .fz (.lst (eF 0 n))else .stuck
 |_=>.stuck
def aG1{F:Hp}{lo hi:Int}:jL K F (Itr lo (hi-lo).toNat) (eF lo hi) where
 go:=λi H s h=>by simpa[eF,Itr]using h
 stop:=λi H s h=>by simpa[eF,Itr]using h
 yld:=λi Fc H x H' s1 s2 h y=>by
  obtain⟨rfl,rfl⟩:=y;have h':i<(hi-lo).toNat:=by simpa[eF]using h
  refine⟨Fc,.int (lo+i),?_,.refl s2,by simp only[aB]⟩
  simp only[eF,aRZ,aTN h',aTO]
def aG2{a:Expr}(hg:Gl X "range")(hm:X.mg "range" = none)(ha:PAv C X [a] gs)(hs:starEach [a] X.env=[(false,eval a X.env)]:=by rfl):PIv C X tg (.Call (.Name "range" p) [a] [] pos) (λρ=>gK (gs ρ)):=by
 refine PI.imp (aDP hg hm ha hs) λσ H R q=>?_;obtain⟨ρ,F,RS,w⟩:=q;dsimp only at w;unfold u0;refine⟨ρ,F,RS,?_⟩;cases er:gs ρ with
 |stuck=>rw[er]at w;exact w
 |exc c=>rw[er]at w;exact w
 |ok xs =>
  rw[er]at w;intro vs F' H' st rp;unfold gK at w;rw[aR.thn_ok]at w;split at w
  . rename_i m n;split at w
    . rename_i hc;rw[aSI,aTC,aTC]at hc;obtain⟨v,rfl,r⟩:=rp.one;cases r.int;have:=aG1 (K:=X.K) (F:=F') (lo:=0) (hi:=n);rw[Int.sub_zero]at this;exact⟨n,rfl,hc.1,hc.2,w _ F' H' st this⟩
    . exact w.elim
  . exact w.elim
def PGv(C:Cw)(X:Cx)(tg:Expr)(k:D->Rho->Option Rho):Prop:=∃t:TG,PG X tg t/\∀F H σ ρ ρ' d v Q,aS X.K C.F0 C.H0 F H σ ρ->aB X.K F d v->k d ρ=some ρ' ->
 (∀σ' F' H',aD F F'->aS X.K C.F0 C.H0 F' H' σ' ρ'->Q σ' H')->t v σ H Q
noncomputable def bQ(k:D->Rho->Option Rho)(body:Rho->aG):List D->Rho->aG
 |[],ρ=>.nx ρ
 |d::ds,ρ=>match k d ρ with
  |none=>.stuck
  |some ρ1=>match body ρ1 with
   |.nx ρ2=>bQ k body ds ρ2
   |.ct ρ2=>bQ k body ds ρ2
   |.bk ρ2=>.nx ρ2
   |r=>r
def dS(r:Res)(ρ:Rho)(k:D->Rho->Option Rho)(body:Rho->aG):aG:=r.thS ρ λ_ d=>match d with|.lst ds=>bQ k body ds ρ|_=>.stuck
theorem aG3{k:D->Rho->Option Rho}{h1:Rho->aG}(hp:PassesOwn (model X.prog X.w) X.A X.env X.xe)(hc:X.calm=true)(hi:PIv C X tg e g)(hg:PGv C X tg k)(hb:PBv C X body h1)(hs:∀x,foldedSetIterable e X.env x=pure x:=by intro _;rfl):PSv C X (.For tg e body [] pos) (λρ=>dS (g ρ) ρ k h1):=by
 obtain⟨t,ht,hk⟩:=hg;refine PS.imp (aDR hp hc hi ht hb hs) λE σ H q=>?_;obtain⟨ρ,F,RS,w⟩:=q;dsimp only at w;unfold tFor;refine⟨ρ,F,RS,?_⟩;cases er:g ρ with
 |stuck=>rw[er]at w;exact w
 |exc c=>rw[er]at w;exact λF' H' s=>w σ F' H' s.fsame (RS.step s)
 |ok m d =>
  rw[er]at w;cases d with
  |lst ds =>
   intro J F1 H1 s1 hJ;have w:bW (C.at X) F1 (bQ k h1 ds ρ) E:=bW.mono s1.fsame w;refine⟨λi m σ' H'=>m=ds.length-i/\i<=ds.length/\∃ρ' F',aD F1 F'/\aS X.K C.F0 C.H0 F' H' σ' ρ'/\bW (C.at X) F' (bQ k h1 (ds.drop i) ρ') E,⟨ds.length,by simp,aRN _,ρ,F1,aD.refl _,RS.step s1,by simpa using w⟩,?_⟩
   rintro i m σ' H' ⟨rfl,hi,ρ',F',sF,R',w'⟩;by_cases hlt:i<ds.length
   . refine .inr ⟨hJ.go i H' (sF.trans R'.sub) hlt,λσ2 H2=>∃ρ2 F2,aD F1 F2/\aS X.K C.F0 C.H0 F2 H2 σ2 ρ2/\bW (C.at X) F2 (bQ k h1 (ds.drop (i+1)) ρ2) E,λσ2 H2 ⟨ρ2,F2,a,b,c⟩=>⟨ds.length-(i+1),by lia,rfl,hlt,ρ2,F2,a,b,c⟩,λx H2 y=>?_⟩
     obtain⟨F2,d,ed,s2,rd⟩:=hJ.yld i F' H' x H2 sF R'.sub hlt y;have hd:ds.drop i=d::ds.drop (i+1):=by rw[List.drop_eq_getElem_cons hlt];rw[aTP hlt]at ed;cases ed;rfl
     rw[hd]at w';unfold bQ at w';cases ek:k d ρ' with
     |none=>rw[ek]at w';exact w'.elim
     |some ρ1 =>
      rw[ek]at w';dsimp only at w';refine hk F2 H2 σ' ρ' ρ1 d x _ (R'.step s2) rd ek λσ3 F3 H3 z3 R3=>?_;have z13:aD F1 F3:=(sF.trans s2.fsame).trans z3;have w3:=bW.mono (s2.fsame.trans z3) w';refine⟨ρ1,F3,R3,?_⟩;cases eb:h1 ρ1 with
      |nx ρ2=>rw[eb]at w3;exact λσ4 F4 H4 z4 R4=>⟨ρ2,F4,z13.trans z4,R4,bW.mono z4 w3⟩
      |ct ρ2=>rw[eb]at w3;exact λσ4 F4 H4 z4 R4=>⟨ρ2,F4,z13.trans z4,R4,bW.mono z4 w3⟩
      |bk ρ2=>rw[eb]at w3;exact λσ4 F4 H4 z4 R4=>w3 σ4 F4 H4 z4 R4
      |rt m d=>rw[eb]at w3;exact w3
      |exc c ρ2=>rw[eb]at w3;exact w3
      |stuck=>rw[eb]at w3;exact w3
   . have ei:i=ds.length:=by lia
     subst ei;refine .inl ⟨hJ.stop _ H' (sF.trans R'.sub) (aRD _),?_⟩;rw[List.drop_length]at w';exact w' σ' F' H' (aD.refl _) R'
  |_=>exact w.elim
end
end D3
namespace L2
theorem pZ {env : Env} : ∀ (names : List (Str × NameKind)) (acc : List (Str × Addr)), (∀ y ∈ names, y.2 = .free → ∃ c, env.cells.lookup y.1 = some c) → (∀ y c, acc.lookup y = some c → env.cells.lookup y = some c) →
    ∃cl,(forIn names acc λ(x:Str×NameKind) (cs:List (Str×Addr))=>(if x.2 == .free then(do let c <- cellOf env x.1;pure (ForInStep.yield ((x.1,c)::cs)))else pure (ForInStep.yield cs):Sem (ForInStep (List (Str×Addr)))))=pure cl /\
     (∀y c,cl.lookup y=some c->env.cells.lookup y=some c)/\(∀y c,acc.lookup y=some c->cl.lookup y=some c)/\∀y,(y,NameKind.free)∈names->∃c,cl.lookup y=some c
 |[],acc,_,ha=>⟨acc,by rw[aTQ],ha,λ_ _ h=>h,λ_ h=>by cases h⟩
 |(n,k)::r,acc,h,ha=>by
  rw[aTR];by_cases hk:k=.free
  . subst hk;obtain⟨c,ec⟩:=h (n,.free) mcs rfl;have hc:cellOf env n=pure c:=by unfold cellOf;rw[ec]
    have e:((if(NameKind.free==NameKind.free)=true then(do let c <- cellOf env n;pure (ForInStep.yield ((n,c)::acc)))else pure (ForInStep.yield acc)):Sem (ForInStep (List (Str×Addr))))=pure (ForInStep.yield ((n,c)::acc)):=by rw[if_pos (by decide),hc,aTS]
    obtain⟨cl,e1,e2,e3,e4⟩:=pZ (env:=env) r ((n,c)::acc) (λy hy=>h y (mcm hy)) (λy c' q=>by
     rw[aTB]at q;cases hyn:y==n with
     |true=>rw[hyn]at q;cases q;rw[aRK.mp hyn];exact ec
     |false=>rw[hyn]at q;exact ha y c' q)
    refine⟨cl,?_,e2,λy c' q=>?_,λy hy=>?_⟩
    . dsimp only;rw[e,aTS];exact e1
    . cases hyn:y==n with
      |true=>have:=aRK.mp hyn;subst this;have q':=ha y c' q;rw[ec]at q';cases q';exact e3 y c (by rw[aTB,hyn])
      |false=>exact e3 y c' (by rw[aTB,hyn];exact q)
    . rcases aQU.mp hy with z|z
      . cases z;exact⟨c,e3 n c (by rw[aTB,aTT])⟩
      . exact e4 y z
  . have e:((if(k==NameKind.free)=true then(do let c <- cellOf env n;pure (ForInStep.yield ((n,c)::acc)))else pure (ForInStep.yield acc)):Sem (ForInStep (List (Str×Addr))))=pure (ForInStep.yield acc):=by rw[if_neg (by simpa using hk)]
    obtain⟨cl,e1,e2,e3,e4⟩:=pZ (env:=env) r acc (λy hy=>h y (mcm hy)) ha;refine⟨cl,?_,e2,e3,λy hy=>?_⟩
    . dsimp only;rw[e,aTS];exact e1
    . rcases aQU.mp hy with z|z
      . cases z;exact absurd rfl hk
      . exact e4 y z
def wJ(h:∀y∈scope.names,y.2=.free->∃c,env.cells.lookup y.1=some c):∃cl,closureFor scope env=pure cl/\(∀y c,cl.lookup y=some c->env.cells.lookup y=some c)/\∀y,(y,NameKind.free)∈scope.names->∃c,cl.lookup y=some c:=by
 obtain⟨cl,e1,e2,_,e4⟩:=pZ (env:=env) scope.names [] h (λy c q=>by simp at q)
 refine⟨cl,?_,e2,e4⟩;unfold closureFor;rw[bind_pure];exact e1
def aG4(cH:∀y∈scope.names,y.2 ≠ .cell)(h:(relabel scope env).names.lookup x=some .cell\/(relabel scope env).names.lookup x=some .free):(x,NameKind.free)∈scope.names:=by
 unfold relabel at h;dsimp only at h;have go:∀(l:List (Str×NameKind)),(∀y∈l,y.2 ≠ .cell)->((l.map λ(n,k)=>if(k==NameKind.free&&env.scope.kind == .function&&env.kindOf n==some .cell)then(n,NameKind.cell)else(n,k)).lookup x=some .cell\/(l.map λ(n,k)=>if(k==NameKind.free&&env.scope.kind == .function&&env.kindOf n==some .cell)then(n,NameKind.cell)else(n,k)).lookup x=some .free)->(x,NameKind.free)∈l:=by
  intro l
  induction l with
  |nil=>intro _ h;simp at h
  |cons y l ih =>
   intro hc h;obtain⟨n,k⟩:=y;rw[aSS]at h;by_cases hx:x=n
   . subst hx;have hk:k=.free:=by
       by_cases hk:k=.free
       . exact hk
       . have e:(k==NameKind.free&&env.scope.kind == .function&&env.kindOf x==some .cell)=false:=by
           have:(k==NameKind.free)=false:=by simpa using hk
           rw[this];rfl
         simp only[e,aS8,aSA,aTB,aTT]at h;rcases h with h|h
         . cases h;exact absurd rfl (hc _ mcs)
         . cases h;exact absurd rfl hk
     subst hk;exact mcs
   . have hb:(x==n)=false:=by simpa using hx
     have hh:∀(kk:NameKind) (l':List (Str×NameKind)),((n,kk)::l').lookup x=l'.lookup x:=λkk l'=>by rw[aTB,hb]
     by_cases hcond:(k==NameKind.free&&env.scope.kind == .function&&env.kindOf n==some .cell)=true
     . dsimp only at h;rw[if_pos hcond,hh]at h;exact mcm (ih (λy hy=>hc y (mcm hy)) h)
     dsimp only at h;rw[if_neg hcond,hh]at h;exact mcm (ih (λy hy=>hc y (mcm hy)) h)
 exact go scope.names cH h
noncomputable def bE(X:Cx)(scope:Scope)(N:List Str)(cl:List (Str×Addr))(C:Addr)(fp:List Addr)(s3:aV4)(H3:Hp):Cx where
 prog:=X.prog
 w:=X.w
 K:=X.K
 mg:=X.mg
 base:=X.base
 A:=X.A
 N:=N
 s₀:=s3
 H₀:=H3
 env:=compEnvC scope cl C X.env
 outer:=X.stack
 stack:=X.stack
 ex:=fp
 fn:=λ_=>false
 calm:=X.calm
 pn:=[]
 xe:=λ_ _=>False
def dU(X:Cx)(cs:List Expr)(t:TT):Prop :=
 ∀(aA:LAO) (s:aV4) (σ:St) (H:Hp) (Q:Bool->Hp->Prop),Inv X aA σ H s->t σ H Q ->
  wpAny (model X.prog X.w) X.A (forIn cs true λc r=>if r=true then do let ok <- isTrue c X.env (eval c X.env);pure (ForInStep.yield ok)else pure (ForInStep.yield r)) (TP X aA σ Q) X.xe s
def aG5:dU X [] (λ_ H Q=>Q true H):=λaA s σ H Q I h=>by rw[aTQ];exact aQ9 ⟨H,I,h⟩
theorem wK{X:Cx}:∀cs:List Expr,(forIn cs false λc r=>if r=true then do let ok <- isTrue c X.env (eval c X.env);pure (ForInStep.yield ok)else pure (ForInStep.yield r):Sem Bool)=pure false
 |[]=>by rw[aTQ]
 |c::cs=>by rw[aTR,if_neg aQ7,aTS];exact wK cs
def aG6{cs:List Expr}{t u:TT}(hc:PT X c t)(hr:dU X cs u):dU X (c::cs) (pE t u):=λaA s σ H Q I h=>by
 rw[aTR,if_pos rfl];refine aRA (aRA (thn (hc aA s σ H _ I h) λb s1 ⟨H1,I1,q1⟩=>aQ9 ?_));cases b with
 |true=>rw[if_pos rfl]at q1;exact hr aA s1 σ H1 Q I1 q1
 |false=>rw[if_neg aQ7]at q1;dsimp only;rw[wK];exact aQ9 ⟨H1,I1,q1⟩
section
variable {A:aV5}{R:Result->aV4->Prop}
def aG7 {elt target aU : Expr} {ifs : List Expr} {scope : Scope} {pos : Pos} {it acc : aV3} {env : Env} (I : Nat → aV4 → Prop) (turn : ∀ n s, I n s → wpAny (model prog w) A (pyNext it) (fun r s1 => match r with
      |none=>R (.ok .next) s1
      | some v => wpAny (model prog w) A (letOwnedTupleGo target it v) (fun _ s1' => wpAny (model prog w) A (assign target env v) (fun _ s2 =>
          wpAny (model prog w) A (forIn ifs true λc r=>if r=true then do let ok <- isTrue c env (eval c env);pure (ForInStep.yield ok)else pure (ForInStep.yield r)) (λok s3 =>
           if ok=true then wpAny (model prog w) A (eval elt env) (λx s4 =>
            wpAny (model prog w) A (call (.builtin "list.append") [acc,x]) (λ_ s5=>∃m,m<n/\I m s5) (λ_ _=>False) s4) (λ_ _=>False) s3
           else ∃ m, m < n ∧ I m s3) (fun _ _ => False) s2) (fun _ _ => False) s1') (fun _ _ => False) s1) (fun _ _ => False) s)
    (n:Nat) (h:I n s) :
    codeAny (model prog w) A (.compLoop (.ListComp elt [⟨target,aU,ifs,0⟩] scope pos) 0 it acc env) R s:=by
 refine codeAny_loop rfl I (λn s hI=>?_) n h;show wpAny _ A ((compTurn (.ListComp elt [⟨target,aU,ifs,0⟩] scope pos) 0 it acc env).onRaise (λx=>do noteFrame x env;theTreesLotGoes x)) _ _ s
 refine wpAny_noted ?_;rw[compTurn_list];refine aRA (wpAny_standAt (aRA (aQ0 (turn n s hI) (λr s1 h1=>?_) λ_ _ h'=>h'.elim)));cases r with
 |none=>exact aQ9 h1
 |some v =>
  refine aRA (aQ0 h1 (λ_ s1' h1'=>?_) λ_ _ h'=>h'.elim);refine aRA (aQ0 h1' (λ_ s2 h2=>aRA (aQ0 h2 (λok s3 h3=>?_) λ_ _ h'=>h'.elim)) λ_ _ h'=>h'.elim);cases ok with
  |false=>exact aQ9 ⟨rfl,h3⟩
  |true=>exact aRA (aRA (aQ0 h3 (λx s4 h4=>aRA (aQ0 h4 (λ_ s5 h5=>aQ9 (aQ9 ⟨rfl,h5⟩)) λ_ _ h'=>h'.elim)) λ_ _ h'=>h'.elim))
end
def eG(aF:List Nat)(σ:St):St:=aF.map λi=>(σ[i]?).getD none
def Weak(σ σ':St):Prop:=σ.length=σ'.length/\∀(j:Nat) v,σ[j]? = some (some v)->σ'[j]? = some (some v)
def k6(aF:List Nat)(k:Nat)(wi:TI)(gt:TG)(tt:TT)(te:TE):TE:=λσ H Q=>wi σ H λJ H1=>∀D,H1 D=none ->
 ∃W:Nat->Nat->List V->Hp->Prop,(∃m,W 0 m [] (upd H1 D (.lst [])))/\∀i m ys H,W i m ys H->H D=some (.lst ys) /\
  ((J.stop i H/\Q (.ref D) H)\/(J.go i H/\ys.length<sizeLine/\∀x H',J.yld i H x H'->gt x (eG aF σ++List.replicate k none) H' λσ2 H2=>Weak (eG aF σ++List.replicate k none) σ2/\tt σ2 H2 λb H3 =>
   if b=true then te σ2 H3 λy H4=>H4 D=some (.lst ys)/\∃m',m'<m/\W (i+1) m' (ys++[y]) (upd H4 D (.lst (ys++[y])))else ∃m',m'<m/\W (i+1) m' ys H3))
def wL{gt:TG}{use:Option (aV3->Sem Unit)}{QQ:VSP}{σ:St}{Q:VK}(hc:X.calm=true)(hi:PI X tg aU wi)(cH:∀y∈scope.names,y.2 ≠ .cell)(cZ:scope.kind=.function)(fP:∀y∈scope.names,y.2=.local->scope.names.lookup y.1=some .local)(eA:∀y∈scope.names,y.2=.free->X.env.kindOf y.1=some .cell\/X.env.kindOf y.1=some .free)(eP:aL.map some=aF.map λi=>X.N[i]?)(fR:∀y∈aL,(y,NameKind.free)∈scope.names)(fQ:∀y∈aL,(relabel scope X.env).names.lookup y=some .cell\/(relabel scope X.env).names.lookup y=some .free)(hg:∀cl C fp s3 H3,PG (bE X scope (aL++tgN) cl C fp s3 H3) tg gt)(hf:∀cl C fp s3 H3,dU (bE X scope (aL++tgN) cl C fp s3 H3) ifs tt)(he:∀cl C fp s3 H3,PE (bE X scope (aL++tgN) cl C fp s3 H3) elt te)(hs:∀x,foldedSetIterable aU X.env x=pure x)(I:Inv X aA σ H s)(h:k6 aF tgN.length wi gt tt te σ H Q)(hend:∀(D Z:Addr) (s6:aV4) (H5:Hp),(∃m,s6.heap.Ns Z m)->(∀h'',Heap.SameBut Z s6.heap h''->Inv X aA σ H5 {s6 with heap:=h''})->H5 Z=none->X.s₀.heap.objs.size<=Z->Z≠X.env.locals->(∀x c,X.env.cells.lookup x=some c->c≠Z)->(∀p∈X.pn++aA,p.1≠Z)->Q (.ref D) H5->compPost (model X.prog X.w) X.A X.xe use QQ (.ref D) Z (.ok .next) s6):wpAny (model X.prog X.w) X.A (comprehension (.ListComp elt [⟨tg,aU,ifs,0⟩] scope pos) scope X.env (firstIterPos [⟨tg,aU,ifs,0⟩] pos) (newList []) (firstAsync [⟨tg,aU,ifs,0⟩]) (firstIter [⟨tg,aU,ifs,0⟩] X.env) use) QQ X.xe s:=by
 obtain⟨cl,hclos,clsub,clhas⟩:=wJ (scope:=scope) (env:=X.env) λy hy hk=>I.ok.has y.1 (eA y hy hk);refine wpAny_comprehension_free (use:=use) rfl hs hclos cZ fP (thn (hi aA s σ H _ I h) λv s1 h1=>thn h1 λitv s2 h2=>?_);obtain⟨it,fp,tn,J,H2,e,I2,T,st2,f2,q⟩:=h2;subst e;refine aSJ ?_;have hn:H2 s2.heap.objs.size=none:=I2.hok.fresh (aRD _);obtain⟨W,⟨m0,w0⟩,turn⟩:=q s2.heap.objs.size hn;have I3:Inv X aA σ (upd H2 s2.heap.objs.size (.lst [])) { s2 with heap:=s2.heap.push { cls:=.type "list", dict:=none,data:=.seq ([]:List aV3).toArray } } :=
  I2.laid (t':=s2.toks) (λb u e=>hps e) (aRD _) ⟨aRN _,[],0,.nil,aQK _ rfl⟩
 generalize hs3:({ s2 with heap:=s2.heap.push { cls:=.type "list", dict:=none,data:=.seq ([]:List aV3).toArray } }:aV4)=s3 at I3 ⊢
 generalize hH3:upd H2 s2.heap.objs.size (.lst [])=H3 at I3 w0;have fpl:∀b∈fp,b<s2.heap.objs.size:=λb hb=>by obtain⟨o,eo,_⟩:=T.obj 0 _ st2 b hb;exact aQL eo
 have sz3:s3.heap.objs.size=s2.heap.objs.size+1:=by rw[<- hs3];exact aRL _ _
 have keep23:∀b o,s2.heap.get? b=some o->s3.heap.get? b=some o:=λb o e=>by rw[<- hs3];exact hps e
 have hDf:s2.heap.objs.size∉fp:=λhb=>aQN _ (fpl _ hb);refine wpAny_newFunctionEnv cH (by intro y hy;simp at hy) (λh4 hns hsb=>?_) cZ
 try dsimp only at hns hsb ⊢
 have keep34:∀b o,s3.heap.get? b=some o->h4.get? b=some o:=λb o e=>hsb.extBut b o (aQO (aQL e)) (hps e);have nostk:∀b∈fp,b∉frs X.stack:=λb hb z=>by
  obtain⟨_,f1,f2',_⟩:=f2 b hb;rcases aQU.mp (I2.stkSub b z)with q|q
  . exact f1 q
  . exact f2' q
 have okc:(bE X scope (aL++tgN) cl s3.heap.objs.size fp s3 H3).Ok :=
  { mod:=I3.ok.mod
    kind:=cZ
    glob:=I3.ok.glob
    blt:=I3.ok.blt
    above:=aRD _
    inj:=λx y c h1 h2=>I3.ok.inj x y c (clsub x c h1) (clsub y c h2)
    has:=λx hx=>clhas x (aG4 cH hx)
    cab:=λx c z=>by cases z
    hd:=I3.ok.hd
    frames:=I3.ok.frames
    stk:=.inl rfl
    exf:=λb hb=>⟨aQO (by show b<s3.heap.objs.size;rw[sz3];exact aTU (fpl b hb)),λx c e=>(f2 b hb).2.2.2.2.1 x c (clsub x c e)⟩
    bs:=I3.bs
    bsz:=aQR I3.ok.bsz I3.sz
    noex:=λb o e hb=>by
     obtain⟨_,_,_,f3,_⟩:=f2 b hb;rcases f3 with z|z
     . exact I2.ok.noex b o e z
     . exact absurd (aQL (I2.ok.bs b o e).1) (aTV.mpr z)
    exfs:=nostk
    funs:=I3.stack
    frf:=I3.stkFree
    tabs:=I3.ok.tabs.mono I3.base.tbls }
 have capLen:aL.length=aF.length:=by have:=congrArg List.length eP;simpa using this
 generalize hσ0:eG aF σ++List.replicate tgN.length none=σ0 at turn;have Ic:Inv (bE X scope (aL++tgN) cl s3.heap.objs.size fp s3 H3) [] σ0 H3 {s3 with heap:=h4,toks:=s3.toks+([]:List (Str×aV3)).length}:=by
  refine⟨okc,rfl,I3.bare,Un.kept keep34,⟨_,hns,λi y v h1 h2 h3=>?_⟩,λx c e=>?_,I3.hok.fresh (aRD _),λx c e=>I3.freeC x c (clsub x c e),λp hp=>absurd (show p∈([]:LAO)from hp) (by simp),I3.hok.kept keep34,?_⟩
  . by_cases hi:i<aF.length
    . have ey:aL[i]? = some y:=by have h1:(aL++tgN)[i]? = some y:=h1;rw[aRY (by rw[capLen];exact hi)]at h1;exact h1
      have hj:X.N[aF[i]]? = some y:=by
       have e1:(aL.map some)[i]? = (aF.map λi=>X.N[i]?)[i]?:=by rw[eP]
       rw[aRZ,aRZ,ey,aTP hi]at e1;simpa using e1.symm
      have ev:σ[aF[i]]? = some (some v):=by
       rw[<- hσ0,aRY (by simpa[eG]using hi)]at h2
       unfold eG at h2;rw[aRZ,aTP hi]at h2;simp only[aTO,aTA]at h2;cases z:σ[aF[i]]? with
       |none=>rw[z]at h2;cases h2
       |some o=>rw[z]at h2;exact congrArg some h2
      have hyf:=fR y (aR0 ey);have hkX:=eA _ hyf rfl;obtain⟨m,_,hl⟩:=I3.loc;obtain⟨u,ru,lk⟩:=hl aF[i] y v hj ev (by rcases hkX with z|z;exact .inr (.inl z);exact .inr (.inr z))
      refine⟨u,ru,.inr ⟨fQ y (aR0 ey),?_⟩⟩;rcases lk with⟨hk,_⟩|⟨_,c,ec,ic⟩
      . rcases hkX with z|z
        . rw[show X.env.kindOf y=some .cell from z]at hk;cases hk
        . rw[show X.env.kindOf y=some .free from z]at hk;cases hk
      . obtain⟨c',ec'⟩:=clhas y hyf;have:=clsub y c' ec';rw[ec]at this;cases this;exact⟨c,ec',ic.keeps keep34⟩
    . rw[<- hσ0,aRW (by simpa[eG]using hi),aRX]at h2
      split at h2 <;> cases h2
  . obtain⟨v,q⟩:=I3.cell x c (clsub x c e);exact⟨v,q.keeps keep34⟩
  . rw[<- hσ0];show(eG aF σ++List.replicate tgN.length none).length=(aL++tgN).length;simp[eG,capLen]
 have fpc:∀{H':Hp},(∀b∈fp,H' b=none)->∀b∈fp,gY (bE X scope (aL++tgN) cl s3.heap.objs.size fp s3 H3) [] H' b:=λhn b hb =>
  ⟨hn b hb,(okc.exf b hb).1,nostk b hb,.inl hb,(okc.exf b hb).2,λp hp=>absurd (show p∈([]:LAO)from hp) (by simp)⟩
 have loop:codeAny (model X.prog X.w) X.A (.compLoop (.ListComp elt [⟨tg,aU,ifs,0⟩] scope pos) 0 (.ref it) (.ref s2.heap.objs.size) (compEnvC scope cl s3.heap.objs.size X.env)) (compPost (model X.prog X.w) X.A X.xe use QQ (.ref s2.heap.objs.size) s3.heap.objs.size) {s3 with heap:=h4,toks:=s3.toks+([]:List (Str×aV3)).length}:=by
  refine aG7 (λn s'=>∃i ys H',Inv (bE X scope (aL++tgN) cl s3.heap.objs.size fp s3 H3) [] σ0 H' s'/\tn i s'.heap/\(∀b∈fp,H' b=none)/\W i n ys H') ?_ m0
   ⟨0,[],H3,Ic,T.keep _ _ _ st2 (λb hb o e=>keep34 b o (keep23 b o e)),λb hb=>by rw[<- hH3,aJ (by intro z;rw[z]at hb;exact hDf hb)];exact(f2 b hb).1,w0⟩
  rintro n s5 ⟨i,ys,H5,I5,st5,fr5,w5⟩;obtain⟨hD,hw⟩:=turn i n ys H5 w5;rcases hw with⟨stop,qq⟩|⟨go,hlen,step⟩
  . refine thn (T.done (bE X scope (aL++tgN) cl s3.heap.objs.size fp s3 H3) rfl rfl rfl hc i [] s5 σ0 H5 _ I5 (fpc fr5) st5 stop) λr s6 ⟨hr,I6⟩=>?_;subst hr;obtain⟨m,hm,_⟩:=id I6.loc;refine hend s2.heap.objs.size s3.heap.objs.size s6 H5 ⟨m,hm⟩ (λh'' hsb2=>?_) I6.free I3.sz (λz=>?_) (λx c ec z=>?_) (λp hp z=>?_) qq;rotate_left
    . obtain⟨m,⟨o,es,ep,ho,_⟩,_⟩:=id I3.loc;rw[<- z]at ho;exact aQN _ (aQL ho)
    . obtain⟨v,o,ho,_⟩:=I3.cell x c ec;rw[z]at ho;exact aQN _ (aQL ho)
    . have:=(I3.pin p hp).1;rw[z]at this;exact aQN _ (aQL this)
    have u:=I6.base;have neC:∀b o,s3.heap.get? b=some o->b≠s3.heap.objs.size:=λb o e=>aQO (aQL e);have un:Un (frs X.stack) fp H3 H5 s3.heap h'':=by
     refine⟨λb o e n hb hx=>hsb2.extBut b o (neC b o e) (u.keep b o e n hb hx),λb o e n hb hx=>?_,u.free,λb o e hx=>?_,u.tups,u.frzs,u.tbls⟩
     . obtain⟨sl,q⟩:=u.slot b o e n hb hx;exact⟨sl,hsb2.extBut b _ (neC b o e) q⟩
     . obtain⟨o',q⟩:=u.there b o e hx;exact⟨o',hsb2.extBut b _ (neC b o e) q⟩
    have hok : HOk X.prog X.w H5 h'' := fun a o e => (I6.hok a o e).stay (fun b v hb q => hsb2.extBut b v (by
        intro z;have fr:=I6.free;rcases hb with hb|hb
        . rw[hb]at z;rw[z]at e;rw[show H5 s3.heap.objs.size=none from fr]at e;cases e
        . rw[z,show H5 s3.heap.objs.size=none from fr]at hb;cases hb) q) (λ_ q=>q) λ_ _ q=>q
    have os6:=I6.os;obtain⟨hh,g6,d6,t6,o6⟩:=s6;obtain rfl:o6=s3.os:=os6;have I8:=I3.call (h':=h'') (g':=g6) (d':=d6) (t':=t6) (ch:=fp) un hok I6.bare λb hb=>by obtain⟨_,f1,_,f3,f4,f5⟩:=f2 b hb;exact⟨f3,f1,f4,f5⟩
    exact I8
  . refine thn (T.item (bE X scope (aL++tgN) cl s3.heap.objs.size fp s3 H3) rfl rfl rfl hc i [] s5 σ0 H5 _ I5 (fpc fr5) st5 go) λr s6 ⟨u,hr,h6⟩=>?_;subst hr;refine thn h6 λ_ s7 ⟨x,H7,I7,r7,y7,st7,fr7⟩=>?_;have I7':=I7.pinned (fpc fr7) (T.obj _ _ st7);refine thn (hg cl s3.heap.objs.size fp s3 H3 _ s7 σ0 H7 x u _ I7' r7 (step x H7 y7)) λ_ s8 ⟨σ8,H8,I8,wk,q8⟩=>?_;have back:∀{H':Hp}{s':aV4}{m':Nat}{ys':List V},Inv (bE X scope (aL++tgN) cl s3.heap.objs.size fp s3 H3) ([]++kL fp s7.heap) σ8 H' s'->m'<n->W (i+1) m' ys' H' ->
        ∃m,m<n/\∃i ys H',Inv (bE X scope (aL++tgN) cl s3.heap.objs.size fp s3 H3) [] σ0 H' s'/\tn i s'.heap/\(∀b∈fp,H' b=none)/\W i m ys H':=λ{H' s' m' ys'} I' hm w'=>by
      have pinned:∀b∈fp,∀o,s7.heap.get? b=some o->s'.heap.get? b=some o/\H' b=none:=λb hb o e=>by have:=I'.pin (b,o) (aRG _ (aRG _ (pG hb e)));exact⟨this.1,this.2.1⟩
      refine⟨m',hm,i+1,ys',H',I'.unpinned.weak wk.1 wk.2,T.keep _ _ _ st7 λb hb o e=>(pinned b hb o e).1,λb hb=>?_,w'⟩;obtain⟨o,e,_⟩:=T.obj _ _ st7 b hb;exact(pinned b hb o e).2
    refine thn (hf cl s3.heap.objs.size fp s3 H3 _ s8 σ8 H8 _ I8 q8) λb s9 ⟨H9,I9,q9⟩=>?_;cases b with
    |false=>rw[if_neg aQ7]at q9 ⊢;obtain⟨m',hm,w9⟩:=q9;exact back I9 hm w9
    |true =>
     rw[if_pos rfl]at q9 ⊢;refine thn (he cl s3.heap.objs.size fp s3 H3 _ s9 σ8 H9 _ I9 q9) λy s10 ⟨yv,H10,I10,r10,hD10,m',hm,w10⟩=>?_;refine thn (vO (X:=bE X scope (aL++tgN) cl s3.heap.objs.size fp s3 H3) _ s10 σ8 H10 (.ref s2.heap.objs.size) [yv] (.ref s2.heap.objs.size) [y] (λv H'=>v=.non/\H'=upd H10 s2.heap.objs.size (.lst (ys++[yv]))) I10 rfl (.cons r10 .nil)
      ⟨s2.heap.objs.size,ys,yv,rfl,rfl,hD10,hlen,rfl,rfl⟩) λ_ s11 ⟨v,H11,I11,_,_,e11⟩=>?_
     subst e11;exact back I11 hm w10
 exact codeAny_compStart_list loop (T.self _ 0 _ _ _ (T.keep _ _ _ st2 (λb hb o e=>keep34 b o (keep23 b o e))) loop)
def aG8{gt:TG}(hc:X.calm=true)(hi:PI X tg aU wi)(cH:∀y∈scope.names,y.2 ≠ .cell)(cZ:scope.kind=.function)(fP:∀y∈scope.names,y.2=.local->scope.names.lookup y.1=some .local)(eA:∀y∈scope.names,y.2=.free->X.env.kindOf y.1=some .cell\/X.env.kindOf y.1=some .free)(eP:aL.map some=aF.map λi=>X.N[i]?)(fR:∀y∈aL,(y,NameKind.free)∈scope.names)(fQ:∀y∈aL,(relabel scope X.env).names.lookup y=some .cell\/(relabel scope X.env).names.lookup y=some .free)(hg:∀cl C fp s3 H3,PG (bE X scope (aL++tgN) cl C fp s3 H3) tg gt)(hf:∀cl C fp s3 H3,dU (bE X scope (aL++tgN) cl C fp s3 H3) ifs tt)(he:∀cl C fp s3 H3,PE (bE X scope (aL++tgN) cl C fp s3 H3) elt te)(hs:∀x,foldedSetIterable aU X.env x=pure x:=by intro _;rfl):PE X (.ListComp elt [⟨tg,aU,ifs,0⟩] scope pos) (k6 aF tgN.length wi gt tt te):=by intro aA s σ H Q I h;rw[eval_ListComp];exact wL (use:=none) hc hi cH cZ fP eA eP fR fQ hg hf he hs I h λD Z s6 H5 hm hI _ _ _ _ _ q=>by obtain⟨m,hm⟩:=hm;exact⟨m,hm,λh'' hs=>⟨.ref D,H5,hI h'' hs,rfl,q⟩⟩
def Inv.dropped{σ:St}{h'':Heap}{Z:Addr}(I:Inv X aA σ H s)(hs:Heap.SameBut Z s.heap h'')(hz:H Z=none)(h0:X.s₀.heap.objs.size<=Z)(h1:Z≠X.env.locals)(h2:∀x c,X.env.cells.lookup x=some c->c≠Z)(h3:∀p∈X.pn++aA,p.1≠Z):Inv X aA σ H {s with heap:=h''}:=by
 have un:Un (frs X.stack) [Z] H H s.heap h'':=by
  have k:∀b o,s.heap.get? b=some o->b∉[Z]->h''.get? b=some o:=λb o e hb=>hs.extBut b o (λz=>hb (by rw[z];exact mcs)) e
  exact⟨λb o e _ _ hx=>k b o e hx,λb o e _ _ hx=>⟨o.slots,k b o e hx⟩,λ_ _ _ n _=>n,λb o e hx=>⟨o,k b o e hx⟩,λ_ _ q=>q,λ_ _ _ q=>q,λ_ ps q=>⟨#[],by simpa using q⟩⟩
 have hok:HOk X.prog X.w H h'':=λa o e=>(I.hok a o e).stay (λb v hb q=>hs.extBut b v (by
  rintro rfl;rcases hb with hb|hb
  . rw[hb,e]at hz;cases hz
  . rw[hz]at hb;cases hb) q) (λ_ q=>q) λ_ _ q=>q
 obtain⟨hh,g,d,t,o⟩:=s;exact I.call (g':=g) (d':=d) (t':=t) (ch:=[Z]) un hok I.bare λb hb=>by
  obtain rfl:b=Z:=by simpa using hb
  exact⟨.inr h0,h1,h2,h3⟩
def aG9{spos:Pos}{gt:TG}(hc:X.calm=true)(hi:PI X tg aU wi)(cH:∀y∈scope.names,y.2 ≠ .cell)(cZ:scope.kind=.function)(fP:∀y∈scope.names,y.2=.local->scope.names.lookup y.1=some .local)(eA:∀y∈scope.names,y.2=.free->X.env.kindOf y.1=some .cell\/X.env.kindOf y.1=some .free)(eP:aL.map some=aF.map λi=>X.N[i]?)(fR:∀y∈aL,(y,NameKind.free)∈scope.names)(fQ:∀y∈aL,(relabel scope X.env).names.lookup y=some .cell\/(relabel scope X.env).names.lookup y=some .free)(hg:∀cl C fp s3 H3,PG (bE X scope (aL++tgN) cl C fp s3 H3) tg gt)(hf:∀cl C fp s3 H3,dU (bE X scope (aL++tgN) cl C fp s3 H3) ifs tt)(he:∀cl C fp s3 H3,PE (bE X scope (aL++tgN) cl C fp s3 H3) elt te)(hN:X.N.Nodup)(hx:X.N[i]? = some x)(hk:X.env.scope.names.lookup x=some .local)(hsw:swapsWith (.ListComp elt [⟨tg,aU,ifs,0⟩] scope pos) (some (.Name x pos')) spos.line X.env=pure true)(hs:∀x,foldedSetIterable aU X.env x=pure x:=by intro _;rfl):PS X (.Assign [.Name x pos'] (.ListComp elt [⟨tg,aU,ifs,0⟩] scope pos) spos) (mV (k6 aF tgN.length wi gt tt te) (kK i)):=by
 intro aA s σ H En I h;rw[exec_Assign_Name_used _ _ _ _ hsw];refine aRA (wpAny_standAt (aRA ?_));show wpAny _ X.A (comprehension (.ListComp elt [⟨tg,aU,ifs,0⟩] scope pos) scope X.env (firstIterPos [⟨tg,aU,ifs,0⟩] pos) (newList []) (firstAsync [⟨tg,aU,ifs,0⟩]) (firstIter [⟨tg,aU,ifs,0⟩] X.env) (some (assign (.Name x pos') X.env))>>=_) _ _ s;refine aRA (wL (use:=some (assign (.Name x pos') X.env)) hc hi cH cZ fP eA eP fR fQ hg hf he hs I h λD Z s6 H5 hm hI hz h0 h1 h2 h3 q=>?_);obtain⟨m,hm⟩:=hm;have I6:=hI s6.heap (Heap.SameBut.refl _ _);refine wpAny_assign_Name (uS I6 hN hx (.inl hk) (show aI (.ref D) (.ref D)from rfl) (λs' I' hch=>?_) (.inr hk))
 obtain⟨a,sb,ha⟩:=hch;have na:Z≠a:=by
  rcases ha with rfl|ha
  . exact h1
  . exact λz=>h2 x a ha z.symm
 exact⟨m,hm.sameBut sb na,λh'' hs2=>aQ9 (aQ9 ⟨_,H5,I'.dropped hs2 hz h0 h1 h2 h3,q⟩)⟩
end L2
namespace D3
def dC(aF:List Nat)(ρ:Rho):Rho:=aF.map λi=>match ρ[i]? with|some (some (false,d))=>some (false,d)|_=>none
def fG(k:D->Rho->Option Rho)(t e:Rho->Res)(ρ0:Rho):List D->Option (List D)
 |[]=>some []
 |d::ds=>match k d ρ0 with
  |none=>none
  |some ρ1=>match t ρ1 with
   |.ok _ (.bl true)=>(match aW (e ρ1)with|.ok _ y=>(fG k t e ρ0 ds).map (y :: ·)|_=>none)
   |.ok _ (.bl false)=>fG k t e ρ0 ds
   |_=>none
def dW(src:Res)(ρ:Rho)(aF:List Nat)(n:Nat)(k:D->Rho->Option Rho)(t e:Rho->Res):Res:=src.thn λ_ d=>match d with
 |.lst ds=>if ds.length<sizeLine then(match fG k t e (dC aF ρ++List.replicate n none) ds with|some ys=>.ok .fr (.lst ys)|none=>.stuck)else .stuck
 |_=>.stuck
abbrev Cw.nox(C:Cw):Cw:={C with EE:=λ_ _ _=>False}
theorem aH.upd{F:Hp}{x:Addr}{o:HO}(st:aH F H F' H')(hx:H x=none)(hx':F' x=none):aH F H F' (L2.upd H' x o) :=
 ⟨λb u q=>by rw[aJ (bN q hx)];exact st.same b u q,st.fsame,λb u q=>by rw[aJ (bN q hx')];exact st.sub b u q,st.new⟩
def aHA:dU X [] (tT (C.at X) λ_=>.ok .fz (.bl true)):=λaA s σ H Q I h=>by obtain⟨ρ,F,R,w⟩:=h;exact aG5 aA s σ H Q I (w F H (.refl R.sub))
def aHB{cs:List Expr}(hc:PTv C X c ga)(hr:dU X cs (tT (C.at X) gb)):dU X (c::cs) (tT (C.at X) λρ=>eR (ga ρ) (gb ρ)):=λaA s σ H Q I h =>
 aG6 hc hr aA s σ H Q I (wC h)
def aHC{F:Hp}(aF:List Nat)(n:Nat)(R:aS K F0 H0 F H σ ρ):aS K F0 H0 F H (eG aF σ++List.replicate n none) (dC aF ρ++List.replicate n none):=by
 have low:∀(i:Nat) (m:Bool) (d:D),(dC aF ρ++List.replicate n none)[i]? = some (some (m,d))->m=false/\∃v,(eG aF σ++List.replicate n none)[i]? = some (some v)/\aB K F d v:=λi m d e=>by
  by_cases hi:i<aF.length
  . rw[aRY (by simpa[dC]using hi)]at e
    rw[aRY (by simpa[eG]using hi)]
    unfold dC at e;unfold eG;rw[aRZ,aTP hi]at e ⊢;simp only[aTO,aTA]at e;cases z:ρ[aF[i]]? with
    |none=>rw[z]at e;cases e
    |some o =>
     rw[z]at e;cases o with
     |none=>cases e
     |some q =>
      obtain⟨b,d'⟩:=q;cases b with
      |true=>cases e
      |false=>cases e;obtain⟨v,e1,r,_⟩:=R.slot _ _ _ z;exact⟨rfl,v,by simp[e1],r⟩
  . rw[aRW (by simpa[dC]using hi),aRX]at e
    split at e <;> cases e
 refine⟨R.st,λi m d e=>?_,λi j d d' a _ e1 _ _ _=>?_,by simp[eG,dC]⟩
 . obtain⟨rfl,v,e1,r⟩:=low i m d e;exact⟨v,e1,r,by nofun⟩
 . have:=(low i true d e1).1;cases this
mutual
def aZ:D->Option PyData
 |.non=>some .none
 |.bl b=>some (.bool b)
 |.int i=>some (.int i)
 |.str x=>some (.str x)
 |.tup ds=>(fY ds).map .tuple
 |.lst ds=>(fY ds).map .list
 |_=>none
def fY:List D->Option (List PyData)
 |[]=>some []
 |d::ds=>match aZ d,fY ds with
  |some p,some ps=>some (p::ps)
  |_,_=>none
end
section
variable  {F:Hp}
mutual
theorem nK(I:Inv X aA σ H s)(sF:aD F H):∀(d:D) (p:PyData) (v:V) (u:aV3),aB X.K F d v->aI v u->aZ d=some p->(∃as,Reads s.heap u p as)/\p.canLay0=true
 |.non,p,v,u,h,r,e=>by simp only[aB]at h;subst h;cases r;simp only[aZ]at e;cases e;exact⟨⟨_,.none⟩,rfl⟩
 |.bl b,p,v,u,h,r,e=>by simp only[aB]at h;subst h;cases r;simp only[aZ]at e;cases e;exact⟨⟨_,.bool b⟩,rfl⟩
 |.int i,p,v,u,h,r,e=>by simp only[aB]at h;subst h;obtain⟨t,rfl⟩:=r;simp only[aZ]at e;cases e;exact⟨⟨_,.int i t⟩,rfl⟩
 |.str x,p,v,u,h,r,e=>by simp only[aB]at h;obtain⟨rfl,_,hk⟩:=h;obtain⟨t,rfl⟩:=r;simp only[aZ]at e;cases e;exact⟨⟨_,.str x t⟩,by simpa only [PyData.canLay0]using hk⟩
 |.tup ds,p,v,u,h,r,e=>by
  simp only[aB]at h;obtain⟨a,xs,rfl,q,rl⟩:=h;cases r;simp only[aZ]at e;cases ep:fY ds with
  |none=>rw[ep]at e;cases e
  |some ps=>rw[ep]at e;cases e;obtain⟨its,rv,⟨o,h1,h2,n,h3⟩,_⟩:=I.tuple (aD.seqT sF q);obtain⟨⟨as,ra⟩,hc⟩:=nL I sF ds ps xs its rl rv ep;exact⟨⟨_,.tuple h1 h2 h3 (by simpa using ra)⟩,by simpa only [PyData.canLay0]using hc⟩
 |.lst ds,p,v,u,h,r,e=>by
  simp only[aB]at h;obtain⟨a,xs,rfl,q,rl⟩:=h;cases r;simp only[aZ]at e;cases ep:fY ds with
  |none=>rw[ep]at e;cases e
  |some ps=>rw[ep]at e;cases e;obtain⟨its,rv,⟨o,n,h1,h2,_,h3⟩,_⟩:=I.list (sF.seq q);obtain⟨⟨as,ra⟩,hc⟩:=nL I sF ds ps xs its rl rv ep;exact⟨⟨_,.list h1 h2 h3 (by simpa using ra)⟩,by simpa only [PyData.canLay0]using hc⟩
 |.dct _,p,v,u,h,r,e=>by simp only[aZ]at e;cases e
 |.ty _,p,v,u,h,r,e=>by simp only[aZ]at e;cases e
 |.ob _,p,v,u,h,r,e=>by simp only[aZ]at e;cases e
 |.ins _ _,p,v,u,h,r,e=>by simp only[aZ]at e;cases e
 |.fn _,p,v,u,h,r,e=>by simp only[aZ]at e;cases e
 |.exn _,p,v,u,h,r,e=>by simp only[aZ]at e;cases e
 |.set _,p,v,u,h,r,e=>by simp only[aZ]at e;cases e
 |.dtn _,p,v,u,h,r,e=>by simp only[aZ]at e;cases e
 |.dtf _,p,v,u,h,r,e=>by simp only[aZ]at e;cases e
 |.dcf _,p,v,u,h,r,e=>by simp only[aZ]at e;cases e
 |.clo _ _,p,v,u,h,r,e=>by simp only[aZ]at e;cases e
theorem nL(I:Inv X aA σ H s)(sF:aD F H):∀(ds:List D) (ps:List PyData) (xs:List V) (us:List aV3),aC X.K F ds xs->aM xs us->fY ds=some ps->(∃as,ReadsAll s.heap us ps as)/\PyData.canLayAll0 ps=true
 |[],ps,xs,us,h,r,e=>by simp only[aC]at h;subst h;cases r;simp only[fY]at e;cases e;exact⟨⟨_,.nil⟩,rfl⟩
 |d::ds,ps,xs,us,h,r,e=>by
  simp only[aC]at h;obtain⟨y,ys,rfl,hd,hl⟩:=h;cases r with
  |cons r1 r2 =>
   simp only[fY]at e;cases e1:aZ d with
   |none=>rw[e1]at e;cases e
   |some p =>
    cases e2:fY ds with
    |none=>rw[e1,e2]at e;cases e
    |some ps'=>rw[e1,e2]at e;cases e;obtain⟨⟨as,ra⟩,hc⟩:=nK I sF d p y _ hd r1 e1;obtain⟨⟨bs,rb⟩,hc'⟩:=nL I sF ds ps' ys _ hl r2 e2;exact⟨⟨_,.cons ra rb⟩,by simp only[PyData.canLayAll0,hc,hc',Bool.and_self]⟩
end
def wM(I:Inv X aA σ H s)(sF:aD F H){m:Md}{d:D}{p:PyData}(h:Rp X.K F H m d v)(r:aI v u)(e:aZ d=some p):(∃as,Reads s.heap u p as)/\p.canLay0=true:=by
 cases m with
 |fz=>exact nK I sF d p v u h r e
 |_ =>
  obtain⟨a,rfl,n,t⟩:=h;cases d with
  |lst ds =>
   obtain⟨xs,q,rl⟩:=t;cases r;simp only[aZ]at e;cases ep:fY ds with
   |none=>rw[ep]at e;cases e
   |some ps=>rw[ep]at e;cases e;obtain⟨its,rv,⟨o,n,h1,h2,_,h3⟩,_⟩:=I.list (SqL.of q);obtain⟨⟨as,ra⟩,hc⟩:=nL I sF ds ps xs its rl rv ep;exact⟨⟨_,.list h1 h2 h3 (by simpa using ra)⟩,by simpa only [PyData.canLay0]using hc⟩
  |dct ds=>simp only[aZ]at e;cases e
  |ins _ _=>simp only[aZ]at e;cases e
  |set _=>simp only[aZ]at e;cases e
  |dtn _=>simp only[aZ]at e;cases e
  |dtf _=>simp only[aZ]at e;cases e
  |dcf _=>simp only[aZ]at e;cases e
  |clo _ _=>simp only[aZ]at e;cases e
  |_=>exact t.elim
end
def fZ(p:PyData):Bool:=decide (p.depth<=50)
noncomputable def eqF(neg:Bool):Md->D->Md->D->Option (Md×D):=λ_ x _ y=>match aZ x,aZ y with
 |some p,some q=>if(fZ p&&fZ q)=true then some (.fz,.bl (if neg then !PyData.eqv p q else PyData.eqv p q))else none
 |_,_=>none
theorem wN{f:aV3->aV3->Sem aV3}(hu:X.A.units+64<cLine)(rule:∀(s:aV4) (a b:aV3) (da db:PyData) (as bs:List Addr) (Q:VSP),Reads s.heap a da as->Reads s.heap b db bs->da.canLay0=true->db.canLay0=true->X.A.units+min da.depth db.depth<cLine->Q (.bool (if neg then !PyData.eqv da db else PyData.eqv da db)) s->wpAny (model X.prog X.w) X.A (f a b) Q X.xe s):OpD C X f (eqF neg):=by
 refine⟨λx y H Q=>∃F m n d e p q,aD F H/\Rp X.K F H m d x/\Rp X.K F H n e y/\aZ d=some p/\aZ e=some q/\(fZ p&&fZ q)=true/\Q (.bl (if neg then !PyData.eqv p q else PyData.eqv p q)) H,?_,?_⟩
 . intro aA s σ H x y v u Q I rx ry h;obtain⟨F,m,n,d,e,p,q,sF,hd,he,ep,eq,hs,hQ⟩:=h;obtain⟨⟨as,ra⟩,ca⟩:=wM I sF hd rx ep;obtain⟨⟨bs,rb⟩,cb⟩:=wM I sF he ry eq;rw[aSI]at hs;have h1:=aTD hs.1;refine rule s v u p q as bs _ ra rb ca cb (by have:=aS5 p.depth q.depth;lia) ⟨.bl _,H,I,rfl,hQ⟩
 . intro F H m x n y v u k d Q s rx ry e w;unfold eqF at e;split at e
   . rename_i p q ep eq;split at e
     . rename_i hc;cases e;exact⟨F,m,n,x,y,p,q,s,rx,ry,ep,eq,hc,w _ F H (.refl s) (dQ _) (by nofun)⟩
     . cases e
   . cases e
def aHD(hu:X.A.units+64<cLine):OpD C X (compareOp .Eq) (eqF false):=wN hu λs a b da db as bs Q ra rb ca cb hd q=>SeqAt.compareEq_reads ra rb ca cb hd q
def aHE(hu:X.A.units+64<cLine):OpD C X (compareOp .NotEq) (eqF true):=wN hu λs a b da db as bs Q ra rb ca cb hd q=>SeqAt.compareNe_reads ra rb ca cb hd q
section
variable  {o:Expr}{es:List Expr}{go:Rho->Res}{gs:Rho->aR}{T id:String}{name:Str}
def wO:List D->Option (List Str)
 |[]=>some []
 |.str x::r=>(wO r).map (x :: ·)
 |_=>none
noncomputable def joinD:Md->D->List (Md×D)->Option (Md×D):=λ_ x xs=>match x,xs with
 |.str z,[(_,.lst ds)]=>(match wO ds with
  |some ys=>if(ys.map (·.length)).sum+ys.length * z.length<=sizeLine then some (.fz,.str (Txt.join z ys))else none
  |none=>none)
 |_,_=>none
theorem wP:∀{ys:List Str}{us:List aV3},aM (ys.map V.str) us->StrsAre us ys
 |[],_,h=>by cases h;exact .nil
 |y::ys,_,h=>by
  cases h with
  |cons r t=>obtain⟨tk,rfl⟩:=r;exact .cons y tk (wP t)
end
def spV(K:Fg)(mg:SOV)(n:Nat)(Φ:List D->Res):Sp:=λvs H Q E=>vs.length=n/\∃F ds,aD F H/\aC K F ds vs/\match Φ ds with
 |.ok m d=>m ≠ .bo/\∀v F' H',aH F H F' H'->Rp K F' H' m d v->(m=.fr->∀a,v=.ref a->H a=none)->Q v H'
 |.exc c=>∀F' H' u,aH F H F' H'->mg c=some u->E u none H'
 |.stuck=>False
structure FnV(P:aV7)(w:aV6)(K:Fg)(mg:SOV)(base:Heap)(CX:CXT)(k:Nat)(x:Str)(n:Nat)(Φ:List D->Res):Prop where
 ex:∃f fd ps,bS P w K mg base CX k f fd ps (spV K mg n Φ)/\mg x=some (.ref f)/\W.keepIn K (.ref f)=true/\dA K fd ps []
noncomputable def aY(n:Nat)(Φ:List D->Res)(r:aR):Res:=r.thn λxs=>match cN xs with
 |some ds=>if ds.length=n then(match Φ ds with|.ok .bo _=>.stuck|r=>r)else .stuck
 |none=>.stuck
def XOk(CX:CXT)(C:Cw)(X:Cx):Prop:=∀(aA:LAO) (σ:L2.St) (H:Hp) (s:aV4) (e:aV3) (s':aV4),Inv X aA σ H s->CX X.stack H s (λu _ H'=>∃c,X.mg c=some u/\C.EE c σ H') e s'->X.xe e s'
section
variable {es:List Expr}{gs:Rho->aR}
def wQ{f:Addr}{Q:VK}{vs:List V}{E:XK}(F:bS X.prog X.w X.K X.mg X.base CX k f fd ps (spV X.K X.mg n Φ))(hr:cA k X.A)(hb:dA X.K fd ps [])(hx:∀e s',CX X.stack H s E e s'->X.xe e s')(I:Inv X aA σ H s)(r:aM vs us)(h:spV X.K X.mg n Φ vs H Q E):wpAny (model X.prog X.w) X.A (call (.ref f) us) (EP X aA σ Q) X.xe s:=by
 have hl:(us++[]).length=ps.length:=by rw[aRQ,<- r.length];exact F.len _ _ _ _ h
 have hb':=hb s us I.kIn hl;rw[aRQ]at hb';refine aTW (aSX (F.run X.A X.stack s H ⟨us,[]⟩ us vs Q E hr I.env0 hb' r h) λr s' hq=>?_);cases r with
 |error e=>exact hx e s' hq
 |ok fl =>
  cases fl with
  |ret u=>exact I.after hq
  |next=>exact False.elim hq
  |brk=>exact False.elim hq
  |cont=>exact False.elim hq
def wR(F:FnV X.prog X.w X.K X.mg X.base CX k x n Φ)(hr:cA k X.A)(hx:XOk CX (C.at X) X)(hg:Gl X x)(ha:PAv C X (e::es) gs)(hdb:(x==("__debug__":Str))=false:=by decide)(he:starEach (e::es) X.env=(false,eval e X.env)::starEach es X.env:=by rfl)(hpl:(backTo pos (starEach es X.env)).any (·.1)=false:=by rfl):PV C X (.Call (.Name x p) (e::es) [] pos) (λρ=>aY n Φ (gs ρ)):=by
 obtain⟨f,fd,ps,FF,hm,hk,hb⟩:=F.ex;intro aA s σ H Q I h;rw[aQ]at h;obtain⟨ρ,F,R,w⟩:=h;refine aR4 (mU I hg hm ?_ hdb);refine W.callWith_K (h₀:=X.base) I.ok.mod.kin hk (thn (ha pos aA s σ H (λvs H1=>spV X.K X.mg n Φ vs H1 Q λu _ H'=>∃c,X.mg c=some u/\C.EE c σ H') I ?_) λus s1 ⟨vs,H1,I1,r,q⟩=>⟨I1.kIn,wQ FF hr hb (λe s' hc=>hx aA σ H1 s1 e s' I1 hc) I1 r q⟩) he hpl;refine⟨ρ,F,R,?_⟩;cases er:gs ρ with
 |stuck=>rw[er]at w;exact w
 |exc c=>rw[er]at w;exact w
 |ok xs =>
  rw[er]at w;intro vs F1 H1 s1 r1;have w1:aT (C.at X) F1 H1 σ (aY n Φ (.ok xs)) Q:=aT.step s1 w;unfold aY at w1;rw[aR.thn_ok]at w1;cases ef:cN xs with
  |none=>rw[ef]at w1;exact w1.elim
  |some ds =>
   rw[ef]at w1;dsimp only at w1;split at w1
   . rename_i hn;have rl:=r1.fz ef;refine⟨by rw[rl.length];exact hn,F1,ds,s1.sub,rl,?_⟩
     cases ep:Φ ds with
     |stuck=>rw[ep]at w1;exact w1
     |exc c=>rw[ep]at w1;exact λF' H' u st hu=>⟨c,hu,w1 F' H' st⟩
     |ok m d =>
      rw[ep]at w1;cases m with
      |bo=>exact w1.elim
      |fz=>exact⟨by decide,w1⟩
      |fr=>exact⟨by decide,w1⟩
   . exact w1.elim
end
def endR:aG->Res
 |.nx _=>.ok .fz .non
 |.rt m d=>.ok m d
 |.exc c _=>.exc c
 |_=>.stuck
def f6(n:Nat)(ds:List D):Rho:=ds.map (λd=>some (false,d))++List.replicate (n-ds.length) none
def wS{F:Hp}{N:List Str}{vs:List V}(s:aD F H)(r:aC K F ds vs):aS K F H F H (cD N vs) (f6 N.length ds):=by
 have low:∀(i:Nat) (m:Bool) (d:D),(f6 N.length ds)[i]? = some (some (m,d))->m=false/\∃v,(cD N vs)[i]? = some (some v)/\aB K F d v:=λi m d e=>by
  unfold f6 at e;unfold L2.cD;by_cases hi:i<ds.length
  . rw[aRY (by simpa using hi),aRZ,aTP hi]at e
    cases e;obtain⟨v,ev,rv⟩:=r.get' (aTP hi);exact⟨rfl,v,by rw[aRY (by simpa[r.length]using hi),aRZ,ev];rfl,rv⟩
  . rw[aRW (by simpa using hi),aRX]at e
    split at e <;> cases e
 refine⟨.refl s,λi m d e=>?_,λi j d d' a _ e1 _ _ _=>?_,by simp[L2.cD,f6,r.length]⟩
 . obtain⟨rfl,v,e1,rv⟩:=low i m d e;exact⟨v,e1,rv,by nofun⟩
 . have:=(low i true d e1).1;cases this
def k7(ns:List Int):List D:=[.lst (ns.map .int)]
theorem wT{K:Fg}{F:Hp}:∀ns:List Int,aC K F (ns.map D.int) (ns.map V.int)
 |[]=>aC.nil
 |n::ns=>aC.cons (by simp only[aB]) (wT ns)
def noK:Md->D->Md->D->Option (Md×D):=λ_ _ _ _=>none
abbrev fAdd:Md->D->Md->D->Option (Md×D):=orO (fI (λ_ _=>true) λi j=>.int (i+j)) (fS (λi j=>decide (i.length+j.length<=sizeLine)) λi j=>.str (i++j))
abbrev fSub:Md->D->Md->D->Option (Md×D):=fI (λ_ _=>true) λi j=>.int (i-j)
abbrev fMul:Md->D->Md->D->Option (Md×D):=orO (fI (λi j=>(bits i&&bits j)||(w64 i||w64 j)) λi j=>.int (i * j)) noK
abbrev fMod:Md->D->Md->D->Option (Md×D):=fI (λ_ j=>decide (0<j)) λi j=>.int (i % j)
abbrev fDiv:Md->D->Md->D->Option (Md×D):=fI (λ_ j=>decide (0<j)&&bits j) λi j=>.int (i / j)
abbrev fPow:Md->D->Md->D->Option (Md×D):=fI (λi j=>decide (0<=j)&&decide (j<=1000000)&&decide (i.natAbs<2 ^ 64)) λi j=>.int (i ^ j.toNat)
abbrev fLt:Md->D->Md->D->Option (Md×D):=fI (λ_ _=>true) λi j=>.bl (decide (i<j))
abbrev fLe:Md->D->Md->D->Option (Md×D):=fI (λ_ _=>true) λi j=>.bl (decide (i<=j))
abbrev fGt:Md->D->Md->D->Option (Md×D):=fI (λ_ _=>true) λi j=>.bl (decide (j<i))
abbrev fGe:Md->D->Md->D->Option (Md×D):=fI (λ_ _=>true) λi j=>.bl (decide (j<=i))
abbrev fEq:Md->D->Md->D->Option (Md×D):=orO (eqF false) noK
abbrev fNe:Md->D->Md->D->Option (Md×D):=orO (eqF true) noK
abbrev fIn:Md->D->Md->D->Option (Md×D):=fS (λ_ _=>true) λi j=>.bl (jH i j)
abbrev aHF:Md->D->Md->D->Option (Md×D):=fS (λ_ _=>true) λi j=>.bl (!jH i j)
def IsB(φ:Md->D->Md->D->Option (Md×D)):Prop:=∀m x n y k d,φ m x n y=some (k,d)->∃t,k=.fz/\d=.bl t
def nM{c:Int->Int->Bool}{g:Int->Int->Bool}:IsB (fI c λi j=>.bl (g i j)):=λm x n y k d e=>by
 unfold fI at e;split at e
 . split at e
   . cases e;exact⟨_,rfl,rfl⟩
   . cases e
 . cases e
def wU{c:Str->Str->Bool}{g:Str->Str->Bool}:IsB (fS c λi j=>.bl (g i j)):=λm x n y k d e=>by
 unfold fS at e;split at e
 . split at e
   . cases e;exact⟨_,rfl,rfl⟩
   . cases e
 . cases e
def k8{φ ψ}(h:IsB φ)(h':IsB ψ):IsB (orO φ ψ):=λm x n y k d e=>by
 unfold orO at e;cases e1:φ m x n y with
 |none=>rw[e1]at e;exact h' _ _ _ _ _ _ e
 |some p=>rw[e1]at e;cases e;exact h _ _ _ _ _ _ e1
def wV:IsB (eqF neg):=λm x n y k d e=>by
 unfold eqF at e;split at e
 . split at e
   . cases e;exact⟨_,rfl,rfl⟩
   . cases e
 . cases e
def iK{f:aV3->aV3->Sem aV3}:OpD C X f noK:=⟨λ_ _ _ _=>False,λ_ _ _ _ _ _ _ _ _ _ _ _ h=>h.elim,λ_ _ _ _ _ _ _ _ _ _ _ _ _ _ e _=>by cases e⟩
def o_add:OpD C X (binaryOp .Add) fAdd:=aFQ.or aF3
def o_mul:OpD C X (binaryOp .Mult) fMul:=aFT.or iK
def o_eq(hu:X.A.units+64<cLine):OpD C X (compareOp .Eq) fEq:=(aHD hu).or iK
def o_ne(hu:X.A.units+64<cLine):OpD C X (compareOp .NotEq) fNe:=(aHE hu).or iK
def phi(n N:Nat)(g:Rho->aG):List D->Res:=λds=>if ds.length=n then endR (g (f6 N ds))else .stuck
def k9(scope sc:Scope):List (Str×NameKind):=scope.names.map λ(n,k)=>if(k == .free&&sc.kind == .function&&sc.names.lookup n==some .cell)then(n,.cell)else(n,k)
def aHG:bootBuiltins "len" = some (.builtin "len"):=by decide +kernel
def aHH:bootBuiltins "isinstance" = some (.builtin "isinstance"):=by decide +kernel
def aHI:bootBuiltins "int" = some (.type "int"):=by decide +kernel
def aHJ:bootBuiltins "bool" = some (.type "bool"):=by decide +kernel
def aHK:bootBuiltins "str" = some (.type "str"):=by decide +kernel
def aHL:bootBuiltins "tuple" = some (.type "tuple"):=by decide +kernel
def aHM:bootBuiltins "list" = some (.type "list"):=by decide +kernel
def aHN:bootBuiltins "dict" = some (.type "dict"):=by decide +kernel
structure CI where
 name:Str
 ups:List Str
 flds:List Str
 meths:List (Str×Str×Nat)
def bX:Expr->Bool|.Starred ..=>false|_=>true
end D3
variable {cl:List D3.CI}
namespace D3
def jN:Expr->Bool|.Call (.Name x _) [] [] _=>x != "super" |_=>true
def bU{x:Expr}{es:List Expr}(h:bX x=true):starEach (x::es) env=(false,eval x env)::starEach es env:=by cases x <;> first|rfl|cases h
theorem iL(pos:Pos)(env:Env):∀{es:List Expr},(∀x∈es,bX x=true)->(backTo pos (starEach es env)).any (·.1)=false
 |[],_=>rfl
 |x::es,h=>by rw[bU (h x mcs)];show((false||(backTo pos (starEach es env)).any (·.1))=false);rw[iL pos env λy hy=>h y (mcm hy)];rfl
theorem lA(pos:Pos)(env:Env):∀{es:List Expr},(∀x∈es,bX x=true)->(backTo pos (starEach es env)).all (λx=>!x.1)=true
 |[],_=>rfl
 |x::es,h=>by rw[bU (h x mcs)];show((true&&(backTo pos (starEach es env)).all (λx=>!x.1))=true);rw[lA pos env λy hy=>h y (mcm hy)];rfl
def nN{o:Expr}{n:Str}{w:Sem aV3}(h:jN o=true):attributeBase o n env w=w:=by
 cases o with
 |Call f as ks pos =>
  cases f with
  |Name x p =>
   cases as with
   |nil =>
    cases ks with
    |nil=>show(if x != "super" || n == "__class__" || env.kindOf "super" != some .globalImplicit||env.kindOf "__class__" != some .free then w else _)=w;have:(x != ("super":Str))=true:=h;rw[if_pos (by rw[this];rfl)]
    |cons _ _=>rfl
   |cons _ _=>rfl
  |_=>rfl
 |_=>rfl
theorem aHO {o : Expr} {m : Str} {apos pos : Pos} {args : List Expr} {env : Env} (hb : jN o = true) (hst : ∀ x ∈ args, bX x = true) (hn : args.length < 30) (hl : apos.endLine = pos.line) :
    eval (.Call (.Attribute o m apos) args [] pos) env=(do
     let ov <- eval o env
     standAt apos.atName
     let(f,first) <- holding [ov] (getMethod ov m (do return (<- importBound o env).getD true))
     callWith pos f first (backTo pos (starEach args env)) (backToKw pos (keywordEach [] env))):=by
 have few:methodCallForm (args.length+([]:List Keyword).length) (backTo pos (starEach args env)) (backToKw pos (keywordEach [] env))=true:=by unfold methodCallForm;rw[lA pos env hst];show(true&&true&&decide (args.length+0+0<30))=true;rw[aSP (by lia)];rfl
 show(do
  let ov <- attributeBase o m env (eval o env)
  standAt apos.atName
  methodCall o m apos pos env ov (args.length+([]:List Keyword).length) (backTo pos (starEach args env)) (backToKw pos (keywordEach [] env)))=_
 rw[nN hb];unfold methodCall;rw[few];have hp:methodCallPos true o env apos pos=pure pos:=by unfold methodCallPos;rw[if_pos (by rw[hl];simp)]
 rw[hp];show(do
  let ov <- eval o env
  standAt apos.atName
  let(f,first) <- holding [ov] (getMethod ov m (do return (<- importBound o env).getD true))
  let callPos <- pure pos
  callWith callPos f first (backTo pos (starEach args env)) (backToKw pos (keywordEach [] env)))=_
 simp only[aTS]
structure MtV(P:aV7)(w:aV6)(K:Fg)(mg:SOV)(base:Heap)(CX:CXT)(k:Nat)(c m:Str)(n:Nat)(Φ:List D->Res):Prop where
 ex:∃C f fd ps,W.nsIn K mainGlobals c=some (some (.ref C))/\Cls K C/\kN K C m f/\bS P w K mg base CX k f fd ps (spV K mg n Φ)/\dA K fd ps []
structure FlV(K:Fg)(c f:Str):Prop where
 ex:∃C,W.nsIn K mainGlobals c=some (some (.ref C))/\Cls K C/\pJ K C f
def CI.meth(cl:List CI)(c m:Str):Option (Str×Nat):=match cl.find? (λi=>i.name==c)with
 |some i=>i.meths.lookup m
 |none=>none
def dD(cl:List CI)(Φ:Str->List D->Res)(m:Str)(o:Res)(as:aR):Res:=o.thn λmd d=>match md,d with
 |.fz,.ins c fs=>(match CI.meth cl c m with
  |some (key,n)=>if fs.lookup m=none then aY n (Φ key) (bP (.ok .fz (.ins c fs)) as)else .stuck
  |none=>.stuck)
 |_,_=>.stuck
section
variable  {o:Expr}{es:List Expr}{go:Rho->Res}{gs:Rho->aR}{m f:Str}{Φ:Str->List D->Res}
def aHP(hM:∀c m key n,CI.meth cl c m=some (key,n)->MtV X.prog X.w X.K X.mg X.base CX k c m n (Φ key))(hr:cA k X.A)(hx:XOk CX (C.at X) X)(ho:PV C X o go)(ha:PAv C X es gs)(hb:jN o=true)(hst:∀x∈es,bX x=true)(hn:es.length<30)(hl:apos.endLine=pos.line)(hes:es=[]->gs=λ_=>.ok []):PV C X (.Call (.Attribute o m apos) es [] pos) (λρ=>dD cl Φ m (go ρ) (gs ρ)):=by
 intro aA s σ H Q I q;rw[aQ]at q;obtain⟨ρ,F,R,w⟩:=q;refine aEG (pl:=(do return (<- importBound o X.env).getD true)) ho I ?_ (aHO hb hst hn hl)
 show tG (C.at X) go σ H _;rw[aQ];refine⟨ρ,F,R,?_⟩;cases er:go ρ with
 |stuck=>rw[er]at w;exact w
 |exc c=>rw[er]at w;exact w
 |ok md d =>
  rw[er]at w;intro v F1 H1 s1 r1 _;have w1:aT (C.at X) F1 H1 σ (dD cl Φ m (.ok md d) (gs ρ)) Q:=aT.step s1 w;unfold dD at w1;rw[Res.thn_ok]at w1;cases md with
  |fr=>exact w1.elim
  |bo=>exact w1.elim
  |fz =>
  cases d with
  |ins c fs =>
   dsimp only at w1;cases em:CI.meth cl c m with
   |none=>rw[em]at w1;exact w1.elim
   |some kn =>
    obtain⟨key,n⟩:=kn;rw[em]at w1;dsimp only at w1;split at w1
    . rename_i hnl;obtain⟨C',f',fd,ps,n1,cl',me,FO,hbd⟩:=(hM c m key n em).ex;have r1':=r1;obtain⟨a,C2,dx,gs',ev,n2,ea,rf⟩:=r1.ins s1.sub;rw[n1]at n2;cases n2;subst ev;refine⟨a,C',dx,gs',f',rfl,ea,cl',me,rf.lookN hnl,λs1' I1=>?_⟩;have fin:∀(vs:List V) (us:List aV3) (s2:aV4) (F2 H2:Hp) (xs:List (Md×D)),aH F1 H1 F2 H2->RpL X.K F2 H2 xs vs->Inv X aA σ H2 s2->aM vs us->gs ρ=.ok xs->wpAny (model X.prog X.w) X.A (call (.ref f') (.ref a::us)) (EP X aA σ Q) X.xe s2:=by
        intro vs us s2 F2 H2 xs s2' rl I2 rv eg;rw[eg]at w1;have w2:aT (C.at X) F2 H2 σ (aY n (Φ key) (bP (.ok .fz (.ins c fs)) (.ok xs))) Q:=aT.step s2' w1;rw[aGI]at w2;unfold aY at w2;rw[aR.thn_ok]at w2;have rl2:RpL X.K F2 H2 ((.fz,.ins c fs)::xs) (.ref a::vs):=⟨_,_,rfl,r1'.step s2',rl⟩;cases ef:cN ((.fz,.ins c fs)::xs)with
        |none=>rw[ef]at w2;exact w2.elim
        |some ds =>
         rw[ef]at w2;dsimp only at w2;split at w2
         . rename_i hnn;have rl3:=rl2.fz ef;refine wQ (E:=λu _ H'=>∃c,X.mg c=some u/\C.EE c σ H') (vs:=.ref a::vs) (us:=.ref a::us) FO hr hbd (λe s' hc=>hx aA σ H2 s2 e s' I2 hc) I2 (.cons rfl rv) ⟨by rw[rl3.length];exact hnn,F2,ds,s2'.sub,rl3,?_⟩
           cases ep:Φ key ds with
           |stuck=>rw[ep]at w2;exact w2
           |exc c=>rw[ep]at w2;exact λF' H' u st hu=>⟨c,hu,w2 F' H' st⟩
           |ok m d =>
            rw[ep]at w2;cases m with
            |bo=>exact w2.elim
            |fz=>exact⟨by decide,w2⟩
            |fr=>exact⟨by decide,w2⟩
         . exact w2.elim
      cases es with
      |nil =>
       refine W.callWith_K0 (first:=[.ref a]) I1.kIn me.kp ?_
       have eg:gs ρ=.ok []:=by rw[hes rfl]
       exact fin [] [] s1' F1 H1 [] (.refl s1.sub) rfl I1 .nil eg
      |cons e es =>
       refine W.callWith_K (first:=[.ref a]) (h₀:=X.base) I.ok.mod.kin me.kp (thn (ha pos aA s1' σ H1 (λvs H2=>∃F2 xs,aH F1 H1 F2 H2/\RpL X.K F2 H2 xs vs/\gs ρ=.ok xs) I1 ?_) λus s2 ⟨vs,H2,I2,r,F2,xs,st2,rl,eg⟩=>⟨I2.kIn,?_⟩) (bU (hst e mcs)) (iL _ _ λy hy=>hst y (mcm hy))
       . refine⟨ρ,F1,R.step s1,?_⟩;cases eg:gs ρ with
         |stuck=>rw[eg]at w1;exact w1
         |exc c=>rw[eg]at w1;exact w1
         |ok xs=>exact λvs F2 H2 s2 rl=>⟨F2,xs,s2,rl,rfl⟩
       . exact fin vs us s2 F2 H2 xs st2 rl I2 r eg
    . exact w1.elim
  |_=>exact w1.elim
end
def aS.mut{F:Hp}{d d':D}{a:Addr}{o:HO}(R:aS K F0 H0 F H σ ρ)(e:ρ[i]? = some (some (true,d)))(ev:σ[i]? = some (some (.ref a)))(t:Top K F (upd H a o) a d'):aS K F0 H0 F (upd H a o) σ (ρ.set i (some (true,d'))):=by
 obtain⟨v,ev',rp,hn⟩:=R.slot i true d e;rw[ev]at ev';cases ev';have h0:H0 a=none:=hn rfl a rfl;obtain⟨a',ea,hf,tt⟩:=rp;cases ea;have hl:i<ρ.length:=(aQX.mp e).1;have st:aH F0 H0 F (upd H a o):=⟨λb u q=>by rw[aJ (bN q h0)];exact R.st.same b u q,R.st.fsame,λb u q=>by rw[aJ (bN q hf)];exact R.st.sub b u q,R.st.new⟩
 refine⟨st,λj m d2 e2=>?_,λj l d1 d2 b hjl e1 e2 q1 q2=>?_,by rw[aTL];exact R.len⟩
 . by_cases hj:j=i
   . subst hj;rw[aQY hl]at e2;cases e2;exact⟨.ref a,ev,⟨a,rfl,hf,t⟩,λ_ b eb=>by cases eb;exact h0⟩
   . rw[aQZ (λz=>hj z.symm)]at e2;obtain⟨u,eu,ru,hu⟩:=R.slot j m d2 e2;refine⟨u,eu,?_,hu⟩;cases m with
     |false=>exact ru
     |true =>
      obtain⟨b,eb,hb,tb⟩:=ru;subst eb;have hba:b≠a:=λz=>by subst z;exact R.apart j i d2 d b hj e2 e eu ev
      refine⟨b,rfl,hb,?_⟩;cases d2 with
      |lst ds=>obtain⟨xs,q,r⟩:=tb;exact⟨xs,by rw[aJ hba];exact q,r⟩
      |dct ds=>obtain⟨xs,q,r⟩:=tb;exact⟨xs,by rw[aJ hba];exact q,r⟩
      |ins c fs=>obtain⟨C,dx,gs,n,q,r⟩:=tb;exact⟨C,dx,gs,n,by rw[aJ hba];exact q,r⟩
      |set ks=>obtain⟨S,q,r⟩:=tb;exact⟨S,by rw[aJ hba];exact q,r⟩
      |dtn ds=>obtain⟨xs,q,r⟩:=tb;exact⟨xs,by rw[aJ hba];exact q,r⟩
      |_=>exact tb.elim
 . have back:∀(l:Nat) (d2:D),(ρ.set i (some (true,d')))[l]? = some (some (true,d2))->∃d3,ρ[l]? = some (some (true,d3)):=λl d2 q=>by
     by_cases hl':l=i
     . subst hl';exact⟨d,e⟩
     . rw[aQZ (λz=>hl' z.symm)]at q;exact⟨d2,q⟩
   obtain⟨d3,q3⟩:=back j d1 e1;obtain⟨d4,q4⟩:=back l d2 e2;exact R.apart j l d3 d4 b hjl q3 q4 q1 q2
def putFD(f:Str)(v:D):List (Str×D)->List (Str×D)
 |[]=>[(f,v)]
 |(g,u)::r=>if g=f then(g,v)::r else(g,u)::putFD f v r
structure qA(K:Fg)(mg:SOV)(c:Str):Prop where
 ex:∃C,W.nsIn K mainGlobals c=some (some (.ref C))/\mg c=some (.ref C)/\W.makesIn K C=true/\W.findIn K (.ref C) "__init__" = some (some (.builtin "object.__init__"))/\W.keepIn K (.ref C)=true
def aHQ{C:Addr}(hm:X.mg x=some (.ref C))(h1:W.makesIn X.K C=true)(h2:W.findIn X.K (.ref C) "__init__" = some (some (.builtin "object.__init__")))(h3:W.keepIn X.K (.ref C)=true)(hg:Gl X x)(hdb:(x==("__debug__":Str))=false):PE X (.Call (.Name x p) [] [] pos) (λσ H Q=>∀a dx,H a=none->H dx=none->dx≠a->Q (.ref a) (upd (upd H dx (.own a)) a (.ins C dx []))):=by
 intro aA s σ H Q I h;refine aR4 (mU I hg hm ?_ hdb);refine W.callWith_K0 I.kIn h3 (aTW (aED I.kIn h1 h2 (λself=>W.Looks.of_pure (W.oi_bind self)) ?_));have I2:=Inv.made (C:=C) I;have Y:=W.makes_of (M:=model X.prog X.w) I.kIn h1;have hh:((s.heap.push W.emptyDict).push (W.instObj C s.heap.objs.size)).get? (s.heap.objs.size+1)=some (W.instObj C s.heap.objs.size):=by
  have:=aQK (s.heap.push W.emptyDict) (o:=W.instObj C s.heap.objs.size) rfl
  rwa [aRL]at this
 have t1:W.Looks (model X.prog X.w) ((s.heap.push W.emptyDict).push (W.instObj C s.heap.objs.size)) (typeOf (.ref (s.heap.objs.size+1))) (.ref C):=(W.Looks.ld hh).andThen .now;have t2:W.Looks (model X.prog X.w) ((s.heap.push W.emptyDict).push (W.instObj C s.heap.objs.size)) (isInstance (.ref (s.heap.objs.size+1)) (.type "object")) true:=t1.andThen (Y.top.keeps λb o e=>hps (hps e));refine codeAny_call_builtin W.oi_plain W.entry_oi (@W.check_slot (model X.prog X.w) _ _ _ "object.__init__" "object" "__init__" (.ref (s.heap.objs.size+1)) [] [] _ W.oi_kind W.oi_split t2 (W.oi_args (.ref (s.heap.objs.size+1))) ?_);rw[W.oi_run];refine aQ9 (And.intro rfl ⟨.ref (s.heap.objs.size+1),_,I2,rfl,?_⟩);exact h (s.heap.objs.size+1) s.heap.objs.size (I.hok.fresh (aTX _)) (I.hok.fresh (aRD _)) (aQO (aRM _))
def aHR{F:Hp}{a C:Addr}(s:aD F H)(ha:H a=none)(hd:H dx=none)(hne:dx≠a):aH F H F (upd (upd H dx (.own a)) a (.ins C dx [])):=by have s1:=aH.fresh (.own a) s hd;refine s1.trans (aH.fresh _ s1.sub ?_);rw[aJ (λz=>hne z.symm)];exact ha
def aHS{c:Str}(M:qA X.K X.mg c)(hg:Gl X c)(hdb:(c==("__debug__":Str))=false):PV C X (.Call (.Name c p) [] [] pos) (λ_=>.ok .fr (.ins c [])):=by
 obtain⟨C',n,hm,h1,h2,h3⟩:=M.ex;refine PE.imp (aHQ hm h1 h2 h3 hg hdb) λσ H Q q=>?_;rw[aQ]at q;obtain⟨ρ,F,R,w⟩:=q;intro a dx ha hd hne;refine w (.ref a) F _ (aHR R.sub ha hd hne) ⟨a,rfl,R.sub.free ha,C',dx,[],n,aV,?_⟩ λ_ b eb=>by cases eb;exact ha
 simp only[bV]
def spI(K:Fg)(mg:SOV)(c:Str)(n:Nat)(Φ:List D->Res):Sp:=λvs H Q E=>∃x us dx C H1 F ds,vs=.ref x::us/\us.length=n/\W.nsIn K mainGlobals c=some (some (.ref C)) /\
 H=upd (upd H1 dx (.own x)) x (.ins C dx [])/\H1 x=none/\H1 dx=none/\dx≠x/\aD F H1/\aC K F ds us/\match Φ ds with
 |.ok _ d=>∀F' H',aH F H1 F' H'->Rp K F' H' .fr d (.ref x)->Q .non H'
 |.exc c=>∀F' H' u,aH F H1 F' H'->mg c=some u->E u none H'
 |.stuck=>False
structure InV(P:aV7)(w:aV6)(K:Fg)(mg:SOV)(base:Heap)(CX:CXT)(k:Nat)(c:Str)(n:Nat)(Φ:List D->Res):Prop where
 ex:∃C f fd ps,W.nsIn K mainGlobals c=some (some (.ref C))/\mg c=some (.ref C)/\Mk K C f/\bS P w K mg base CX k f fd ps (spI K mg c n Φ)/\dA K fd ps []
structure IsV(K:Fg)(mg:SOV)(cl:List CI)(c:Str):Prop where
 ex:∃C,mg c=some (.ref C)/\(∀t∈["NoneType", "bool", "int", "str", "tuple", "list", "dict"],W.kitOne K (.type t) (.ref C)=some false) /\
  ∀i∈cl,∃C',W.nsIn K mainGlobals i.name=some (some (.ref C'))/\Cls K C'/\W.findIn K (.ref C') "__class__" = some (some (.builtin "object.__class__")) /\
   W.specialIn K (.builtin "object.__class__") "__get__" = some (some (.builtin "getset_descriptor.__get__"))/\W.takesIn K (.builtin "object.__class__")=some true/\W.mroIn K C' (.type "object")=some true /\
   W.kitOne K (.ref C') (.ref C)=some (i.ups.contains c)
section
variable  {a b:Expr}{gc:Rho->Res}{gs:Rho->aR}
def cJ:D->Bool|.non=>true|_=>false
def wW{F:Hp}{m:Md}{d:D}(s:aD F H)(r:Rp K F H m d v):decide (v=.non)=cJ d:=by
 cases d with
 |non=>cases r.non;rfl
 |bl _=>cases r.bl;rfl
 |int _=>cases r.int;rfl
 |str _=>cases r.str.1;rfl
 |tup _=>obtain⟨_,_,rfl,_⟩:=r.seqT s;rfl
 |lst _=>obtain⟨_,_,rfl,_⟩:=r.seqL s;rfl
 |dct _=>obtain⟨_,_,rfl,_⟩:=r.dict s;rfl
 |ty _=>cases r.ty;rfl
 |ob _=>cases r.ob;rfl
 |ins _ _=>obtain⟨_,_,_,_,rfl,_⟩:=r.ins s;rfl
 |fn _ =>
  cases m with
  |fz=>have r:aB K F _ v:=r;simp only[aB]at r;obtain⟨_,rfl,_⟩:=r;rfl
  |fr=>obtain⟨_,_,_,q⟩:=r;exact q.elim
  |bo=>obtain⟨_,_,_,q⟩:=r;exact q.elim
 |exn _ =>
  cases m with
  |fz=>have r:aB K F _ v:=r;simp only[aB]at r;obtain⟨_,_,rfl,_⟩:=r;rfl
  |fr=>obtain⟨_,_,_,q⟩:=r;exact q.elim
  |bo=>obtain⟨_,_,_,q⟩:=r;exact q.elim
 |set _ =>
  cases m with
  |fz=>have r:aB K F _ v:=r;simp only[aB]at r;obtain⟨_,_,rfl,_⟩:=r;rfl
  |fr=>obtain⟨_,rfl,_,_⟩:=r;rfl
  |bo=>obtain⟨_,rfl,_,_⟩:=r;rfl
 |dtn _ =>
  cases m with
  |fz=>have r:aB K F _ v:=r;simp only[aB]at r;obtain⟨_,_,rfl,_⟩:=r;rfl
  |fr=>obtain⟨_,rfl,_,_⟩:=r;rfl
  |bo=>obtain⟨_,rfl,_,_⟩:=r;rfl
 |dtf _ =>
  cases m with
  |fz=>have r:aB K F _ v:=r;simp only[aB]at r;obtain⟨_,_,_,rfl,_⟩:=r;rfl
  |fr=>obtain⟨_,rfl,_,_⟩:=r;rfl
  |bo=>obtain⟨_,rfl,_,_⟩:=r;rfl
 |dcf _ =>
  cases m with
  |fz=>have r:aB K F _ v:=r;simp only[aB]at r;obtain⟨_,_,_,rfl,_⟩:=r;rfl
  |fr=>obtain⟨_,rfl,_,_⟩:=r;rfl
  |bo=>obtain⟨_,rfl,_,_⟩:=r;rfl
 |clo _ _ =>
  cases m with
  |fz=>have r:aB K F _ v:=r;simp only[aB]at r;obtain⟨_,_,_,_,_,_,_,_,_,_,rfl,_⟩:=r;rfl
  |fr=>obtain⟨_,rfl,_,_⟩:=r;rfl
  |bo=>obtain⟨_,rfl,_,_⟩:=r;rfl
noncomputable def fIs(neg:Bool):Md->D->Md->D->Option (Md×D):=λ_ x _ y=>match y with
 |.non=>some (.fz,.bl (if neg then !cJ x else cJ x))
 |_=>none
def aHT:OpD C X (compareOp .Is) (fIs false):=by
 refine⟨_,aDY,λF H m x n y v u k d Q s rx ry e w=>?_⟩;unfold fIs at e;split at e
 . cases e;cases ry.non;exact⟨rfl,by rw[wW s rx];exact w _ F H (.refl s) (dQ _) (by nofun)⟩
 . cases e
def aHU:OpD C X (compareOp .IsNot) (fIs true):=by
 refine⟨_,aDZ,λF H m x n y v u k d Q s rx ry e w=>?_⟩;unfold fIs at e;split at e
 . cases e;cases ry.non;exact⟨rfl,by rw[wW s rx];exact w _ F H (.refl s) (dQ _) (by nofun)⟩
 . cases e
def wX:IsB (fIs neg):=λm x n y k d e=>by
 unfold fIs at e;split at e
 . cases e;exact⟨_,rfl,rfl⟩
 . cases e
theorem aHV:OpR X (binaryOp .Add) (λx y H Q=>∃l b xs ys,x=.ref l/\y=.ref b/\SqL X.K H l xs/\SqL X.K H b ys/\xs.length+ys.length<=sizeLine/\∀p,H p=none->Q (.ref p) (upd H p (.lst (xs++ys)))):=by
 intro aA s σ H x y v u Q I rx ry h;obtain⟨l,b,xs,ys,rfl,rfl,hl,hb,hz,q⟩:=h;cases rx;cases ry;obtain⟨its,r1,p1,_⟩:=I.list hl;obtain⟨its2,r2,p2,_⟩:=I.list hb;obtain⟨⟨cls,dd,data,sl⟩,n,ho,hc,hd1,hd⟩:=p1;obtain⟨⟨cls2,dd2,data2,sl2⟩,n2,ho2,hc2,hd2',hd2⟩:=p2;simp only at hc hd hc2 hd2;subst hc hd hc2 hd2;have e:its.toArray++its2.toArray=(its++its2).toArray:=by simp
 have l1:=r1.length;have l2:=r2.length;refine aR5 ⟨_,ho,rfl⟩ ⟨_,ho2,rfl⟩ noFill_list_add seq_list_add PySem.F.slot_list_add PySem.F.entry_list_add (PySem.F.args_list_add_2 _ _) (list_addW l b its.toArray its2.toArray n n2 dd dd2 sl sl2 (by simp;lia)) ⟨ho,ho2,?_⟩
 rw[e];refine⟨.ref s.heap.objs.size,_,I.laid (t':=s.toks) (o:=.lst (xs++ys)) (λb ob q=>hps q) (aRD _) ?_,rfl,q _ (I.hok.fresh (aRD _))⟩;exact⟨by rw[aR1];exact hz,_,0,r1.append r2,aQK _ rfl⟩
theorem aHW:OpR X (binaryOp .Add) (λx y H Q=>∃l b xs ys,x=.ref l/\y=.ref b/\SqT X.K H l xs/\SqT X.K H b ys/\xs.length+ys.length<=sizeLine/\(xs=[]->Q (.ref b) H)/\(xs≠[]->ys=[]->Q (.ref l) H)/\(xs≠[]->ys≠[]->∀p,H p=none->Q (.ref p) (upd H p (.tup (xs++ys))))):=by
 intro aA s σ H x y v u Q I rx ry h;obtain⟨l,b,xs,ys,rfl,rfl,hl,hb,hz,q0,q1,q2⟩:=h;cases rx;cases ry;obtain⟨its,r1,p1,_⟩:=I.tuple hl;obtain⟨its2,r2,p2,_⟩:=I.tuple hb;have n1:=r1.nil_iff;have n2:=r2.nil_iff;have l1:=r1.length;have l2:=r2.length;by_cases hv:its=[]
 . obtain⟨⟨cls,dd,data,sl⟩,ho,hc,n,hd⟩:=id p1;obtain⟨⟨cls2,dd2,data2,sl2⟩,ho2,hc2,n2',hd2⟩:=id p2;simp only at hc hd hc2 hd2;subst hc hd hc2 hd2;exact aR5 ⟨_,ho,rfl⟩ ⟨_,ho2,rfl⟩ aR6 seq_tuple_add aR7 aR8 (aR9 _ _)
     (tuple_addW0 l b its.toArray its2.toArray n n2' dd dd2 sl sl2 (by simp[hv])) ⟨ho,ho2,⟨.ref b,H,I,rfl,q0 (n1.mp hv)⟩⟩
 . refine HT.aEJ p1 p2 hv (λz=>⟨.ref l,H,I,rfl,q1 (λw=>hv (n1.mpr w)) (n2.mp z)⟩) (λz=>?_) (by lia)
   refine⟨.ref s.heap.objs.size,_,I.laid (t':=s.toks) (o:=.tup (xs++ys)) (λb ob q=>hps q) (aRD _) ?_,rfl,q2 (λw=>hv (n1.mpr w)) (λw=>z (n2.mpr w)) _ (I.hok.fresh (aRD _))⟩;exact⟨by rw[aR1];exact hz,_,r1.append r2,gD.new _ _⟩
noncomputable def nO:Md->D->Md->D->Option (Md×D):=λm x n y=>match x,y with
 |.lst xs,.lst ys=>if xs.length+ys.length<=sizeLine then some (.fr,.lst (xs++ys))else none
 |.tup xs,.tup ys=>if xs.length+ys.length<=sizeLine then some (.fz,.tup (xs++ys))else none
 |_,_=>none
def aC.nilIff{F:Hp}(h:aC K F ds xs):xs=[]↔ds=[]:=by
 have:=h.length;constructor
 . intro e;subst e;cases ds with|nil=>rfl|cons _ _=>simp at this
 . intro e;subst e;cases xs with|nil=>rfl|cons _ _=>simp at this
def aHX:OpD C X (binaryOp .Add) nO:=by
 refine⟨_,aHV.or aHW,λF H m x n y v u k d Q s rx ry e w=>?_⟩;unfold nO at e;split at e
 . rename_i xs ys;split at e
   . rename_i hz;cases e;obtain⟨a,us,rfl,q1,r1⟩:=rx.seqL s;obtain⟨b,vs,rfl,q2,r2⟩:=ry.seqL s;refine .inl ⟨a,b,us,vs,rfl,rfl,q1,q2,by rw[r1.length,r2.length];exact hz,λp hp=>?_⟩
     exact w (.ref p) F _ (aH.fresh _ s hp) ⟨p,rfl,s.free hp,_,aV,r1.append r2⟩ λ_ a ea=>by cases ea;exact hp
   . cases e
 . rename_i xs ys;split at e
   . rename_i hz;cases e;have ex:=rx;have ey:=ry;obtain⟨a,us,rfl,q1,r1⟩:=rx.seqT s;obtain⟨b,vs,rfl,q2,r2⟩:=ry.seqT s;have fz:∀{m:Md}{zs:List D}{c:Addr},Rp X.K F H m (.tup zs) (.ref c)->aB X.K F (.tup zs) (.ref c):=λ{m zs c} h=>by
       cases m with
       |fz=>exact h
       |fr=>obtain⟨_,_,_,q⟩:=h;exact q.elim
       |bo=>obtain⟨_,_,_,q⟩:=h;exact q.elim
     refine .inr ⟨a,b,us,vs,rfl,rfl,q1,q2,by rw[r1.length,r2.length];exact hz,λz=>?_,λ_ z=>?_,λ_ _ p hp=>?_⟩
     . have:xs=[]:=r1.nilIff.mp z;subst this;exact w (.ref b) F H (.refl s) (fz ey) (by nofun)
     . have:ys=[]:=r2.nilIff.mp z;subst this;rw[aRQ]at w;exact w (.ref a) F H (.refl s) (fz ex) (by nofun)
     . exact w (.ref p) _ _ (aH.laid (.tup (us++vs)) s hp) (aB.tup_of (s.free hp) (r1.append r2)) (by nofun)
   . cases e
 . cases e
def fH:List (Md×D)->Option (Md×D)
 |[(_,.lst ds)]=>some (.fz,.tup ds)
 |[(.fz,.tup ds)]=>some (.fz,.tup ds)
 |_=>none
def jO:List (Md×D)->Option (Md×D)
 |[(_,.lst ds)]=>some (.fr,.lst ds)
 |[(_,.tup ds)]=>some (.fr,.lst ds)
 |_=>none
def qB:List (Md×D)->Option (Md×D)
 |[(_,.int i)]=>some (.fz,.int i)
 |[(_,.bl b)]=>some (.fz,.int (if b then 1 else 0))
 |_=>none
def small(i:Int):Bool:=decide (i.natAbs.log2<1920)
noncomputable def qC(i:Int):Str:=Str.ofString (toString i)
def lB:List (Md×D)->Option (Md×D)
 |[(_,.int i)]=>if small i=true then some (.fz,.str (qC i))else none
 |_=>none
def aHY:dR X (.type "tuple") fH:=by
 refine⟨_,aE3,λF H xs vs k d Q s rx e w=>?_⟩;unfold fH at e;split at e
 . rename_i m ds;cases e;obtain⟨v,rfl,r⟩:=rx.one;obtain⟨a,xs,rfl,q,rl⟩:=r.seqL s;exact⟨a,xs,rfl,.inl ⟨q,λl hl=>w (.ref l) _ _ (aH.laid (.tup xs) s hl) (aB.tup_of (s.free hl) rl) (by nofun)⟩⟩
 . rename_i ds;cases e;obtain⟨v,rfl,r⟩:=rx.one;have r0:=r;obtain⟨a,xs,rfl,q,rl⟩:=r.seqT s;exact⟨a,xs,rfl,.inr ⟨q,w (.ref a) F H (.refl s) r0 (by nofun)⟩⟩
 . cases e
def aHZ:dR X (.type "list") jO:=by
 refine⟨_,aE2,λF H xs vs k d Q s rx e w=>?_⟩;unfold jO at e;split at e
 . rename_i m ds;cases e;obtain⟨v,rfl,r⟩:=rx.one;obtain⟨a,xs,rfl,q,rl⟩:=r.seqL s;exact⟨a,xs,rfl,.inl q,λl hl=>w (.ref l) F _ (aH.fresh _ s hl) ⟨l,rfl,s.free hl,xs,aV,rl⟩ λ_ a ea=>by cases ea;exact hl⟩
 . rename_i m ds;cases e;obtain⟨v,rfl,r⟩:=rx.one;obtain⟨a,xs,rfl,q,rl⟩:=r.seqT s;exact⟨a,xs,rfl,.inr q,λl hl=>w (.ref l) F _ (aH.fresh _ s hl) ⟨l,rfl,s.free hl,xs,aV,rl⟩ λ_ a ea=>by cases ea;exact hl⟩
 . cases e
def aH0:dR X (.type "int") qB:=by
 refine⟨_,aD8,λF H xs vs k d Q s rx e w=>?_⟩;unfold qB at e;split at e
 . cases e;obtain⟨v,rfl,r⟩:=rx.one;cases r.int;exact .inl ⟨_,rfl,w _ F H (.refl s) (dB _) (by nofun)⟩
 . cases e;obtain⟨v,rfl,r⟩:=rx.one;cases r.bl;exact .inr ⟨_,rfl,w _ F H (.refl s) (dB _) (by nofun)⟩
 . cases e
def lC:List (Md×D)->Option (Md×D)
 |[(_,.int i),(_,.int j)]=>some (.fz,.int (if j<i then j else i))
 |_=>none
def aH1(hc:X.calm=true):dR X (.builtin "min") lC:=by
 refine⟨_,aD7 hc,λF H xs vs k d Q s rx e w=>?_⟩;unfold lC at e;split at e
 . cases e;obtain⟨v,u,rfl,r,r'⟩:=rx.two;cases r.int;cases r'.int;exact⟨_,_,rfl,w _ F H (.refl s) (dB _) (by nofun)⟩
 . cases e
end
theorem aH2(i:Int):PyData.strOk (Str.ofString (toString i))=true:=by
 unfold PyData.strOk;rw[aTF];intro c hc;have hc':c∈(Str.ofString (toString i)).cps.toList:=by rw[aRJ];exact hc
 have:¬ (c≠45/\(c<48\/57<c)):=λh=>int_text_free' c h i hc';have hb:c<58:=by lia
 simp;lia
theorem aH3:dR X (.type "str") lB:=by
 refine⟨_,aD9,λF H xs vs k d Q s rx e w=>?_⟩;unfold lB at e;split at e
 . rename_i m i;split at e
   . rename_i hs;cases e;obtain⟨v,rfl,r⟩:=rx.one;cases r.int;have hl:i.natAbs.log2<1920:=aTD hs;have h1:(qC i).length<=1921:=int_text_len_1921 hl;have hz:sizeLine=16777216:=aRH;exact⟨i,rfl,hl,w _ F H (.refl s) (jF ⟨by lia,aH2 i⟩) (by nofun)⟩
   . cases e
 . cases e
def aH4:bootBuiltins "min" = some (.builtin "min"):=by decide +kernel
def aH5{T:String}{φ}{es:List Expr}{gs:Rho->aR}(o:dR X (.type T) φ)(hg:Gl X x)(hm:X.mg x=none)(hv:bootBuiltins x=some (.type T))(ha:PAv C X (e::es) gs)(hn:x ≠ "__name__")(hdb:(x==("__debug__":Str))=false)(hst:∀x∈e::es,bX x=true):PV C X (.Call (.Name x p) (e::es) [] pos) (λρ=>eE φ (gs ρ)):=by obtain⟨r,h1,h2⟩:=o;exact PE.imp (pL h1 hg hm hv ha hn hdb (bU (hst e mcs)) (iL _ _ λy hy=>hst y (mcm hy))) λσ H Q q=>wG h2 q
section
variable {A:aV5}{E:VSP}
theorem aH6{l:Addr}{Q:List aV3->aV4->Prop}(hA:A.handled=none)(ht:s.heap.IsList l items)(h:∀h',Heap.ExtBut s.heap.objs.size s.heap h'->∀tk,Q items.toList {s with heap:=h',toks:=tk}):wpAny (model prog w) A (unpackItems (.ref l) items.size none) Q E s:=by
 unfold unpackItems notIterableAtAll;refine aRA (aRA (aS1 ht.typeIs PySem.F.slot_list_iter.lookup ?_));refine aQ9 ?_;dsimp only;rw[if_neg aQ7];refine aRA (aSD (aRC ht ?_));have hlt:l<s.heap.objs.size:=by obtain⟨o,e,_⟩:=ht;exact aQL e
 have hne:l≠s.heap.objs.size:=aQO hlt;have keep:∀b o,s.heap.get? b=some o->(s.heap.push { cls:=Value.type "list_iterator", data:=Data.fields #[Value.ref l,Value.int 0 0] }).get? b=some o:=λb o q=>hps q;have ht':(s.heap.push { cls:=Value.type "list_iterator", data:=Data.fields #[Value.ref l,Value.int 0 0] }).IsList l items:=by obtain⟨o,e,c⟩:=ht;exact⟨o,keep l o e,c⟩
 have hi':(s.heap.push { cls:=Value.type "list_iterator", data:=Data.fields #[Value.ref l,Value.int 0 0] }).IsListIter s.heap.objs.size l 0:=⟨_,aQK _ rfl,rfl,rfl⟩;refine aRA (aSD (W.kun_draw hne items.size 0 _ _ hi' ht' (by lia) λh' hi hsb=>?_))
 have ei:List.take items.size (List.drop 0 items.toList)=items.toList:=by rw[List.drop_zero];exact List.take_of_length_le (by simp)
 rw[ei];rw[if_neg (by simp)]
 have hl2:h'.IsList l items:=by obtain⟨o,e,c⟩:=ht';exact⟨o,by rw[hsb.2 l hne];exact e,c⟩
 rw[Nat.zero_add]at hi;refine aRA (aSD ((Walks.list hA s.heap.objs.size l hne items).done _ _ _ ⟨hi,hl2⟩ λh2 tk k2=>?_));rw[if_neg (by simp)]
 refine aQ9 (h h2 (λb o hb e=>k2 b o (by simpa using hb) ?_) tk)
 show h'.get? b=some o;rw[hsb.2 b hb];exact keep b o e
def aH7{elts:List Expr}{l:Addr}(hA:A.handled=none)(ht:s.heap.IsList l items)(hn:(assignEach elts env).length=items.size)(hst:(assignEach elts env).findIdx? (·.1)=none)(h:∀h',Heap.ExtBut s.heap.objs.size s.heap h'->∀tk,wpAny (model prog w) A (assignInOrder ((assignEach elts env).map (·.2)) items.toList) Q E {s with heap:=h',toks:=tk}):wpAny (model prog w) A (assign (.Tuple elts k pos) env (.ref l)) Q E s:=by rw[assign_Tuple];refine aRA (wpAny_standAt ?_);unfold unpack;rw[hst,hn];exact aRA (aSD (aH6 hA ht h))
def aH8{t sl:Addr}{vl vu:aV3}{Q:VSP}(ht:IsTup s.heap t items)(hs:s.heap.IsSliceOf sl vl vu .none)(pl:IsPart vl lo)(pu:IsPart vu hi)(h0:HT.sIx items.size 0 lo=0)(h1:HT.sIx items.size items.size hi=items.size)(h:Q (.ref t) s):wpAny (model prog w) A (getItem (.ref t) (.ref sl)) Q E s:=by
 obtain⟨os,hos,hcs,hds⟩:=id hs;have tS:s.TypeIs (.ref sl) "slice" := ⟨os,hos,hcs⟩;unfold getItem
 try with_reducible refine aSD ?_
 first|refine aRA (aQ9 ?_)|skip
 refine aRA (wpAny_sequenceKey ht.typeIs (by decide) (aRA (aSE (name:=Str.ofString "__getitem__") ht.typeIs aSF (aSG aSF ht.typeIs entry_tuple_getitem ?_ (args_tuple_getitem _ _)))))
 show wpAny _ _ (Builtin.Tuple.tupleItemsOf (.ref t)>>=_) _ _ s;refine aRA (tupleItemsOf_ ht (aRA (aSH tS ?_)));rw[if_pos (by decide)]
 refine aRA (HT.vK hs pl pu ?_);have yes:(((HT.sIx items.size 0 lo:Nat):Int)==0&&(1:Int)==1&&(HT.sIx items.size items.size hi-HT.sIx items.size 0 lo)==items.size)=true:=by rw[h0,h1];simp
 show wpAny _ _ (if(((HT.sIx items.size 0 lo:Nat):Int)==0&&(1:Int)==1&&(HT.sIx items.size items.size hi-HT.sIx items.size 0 lo)==items.size)=true then _ else _) _ _ s;rw[if_pos yes];unfold Builtin.Tuple.tupleIsExact;refine aRA (aRA (aSH ht.typeIs (aQ9 ?_)));rw[if_pos (by decide)]
 refine aRA (wpAny_rule ?_)
 first
  |exact aQ9 ⟨_,rfl,aQ9 h⟩
  |exact⟨_,rfl,aQ9 h⟩
end
def rSlW(K:Fg):V->Option Int->Option Int->Hp->VK->Prop:=λx lo hi H Q=>∃a xs,x=.ref a/\SqT K H a xs/\(HT.sIx xs.length 0 lo=0/\HT.sIx xs.length xs.length hi=xs.length)/\Q x H
def aH9:SlR X (rSlW X.K):=by
 intro aA s σ H x v vl vu lo hi sl Q I rx hs pl pu h;obtain⟨a,xs,rfl,hx,hw,q⟩:=h;cases rx;obtain⟨its,r,ht,hz⟩:=I.tuple hx;have hlen:its.toArray.size=xs.length:=by rw[aRI];exact r.length.symm
 exact⟨"tuple", _,PyProof.Rows.slot_tuple_getitem.lookup,ht.typeIs,aH8 ht hs pl pu (by rw[hlen];exact hw.1) (by rw[hlen];exact hw.2) ⟨.ref a,H,I,rfl,q⟩⟩
def gSeq(K:Fg)(n:Nat)(t:TGs):TG:=λv σ H Q=>∃a xs,v=.ref a/\(SqT K H a xs\/SqL K H a xs)/\xs.length=n/\t xs σ H Q
def aIA{es:List Expr}{t:TGs}(hc:X.calm=true)(h:PGs X es t)(hn:(assignEach es X.env).length=n)(hst:(assignEach es X.env).findIdx? (·.1)=none):PG X (.Tuple es k pos) (gSeq X.K n t):=by
 intro aA s σ H v u Q I r hw;obtain⟨a,xs,e1,hq,hl,hw⟩:=hw;rcases hq with hq|hq
 . exact aDG hc h hn hst aA s σ H v u Q I r ⟨a,xs,e1,hq,hl,hw⟩
 . subst e1;cases r;obtain⟨its,rv,ht,hz⟩:=I.list hq;refine aH7 (I.ok.hd hc) ht.isList (by simp[hn,<- hl,rv.length]) hst λh' hx tk=>?_
   have I1:Inv X aA σ H {s with heap:=h',toks:=tk}:=I.kept (t':=tk) λb o e=>hx b o (aQO (aQL e)) e
   exact h aA _ σ H xs _ Q I1 (by simpa using rv) hw
inductive Tg where
 |nm (i:Nat)|tp (ts:List Tg)
mutual
def aO:Tg->D->Rho->Option Rho
 |.nm i,d,ρ=>some (ρ.set i (some (false,d)))
 |.tp ts,d,ρ=>match d with
  |.tup ds=>dE ts ds ρ
  |.lst ds=>dE ts ds ρ
  |_=>none
def dE:List Tg->List D->Rho->Option Rho
 |[],ds,ρ=>if ds.isEmpty then some ρ else none
 |t::ts,ds,ρ=>match ds with
  |d::ds=>(match aO t d ρ with|some ρ1=>dE ts ds ρ1|none=>none)
  |[]=>none
end
mutual
def fJ:Tg->List Nat
 |.nm i=>[i]
 |.tp ts=>nP ts
def nP:List Tg->List Nat
 |[]=>[]
 |t::ts=>fJ t++nP ts
end
mutual
def gOf(K:Fg):Tg->TG
 |.nm i=>kK i
 |.tp ts=>gSeq K ts.length (hO K ts)
def hO(K:Fg):List Tg->TGs
 |[]=>gNil
 |t::ts=>uY (gOf K t) (hO K ts)
end
end D3
variable {t:D3.Tg}
namespace D3
def PGw(X:Cx)(tg:Expr)(t:Tg):Prop:=PG X tg (gOf X.K t)
def iM(X:Cx)(tgs:List Expr)(ts:List Tg):Prop:=PGs X tgs (hO X.K ts)
def jP:Expr->Bool|.Starred ..=>false|_=>true
def wY{es:List Expr}(h:jP e=true):assignEach (e::es) env=(false,assign e env)::assignEach es env:=by cases e <;> first|rfl|cases h
theorem qD:∀{ts:List Tg}{ds:List D}{ρ ρ':Rho},dE ts ds ρ=some ρ'->ds.length=ts.length
 |[],ds,ρ,ρ',e=>by
  simp only[dE]at e;split at e
  . rename_i h;have:ds=[]:=by simpa using h
    subst this;rfl
  . cases e
 |t::ts,ds,ρ,ρ',e=>by
  simp only[dE]at e;split at e
  . split at e
    . rw[aSQ,aSQ,qD e]
    . cases e
  . cases e
mutual
theorem qE{K:Fg}{F0 H0:Hp}:∀(t:Tg) {F H:Hp}{σ:L2.St}{ρ ρ':Rho}{d:D}{v:V}{Q:L2.St->Hp->Prop},aS K F0 H0 F H σ ρ->aB K F d v->aO t d ρ=some ρ'->(∀σ',aS K F0 H0 F H σ' ρ'->σ'.length=σ.length->(∀j,j∉fJ t->σ'[j]? = σ[j]?)->Q σ' H)->gOf K t v σ H Q
 |.nm i,F,H,σ,ρ,ρ',d,v,Q,R,r,e,w=>by
  simp only[aO]at e;cases e;simp only[gOf];refine w _ (R.set (m:=false) (.refl R.sub) r (by nofun)) (by rw[aTL]) λj hj=>?_
  simp only[fJ,aTY]at hj;rw[aQZ (λz=>hj z.symm)]
 |.tp ts,F,H,σ,ρ,ρ',d,v,Q,R,r,e,w=>by
  simp only[aO]at e;split at e
  . rename_i ds;simp only[aB]at r;obtain⟨a,xs,rfl,hq,rl⟩:=r;simp only[gOf];refine⟨a,xs,rfl,.inl (aD.seqT R.sub hq),by rw[rl.length];exact qD e,qF ts R rl e ?_⟩
    simp only[fJ]at w;exact w
  . rename_i ds;simp only[aB]at r;obtain⟨a,xs,rfl,hq,rl⟩:=r;simp only[gOf];refine⟨a,xs,rfl,.inr (R.sub.seq hq),by rw[rl.length];exact qD e,qF ts R rl e ?_⟩
    simp only[fJ]at w;exact w
  . cases e
theorem qF{K:Fg}{F0 H0:Hp}:∀(ts:List Tg) {F H:Hp}{σ:L2.St}{ρ ρ':Rho}{ds:List D}{vs:List V}{Q:L2.St->Hp->Prop},aS K F0 H0 F H σ ρ->aC K F ds vs->dE ts ds ρ=some ρ'->(∀σ',aS K F0 H0 F H σ' ρ'->σ'.length=σ.length->(∀j,j∉nP ts->σ'[j]? = σ[j]?)->Q σ' H)->hO K ts vs σ H Q
 |[],F,H,σ,ρ,ρ',ds,vs,Q,R,r,e,w=>by
  simp only[dE]at e;split at e
  . cases e;rename_i hd;have:ds=[]:=by simpa using hd
    subst this;simp only[aC]at r;simp only[hO];exact⟨r,w σ R rfl λ_ _=>rfl⟩
  . cases e
 |t::ts,F,H,σ,ρ,ρ',ds,vs,Q,R,r,e,w=>by
  simp only[dE]at e;split at e
  . rename_i d ds';split at e
    . rename_i ρ1 e1;simp only[aC]at r;obtain⟨y,ys,rfl,r1,r2⟩:=r;simp only[hO];refine⟨y,ys,rfl,qE t R r1 e1 λσ1 R1 l1 k1=>qF ts R1 r2 e λσ2 R2 l2 k2=>w σ2 R2 (l2.trans l1) λj hj=>?_⟩;simp only[nP,aQV,not_or]at hj;rw[k2 j hj.2,k1 j hj.1]
    . cases e
  . cases e
end
def aIB(hN:X.N.Nodup)(hi:X.N[i]? = some x)(hx:L2.Loc X.env.scope x)(hf:X.fn x=true\/X.env.scope.names.lookup x=some .local):PGw X (.Name x pos) (.nm i):=by unfold PGw;simp only[gOf];exact aDD hN hi hx hf
def aIC:iM X [] []:=by unfold iM;simp only[hO];exact aDE
def aID{es:List Expr}{ts:List Tg}(h1:PGw X e t)(h2:iM X es ts)(hs:jP e=true):iM X (e::es) (t::ts):=by unfold iM;simp only[hO];exact aDF h1 h2 (by rw[wY hs];rfl)
def aIE{es:List Expr}(hs:∀e∈es,jP e=true):(assignEach es env).length=es.length/\(assignEach es env).findIdx? (·.1)=none:=by
 induction es with
 |nil=>exact⟨rfl,rfl⟩
 |cons e es ih =>
  obtain⟨h1,h2⟩:=ih λx hx=>hs x (mcm hx);rw[wY (hs e mcs)];refine⟨by rw[aSQ,aSQ,h1],?_⟩
  rw[List.findIdx?_cons];simp[h2]
def aIF{es:List Expr}{ts:List Tg}(hc:X.calm=true)(h:iM X es ts)(hs:∀e∈es,jP e=true)(hl:es.length=ts.length):PGw X (.Tuple es k pos) (.tp ts):=by have st:=aIE (env:=X.env) hs;unfold PGw;simp only[gOf];exact aIA (n:=ts.length) hc h (by rw[st.1,hl]) st.2
def aIG(h:PGw X tg t):PGv C X tg (aO t) :=
 ⟨_,h,λF H σ ρ ρ' d v Q R r e w=>qE t R r e λσ' R' _ _=>w σ' F H (aD.refl _) R'⟩
noncomputable def cV(t:Rho->Res)(b:Rho->aG):Nat->Rho->aG
 |0,_=>.stuck
 |n+1,ρ=>(t ρ).thS ρ λ_ d=>match d with
  |.bl true=>(match b ρ with
   |.nx ρ'=>cV t b n ρ'
   |.ct ρ'=>cV t b n ρ'
   |.bk ρ'=>.nx ρ'
   |r=>r)
  |.bl false=>.nx ρ
  |_=>.stuck
def aIH{t:Rho->Res}{b:Rho->aG}(n:Nat)(hp:PassesOwn (model X.prog X.w) X.A X.env X.xe)(hc:PTv C X c t)(hb:PBv C X body b):PSv C X (.While c body [] pos) (cV t b n):=by
 refine PS.imp (aDI hp hc hb) λEn σ H q=>?_;obtain⟨ρ,F,R,w⟩:=q;refine⟨λm σ H=>∃ρ F,aS X.K C.F0 C.H0 F H σ ρ/\bW (C.at X) F (cV t b m ρ) En,⟨n,ρ,F,R,w⟩,?_⟩;rintro m σ H ⟨ρ,F,R,w⟩;refine⟨ρ,F,R,?_⟩;cases m with
 |zero=>exact w.elim
 |succ m =>
  unfold cV at w;cases et:t ρ with
  |stuck=>rw[et]at w;exact w
  |exc c=>rw[et]at w;exact λF' H' s=>w σ F' H' s.fsame (R.step s)
  |ok md d =>
   rw[et]at w;cases d with
   |bl k =>
    intro F' H' s;cases k with
    |false=>rw[if_neg aQ7];exact w σ F' H' s.fsame (R.step s)
    |true =>
     rw[if_pos rfl];have w:bW (C.at X) F (match b ρ with|.nx ρ'=>cV t b m ρ'|.ct ρ'=>cV t b m ρ'|.bk ρ'=>.nx ρ'|r=>r) En:=w
     refine⟨λσ' H'=>∃ρ F,aS X.K C.F0 C.H0 F H' σ' ρ/\bW (C.at X) F (cV t b m ρ) En,λσ' H' h=>⟨m,aRM _,h⟩,ρ,F',R.step s,?_⟩;cases eb:b ρ with
     |nx ρ'=>rw[eb]at w;exact λσ2 F2 H2 z R2=>⟨ρ',F2,R2,bW.mono (s.fsame.trans z) w⟩
     |ct ρ'=>rw[eb]at w;exact λσ2 F2 H2 z R2=>⟨ρ',F2,R2,bW.mono (s.fsame.trans z) w⟩
     |bk ρ'=>rw[eb]at w;exact λσ2 F2 H2 z R2=>w σ2 F2 H2 (s.fsame.trans z) R2
     |rt md d=>rw[eb]at w;exact w
     |exc c ρ'=>rw[eb]at w;exact λσ2 F2 H2 z R2=>w σ2 F2 H2 (s.fsame.trans z) R2
     |stuck=>rw[eb]at w;exact w.elim
   |_=>exact w.elim
theorem wZ{gt:Rho->Res}(hsl:∀j∈fJ t,aF.length<=j){Q:VK}(q:tG (C.at X) (λρ=>dW (gi ρ) ρ aF tgN.length (aO t) gt ge) σ H Q):k6 aF tgN.length (tIv (C.at X) gi) (gOf X.K t) (tT (C.nox.at X) gt) (tG (C.nox.at X) λρ=>aW (ge ρ)) σ H Q:=by
 rw[aQ]at q;obtain⟨ρ,F,RS,w⟩:=q;unfold k6;refine⟨ρ,F,RS,?_⟩;cases er:gi ρ with
 |stuck=>rw[er]at w;exact w
 |exc c=>rw[er]at w;exact w
 |ok m d =>
  rw[er]at w;cases d with
  |lst ds =>
   unfold dW at w;rw[Res.thn_ok]at w;dsimp only at w;split at w
   . rename_i hsz;intro J F1 H1 s1 hJ Da hDa;cases et:fG (aO t) gt ge (dC aF ρ++List.replicate tgN.length none) ds with
     |none=>rw[et]at w;exact w.elim
     |some total =>
      rw[et]at w;have hD0:H Da=none:=s1.same.free hDa;have hF1:F1 Da=none:=s1.sub.free hDa;have R0:=aHC aF tgN.length RS;refine⟨λi m ys H'=>m=ds.length-i/\i<=ds.length/\H' Da=some (.lst ys)/\∃F' zs,aH F H F' H'/\aD F1 F'/\F' Da=none/\aC X.K F' zs ys/\zs.length<=i /\
       ∃rest,fG (aO t) gt ge (dC aF ρ++List.replicate tgN.length none) (ds.drop i)=some rest/\total=zs++rest,
       ⟨ds.length,by simp,aRN _,aV,F1,[],s1.upd hD0 hF1,aD.refl _,hF1,aC.nil,aRD _,total,by simpa using et,rfl⟩,?_⟩
      rintro i m ys H' ⟨rfl,hile,hD,F',zs,st,sF,hFD,rz,hzl,rest,ec,etot⟩;refine⟨hD,?_⟩;by_cases hlt:i<ds.length
      . refine .inr ⟨hJ.go i H' (sF.trans st.sub) hlt,by rw[rz.length];lia,λv H2 y=>?_⟩
        obtain⟨F2,d,ed,s2,rd⟩:=hJ.yld i F' H' v H2 sF st.sub hlt y;have hd:ds.drop i=d::ds.drop (i+1):=by rw[List.drop_eq_getElem_cons hlt];rw[aTP hlt]at ed;cases ed;rfl
        rw[hd]at ec;unfold fG at ec;have hD2:H2 Da=some (.lst ys):=s2.same _ _ hD;have hF2:F2 Da=none:=s2.new _ hFD (by rw[hD];exact λz=>nomatch z)
        cases eg:aO t d (dC aF ρ++List.replicate tgN.length none)with
        |none=>rw[eg]at ec;cases ec
        |some ρ1 =>
        rw[eg]at ec;dsimp only at ec;have R2:=(R0.step st).step s2;refine qE t R2 rd eg λσ1 R1 len1 keep1=>?_;refine⟨⟨len1.symm,λj u ej=>?_⟩,ρ1,F2,R1,?_⟩
        . by_cases hj:j∈fJ t
          . have:=hsl j hj;rw[aRW (by simpa[eG]using this),aRX]at ej
            split at ej <;> cases ej
          . rw[keep1 j hj];exact ej
        cases ett:gt ρ1 with
        |stuck=>rw[ett]at ec;cases ec
        |exc c=>rw[ett]at ec;cases ec
        |ok mt dt =>
         cases dt with
         |bl b =>
          rw[ett]at ec;intro F3 H3 s3;have hD3:H3 Da=some (.lst ys):=s3.same _ _ hD2;have hF3:F3 Da=none:=s3.new _ hF2 (by rw[hD2];exact λz=>nomatch z)
          cases b with
          |false=>rw[if_neg aQ7];exact⟨ds.length-(i+1),by lia,rfl,hlt,hD3,F3,zs,(st.trans s2).trans s3,(sF.trans s2.fsame).trans s3.fsame,hF3,rz.mono (s2.fsame.trans s3.fsame) _ _,aTZ hzl,rest,ec,etot⟩
          |true =>
           rw[if_pos rfl,aQ];refine⟨_,F3,R1.step s3,?_⟩;dsimp only at ec;cases ee:aW (ge ρ1)with
           |stuck=>rw[ee]at ec;cases ec
           |exc c=>rw[ee]at ec;cases ec
           |ok me ye =>
            rw[ee]at ec;dsimp only at ec;have hme:me=.fz:=by
             cases h:ge ρ1 with
             |ok m' d'=>rw[h]at ee;cases m' <;> cases ee <;> rfl
             |exc c=>rw[h]at ee;cases ee
             |stuck=>rw[h]at ee;cases ee
            subst hme;cases er2:fG (aO t) gt ge (dC aF ρ++List.replicate tgN.length none) (ds.drop (i+1))with
            |none=>rw[er2]at ec;cases ec
            |some rest' =>
             rw[er2]at ec;cases ec;intro u F4 H4 s4 ru _;have hD4:H4 Da=some (.lst ys):=s4.same _ _ hD3;have hF4:F4 Da=none:=s4.new _ hF3 (by rw[hD3];exact λz=>nomatch z)
             refine⟨hD4,ds.length-(i+1),by lia,rfl,hlt,aV,F4,zs++[ye],(((st.trans s2).trans s3).trans s4).upd hD0 hF4,((sF.trans s2.fsame).trans s3.fsame).trans s4.fsame,hF4,?_,by simp;lia,rest',er2,by rw[etot];simp⟩
             exact aC.append (rz.mono ((s2.fsame.trans s3.fsame).trans s4.fsame) _ _) (aC.cons ru aC.nil)
         |_=>rw[ett]at ec;cases ec
      . have ei:i=ds.length:=by lia
        subst ei;rw[List.drop_length]at ec;cases ec;rw[aRQ]at etot;subst etot;exact .inl ⟨hJ.stop _ H' (sF.trans st.sub) (aRD _),w (.ref Da) F' H' st ⟨Da,rfl,hFD,ys,hD,rz⟩ λ_ a ea=>by cases ea;exact hD0⟩
   . exact w.elim
  |_=>exact w.elim
def aII{gt:Rho->Res}(hc:X.calm=true)(hi:PIv C X tg aU gi)(cH:∀y∈scope.names,y.2 ≠ .cell)(cZ:scope.kind=.function)(fP:∀y∈scope.names,y.2=.local->scope.names.lookup y.1=some .local)(eA:∀y∈scope.names,y.2=.free->X.env.kindOf y.1=some .cell\/X.env.kindOf y.1=some .free)(eP:aL.map some=aF.map λi=>X.N[i]?)(fR:∀y∈aL,(y,NameKind.free)∈scope.names)(fQ:∀y∈aL,(relabel scope X.env).names.lookup y=some .cell\/(relabel scope X.env).names.lookup y=some .free)(hsl:∀j∈fJ t,aF.length<=j)(hg:∀cl A fp s3 H3,PGw (bE X scope (aL++tgN) cl A fp s3 H3) tg t)(hf:∀cl A fp s3 H3,dU (bE X scope (aL++tgN) cl A fp s3 H3) ifs (tT (C.nox.at X) gt))(he:∀cl A fp s3 H3,PV C.nox (bE X scope (aL++tgN) cl A fp s3 H3) elt ge)(hs:∀x,foldedSetIterable aU X.env x=pure x:=by intro _;rfl):PV C X (.ListComp elt [⟨tg,aU,ifs,0⟩] scope pos) (λρ=>dW (gi ρ) ρ aF tgN.length (aO t) gt ge):=by
 have capLen:aL.length=aF.length:=by simpa using congrArg List.length eP
 refine PE.imp (aG8 (aL:=aL) (tgN:=tgN) (gt:=gOf X.K t) (tt:=tT (C.nox.at X) gt) (te:=tG (C.nox.at X) λρ=>aW (ge ρ)) hc hi cH cZ fP eA eP fR fQ
  hg hf (λcl A fp s3 H3=>fW (he cl A fp s3 H3)) hs) λσ H Q q=>wZ hsl q
def aIJ(fz:Bool){spos:Pos}{gt:Rho->Res}(hc:X.calm=true)(hi:PIv C X tg aU gi)(cH:∀y∈scope.names,y.2 ≠ .cell)(cZ:scope.kind=.function)(fP:∀y∈scope.names,y.2=.local->scope.names.lookup y.1=some .local)(eA:∀y∈scope.names,y.2=.free->X.env.kindOf y.1=some .cell\/X.env.kindOf y.1=some .free)(eP:aL.map some=aF.map λi=>X.N[i]?)(fR:∀y∈aL,(y,NameKind.free)∈scope.names)(fQ:∀y∈aL,(relabel scope X.env).names.lookup y=some .cell\/(relabel scope X.env).names.lookup y=some .free)(hsl:∀j∈fJ t,aF.length<=j)(hg:∀cl A fp s3 H3,PGw (bE X scope (aL++tgN) cl A fp s3 H3) tg t)(hf:∀cl A fp s3 H3,dU (bE X scope (aL++tgN) cl A fp s3 H3) ifs (tT (C.nox.at X) gt))(he:∀cl A fp s3 H3,PV C.nox (bE X scope (aL++tgN) cl A fp s3 H3) elt ge)(hN:X.N.Nodup)(hx:X.N[i]? = some x)(hk:X.env.scope.names.lookup x=some .local)(hsw:swapsWith (.ListComp elt [⟨tg,aU,ifs,0⟩] scope pos) (some (.Name x pos')) spos.line X.env=pure true)(hs:∀x,foldedSetIterable aU X.env x=pure x:=by intro _;rfl):PSv C X (.Assign [.Name x pos'] (.ListComp elt [⟨tg,aU,ifs,0⟩] scope pos) spos) (λρ=>eT ρ i (if fz=true then aW (dW (gi ρ) ρ aF tgN.length (aO t) gt ge)else dW (gi ρ) ρ aF tgN.length (aO t) gt ge)):=by
 refine PS.imp (aG9 (aL:=aL) (tgN:=tgN) (gt:=gOf X.K t) (tt:=tT (C.nox.at X) gt) (te:=tG (C.nox.at X) λρ=>aW (ge ρ)) hc hi cH cZ fP eA eP fR fQ
  hg hf (λcl A fp s3 H3=>fW (he cl A fp s3 H3)) hN hx hk hsw hs) λE σ H q=>wZ hsl ?_
 cases fz with
 |false=>exact pY q
 |true=>have q:=pY q;unfold mV at q;rw[aQ]at q ⊢;obtain⟨ρ,F,R,w⟩:=q;exact⟨ρ,F,R,aT.frz w⟩
inductive PVL(C:Cw)(X:Cx):List Expr->List (Rho->Res)->Prop where
 |nil:PVL C X [] []
 |cons {e:Expr}{g:Rho->Res}{es:List Expr}{gs:List (Rho->Res)} (h:PV C X e g) (r:PVL C X es gs):PVL C X (e::es) (g::gs)
inductive LtI(A:aV5)(s:aV4):List aV3->List aV3->Bool->Prop where
 |nn:LtI A s [] [] false
 |nc {w:aV3}{ws:List aV3}:LtI A s [] (w::ws) true
 |cn {v:aV3}{vs:List aV3}:LtI A s (v::vs) [] false
 |eq {v w:aV3}{vs ws:List aV3}{b:Bool} (h:SeqAt.EqAt A s v w true) (r:LtI A s vs ws b):LtI A s (v::vs) (w::ws) b
 |ne {v w:aV3}{vs ws:List aV3}{b:Bool} (h:SeqAt.EqAt A s v w false) (l:∀(prog:aV7) (w':aV6) (E:VSP) (Q:VSP),Q (.bool b) s->wpAny (model prog w') A (richCompare .Lt v w) Q E s):LtI A s (v::vs) (w::ws) b
section
open PySem.SeqAt
open PySem.AutoSeq1 (wpAny_loadPart')
open PySem.MeetsSeq PySem.MeetsSeq2 PySem.MeetsSeq3
theorem aIK(l b:Addr)(items items2:Array aV3)(n n2:Nat)(dd dd2:Option Addr)(sl sl2:Array (Option aV3))(r:Bool):Meets (Builtin.«tuple.__lt__» ⟨[.ref l,.ref b],[]⟩) (λA R s=>s.heap.get? l=some { cls:=.type "tuple", dict:=dd,data:=.seq items n,slots:=sl }/\s.heap.get? b=some { cls:=.type "tuple", dict:=dd2,data:=.seq items2 n2,slots:=sl2 }/\LtI A.in1 s items.toList items2.toList r/\R (.ok (.ret (.bool r))) s) :=
 .of_wp λprog w A R s h=>by
  obtain⟨hp,g,d,tk,os⟩:=s;obtain⟨hl,hb,hi,h⟩:=h;have f2:=AutoSeq1.sub_tuple_tuple
  wp_walk using wpAny_loadPart' hl,wpAny_loadPart' hb,aS3 _ (λrest b s'=>b.1=none/\s'=⟨hp,g,d,tk,os⟩/\∃(vs ws:List aV3),rest=vs.zip ws /\
   LtI A.in1 ⟨hp,g,d,tk,os⟩ vs ws r/\vs.length+items2.size=ws.length+items.size) _
  case turn =>
   rintro⟨y,x⟩ rest b s' ⟨hb',rfl,vs,ws,hz,hvi,hlen⟩;cases hvi with
   |nn=>rw[List.zip_nil_left]at hz;cases hz
   |nc=>rw[List.zip_nil_left]at hz;cases hz
   |cn=>rw[List.zip_nil_right]at hz;cases hz
   |eq he hr =>
    rw[aT0]at hz;injection hz with hyx hrest
    injection hyx with hy hx
    subst hy hx;simp only[aSQ]at hlen;refine aRA (he prog w _ _ ?_)
    wp_walk
    exact⟨rfl,rfl,_,_,hrest,hr,by lia⟩
   |ne he hr =>
    rw[aT0]at hz;injection hz with hyx hrest
    injection hyx with hy hx
    subst hy hx;refine aRA (he prog w _ _ ?_);have hri:=hr prog w
    wp_walk using hri
    exact⟨_,rfl,by simpa using h⟩
  case fin =>
   rintro⟨b1,b2⟩ s' ⟨hb',rfl,vs,ws,hz,hvi,hlen⟩;simp only at hb';subst hb';have hv:r=decide (items.size<items2.size):=by
    cases hvi with
    |nn=>simp only[aSR]at hlen;exact(aQG (by lia)).symm
    |nc=>simp only[aSR,aSQ]at hlen;exact(aSP (by lia)).symm
    |cn=>simp only[aSR,aSQ]at hlen;exact(aQG (by lia)).symm
    |eq he hr=>rw[aT0]at hz;cases hz
    |ne he hr=>rw[aT0]at hz;cases hz
   rw[hv]at h
   wp_walk
   exact⟨_,rfl,by simpa[Builtin.Tuple.tupleCompareSizes]using h⟩
  case h=>exact⟨rfl,rfl,items.toList,items2.toList,rfl,hi,by simp[Nat.add_comm]⟩
end
section
variable {A:aV5}{E:VSP}
def aIL{l:Addr}{items2:Array aV3}{r:Bool}{Q:VSP}(hl:IsTup s.heap l items)(hb:IsTup s.heap b items2)(hi:LtI (A.in1) s items.toList items2.toList r)(hu:A.units<cLine)(h:Q (.bool r) s):wpAny (model prog w) A (compareOp .Lt (.ref l) (.ref b)) Q E s:=by
 obtain⟨⟨cls,dd,data,sl⟩,ho,hc,n,hd⟩:=id hl;obtain⟨⟨cls2,dd2,data2,sl2⟩,ho2,hc2,n2,hd2⟩:=id hb;simp only at hc hd hc2 hd2;subst hc hd hc2 hd2;exact richCompare_meets_room (op:=.Lt) ⟨_,ho,rfl⟩ ⟨_,ho2,rfl⟩ PySem.F.slot_tuple_lt PySem.F.entry_tuple_lt (PySem.F.args_tuple_lt_2 _ _) (aIK l b items items2 n n2 dd dd2 sl sl2 r)
  ⟨ho,ho2,hi,show Value.bool r≠Value.notImplemented/\Q (.bool r) s from⟨(λx=>nomatch x),h⟩⟩ hu
end
def jQ:List (Md×D)->Option (Md×D):=λxs=>match xs with
 |[(_,.str z)]=>if z.length<=640 then(PySem.intText? z).map λn=>(.fz,.int n)else none
 |_=>qB xs
def aIM:dR X (.type "int") jQ:=by
 obtain⟨r,h1,h2⟩:=aH0 (X:=X);refine⟨λxs H Q=>r xs H Q\/∃z n,xs=[.str z]/\z.length<=640/\PySem.intText? z=some n/\Q (.int n) H,?_,λF H xs vs k d Q s rx e w=>?_⟩
 . intro aA s σ H xs us Q I rr h;rcases h with h|⟨z,n,rfl,hl,hn,q⟩
   . exact h1 aA s σ H xs us Q I rr h
   . obtain⟨u,rfl,t,rfl⟩:=eC rr;exact W.KIN.call_text hn hl ⟨.int n,H,I.tok _,⟨_,rfl⟩,q⟩
 . unfold jQ at e;split at e
   . rename_i m z;split at e
     . rename_i hl;cases en:PySem.intText? z with
       |none=>rw[en]at e;cases e
       |some n=>rw[en]at e;cases e;obtain⟨v,rfl,r0⟩:=rx.one;obtain⟨rfl,_⟩:=r0.str;exact .inr ⟨z,n,rfl,hl,en,w _ F H (.refl s) (dB _) (by nofun)⟩
     . cases e
   . exact .inl (h2 F H xs vs k d Q s rx e w)
section
open PySem.SeqAt
open PySem.AutoSeq1 (wpAny_loadPart')
open PySem.MeetsSeq PySem.MeetsSeq2 PySem.MeetsSeq3
variable {A:aV5}{E:VSP}
end
open PySem.AutoSeq1 (wpAny_loadPart')
open PySem.Calls PySem.W
section
variable {A:aV5}{E:VSP}{x D:Addr}{ox:Obj}{od:Option Obj}
def XAt(h:Heap)(x:Addr)(ox:Obj)(D:Addr):Prop:=h.get? x=some ox/\ox.cls=.ref D
structure XCls(K:Fg)(D:Addr):Prop where
 ga:W.findIn K (.ref D) "__getattribute__" = some (some (.builtin "BaseException.__getattribute__"))
 gn:W.findIn K (.ref D) "__getattr__" = some none
 ca:W.findIn K (.ref D) "__class__" = some (some (.builtin "object.__class__"))
 bx:W.mroIn K D (.type "BaseException")=some true
 ob:W.mroIn K D (.type "object")=some true
 hn:W.specialIn K (.builtin "object.__class__") "__get__" = some (some (.builtin "getset_descriptor.__get__"))
 tk:W.takesIn K (.builtin "object.__class__")=some true
end
open PySem.Calls
structure Fly(P:aV7)(w:aV6)(outer:List Env)(H:Hp)(s:aV4)(H1:Hp)(B hp:Heap):Prop where
 un:Un (frs outer) [] H H1 s.heap hp
 ok:HOk P w H1 hp
 kb:∀b o,hp.get? b=some o->s.heap.get? b≠none->b∉frs outer->B.get? b=some o
 kh:∀b u,H1 b=some u->∃o,hp.get? b=some o/\B.get? b=some o
 fr:∀b∈frs outer,H b=none/\∃o,s.heap.get? b=some o/\∀vs,o.data ≠ .fields vs
section
variable  {H1:Hp}{B:Heap}
def gM:b∉([]:List Addr):=by simp
theorem Fly.slots(f:Fly P w outer H s H1 B hp)(up:hp.UpToSlots h')(hb:b∈frs outer):∃o sl sl',s.heap.get? b=some o/\hp.get? b=some {o with slots:=sl}/\h'.get? b=some {o with slots:=sl'}:=by obtain⟨hn,o,e,nf⟩:=f.fr b hb;obtain⟨sl,e1⟩:=f.un.slot b o e hn hb gM;obtain⟨sl',e2⟩:=up b _ e1 nf;exact⟨o,sl,sl',e,e1,e2⟩
def Fly.on(f:Fly P w outer H s H1 B hp)(st:B.StaysIn h')(up:hp.UpToSlots h'):Fly P w outer H s H1 B h' where
 un:={
  keep:=λb o e n hb _=>st b o (f.kb b o (f.un.keep b o e n hb gM) (by rw[e];exact λz=>nomatch z) hb)
  slot:=λb o e n hb _=>by obtain⟨o',sl,sl',e0,_,e2⟩:=f.slots up hb;rw[e]at e0;cases e0;exact⟨sl',e2⟩
  free:=f.un.free
  there:=λb o e _=>by
   by_cases hb:b∈frs outer
   . obtain⟨o',sl,sl',e0,_,e2⟩:=f.slots up hb;exact⟨_,e2⟩
   . obtain⟨o',e1⟩:=f.un.there b o e gM;exact⟨o',st b o' (f.kb b o' e1 (by rw[e];exact λz=>nomatch z) hb)⟩
  tups:=f.un.tups
  frzs:=f.un.frzs
  tbls:=f.un.tbls }
 ok := fun a o e => (f.ok a o e).stay (fun b u hb q => by
     have:∃u',H1 b=some u':=by
      rcases hb with rfl|hb
      . exact⟨o,e⟩
      . exact⟨_,hb⟩
     obtain⟨u',eu⟩:=this;obtain⟨o',e1,e2⟩:=f.kh b u' eu;rw[q]at e1;cases e1;exact st b u e2) (λ_ q=>q) λ_ _ q=>q
 kb:=λb o e ns hb=>by
  cases e0:s.heap.get? b with
  |none=>exact absurd e0 ns
  |some o0=>obtain⟨o',e1⟩:=f.un.there b o0 e0 gM;have e2:=f.kb b o' e1 ns hb;have e3:=st b o' e2;rw[e]at e3;cases e3;exact e2
 kh:=λb u e=>by obtain⟨o,_,e2⟩:=f.kh b u e;exact⟨o,st b o e2,e2⟩
 fr:=f.fr
end
def CX1(P:aV7)(w:aV6):CXT:=λouter H s E ev s'=>∃(e C:Addr) (a0:aV3) (H1:Hp) (B:Heap),
 ev=.ref e/\s'.os=s.os/\AllBare s'.gens/\Heap.FlyingW B outer e (.ref C) a0 s'.heap/\Fly P w outer H s H1 B s'.heap/\E (.ref C) none H1
section
variable  {H1:Hp}{B:Heap}{E:XK}
def aIN(I:Inv X aA σ H s):∀b∈frs X.stack,H b=none/\∃o,s.heap.get? b=some o/\∀vs,o.data ≠ .fields vs:=λb hb =>
 ⟨I.stkFree b hb,(I.stack.mem hb).2⟩
def Fly.inv(I:Inv X aA σ H s)(f:Fly X.prog X.w X.stack H s H1 B s'.heap)(ho:s'.os=s.os)(hg:AllBare s'.gens):Inv X aA σ H1 s' :=
 Inv.call' (ch:=[]) I ho f.un f.ok hg (λb z=>absurd z gM)
def Fly.out(I:Inv X aA σ H s)(f:Fly X.prog X.w X.stack H s H1 B s'.heap)(ho:s'.os=s.os)(hg:AllBare s'.gens)(hx:X.ex=[])(hs:X.stack=X.env::X.outer)(hf:X.env.frame=some X.env.locals)(st:B.StaysIn h')(up:s'.heap.UpToSlots h'):Fly X.prog X.w X.outer X.H₀ X.s₀ H1 B h':=by
 have I1:=f.inv I ho hg;have f1:=f.on st up;have ub:=I1.base;rw[hx]at ub;have old:∀b o,X.s₀.heap.get? b=some o->∃o',s.heap.get? b=some o':=λb o e=>I.base.there b o e (by rw[hx];exact gM)
 have nl:∀b o,X.s₀.heap.get? b=some o->b≠X.env.locals:=λb o e z=>absurd (aQL e) (by rw[z];exact aTV.mpr I.ok.above)
 have sub:∀b,b∉frs X.outer->b≠X.env.locals->b∉frs X.stack:=λb h1 h2 z=>by
  rcases aQU.mp (I.stkSub b z)with q|q
  . exact h2 q
  . exact h1 q
 have sup:∀b,b∈frs X.outer->b∈frs X.stack:=λb hb=>by rw[hs];unfold frs;rw[aQT,hf];exact mcm hb
 refine⟨⟨λb o e n hb _=>?_,λb o e n hb _=>?_,ub.free,λb o e _=>?_,ub.tups,ub.frzs,ub.tbls⟩,f1.ok,λb o e ns hb=>?_,f1.kh,λb hb=>?_⟩
 . have e1:=ub.keep b o e n hb gM;obtain⟨o',e0⟩:=old b o e;exact st b o (f.kb b o e1 (by rw[e0];exact λz=>nomatch z) (sub b hb (nl b o e)))
 . obtain⟨sl,e1⟩:=ub.slot b o e n hb gM;obtain⟨o',sl1,sl2,e0,e1',e2⟩:=f.slots up (sup b hb);have q:=aQJ (e1.symm.trans e1');refine⟨sl2,?_⟩;rw[e2];obtain⟨c1,d1,t1,l1⟩:=o;obtain⟨c2,d2,t2,l2⟩:=o';simp only[Obj.mk.injEq]at q;obtain⟨rfl,rfl,rfl,_⟩:=q;rfl
 . obtain⟨o',e0⟩:=old b o e;exact f1.un.there b o' e0 gM
 . cases e0:X.s₀.heap.get? b with
   |none=>exact absurd e0 ns
   |some o0=>obtain⟨o',e1⟩:=old b o0 e0;exact f1.kb b o e (by rw[e1];exact λz=>nomatch z) (sub b hb (nl b o0 e0))
 . exact⟨I.ok.frf b hb,(I.ok.funs.mem hb).2⟩
def lD(h:Heap)(l:List Env):Heap:=W.hideAll h (frs l)
def Fly.raise(I:Inv X aA σ H s)(hx:X.ex=[])(hs:X.stack=X.env::X.outer)(hf:X.env.frame=some X.env.locals)(st:(lD s.heap X.stack).StaysIn h')(up:s.heap.UpToSlots h'):Fly X.prog X.w X.outer X.H₀ X.s₀ H (lD s.heap X.stack) h':=by
 have f:Fly X.prog X.w X.stack H s H (lD s.heap X.stack) s.heap :=
  ⟨Un.refl,I.hok,λb o e _ hb=>W.hideAll_get _ e hb,λb u e=>by
   have hn:b∉frs X.stack:=λz=>by rw[I.stkFree b z]at e;cases e
   have:∃o,s.heap.get? b=some o:=by
    have:=I.hok b u e;cases u with
    |lst xs=>obtain⟨_,_,_,_,e⟩:=this;exact⟨_,e⟩
    |tup xs=>obtain⟨_,_,_,o,e,_⟩:=this;exact⟨_,e⟩
    |dK kvs=>obtain⟨_,_,_,_,o,_,_,e,_⟩:=this;exact⟨_,e⟩
    |dT kvs=>obtain⟨_,_,_,_,o,_,_,e,_⟩:=this;exact⟨_,e⟩
    |dN kvs=>obtain⟨_,_,_,_,o,_,_,e,_⟩:=this;exact⟨_,e⟩
    |set S n=>obtain⟨o,_,_,_,e,_⟩:=this;exact⟨_,e⟩
    |ins C dx fs=>obtain⟨_,_,_,e,_⟩:=this;exact⟨_,e⟩
    |own y=>obtain⟨_,e⟩:=this;exact⟨_,e⟩
    |xd fs=>obtain⟨_,⟨_,_,_,e,_⟩,_⟩:=this;exact⟨_,e⟩
    |rng lo hi=>obtain⟨_,_,_,e⟩:=this;exact⟨_,e⟩
    |frz ob u=>obtain⟨e,_⟩:=this;exact⟨_,e⟩
    |tbl ps=>obtain⟨_,_,_,e,_⟩:=this;exact⟨_,e⟩
    |crec q=>obtain⟨_,_,_,e,_⟩:=this;exact⟨_,e⟩
    |met f y=>exact⟨_,this⟩
    |ext φ=>obtain⟨_,⟨_,e⟩,_⟩:=this;exact⟨_,e⟩
   obtain⟨o,eo⟩:=this;exact⟨o,eo,W.hideAll_get _ eo hn⟩,aIN I⟩
 exact f.out I rfl I.bare hx hs hf st up
end
noncomputable def vErr:List aV3:=[.type "ValueError", .type "Exception", .type "BaseException", .type "object"]
def w6(K:Fg)(C:Addr):Prop:=W.excIn K C vErr "ValueError.__new__" = true
def RzOk(C:Cw)(X:Cx):Prop:=∀(aA:LAO) (σ:L2.St) (H:Hp) (s:aV4) (c:Str) (Cc:Addr) (vs:List aV3) (h':Heap) (e:Addr),Inv X aA σ H s->X.mg c=some (.ref Cc)->C.EE c σ H ->
 Heap.MadeExcOf s.heap h' e (.ref Cc) vs->X.xe (.ref e) {s with heap:=h'}
section
variable {es:List Expr}{gs:Rho->aR}{np:Pos}
structure FnCx(X:Cx):Prop where
 hx:X.ex=[]
 hs:X.stack=X.env::X.outer
 hf:X.env.frame=some X.env.locals
end
section
variable {N:List Str}{f:Addr}{A:aV5}{E:XK}
def fnCx:FnCx (cR (CX1 P w) P w K mg base N qual scope f cdv A outer s H E):=⟨rfl,rfl,rfl⟩
def lE(mg:SOV)(E:XK):XE:=λc _ H'=>∀u,mg c=some u->E u none H'
def aIO(hE:C.EE=lE mg E):XOk (CX1 P w) C (cR (CX1 P w) P w K mg base N qual scope f cdv A outer s H E):=by intro aA σ H1 s1 ev s' I h;obtain⟨e,Cc,a0,H2,B,rfl,ho,hg,fl,fy,c,hm,he⟩:=h;rw[hE]at he;have I0:=I.ok.frames;refine wpAny_leaves_onW I0 rfl fl λh' fl' up=>?_;exact⟨e,Cc,a0,H2,B,rfl,ho.trans I.os,hg,fl',fy.out I ho hg rfl rfl rfl fl'.1 up,he _ hm⟩
def aIP(hE:C.EE=lE mg E):RzOk C (cR (CX1 P w) P w K mg base N qual scope f cdv A outer s H E):=by
 intro aA σ H1 s1 c Cc vs h1 e I hm he made;rw[hE]at he;have I0:=I.ok.frames;have hin:∀env∈(cR (CX1 P w) P w K mg base N qual scope f cdv A outer s H E).stack,∀a,env.frame=some a->a∈frs (cR (CX1 P w) P w K mg base N qual scope f cdv A outer s H E).stack:=λenv he a ha=>aRF.mpr ⟨env,he,ha⟩;have FF:s1.heap.FunFrames (lD s1.heap (cR (CX1 P w) P w K mg base N qual scope f cdv A outer s H E).stack) _:=W.funFrames_hide I.stack hin;have st0:(lD s1.heap (cR (CX1 P w) P w K mg base N qual scope f cdv A outer s H E).stack).StaysIn s1.heap:=λb o q=>W.of_hideAll _ q;refine wpAny_leaves_madeW (s:={s1 with heap:=h1}) I0 rfl st0 FF made λh' t fl _ _ up=>?_
 have up0:s1.heap.UpToSlots h':=(Heap.UpToSlots.of_keeps made.keeps).trans up;exact⟨e,Cc,.ref t,H1,_,rfl,I.os,I.bare,fl,Fly.raise I rfl rfl rfl fl.1 up0,he _ hm⟩
end
structure HX where
 cls:Str
 slot:Option Nat
 g:Rho->aG
def qG(K:Fg)(mg:SOV)(xt:Str->Str->Option Bool):Prop:=∀c x b,xt c x=some b->∃C C2,W.nsIn K mainGlobals c=some (some (.ref C))/\mg c=some (.ref C)/\mg x=some (.ref C2) /\
 W.mroIn K C2 (.type "BaseException")=some true/\W.typeIn K (.ref C2)=some (.type "type")/\W.mroIn K C (.ref C2)=some b
def nQ(mg:SOV)(n:Str)(cv:V):Prop:=(∃C,mg n=some (.ref C)/\cv=.ref C)\/(mg n=none/\n ≠ "__name__" /\ ∃T,bootBuiltins n=some (.type T)/\cv=.ty T)
def w8:V->aV3|.ref a=>.ref a|.ty T=>.type T|_=>.none
def qH(K:Fg)(mg:SOV)(xis:Str->Str->Option Bool):Prop:=∀c n b,xis c n=some b->∃C cv,W.nsIn K mainGlobals c=some (some (.ref C))/\XCls K C/\nQ mg n cv/\W.kitOne K (.ref C) (w8 cv)=some b
def aIQ{f:Addr}{N:List Str}{g:Rho->aG}(F:Fun K x qual st f fd)(S:jC N ps (bG st))(hbody:∀(C:Cw) (cdv:aV3),W.codeIn K cdv qual=true->∀(A:aV5) (outer:List Env) (s:aV4) (H:Hp) (E:XK),C.EE=lE mg E->cA k (A.deeper (envOfC qual (bG st) s.heap.objs.size f cdv))->PBv C (cR (CX1 P w) P w K mg base N qual (bG st) f cdv A outer s H E) (fC st) g):bS P w K mg base (CX1 P w) (k+1) f fd ps (spV K mg ps.length (phi ps.length N.length g)):=by
 obtain⟨oc,od,kV,doc,pm,an,cdv,ct,osl,rfl,lk,hcd⟩:=F.ex;refine fn_of lk hcd S (λvs H Q E h=>h.1) λA outer s H vs Q E hr h=>?_;obtain⟨hl,F0,ds,sF,rl,h⟩:=h;have hl':ds.length=ps.length:=by rw[<- rl.length];exact hl
 let C:Cw:=⟨K,F0,H,lE mg E⟩
 refine⟨_,hbody C cdv hcd A outer s H E rfl hr,f6 N.length ds,F0,wS sF rl,?_⟩;unfold phi at h;rw[if_pos hl']at h;cases er:g (f6 N.length ds)with
 |nx ρ=>rw[er]at h;exact λσ' F' H' _ R=>h.2 .non F' H' R.st v8 (by nofun)
 |rt m d=>rw[er]at h;exact λv F' H' s rp fr=>h.2 v F' H' s rp fr
 |bk ρ=>rw[er]at h;exact h.elim
 |ct ρ=>rw[er]at h;exact h.elim
 |exc c ρ=>rw[er]at h;exact λσ' F' H' _ R u hu=>h F' H' u R.st hu
 |stuck=>rw[er]at h;exact h.elim
noncomputable def fK(ρ:Rho)(i:Nat)(r:Res):aG:=match ρ[i]? with
 |some (some (true,.lst ds))=>(aW r).thS ρ λm d=>match m with|.fz=>if ds.length<sizeLine then .nx (ρ.set i (some (true,.lst (ds++[d]))))else .stuck|_=>.stuck
 |_=>.stuck
def qI{r:Res}{m:Md}{d:D}(h:aW r=.ok m d):m=.fz:=by
 cases r with
 |ok m' d'=>cases m' <;> cases h <;> rfl
 |exc c=>cases h
 |stuck=>cases h
def aIR(i:Nat)(hv:PE X (.Name x p) (gH i))(he:PV C X e g)(hs:bX e=true)(hline:ap.endLine=cp.line):PSv C X (.Expr (.Call (.Attribute (.Name x p) "append" ap) [e] [] cp) pos) (λρ=>fK ρ i (g ρ)):=by
 have h1 := pe_bm (X := X) (o := .Name x p) (e := e) (es := []) (apos := ap) (cpos := cp) PySem.F.plainAttrs_list PySem.F.slot_list_append PySem.F.type_list_append vO hv (kR (fW he) kQ (bU hs)) (nN rfl) (by
     rw[lA _ _ (λy hy=>by simp only[aQU,aT1,aT2]at hy;subst hy;exact hs)];rfl) (aRK.mpr hline) (bU hs) rfl
 refine PS.imp (aDC h1) λE σ H q=>?_;obtain⟨ρ,F,R,w⟩:=q;dsimp only at w;unfold uW tBM;cases e0:ρ[i]? with
 |none=>unfold fK at w;rw[e0]at w;exact w.elim
 |some o =>
  cases o with
  |none=>unfold fK at w;rw[e0]at w;exact w.elim
  |some bd =>
   obtain⟨b,d0⟩:=bd;cases b with
   |false=>unfold fK at w;rw[e0]at w;exact w.elim
   |true =>
    cases d0 with
    |lst ds =>
     unfold fK at w;rw[e0]at w;dsimp only at w;obtain⟨v0,ev0,rp0,hn0⟩:=R.slot i true _ e0;obtain⟨a,ea,hfa,xs,hh,rl⟩:=rp0;subst ea;refine⟨.ref a,ev0,.inl ⟨rfl,xs,SqL.of hh⟩,?_⟩;unfold kP;refine iJ R w λm d v F' H' w' s R' rp fr=>?_;cases m with
     |fr=>exact(show False from w').elim
     |bo=>exact(show False from w').elim
     |fz =>
     dsimp only at w';split at w'
     . rename_i hl;have hh':H' a=some (.lst xs):=s.same _ _ hh;refine⟨a,xs,v,rfl,rfl,hh',by rw[rl.length];exact hl,?_⟩
       exact w' σ F' _ (aD.refl _) (R'.mut e0 ev0 ⟨_,aV,aC.append (rl.mono s.fsame _ _) (aC.cons rp aC.nil)⟩)
     . exact w'.elim
    |_=>unfold fK at w;rw[e0]at w;exact w.elim
def Hld(B:Heap)(l:List Env)(e:Addr)(cls a0:aV3)(h:Heap):Prop:=B.StaysIn h/\B.get? e=none/\h.FunFrames B l/\∃fl,h.TracedAtW B e cls a0 fl
section
variable {M:Model}{A:aV5}{E:VSP}{B:Heap}{L e:Addr}{cls a0:aV3}
def aIS(hfr:A.frames=some (env::outer))(hf:env.frame=some L)(hh:Hld B (env::outer) e cls a0 s.heap)(hQ:∀h',Heap.HeldW B (env::outer) e cls a0 L h'->s.heap.UpToSlots h'->Q () {s with heap:=h'}):wpAny M A (noteFrame (.ref e) env) Q E s:=by
 obtain⟨k1,k2,k3,fl,ht⟩:=hh;by_cases hl:fl=rawInt L
 . subst hl;exact wpAny_noteFrame_againW hf ht (hQ s.heap ⟨k1,k2,k3,ht⟩ (Heap.UpToSlots.refl _))
 obtain⟨oe,xs,T,oT,ys,q1,⟨q2,q3⟩,q4,q5,q6,q7,q8,q9,q10⟩:=ht;subst q2;unfold noteFrame;simp only[hf];refine aRA (aSB q1 q4 q5 ?_);have n1:(Value.ref T != Value.none)=true:=by simp
 have n2:¬ ((fl==rawInt L)=true):=by rw[aRK];exact hl
 rw[if_pos n1];refine aRA (aSB q8 q9 q10 ?_);rw[if_neg n2];obtain⟨lt3,_⟩:=aQQ.mp q10;obtain⟨lt1,_⟩:=aQQ.mp q5;refine aRA (aT3 q8 q9 lt3 ?_);generalize hg:s.heap.update T (Obj.mapFields λz=>z.setIfInBounds 3 Value.none)=g;have oth:∀b,b≠T->g.get? b=s.heap.get? b:=λb hb=>by rw[<- hg];exact aSN _ _ (Ne.symm hb)
 have plain:∀b o,s.heap.get? b=some o->(∀z,o.data ≠ .fields z)->g.get? b=some o:=λb o w1 w2=>by rw[oth b (by rintro rfl;rw[q8]at w1;cases w1;exact w2 ys q9)];exact w1
 have inB:∀b o,B.get? b=some o->g.get? b=some o:=λb o w=>by rw[oth b (by rintro rfl;rw[q6]at w;cases w)];exact k1 b o w
 refine wpAny_entryW (s:={s with heap:=g}) hfr (k3.of_keeps λb o w1 w2=>⟨o,plain b o w1 w2,rfl⟩) hf (by show g.get? e=_;rw[oth e (Ne.symm q7)];exact q1) inB k2 q4 lt1 q3 λh' hn=>?_
 obtain⟨m1,m2,m3,m4⟩:=hn;exact hQ h' ⟨m1,k2,m2,m3⟩ λb o w1 w2=>m4 b o (plain b o w1 w2) w2
def aIT(hfr:A.frames=some (env::outer))(hf:env.frame=some L)(hh:Hld B (env::outer) e cls a0 s.heap)(hQ:∀h',Heap.FlyingW B outer e cls a0 h'->s.heap.UpToSlots h'->Q () {s with heap:=h'}):wpAny M A (leaving env (.ref e)) Q E s:=by
 unfold leaving;refine aRA (aIS hfr hf hh λh4 held up4=>?_);refine wpAny_landsW (s:={s with heap:=h4}) held λh5 fl up5=>?_
 obtain⟨w1,w2,w3,w4⟩:=fl;exact hQ h5 ⟨w1,w2,w3.2.2,w4⟩ (up4.trans up5)
end
def HX1(P:aV7)(w:aV6):CXT:=λouter H s E ev s'=>∃(e C:Addr) (a0:aV3) (H1:Hp) (B:Heap),
 ev=.ref e/\s'.os=s.os/\AllBare s'.gens/\Hld B outer e (.ref C) a0 s'.heap/\Fly P w outer H s H1 B s'.heap/\E (.ref C) none H1
section
variable {N:List Str}{f:Addr}{A:aV5}{E:XK}
def aIU(hE:C.EE=lE mg E):XOk (HX1 P w) C (cR (CX1 P w) P w K mg base N qual scope f cdv A outer s H E):=by intro aA σ H1 s1 ev s' I h;obtain⟨e,Cc,a0,H2,B,rfl,ho,hg,fl,fy,c,hm,he⟩:=h;rw[hE]at he;refine aIT I.ok.frames rfl fl λh' fl' up=>?_;exact⟨e,Cc,a0,H2,B,rfl,ho.trans I.os,hg,fl',fy.out I ho hg rfl rfl rfl fl'.1 up,he _ hm⟩
end
end D3
namespace L2
open D3
end L2
namespace D3
end D3
namespace PySem
open PySem.Sem (wp)
open Builtin
end PySem
namespace L2
end L2
namespace D3
open PySem.Calls
theorem aC.drop{K:Fg}{F:Hp}:∀(n:Nat) {ds:List D}{xs:List V},aC K F ds xs->aC K F (ds.drop n) (xs.drop n)
 |0,_,_,h=>h
 |n+1,[],xs,h=>by simp only[aC]at h;subst h;simp[aC]
 |n+1,d::ds,xs,h=>by simp only[aC]at h;obtain⟨v,vs,rfl,_,t⟩:=h;exact aC.drop n t
theorem aC.take{K:Fg}{F:Hp}:∀(n:Nat) {ds:List D}{xs:List V},aC K F ds xs->aC K F (ds.take n) (xs.take n)
 |0,_,_,_=>by simp[aC]
 |n+1,[],xs,h=>by simp only[aC]at h;subst h;simp[aC]
 |n+1,d::ds,xs,h=>by simp only[aC]at h;obtain⟨v,vs,rfl,r,t⟩:=h;simp only[List.take_succ_cons,aC];exact⟨v,_,rfl,r,aC.take n t⟩
def eV(xs:List D)(lo hi:Option Int):List D:=(xs.drop (HT.sIx xs.length 0 lo)).take (HT.sIx xs.length xs.length hi-HT.sIx xs.length 0 lo)
def aC.cut{F:Hp}(h:aC K F ds xs)(lo hi:Option Int):aC K F (eV ds lo hi) (gI xs lo hi):=by unfold eV gI;rw[h.length];exact(h.drop _).take _
def lF(n:Nat)(lo hi:Option Int):Bool:=HT.sIx n 0 lo==0&&HT.sIx n n hi==n
noncomputable def slP(x:Res)(lo hi:Option (Rho->Res))(ρ:Rho):Res:=x.thn λm d=>match d with
 |.str z=>cU lo ρ λl=>cU hi ρ λh=>.ok .fz (.str (Txt.slice z l h))
 |.lst ds=>cU lo ρ λl=>cU hi ρ λh=>.ok .fr (.lst (eV ds l h))
 |.tup ds=>cU lo ρ λl=>cU hi ρ λh=>if(lF ds.length l h&&m != .fz)=true then .stuck else .ok .fz (.tup (eV ds l h))
 |_=>.stuck
section
variable {a:Expr}
def aIV{lo hi:Option Expr}{gl gh:Option (Rho->Res)}(ha:PV C X a ga)(hl:POv C X lo gl)(hh:POv C X hi gh):PV C X (.Subscript a (.Slice lo hi none p2) pos) (λρ=>slP (ga ρ) gl gh ρ):=by
 refine PE.imp (aER (aGG.or (aE1.or (aES.or aH9))) ha (wF hl) (wF hh)) λσ H Q q=>?_;unfold tSl;rw[aQ]at q ⊢;obtain⟨ρ,F,R,w⟩:=q
 try dsimp only at w
 refine⟨ρ,F,R,?_⟩;cases er:ga ρ with
 |stuck=>rw[er]at w;exact w
 |exc c=>rw[er]at w;exact w
 |ok m d =>
  rw[er]at w;intro v F1 H1 s1 rp _;cases d with
  |str z=>obtain⟨rfl,hz,hk⟩:=rp.str;have w1:aT (C.at X) F1 H1 σ (cU gl ρ λl=>cU gh ρ λh=>.ok .fz (.str (Txt.slice z l h))) Q:=aT.step s1 w;refine jI (R.step s1) w1 λl F2 H2 s2 R2 w2=>jI R2 w2 λh F3 H3 s3 R3 w3=>.inl ?_;exact⟨z,rfl,hz,w3 _ F3 H3 (.refl R3.sub) (jF ⟨aQR (aTI z _ _) hz,aGH hk⟩) (by nofun)⟩
  |lst ds=>have w1:aT (C.at X) F1 H1 σ (cU gl ρ λl=>cU gh ρ λh=>.ok .fr (.lst (eV ds l h))) Q:=aT.step s1 w;refine jI (R.step s1) w1 λl F2 H2 s2 R2 w2=>jI R2 w2 λh F3 H3 s3 R3 w3=>.inr (.inl ?_);obtain⟨p,xs,rfl,hq,rl⟩:=((rp.step s2).step s3).seqL R3.sub;exact⟨p,xs,rfl,hq,λp' hp'=>w3 (.ref p') F3 _ (aH.fresh _ R3.sub hp') ⟨p',rfl,R3.sub.free hp',_,aV,rl.cut l h⟩ λ_ a ea=>by cases ea;exact hp'⟩
  |tup ds =>
   have w1:aT (C.at X) F1 H1 σ (cU gl ρ λl=>cU gh ρ λh=>if(lF ds.length l h&&m != .fz)=true then .stuck else .ok .fz (.tup (eV ds l h))) Q:=aT.step s1 w;refine jI (R.step s1) w1 λl F2 H2 s2 R2 w2=>jI R2 w2 λh F3 H3 s3 R3 w3=>.inr (.inr ?_);obtain⟨p,xs,rfl,hq,rl⟩:=((rp.step s2).step s3).seqT R3.sub;have lw:lF ds.length l h=true↔HT.sIx xs.length 0 l=0/\HT.sIx xs.length xs.length h=xs.length:=by rw[rl.length];unfold lF;simp
   cases hw:lF ds.length l h with
   |true =>
    cases m with
    |fz =>
     rw[hw,if_neg (by decide)]at w3
     have e:=lw.mp hw;have ec:eV ds l h=ds:=by unfold eV;rw[<- rl.length,e.1,e.2,rl.length,List.drop_zero,Nat.sub_zero];exact List.take_length
     rw[ec]at w3;exact .inr ⟨p,xs,rfl,hq,e,w3 (.ref p) F3 H3 (.refl R3.sub) ((rp.step s2).step s3) (by nofun)⟩
    |fr=>rw[hw,if_pos (by decide)]at w3;exact w3.elim
    |bo=>rw[hw,if_pos (by decide)]at w3;exact w3.elim
   |false =>
    rw[hw,if_neg (by simp)]at w3
    refine .inl ⟨p,xs,rfl,hq,λz=>?_,λp' hp'=>w3 (.ref p') _ _ (aH.laid (.tup (gI xs l h)) R3.sub hp') (aB.tup_of (R3.sub.free hp') (rl.cut l h)) (by nofun)⟩
    rw[lw.mpr z]at hw;cases hw
  |_=>exact(show False from w).elim
end
def aIW:PV C X (.Dict [] [] pos) (λ_=>.ok .fr (.dct [])):=by refine PE.imp aE9 λσ H Q q=>?_;rw[aQ]at q;obtain⟨ρ,F,R,w⟩:=q;intro p hp;exact w (.ref p) F _ (aH.fresh _ R.sub hp) ⟨p,rfl,R.sub.free hp,[],aV,by simp[aE]⟩ λ_ a ea=>by cases ea;exact hp
def dF(kvs:List (Key×D))(k:Key):Option D:=(kvs.find? λkv=>decide (kv.1=k)).map (·.2)
theorem aE.val{K:Fg}{F:Hp}:∀{kvs:List (Key×D)}{xs:List (Key×V)} (k:Key),aE K F kvs xs->match dF kvs k with|some d=>∃v,eD xs k=some v/\aB K F d v|none=>eD xs k=none
 |[],xs,k,h=>by simp only[aE]at h;subst h;rfl
 |(k',d)::kvs,xs,k,h=>by
  simp only[aE]at h;obtain⟨y,ys,rfl,r,t⟩:=h;by_cases e:k'=k
  . have e1:dF ((k',d)::kvs) k=some d:=by simp[dF,aSO,e]
    rw[e1];exact⟨y,m8 e,r⟩
  . have e1:dF ((k',d)::kvs) k=dF kvs k:=by simp[dF,aSO,e]
    rw[e1,m9 (p:=(k',y)) e];exact aE.val k t
def aIX{F:Hp}{m n:Md}{y:D}{k:Key}{u:V}(s:aD F H)(rx:Rp K F H m (.dct kvs) v)(ry:Rp K F H n y u)(ek:hG y=some k):∃a xs,v=.ref a/\H a=some (.dK xs)/\aE K F kvs xs/\pP H a u (eD xs k):=by obtain⟨a,xs,rfl,hh,rk⟩:=rx.dict s;exact⟨a,xs,rfl,hh,rk,.inl ⟨xs,k,.inl hh,pX ek ry,rfl⟩⟩
section
variable {a b:Expr}
def lG:List (Md×D)->Option (Md×D)
 |[(_,.dct kvs)]=>some (.fr,.dct kvs)
 |_=>none
def aIY:dR X (.type "dict") lG:=by
 refine⟨λvs H Q=>∃a xs,vs=[.ref a]/\H a=some (.dK xs)/\∀p,H p=none->Q (.ref p) (upd H p (.dK xs)),?_,?_⟩
 . intro aA s σ H vs us Q I r h;obtain⟨a,xs,rfl,hh,q⟩:=h;obtain⟨u,rfl,ru⟩:=eC r;cases(show u=Value.ref a from ru)
   exact vX I (.inl hh) λp s' hp I'=>⟨.ref p,_,I',rfl,q p hp⟩
 . intro F H xs vs k d Q s rx e w;unfold lG at e;split at e
   . rename_i m kvs;cases e;obtain⟨v,rfl,r⟩:=rx.one;obtain⟨a,ys,rfl,hh,rk⟩:=r.dict s;exact⟨a,ys,rfl,hh,λp hp=>w (.ref p) F _ (aH.fresh _ s hp) ⟨p,rfl,s.free hp,ys,aV,rk⟩ λ_ b eb=>by cases eb;exact hp⟩
   . cases e
end
def bH(kvs:List (Key×D))(k:Key)(d:D):List (Key×D):=if(kvs.any λkv=>decide (kv.1=k))=true then kvs.map (λkv=>if kv.1=k then(kv.1,d)else kv)else kvs++[(k,d)]
theorem aE.keys{K:Fg}{F:Hp}:∀{kvs:List (Key×D)}{xs:List (Key×V)},aE K F kvs xs->xs.map (·.1)=kvs.map (·.1)
 |[],xs,h=>by simp only[aE]at h;subst h;rfl
 |(k,d)::kvs,xs,h=>by simp only[aE]at h;obtain⟨y,ys,rfl,_,t⟩:=h;simp[aE.keys t]
theorem aE.snoc{K:Fg}{F:Hp}{k:Key}{d:D}{v:V}(r:aB K F d v):∀{kvs:List (Key×D)}{xs:List (Key×V)},aE K F kvs xs->aE K F (kvs++[(k,d)]) (xs++[(k,v)])
 |[],xs,h=>by simp only[aE]at h;subst h;simp only[aS9,aE];exact⟨v,[],rfl,r,rfl⟩
 |(k',d')::kvs,xs,h=>by simp only[aE]at h;obtain⟨y,ys,rfl,r',t⟩:=h;simp only[aSZ,aE];exact⟨y,_,rfl,r',aE.snoc r t⟩
theorem aE.repl{K:Fg}{F:Hp}{k:Key}{d:D}{v:V}(r:aB K F d v):∀{kvs:List (Key×D)}{xs:List (Key×V)},aE K F kvs xs->aE K F (kvs.map λkv=>if kv.1=k then(kv.1,d)else kv) (xs.map λkv=>if kv.1=k then(kv.1,v)else kv)
 |[],xs,h=>by simp only[aE]at h;subst h;simp[aE]
 |(k',d')::kvs,xs,h=>by
  simp only[aE]at h;obtain⟨y,ys,rfl,r',t⟩:=h;have ih:=aE.repl (k:=k) r t;by_cases e:k'=k
  . simp only[aSS,e,if_true,aE];exact⟨v,_,rfl,r,ih⟩
  . simp only[aSS,e,aSA,aE];exact⟨y,_,rfl,r',ih⟩
def aE.put{F:Hp}{k:Key}{d:D}{xs:List (Key×V)}(h:aE K F kvs xs)(r:aB K F d v):aE K F (bH kvs k d) (cS xs k v):=by
 have e:(xs.any λkv=>decide (kv.1=k))=(kvs.any λkv=>decide (kv.1=k)):=by
  have:=h.keys;have a1:∀{β:Type} (l:List (Key×β)),(l.any λkv=>decide (kv.1=k))=(l.map (·.1)).any (λx=>decide (x=k)):=λl=>by rw[List.any_map];rfl
  rw[a1,a1,this]
 unfold bH cS;rw[e];split
 . exact aE.repl r h
 . exact aE.snoc r h
def aE.len{F:Hp}{xs:List (Key×V)}(h:aE K F kvs xs):xs.length=kvs.length:=by have:=congrArg List.length h.keys;simpa using this
def f7(ρ:Rho)(i:Nat)(rk rv:Res):aG:=match ρ[i]? with
 |some (some (true,.dct kvs))=>(aW rv).thS ρ λm d=>match m with
  |.fz=>rk.thS ρ λ_ kd=>(match hG kd with
   |some k=>if kvs.length<sizeLine then .nx (ρ.set i (some (true,.dct (bH kvs k d))))else .stuck
   |none=>.stuck)
  |_=>.stuck
 |_=>.stuck
section
variable  {gk:Rho->Res}{sp:Pos}
def aIZ(i:Nat)(hu:X.A.units+1<cLine)(hv:PE X (.Name x p) (gH i))(hk:PV C X ke gk)(he:PV C X e g)(hsw:swapsWith e (some (.Subscript (.Name x p) ke sp)) pos.line X.env=pure false):PSv C X (.Assign [.Subscript (.Name x p) ke sp] e pos) (λρ=>f7 ρ i (gk ρ) (g ρ)):=by
 refine PS.imp (aE7 hu hv hk (fW he) hsw) λE σ H q=>?_;obtain⟨ρ,F,R,w⟩:=q;dsimp only at w;unfold vS;cases e0:ρ[i]? with
 |none=>unfold f7 at w;rw[e0]at w;exact w.elim
 |some o =>
  cases o with
  |none=>unfold f7 at w;rw[e0]at w;exact w.elim
  |some bd =>
   obtain⟨b,d0⟩:=bd;cases b with
   |false=>unfold f7 at w;rw[e0]at w;exact w.elim
   |true =>
    cases d0 with
    |dct kvs =>
     unfold f7 at w;rw[e0]at w;dsimp only at w;obtain⟨v0,ev0,rp0,hn0⟩:=R.slot i true _ e0;obtain⟨a,ea,hfa,xs,hh,rk⟩:=rp0;subst ea;refine iJ R w λm d v F' H' w' s R' rp fr=>?_;cases m with
     |fr=>exact(show False from w').elim
     |bo=>exact(show False from w').elim
     |fz =>
     dsimp only at w';refine⟨.ref a,ev0,?_⟩;refine iJ R' w' λm2 kd u F2 H2 w2 s2 R2 rp2 _=>?_;cases ek:hG kd with
     |none=>rw[ek]at w2;exact w2.elim
     |some k =>
      rw[ek]at w2;dsimp only at w2;split at w2
      . rename_i hl;have hh2:H2 a=some (.dK xs):=s2.same _ _ (s.same _ _ hh);refine⟨a,_,rfl,.inl ⟨xs,k,hh2,pX ek rp2,by rw[rk.len];exact hl,rfl⟩,?_⟩
        exact w2 σ F2 _ (aD.refl _) (R2.mut e0 ev0 ⟨_,aV,aE.put (rk.mono (s.fsame.trans s2.fsame) _ _) (aB.mono s2.fsame _ _ rp)⟩)
      . exact w2.elim
    |_=>unfold f7 at w;rw[e0]at w;exact w.elim
end
open PySem.SeqAt PySem.MeetsSeq
def SqT.plain{a:Addr}(I:L2.Inv X aA σ H s)(h:SqT X.K H a xs):∃its:List aV3,aM xs its/\gD s.heap a its.toArray/\xs.length<=sizeLine:=by
 rcases h with h|⟨o,its,n,hk,hc,hd,hs,hz,r⟩
 . obtain⟨z,its,r,p⟩:=h.ok I.hok;exact⟨its,r,p,z⟩
 . exact⟨its.toList,r,⟨o,I.kIn a o hk,hc,hd,n,by simpa using hs⟩,by rw[r.length,aQ2];exact hz⟩
def fL(kb:List (Key×D)):List (Key×D)->Option Bool
 |[]=>some true
 |(k,d)::r=>match dF kb k with
  |none=>some false
  |some e=>(match aZ d,aZ e with
   |some p,some q=>if(fZ p&&fZ q)=true then(fL kb r).map λb=>PyData.eqv p q&&b else none
   |_,_=>none)
def eqN(neg:Bool):Md->D->Md->D->Option (Md×D):=λ_ x _ y=>match x,y with
 |.dct ka,.dct kb=>(fL kb ka).map λr=>(.fz,.bl (if neg then !(ka.length==kb.length&&r)else(ka.length==kb.length&&r)))
 |_,_=>none
theorem xA{aA:LAO}{σ:L2.St}{F H:Hp}{s:aV4}(hu:X.A.units+64<cLine)(I:L2.Inv X aA σ H s)(sF:aD F H){kb:List (Key×D)}{ys:List (Key×V)}{vb:List (Key×aV3)}(rb:aE X.K F kb ys)(kvb:KV ys vb):∀{ka:List (Key×D)}{xs:List (Key×V)}{va:List (Key×aV3)}{r:Bool},aE X.K F ka xs->KV xs va->fL kb ka=some r->W.KeqHits X.A.in1 s vb va r
 |[],xs,va,r,h,kv,e=>by simp only[aE]at h;subst h;cases kv;cases e;exact .nil
 |(k,d)::ka,xs,va,r,h,kv,e=>by
  simp only[aE]at h;obtain⟨y,xs',rfl,ry,t⟩:=h;cases kv with
  |cons h1 t1 =>
   rename_i q1 va';obtain⟨k1,u1⟩:=q1;obtain⟨e1,r1⟩:=h1;dsimp only at e1 r1;subst e1;unfold fL at e;have hv:=aE.val k rb;have hr:=kvb.val k;cases eg:dF kb k with
   |none=>rw[eg]at e hv;cases e;have hv:eD ys k=none:=hv;rw[hv]at hr;exact .miss (cK.none_of hr)
   |some ee =>
    rw[eg]at e hv;obtain⟨v2,ev2,rv2⟩:=hv;rw[ev2]at hr;obtain⟨u2,eu2,ru2⟩:=cK.some_of hr;dsimp only at e;split at e
    . rename_i p q ep eq;split at e
      . rename_i hs;cases eh:fL kb ka with
        |none=>rw[eh]at e;cases e
        |some b=>rw[eh]at e;cases e;rw[aSI]at hs;have hs1:=aTD hs.1;obtain⟨⟨as,ra⟩,ca⟩:=nK I sF d p y u1 ry r1 ep;obtain⟨⟨bs,rb'⟩,cb⟩:=nK I sF ee q v2 u2 rv2 ru2 eq;exact .hit eu2 (aS4 p q X.A.in1 s u1 u2 as bs ra rb' ca cb (by show X.A.units+1+min p.depth q.depth<cLine;have:=aS5 p.depth q.depth;lia)) (xA hu I sF rb kvb t t1 eh)
      . cases e
    . cases e
def xB{f:aV3->aV3->Sem aV3}(hu:X.A.units+64<cLine)(rule:∀(s:aV4) (a b:Addr) (ka kb:List (Key×aV3)) (r:Bool) (Q:VSP),(a==sysModules)=false->(b==sysModules)=false->s.heap.DictOf (cC X.prog X.w) a ka->s.heap.DictOf (cC X.prog X.w) b kb->(ka.length=kb.length->W.KeqHits X.A.in1 s kb ka r)->Q (.bool (if neg then !(ka.length==kb.length&&r)else(ka.length==kb.length&&r))) s->wpAny (model X.prog X.w) X.A (f (.ref a) (.ref b)) Q X.xe s):OpD C X f (eqN neg):=by
 refine⟨λx y H Q=>∃F m n ka kb r,aD F H/\Rp X.K F H m (.dct ka) x/\Rp X.K F H n (.dct kb) y/\fL kb ka=some r/\Q (.bl (if neg then !(ka.length==kb.length&&r)else(ka.length==kb.length&&r))) H,?_,?_⟩
 . intro aA s σ H x y v u Q I rx ry h;obtain⟨F,m,n,ka,kb,r,sF,hd,he,eh,hQ⟩:=h;obtain⟨a,xs,rfl,ha,ra⟩:=hd.dict sF;obtain⟨b,ys,rfl,hb,rb⟩:=he.dict sF;cases rx;cases ry;obtain⟨_,sa,va,rva,da⟩:=nC I.hok ha;obtain⟨_,sb,vb,rvb,db⟩:=nC I.hok hb;have la:va.length=ka.length:=by rw[<- ra.len];exact(aQI rva).symm
   have lb:vb.length=kb.length:=by rw[<- rb.len];exact(aQI rvb).symm
   refine rule s a b va vb r _ sa sb da db (λ_=>xA hu I sF rb rvb ra rva eh) ⟨.bl _,H,I,rfl,?_⟩;rw[la,lb];exact hQ
 . intro F H m x n y v u k d Q s rx ry e w;unfold eqN at e;split at e
   . rename_i ka kb;cases eh:fL kb ka with
     |none=>rw[eh]at e;cases e
     |some r=>rw[eh]at e;cases e;exact⟨F,m,n,ka,kb,r,s,rx,ry,eh,w _ F H (.refl s) (dQ _) (by nofun)⟩
   . cases e
theorem xC(hu:X.A.units+64<cLine):OpD C X (compareOp .Eq) (eqN false):=xB hu λs a b ka kb r Q sa sb da db hits q=>W.keq_eq sa sb da db (by lia) hits q
theorem xD(hu:X.A.units+64<cLine):OpD C X (compareOp .NotEq) (eqN true):=xB hu λs a b ka kb r Q sa sb da db hits q=>W.keq_ne sa sb da db (by lia) hits q
def TabE(w:aV6)(K:Fg):List (Str×Str)->List DictEntry->Prop
 |[],es=>es=[]
 |(z,f)::r,es=>∃t a es',es=⟨PyData.keyHash w.params z,.str z t,.ref a⟩::es'/\W.nsIn K mainGlobals f=some (some (.ref a))/\TabE w K r es'
structure jR(w:aV6)(K:Fg)(mg:SOV)(x:Str)(tb:List (Str×Str)):Prop where
 ex:∃a ob es ep,mg x=some (.ref a)/\K.lookup a=some ob/\ob.ExactDict/\ob.data=.dict es ep/\TabE w K tb es.toList
 nd:(tb.map (·.1)).Nodup
def aS.frz{F:Hp}(R:aS K F0 H0 F H σ ρ){d:D}(e:ρ[i]? = some (some (true,d))):∃F',aD F F'/\aS K F0 H0 F' H σ (ρ.set i (some (false,d))):=by
 obtain⟨v,ev,rp,hn⟩:=R.slot i true d e;obtain⟨x,rfl,nx,t⟩:=rp;obtain⟨o,ho,r⟩:=t.freeze nx;have sm:aD F (upd F x o):=λb u q=>by rw[aJ (bN q nx)];exact q
 have hi:i<ρ.length:=(aQX.mp e).1;refine⟨upd F x o,sm,R.st.freeze (hn rfl x rfl) nx ho,λj m d' ej=>?_,λj k d1 d2 a hjk e1 e2 q1 q2=>?_,by rw[aTL];exact R.len⟩
 . by_cases hj:j=i
   . subst hj;rw[aQY hi]at ej;cases ej;exact⟨.ref x,ev,r,by nofun⟩
   . rw[aQZ (λz=>hj z.symm)]at ej;obtain⟨v',ev',rp',hn'⟩:=R.slot j m d' ej;refine⟨v',ev',?_,hn'⟩;cases m with
     |false=>exact aB.mono sm _ _ rp'
     |true =>
      obtain⟨a,rfl,na,t'⟩:=rp';have ax:a≠x:=λz=>by subst z;exact R.apart j i d' d a hj ej e ev' ev
      refine⟨a,rfl,by rw[aJ ax];exact na,?_⟩
      cases d' with
      |lst ds=>obtain⟨xs,q,rr⟩:=t';exact⟨xs,q,rr.mono sm _ _⟩
      |dct ds=>obtain⟨xs,q,rr⟩:=t';exact⟨xs,q,rr.mono sm _ _⟩
      |ins c fs=>obtain⟨C,dx,gs,n,q,rr⟩:=t';exact⟨C,dx,gs,n,q,rr.mono sm _ _⟩
      |set ks=>obtain⟨S,q,rr⟩:=t';exact⟨S,q,rr⟩
      |dtn ds=>obtain⟨xs,q,rr⟩:=t';exact⟨xs,q,rr.mono sm _ _⟩
      |_=>exact t'.elim
 . have own:∀{j:Nat}{d1:D},(ρ.set i (some (false,d)))[j]? = some (some (true,d1))->ρ[j]? = some (some (true,d1)):=λ{j d1} z=>by
     by_cases hj:j=i
     . subst hj;rw[aQY hi]at z;cases z
     . rw[aQZ (λy=>hj y.symm)]at z;exact z
   exact R.apart j k d1 d2 a hjk (own e1) (own e2) q1 q2
def jS(ρ:Rho)(i:Nat):aG:=match ρ[i]? with
 |some (some (true,d))=>.nx (ρ.set i (some (false,d)))
 |_=>.stuck
def aI0{g:Rho->aG}(h:PBv C X sts g):PBv C X sts (λρ=>(jS ρ i).thn g):=by
 refine PSs.imp h λE σ H q=>?_;obtain⟨ρ,F,R,w⟩:=q;dsimp only at w;unfold jS at w;split at w
 . rename_i d e;obtain⟨F',sm,R'⟩:=R.frz e;exact⟨_,F',R',bW.mono sm w⟩
 . exact w.elim
def Ent(w:aV6):List Str->List (Int×aV3)->Prop
 |[],l=>l=[]
 |x::xs,l=>∃t r,l=(hashStr w x,.str x t)::r/\Ent w xs r
def dG(w:aV6):Bool:=w.params.followText "set-order"
def SetX(w:aV6)(h:Heap)(a:Addr)(xs:List Str):Prop:=∃o es ep t,h.get? a=some o/\o.ExactSet/\o.data=.set es ep t/\Ent w xs es.toList/\xs.Nodup/\xs.length<scanBound/\t.fits es.size=true/\t.led = !dG w/\(xs=[]\/t.plain=false)
def lH:plainId "set.update.loop" = true:=by decide +kernel
def qJ:entryFor table "set.update.loop" = some Builtin.«set.update.loop»:=entryFor_of_tree (by kernel_rfl)
def aI1(a:aV3):checkTypeCall "set" ⟨[a],[]⟩=pure ():=by kernel_rfl
def aI2(a:aV3):checkBuiltinCall "set.__new__" ⟨[.type "set", a],[]⟩=pure ():=by kernel_rfl
def sob(w:aV6):Obj:={ cls:=.type "set", dict:=none,data:=.set #[] 0 (.fresh 0 0 (!dG w)) }
section
variable {A:aV5}{E:VSP}
def aI3(v:aV3){Q1:VSP}(h:Q1 (.ref s.heap.objs.size) {s with heap:=s.heap.push (sob w)}):codeAny (model prog w) A (.call (.builtin "set.__new__") ⟨[.type "set", v],[]⟩) (wants Q1 E) s:=by
 refine codeAny_call_builtin_code (aT4 PySem.F.plain_set_new _) (wpAny_of_eq (aI2 v) (aT5 PySem.F.entry_set_new ?_));rw[aT6 PySem.F.plain_set_new _];have sub:=sub_set_self;obtain⟨hp,g,d,tk,os⟩:=s;unfold Builtin.«set.__new__» Builtin.Frozenset.newClass;dsimp only
 wp_walk
 refine aT7 (aQ9 ?_);dsimp only;simp only[newObj];exact aRA (wpAny_alloc (aQ9 (aQ9 h)))
def aI4{M:Model}{self v:aV3}(ty:s.TypeIs self "set")(q:Q () s):wpAny M A (checkBuiltinCall "set.__init__" ⟨[self,v],[]⟩) Q E s:=by
 unfold checkBuiltinCall;simp only[kind_set_init,split_set_init,sig_set_init];refine aRA (aS6 ty sub_set_self ?_);simp only[aS7,aS8,↓reduceIte];unfold Bind.checkArgs;dsimp only;refine aRA (m:=Bind.printed "set" true _ _) (printed_name (by decide) (aRA (m:=Bind.printed "*" false _ _) (printed_star (self:=self) rfl ty λsh=>?_)))
 have e1:(if(Manifest.Receiver.self==Manifest.Receiver.none)=true then[self,v].length else[self,v].length-1)=1:=rfl;rw[e1,aST,show Bind.check ⟨.positional,"set", "*", .self,[⟨"iterable", .posOnly,false⟩]⟩ "set" sh 1 []=pure ()from by kernel_rfl]
 exact aQ9 q
end
def Small(m:Nat):Prop:=m=7\/m=15\/m=31
def SetM(w:aV6)(h:Heap)(a:Addr)(xs:List Str):Prop:=∃o es ep t,h.get? a=some o/\o.ExactSet/\o.data=.set es ep t/\Ent w xs es.toList/\xs.Nodup/\xs.length<scanBound/\t.fits es.size=true/\t.led = !dG w/\(xs=[]\/t.plain=false)/\Small t.mask/\t.dummies = #[]
theorem qK{α:Type}:∀{l:List α}{i:Nat} (h:i<l.length),(l[i]::l.eraseIdx i).Perm l
 |[],i,h=>by simp at h
 |a::l,0,h=>.refl _
 |a::l,i+1,h=>by
  have hi:i<l.length:=by simpa using h
  exact(List.Perm.swap a l[i] _).trans ((qK hi).cons a)
theorem xE{α:Type}{next:Nat->Nat}:∀{f k:Nat}{left:List α}{out:Array α},left.length=f->(pickOrder.go next f k left out).toList.Perm (out.toList++left)
 |0,k,left,out,h=>by have:left=[]:=List.length_eq_zero_iff.mp h;subst this;unfold pickOrder.go;simp
 |f+1,k,left,out,h=>by
  have hl:next k % left.length<left.length:=Nat.mod_lt _ (by lia)
  unfold pickOrder.go;rw[aTP hl];dsimp only;refine(xE (by rw[List.length_eraseIdx,if_pos hl];lia)).trans ?_
  rw[Array.toList_push,aT8];exact List.Perm.append_left _ (qK hl)
def nR{next:Nat->Nat}{xs:Array α}:(pickOrder next xs).toList.Perm xs.toList:=by unfold pickOrder;simpa using xE (next:=next) (f:=xs.size) (k:=0) (left:=xs.toList) (out:=#[]) rfl
section
variable {A:aV5}{E:VSP}
def iN{Q:Bool->aV4->Prop}(q:Q (dG w) s):wpAny (model prog w) A setsByText Q E s:=by unfold setsByText;exact aRA (aT7 (aQ9 q))
def Wide(h:Heap)(a:Addr)(n:Nat):Prop:=∀o es ep t,h.get? a=some o->o.data=.set es ep t->n<=t.mask
end
def fM:Slot "set_iterator" "__next__" "set_iterator.__next__" := .of (owner := "set_iterator") (n := "__next__") (by rw[typeLookup_type,builtinLookup_eq_fast];kernel_rfl) (by decide +kernel) (by decide +kernel) (by decide +kernel) (by first|exact .inl (by decide +kernel)|exact .inr (by decide +kernel)) (by rw[aT9];kernel_rfl)
def nS:entryFor table "set_iterator.__next__" = some Builtin.«set_iterator.__next__»:=entryFor_of_tree (by kernel_rfl)
def xF:Manifest.owners.lookup (String.ofList "rotareti_tes".toList.reverse)=some Manifest.sig_set_iterator:=by kernel_rfl
def nU(a:aV3):argsOk "set_iterator.__next__" ⟨[a],[]⟩:=by unfold argsOk;rw[signature?_of (id := "set_iterator.__next__") (n := "__txen__".toList) (o := "rotareti_tes".toList) (by kernel_rfl) xF];kernel_rfl
def xG:Slot "set_iterator" "__iter__" "set_iterator.__iter__" := .of (owner := "set_iterator") (n := "__iter__") (by rw[typeLookup_type,builtinLookup_eq_fast];kernel_rfl) (by decide +kernel) (by decide +kernel) (by decide +kernel) (by first|exact .inl (by decide +kernel)|exact .inr (by decide +kernel)) (by rw[aT9];kernel_rfl)
def aI5(a:aV3):argsOk "set_iterator.__iter__" ⟨[a],[]⟩:=by unfold argsOk;rw[signature?_of (id := "set_iterator.__iter__") (n := "__reti__".toList) (o := "rotareti_tes".toList) (by kernel_rfl) xF];kernel_rfl
def aI6:entryFor table "set.__iter__" = some Builtin.«frozenset.__iter__»:=entryFor_alias (id' := "frozenset.__iter__") (by kernel_rfl) rfl (by decide +kernel) (by kernel_rfl)
def aI7:entryFor table "set_iterator.__iter__" = some Builtin.«dict_keyiterator.__iter__»:=entryFor_alias (id' := "dict_keyiterator.__iter__") (by kernel_rfl) rfl (by decide +kernel) (by kernel_rfl)
def SIt(h:Heap)(I a:Addr)(f:aV3)(i n ep:Nat):Prop:=∃o,h.get? I=some o/\o.cls=.type "set_iterator" /\ o.data=.fields #[f,.int i 0,.ref a,.int n 0,.int ep 0]
def SIt.ty{a:Addr}{f:aV3}(x:SIt s.heap I a f i n ep):s.TypeIs (.ref I) "set_iterator" := let⟨o,h1,h2,_⟩:=x;⟨o,h1,h2⟩
def SIt.at{a:Addr}{f:aV3}(x:SIt h I a f i n ep)(k:∀o,h.get? I=some o->h'.get? I=some o):SIt h' I a f i n ep:=let⟨o,h1,r⟩:=x;⟨o,k o h1,r⟩
section
variable {A:aV5}{E:VSP}{a:Addr}{o:Obj}{es:Array (Int×aV3)}{t:SetTable}
def qL{f:aV3}{Q:VSP}(x:SIt s.heap I a f i n ep)(q:Q (.ref I) s):wpAny (model prog w) A (pyIter (.ref I)) Q E s:=by refine aUA x.ty xG (aSG xG x.ty aI7 ?_ (aI5 _));show wpAny _ _ (ret (.ref I)) _ _ s;exact aQ9 ⟨_,rfl,"set_iterator", _,x.ty,fM.lookup,q⟩
def aI8 {β : Type} {m : Sem β} {f f' : aV3} {o : Obj} (h0 : s.heap.get? I = some o) (hc : o.cls = .type "set_iterator") (hd : o.data = .fields #[f, .int i 0, .ref a, .int n 0, .int ep 0]) {Q : β → aV4 → Prop}
    (q:∀h',Heap.SameBut I s.heap h'->SIt h' I a f' (i+1) n ep->wpAny (model prog w) A m Q E {s with heap:=h'}):wpAny (model prog w) A (do setField (.ref I) 0 f';setField (.ref I) 1 (rawInt (i+1));m) Q E s:=by
 refine aRA (aT3 h0 hd (by simp) ?_)
 have g1:=aUB (Obj.mapFields (·.setIfInBounds 0 f')) h0 (aUC (aUD hd _));have d1:=aUD hd (·.setIfInBounds 0 f');refine aRA (aT3 (s:={s with heap:=s.heap.update I (Obj.mapFields (·.setIfInBounds 0 f'))}) g1 d1 (by simp) (q _ ((aUE _ I _).trans (aUE _ I _)) ?_))
 refine⟨_,aUB _ g1 (aUC (aUD d1 _)),(aUF ..).trans ((aUF ..).trans hc),?_⟩;rw[aUD d1];simp[rawInt]
def aI9{f:aV3}{o:Obj}(h0:s.heap.get? I=some o)(hc:o.cls=.type "set_iterator")(hd:o.data=.fields #[f,.int i 0,.ref a,.int n 0,.int ep 0])(q:∀h',Heap.SameBut I s.heap h'->SIt h' I a f (i+1) n ep->Q () {s with heap:=h'}):wpAny (model prog w) A (setField (.ref I) 1 (rawInt (i+1))) Q E s:=by
 refine aT3 h0 hd (by simp) (q _ (aUE _ I _) ⟨_,aUB _ h0 (aUC (aUD hd _)),(aUF ..).trans hc,?_⟩)
 rw[aUD hd];simp[rawInt]
def xH {P : PySem.Fin → aV4 → Prop} {Q : Option aV3 → aV4 → Prop} (hh : A.handled = none) (q : ∀ h', (∀ b o, s.heap.get? b = some o → h'.get? b = some o) → Q none { s with heap := h' }) :
    wpAny (model prog w) A.in1 (do let e <- newExc (.type "StopIteration") [];raiseNew e) P (λe s'=>wpAny (model prog w) A (do let c <- isInstance e (.type "StopIteration");if c=true then pure none else throw e) Q E s') s:=by
 refine aRA ?_;simp only[newExc,newTuple];refine aRA (aSJ (aRA (m:=firstArgMember _ _) (wpAny_of_eq (a:=Value.none) (by first|rfl|(simp only[firstArgMember];rfl)) (aSJ ?_ (by size_fits)))) (by size_fits))
 simp only[raiseNew];refine aRA (wpAny_handled ?_);rw[show A.in1.handled=none from hh]
 refine aRA (aQ9 (wpAny_throw (aRA ?_)));exact aS6 (T := "StopIteration") (b:=true) ⟨_,aQK _ rfl,rfl⟩ isSubtype_stop (aQ9 (q _ λb o e=>hps (hps e)))
def xI{k':Nat}{x:aV3}{Q:Option aV3->aV4->Prop}(X:SIt s.heap I a (.int k 0) i es.size ep)(ho:s.heap.get? a=some o)(hd:o.data=.set es ep t)(hf:t.fits es.size=true)(hn:∀{A':aV5}{E':VSP}{Q':Option (aV3×Nat)->aV4->Prop},Q' (some (x,k')) s->wpAny (model prog w) A' (setNext a k i ep) Q' E' s)(q:∀h',Heap.SameBut I s.heap h'->SIt h' I a (.int k' 0) (i+1) es.size ep->Q (some x) {s with heap:=h'}):wpAny (model prog w) A (pyNext (.ref I)) Q E s:=by obtain⟨oI,h0,hc,hdI⟩:=id X;unfold pyNext;refine aRA (aUG (aSE (name:=Str.ofString "__next__") X.ty fM (aSG fM X.ty nS ?_ (nU _))));unfold Builtin.«set_iterator.__next__»;refine aRA (m:=slotArgs _ _ _) (aQ9 (aRA (aUH h0 hdI ?_)));dsimp only;refine aRA (aUI ho hd hf ?_);simp only[aUJ,aS8,↓reduceIte,aUK];refine aRA (hn ?_);dsimp only;exact aI8 h0 hc hdI λh' sb X'=>aQ9 ⟨_,rfl,aQ9 (q h' sb X')⟩
def xJ{Q:Option aV3->aV4->Prop}(hh:A.handled=none)(X:SIt s.heap I a (.int k 0) i es.size ep)(ho:s.heap.get? a=some o)(hd:o.data=.set es ep t)(hf:t.fits es.size=true)(hn:∀{A':aV5}{E':VSP}{Q':Option (aV3×Nat)->aV4->Prop},Q' none s->wpAny (model prog w) A' (setNext a k i ep) Q' E' s)(q:∀h',(∀b o,b≠I->s.heap.get? b=some o->h'.get? b=some o)->Q none {s with heap:=h'}):wpAny (model prog w) A (pyNext (.ref I)) Q E s:=by
 obtain⟨oI,h0,hc,hdI⟩:=id X;unfold pyNext;refine aRA (aUG (aSE (name:=Str.ofString "__next__") X.ty fM (aSG fM X.ty nS ?_ (nU _))));unfold Builtin.«set_iterator.__next__»;refine aRA (m:=slotArgs _ _ _) (aQ9 (aRA (aUH h0 hdI ?_)));dsimp only;refine aRA (aUI ho hd hf ?_);simp only[aUJ,aS8,↓reduceIte,aUK];refine aRA (hn ?_);dsimp only;refine aRA (aT3 h0 hdI (by simp) (xH hh λh' k'=>q h' λb o' nb e=>k' b o' ?_))
 exact(aUE s.heap I _).extBut b o' nb e
def aJA{ps:Array aV3}{p:Nat}{u:Tok}{hx:Int}{x:aV3}{Q:Option aV3->aV4->Prop}(X:SIt s.heap I a (.ref tp) i es.size ep)(ht:s.heap.IsTuple tp ps)(hp:ps[i]? = some (.int p u))(ho:s.heap.get? a=some o)(hd:o.data=.set es ep t)(hf:t.fits es.size=true)(hx:es[p]? = some (hx,x))(q:∀h',Heap.SameBut I s.heap h'->SIt h' I a (.ref tp) (i+1) es.size ep->Q (some x) {s with heap:=h'}):wpAny (model prog w) A (pyNext (.ref I)) Q E s:=by obtain⟨oI,h0,hc,hdI⟩:=id X;obtain⟨ot,hot,hct,nt,hdt⟩:=ht;unfold pyNext;refine aRA (aUG (aSE (name:=Str.ofString "__next__") X.ty fM (aSG fM X.ty nS ?_ (nU _))));unfold Builtin.«set_iterator.__next__»;refine aRA (m:=slotArgs _ _ _) (aQ9 (aRA (aUH h0 hdI ?_)));dsimp only;refine aRA (aUI ho hd hf ?_);simp only[aUJ,aS8,↓reduceIte,aUK];refine aRA (wpAny_seqItems hot hdt ?_);dsimp only;rw[hp];dsimp only;unfold setNextDrawn;refine aRA (aRA (aUL ho hd hf ?_));simp only[aUJ,aS8,↓reduceIte,aUK,hx];refine aQ9 (aRA (aI9 h0 hc hdI λh' sb X'=>aQ9 ⟨_,rfl,aQ9 (q h' sb X')⟩))
def aJB{ps:Array aV3}{Q:Option aV3->aV4->Prop}(hh:A.handled=none)(X:SIt s.heap I a (.ref tp) i es.size ep)(ht:s.heap.IsTuple tp ps)(hp:ps[i]? = none)(ho:s.heap.get? a=some o)(hd:o.data=.set es ep t)(hf:t.fits es.size=true)(q:∀h',(∀b o,b≠I->s.heap.get? b=some o->h'.get? b=some o)->Q none {s with heap:=h'}):wpAny (model prog w) A (pyNext (.ref I)) Q E s:=by
 obtain⟨oI,h0,hc,hdI⟩:=id X;obtain⟨ot,hot,hct,nt,hdt⟩:=ht;unfold pyNext;refine aRA (aUG (aSE (name:=Str.ofString "__next__") X.ty fM (aSG fM X.ty nS ?_ (nU _))));unfold Builtin.«set_iterator.__next__»;refine aRA (m:=slotArgs _ _ _) (aQ9 (aRA (aUH h0 hdI ?_)));dsimp only;refine aRA (aUI ho hd hf ?_);simp only[aUJ,aS8,↓reduceIte,aUK];refine aRA (wpAny_seqItems hot hdt ?_);dsimp only;rw[hp];dsimp only;refine aRA (aT3 h0 hdI (by simp) ?_)
 have g1:=aUB (Obj.mapFields (·.setIfInBounds 0 (rawInt 0))) h0 (aUC (aUD hdI _));have d1:=aUD hdI (·.setIfInBounds 0 (rawInt 0));refine aRA (aT3 (s:={s with heap:=s.heap.update I (Obj.mapFields (·.setIfInBounds 0 (rawInt 0)))}) g1 d1 (by simp) (xH hh λh' k'=>q h' λb o' nb e=>k' b o' ?_))
 exact(aUE _ I _).extBut b o' nb ((aUE s.heap I _).extBut b o' nb e)
end
section
variable {A:aV5}{E:VSP}
def aJC{M:Model}{src:Source}{Q:Nat->aV4->Prop}(hn:n≠0)(h:∀i,i<n->Q i {s with drawn:=s.drawn.bump src}):wpAny M A (choose src n) Q E s :=
 λ_ _ _=>⟨hn,h _ (Nat.mod_lt _ (Nat.pos_of_ne_zero hn))⟩
theorem xK{M:Model}{α:Type}:∀{n:Nat}{l:List α}{s:aV4}{Q:List α->aV4->Prop},l.length=n->(∀d l',l'.Perm l->Q l' {s with drawn:=d})->wpAny M A (drawOrder n l) Q E s
 |0,l,s,Q,hl,h=>by have:l=[]:=List.length_eq_zero_iff.mp hl;subst this;unfold drawOrder;exact aQ9 (h s.drawn [] (.refl _))
 |n+1,[],s,Q,hl,h=>by cases hl
 |n+1,x::l,s,Q,hl,h=>by
  unfold drawOrder;refine aRA (aJC (by simp) λi hi=>?_)
  rw[aTP hi];dsimp only;refine aRA (xK (by rw[List.length_eraseIdx,if_pos hi];lia) λd l' p=>aQ9 (h d _ ?_))
  exact(p.cons _).trans (qK hi)
variable  {a:Addr}{o:Obj}{es:Array (Int×aV3)}{t:SetTable}
def aJD(hh:A.handled=none)(hne:a≠I)(hd:o.data=.set es ep t)(hf:t.fits es.size=true)(bt:dG w=true):Walks prog w A I [I,a] [I] es.size (λi v=>((pickOrder (w.params.setOrder a ep) es).map (·.2))[i]? = some v) (λi h=>SIt h I a (.int (0:Nat) 0) i es.size ep/\h.get? a=some o) where
 sub:=λb hb=>by simp at hb;simp[hb]
 frame:=λ_ _ _ st hk=>⟨st.1.at λo e=>hk I (by simp) o e,hk a (by simp) o st.2⟩
 item:=λi s Q E hi st hQ=>by
  have hz:(pickOrder (w.params.setOrder a ep) es).size=es.size:=by rw[<- aQ2,nR.length_eq,aQ2]
  have hx:(pickOrder (w.params.setOrder a ep) es)[i]? = some (pickOrder (w.params.setOrder a ep) es)[i]:=aUM (by rw[hz];exact hi)
  refine xI (k:=0) (k':=0) st.1 st.2 hd hf (x:=((pickOrder (w.params.setOrder a ep) es)[i]).2) (λ{A' E' Q'} q=>?_) λh' sb X'=>?_
  . unfold setNext setWalk;refine aRA (aUL st.2 hd hf (aRA (iN ?_)));simp only[bt,↓reduceIte,aUJ,aS8];refine aRA (aRA (aUL st.2 hd hf (aRA (iN ?_))));simp only[bt,↓reduceIte];refine aRA (aT7 (aQ9 (aQ9 ?_)));show Q' (Option.map _ (pickOrder (w.params.setOrder a ep) es)[i]?) _;rw[hx];exact q
  . exact hQ _ h' s.toks (by rw[Array.getElem?_map,hx];rfl) ⟨X',sb.extBut a o hne st.2⟩ λb o' hb e=>sb.extBut b o' (λh=>hb (by simp[h])) e
 done:=λs Q E st hQ=>by
  have hz:(pickOrder (w.params.setOrder a ep) es).size=es.size:=by rw[<- aQ2,nR.length_eq,aQ2]
  have hx:(pickOrder (w.params.setOrder a ep) es)[es.size]? = none:=aUN (by rw[hz];exact aRD _)
  refine xJ (k:=0) hh st.1 st.2 hd hf (λ{A' E' Q'} q=>?_) λh' kp=>hQ h' s.toks λb o' hb e=>kp b o' (λh=>hb (by simp[h])) e
  unfold setNext setWalk;refine aRA (aUL st.2 hd hf (aRA (iN ?_)));simp only[bt,↓reduceIte,aUJ,aS8];refine aRA (aRA (aUL st.2 hd hf (aRA (iN ?_))));simp only[bt,↓reduceIte];refine aRA (aT7 (aQ9 (aQ9 ?_)));show Q' (Option.map _ (pickOrder (w.params.setOrder a ep) es)[es.size]?) _;rw[hx];exact q
 self:=λ_ _ _ _ st hQ=>qL st.1 hQ
def aJE{ps:Array aV3}(hh:A.handled=none)(hne:a≠I)(hnt:tp≠I)(hd:o.data=.set es ep t)(hf:t.fits es.size=true){qs:List Nat}(hq:ps=(qs.map λ(i:Nat)=>rawInt i).toArray)(hp:qs.Perm (List.range es.size)):Walks prog w A I [I,a,tp] [I] es.size (λi v=>∃p hx,qs[i]? = some p/\es[p]? = some (hx,v)) (λi h=>SIt h I a (.ref tp) i es.size ep/\h.get? a=some o/\h.IsTuple tp ps) where
 sub:=λb hb=>by simp at hb;simp[hb]
 frame:=λ_ _ _ st hk=>⟨st.1.at λo e=>hk I (by simp) o e,hk a (by simp) o st.2.1,st.2.2.at λo e=>hk tp (by simp) o e⟩
 item:=λi s Q E hi st hQ=>by
  have hz:qs.length=es.size:=by rw[hp.length_eq,aUO]
  have hi':i<qs.length:=by rw[hz];exact hi
  have hx:qs[i]? = some qs[i]:=aTP hi';have hm:qs[i]<es.size:=aQP.mp (hp.mem_iff.mp (aUP hi'));have he:es[qs[i]]? = some (es[qs[i]].1,es[qs[i]].2):=aUM hm;refine aJA st.1 st.2.2 (p:=qs[i]) (u:=0) (by rw[hq,aUQ,aRZ,hx];rfl) st.2.1 hd hf he λh' sb X'=>?_
  exact hQ _ h' s.toks ⟨_,_,hx,he⟩ ⟨X',sb.extBut a o hne st.2.1,st.2.2.extBut sb.extBut hnt⟩ λb o' hb e=>sb.extBut b o' (λh=>hb (by simp[h])) e
 done:=λs Q E st hQ=>by
  have hz:qs.length=es.size:=by rw[hp.length_eq,aUO]
  refine aJB hh st.1 st.2.2 (by rw[hq,aUQ,aRZ,aUR (by rw[hz];exact aRD _)];rfl) st.2.1 hd hf λh' kp=>hQ h' s.toks λb o' hb e=>kp b o' (λh=>hb (by simp[h])) e
 self:=λ_ _ _ _ st hQ=>qL st.1 hQ
def qM{wr:List Addr}{n':Nat}{P P':Nat->aV3->Prop}{St:Nat->Heap->Prop}(W:Walks prog w A I fp wr n P St)(e:n=n')(h:∀i v,P i v->P' i v):Walks prog w A I fp wr n' P' St:=by subst e;exact⟨W.sub,W.frame,λi s Q E hi st hQ=>W.item i s Q E hi st λv h' tk p=>hQ v h' tk (h i v p),W.done,W.self⟩
end
section
variable {A:aV5}{E:VSP}{a:Addr}{xs:List Str}
def aJF{Q:Bool->aV4->Prop}(ty:s.TypeIs (.ref a) "set")(q:Q false s):wpAny (model prog w) A (Builtin.List.listLengthHint (.ref a)) Q E s:=by
 unfold Builtin.List.listLengthHint;refine aRA (aS1 ty PySem.F.slot_set_len.lookup ?_);generalize hi:("set.__len__":String)=j
 wp_delta
 rw[show splitId j=some ("set", "__len__")from by subst hi;decide +kernel]
 subst hi;refine aRA (aS6 ty sub_set_self ?_);refine aUS (λx=>absurd x (by decide)) (λ_=>aUS (λ_=>?_) (λx=>absurd (by decide +kernel) x))
 exact aRA (aSH ty (aQ9 q))
theorem aJG{items:List aV3}{acc:Array aV3}(h:ItemsOf (λi v=>items[i]? = some v) acc items.length):acc.toList=items:=by
 apply List.ext_getElem?;intro j;by_cases hj:j<items.length
 . have e1:acc[j]? = some (acc[j]'(by rw[h.1];exact hj)):=aUM _
   rw[aUT,e1];exact(h.2 j _ e1).symm
 . have z1:acc.toList.length=items.length:=by rw[aQ2];exact h.1
   rw[aUR (l:=acc.toList) (by lia),aUR (l:=items) (by lia)]
end
noncomputable def lts(x y:Str):Bool:=ltCps x.cps.toList y.cps.toList
def jT{y:Str}:lts x y=true↔x.cps.toList<y.cps.toList:=by unfold lts;rw[ltCps_eq,aTC]
def nV(x:Str):lts x x=false:=by
 cases h:lts x x with
 |false=>rfl
 |true=>exact absurd (jT.mp h) (List.lt_irrefl _)
def qN{y:Str}(a:lts x y=true)(b:lts y z=true):lts x z=true:=jT.mpr (List.lt_trans (jT.mp a) (jT.mp b))
def qO{y:Str}(a:lts x y=false)(b:lts y x=false):x=y:=by
 have h1:¬ x.cps.toList<y.cps.toList:=λh=>by rw[jT.mpr h]at a;cases a
 have h2:¬ y.cps.toList<x.cps.toList:=λh=>by rw[jT.mpr h]at b;cases b
 have e:=List.le_antisymm (List.not_lt.mp h2) (List.not_lt.mp h1);cases x;cases y;exact congrArg Str.mk (Array.ext' e)
theorem xL:∀{l:List Str}{p:Str},risingS p l=true->∀x∈l,lts x p=false
 |y::l,p,h,x,hx=>by
  have h:(!lts y p&&risingS y l)=true:=h;rw[aSI,aUU]at h;rcases aQU.mp hx with rfl|hx
  . exact h.1
  . have h2:=xL h.2 x hx;cases q:lts x p with
    |false=>rfl
    |true =>
     cases q2:lts p y with
     |true=>rw[qN q q2]at h2;cases h2
     |false=>have:=qO q2 h.1;subst this;rw[q]at h2;cases h2
def sx(w:aV6)(l:Addr)(ys:List Str):HO:=.ext λh=>SetX w h l ys
theorem xM:∀{ys:List Str}{us:List aV3},StrsAre us ys->aM (ys.map V.str) us
 |[],_,.nil=>.nil
 |_::ys,_,.cons y t h=>.cons ⟨t,rfl⟩ (xM h)
def Inv.drew(I:L2.Inv X aA σ H s)(d:Drawn):L2.Inv X aA σ H {s with drawn:=d} :=
 ⟨I.ok,I.os,I.bare,I.base,I.loc,I.cell,I.free,I.freeC,I.pin,I.hok,I.len⟩
def aJH:bootBuiltins "set" = some (.type "set"):=by decide +kernel
def xN:bootBuiltins "sorted" = some (.builtin "sorted"):=by decide +kernel
def txD:List D->Option (List Str)
 |[]=>some []
 |.str x::ds=>(txD ds).map (x :: ·)
 |_::_=>none
def txT:D->Option (List Str)
 |.tup ds=>txD ds
 |_=>none
theorem xO{K:Fg}{F:Hp}:∀{ds:List D}{xs:List V}{ns:List Str},txD ds=some ns->aC K F ds xs->xs=ns.map V.str/\∀x∈ns,x.length<=sizeLine/\PyData.strOk x=true
 |[],xs,ns,e,r=>by cases e;simp only[aC]at r;subst r;exact⟨rfl,λx hx=>by cases hx⟩
 |d::ds,xs,ns,e,r=>by
  cases d with
  |str x =>
   simp only[txD]at e;cases q:txD ds with
   |none=>rw[q]at e;cases e
   |some ms=>rw[q]at e;cases e;simp only[aC]at r;obtain⟨v,vs,rfl,rv,rr⟩:=r;obtain⟨rfl,h2⟩:=xO q rr;simp only[aB]at rv;obtain⟨rfl,h1⟩:=rv;exact⟨rfl,λy hy=>(aQU.mp hy).elim (λe=>by subst e;exact h1) (h2 y)⟩
  |_=>cases e
theorem xP{K:Fg}{F:Hp}:∀{ns:List Str},(∀x∈ns,x.length<=sizeLine/\PyData.strOk x=true)->aC K F (ns.map .str) (ns.map V.str)
 |[],_=>by simp[aC]
 |x::ns,h=>by simp only[aSS,aC,aB];exact⟨_,_,rfl,⟨rfl,h x mcs⟩,xP λy hy=>h y (mcm hy)⟩
def AllF(ρ:Rho):Prop:=∀(i:Nat) (m:Bool) (d:D),ρ[i]? = some (some (m,d))->m=false
def AR(K:Fg)(w:aV6)(b:Bool)(Da:Addr)(F:Hp)(zs:List D)(o:HO):Prop:=match b with
 |true=>∃ys,o=.lst ys/\aC K F zs ys
 |false=>∃(ns ys:List Str),zs=ns.map .str/\o=sx w Da ys/\ys.Nodup/\ys.length<=ns.length/\(∀x,x∈ys↔x∈ns)/\∀x∈ns,x.length<=sizeLine/\PyData.strOk x=true
def isStrD:D->Bool|.str _=>true|_=>false
def limA(b:Bool):Nat:=match b with|true=>sizeLine|false=>scanBound-1
def emK(w:aV6)(b:Bool)(Da:Addr)(y:V)(H4:Hp)(R:Hp->Prop):Prop:=match b with
 |true=>∃ys,H4 Da=some (.lst ys)/\ys.length<sizeLine/\R (upd H4 Da (.lst (ys++[y])))
 |false=>∃x ys,y=.str x/\H4 Da=some (sx w Da ys)/\ys.length+1<scanBound/\∀ys',ys'.Nodup->(∀z,z∈ys'↔z∈ys\/z=x)->ys'.length<=ys.length+1->R (upd H4 Da (sx w Da ys'))
section
variable  {uP tg2:Expr}{gt gi2:Rho->Res}
variable (hc : X.calm = true) (hi : PIv C X tg aU gi) (cH : ∀ y ∈ scope.names, y.2 ≠ .cell) (cZ : scope.kind = .function) (fP : ∀ y ∈ scope.names, y.2 = .local → scope.names.lookup y.1 = some .local)
    (eA:∀y∈scope.names,y.2=.free->X.env.kindOf y.1=some .cell\/X.env.kindOf y.1=some .free)
    (eP:aL.map some=aF.map λi=>X.N[i]?) (fR:∀y∈aL,(y,NameKind.free)∈scope.names)
    (fQ:∀y∈aL,(relabel scope X.env).names.lookup y=some .cell\/(relabel scope X.env).names.lookup y=some .free)
    (hn:tgN.length=2)
    (hg:∀cl A fp s3 H3,PGw (bE X scope (aL++tgN) cl A fp s3 H3) tg (.nm aF.length)) (hf:∀cl A fp s3 H3,dU (bE X scope (aL++tgN) cl A fp s3 H3) ifs (tT (C.nox.at X) gt))
    (hi2:∀cl A fp s3 H3,PIv C.nox (bE X scope (aL++tgN) cl A fp s3 H3) tg2 uP gi2) (hg2:∀cl A fp s3 H3,PGw (bE X scope (aL++tgN) cl A fp s3 H3) tg2 (.nm (aF.length+1)))
    (he:∀cl A fp s3 H3,PV C.nox (bE X scope (aL++tgN) cl A fp s3 H3) elt ge)
    (hs:∀x,foldedSetIterable aU X.env x=pure x) (hs2:∀env x,foldedSetIterable uP env x=pure x)
include hc hi cH cZ fP eA eP fR fQ hn hg hf hi2 hg2 he hs hs2
end
open PySem.W
section
variable {lt:Nat->Nat->Bool}{cmp:Nat->Nat->(Bool->aV4->Prop)->aV4->Prop}{J:aV4->Prop}
def Upto(lt:Nat->Nat->Bool)(p:Array Nat)(b:Nat):Prop:=∀i j,i<j->j<b->lt (p.getD i 0) (p.getD j 0)=true
def gN(n:Nat)(lt:Nat->Nat->Bool)(cmp:Nat->Nat->(Bool->aV4->Prop)->aV4->Prop)(J:aV4->Prop):Prop:=∀i j s C,i<n->j<n->J s->(∀s',J s'->C (lt i j) s')->cmp i j C s
end
def nW(d:α):∀(l:List α),(List.range l.length).map (λi=>l.getD i d)=l:=λl=>by
 apply List.ext_getElem
 . simp
 . intro i h1 h2;simp at h1;simp[h1]
theorem qP{α:Type}{K:Fg}{F:Hp}{f:α->D}{g:α->V}:∀{q:List α},(∀i∈q,aB K F (f i) (g i))->aC K F (q.map f) (q.map g)
 |[],_=>aC.nil
 |i::q,h=>aC.cons (h i mcs) (qP λj hj=>h j (mcm hj))
theorem xQ{α:Type}{g:α->V}{u:α->aV3}:∀{q:List α},(∀i∈q,aI (g i) (u i))->aM (q.map g) (q.map u)
 |[],_=>.nil
 |i::q,h=>.cons (h i mcs) (xQ λj hj=>h j (mcm hj))
theorem xR:∀{xs:List V}{us:List aV3}{i:Nat},aM xs us->i<xs.length->aI (xs.getD i .non) (us.getD i .none)
 |[],_,i,h,e=>by simp at e
 |x::xs,_,0,h,e=>by cases h with|cons r t=>exact r
 |x::xs,_,i+1,h,e=>by
  cases h with
  |cons r t =>
   have:=xR (i:=i) t (by simpa using e)
   simpa using this
open PySem.SeqAt PySem.MeetsSeq
def epO(o:Obj):Nat:=match o.data with|.dict _ ep=>ep|_=>0
end D3
namespace L2
open D3
end L2
namespace D3
abbrev dX(xs:Array Nat):Prop:=xs.toList.Pairwise (· < ·)
def nX{xs:Array Nat}(h:dX xs){v u:Nat}(hi:xs[i]? = some v)(hj:xs[j]? = some u)(hl:i<j):v<u:=by rw[<- aUT]at hi hj;obtain⟨h1,e1⟩:=aQX.mp hi;obtain⟨h2,e2⟩:=aQX.mp hj;rw[<- e1,<- e2];exact List.pairwise_iff_getElem.mp h i j h1 h2 hl
theorem qQ{xs:Array Nat}(h:dX xs)(j:Nat):∀(f lo hi:Nat),hi<=lo+f->lo<=hi->hi<=xs.size->(∀k v,k<lo->xs[k]? = some v->v<j)->(∀k v,hi<=k->xs[k]? = some v->j<=v)->SetTable.below.go xs j f lo hi<=xs.size/\(∀k v,k<SetTable.below.go xs j f lo hi->xs[k]? = some v->v<j)/\∀k v,SetTable.below.go xs j f lo hi<=k->xs[k]? = some v->j<=v
 |0,lo,hi,hf,hl,hs,h1,h2=>by
  have:lo=hi:=by lia
  subst this;exact⟨hs,h1,h2⟩
 |f+1,lo,hi,hf,hl,hs,h1,h2=>by
  unfold SetTable.below.go;split
  . rename_i hlt;dsimp only;have hm:(lo+hi) / 2<xs.size:=by lia
    have em:xs[(lo+hi) / 2]? = some xs[(lo+hi) / 2]:=aUM hm;have eg:xs.getD ((lo+hi) / 2) j=xs[(lo+hi) / 2]:=by rw[aUV,em];rfl
    rw[eg];split
    . rename_i hv;refine qQ h j f _ _ (by lia) (by lia) hs (λk v hk e=>?_) h2
      by_cases hk2:k=(lo+hi) / 2
      . subst hk2;rw[em]at e;cases e;exact hv
      . exact Nat.lt_trans (nX h e em (by lia)) hv
    . rename_i hv;refine qQ h j f _ _ (by lia) (by lia) (by lia) h1 λk v hk e=>?_
      by_cases hk2:k=(lo+hi) / 2
      . subst hk2;rw[em]at e;cases e;lia
      . have:=nX h em e (by lia);lia
  . have:lo=hi:=by lia
    subst this;exact⟨hs,h1,h2⟩
theorem nY{xs:Array Nat}(h:dX xs)(j:Nat):SetTable.below xs j<=xs.size/\(∀k v,k<SetTable.below xs j->xs[k]? = some v->v<j)/\∀k v,SetTable.below xs j<=k->xs[k]? = some v->j<=v :=
 qQ h j _ _ _ (by lia) (aRN _) (aRD _) (λk v hk=>absurd hk (Nat.not_lt_zero _)) λk v hk e=>by rw[aUN hk]at e;cases e
theorem aJI{xs:Array Nat}(h:dX xs):SetTable.below xs 0=0:=by
 obtain⟨a,b,c⟩:=nY h 0;by_cases h0:SetTable.below xs 0=0
 . exact h0
 . have:=b 0 (xs[0]'(by lia)) (by lia) (aUM _)
   lia
theorem aJJ{xs:Array Nat}(h:dX xs){p:Nat}(e:xs[i]? = some p):SetTable.below xs (p+1)=i+1:=by
 obtain⟨a,b,c⟩:=nY h (p+1);have hi:i<xs.size:=by
  rcases aUW i xs.size with q|q
  . exact q
  . rw[aUN q]at e;cases e
 have h1:i<SetTable.below xs (p+1):=by
  rcases aUW i (SetTable.below xs (p+1))with q|q
  . exact q
  . have:=c i p q e;lia
 by_cases h2:SetTable.below xs (p+1)=i+1
 . exact h2
 . have hl:i+1<xs.size:=by lia
   have e2:xs[i+1]? = some xs[i+1]:=aUM hl;have u1:=b (i+1) _ (by lia) e2
   have u2:=nX h e e2 (aRM _);lia
def PlOk(t:SetTable):Prop:=t.plain=false\/(t.dummies = #[]/\dX t.place)
theorem aJK{xs:Array Nat}(h:dX xs)(hn:xs[SetTable.below xs j]?≠some j):j∉xs.toList:=λhm=>by
 obtain⟨k,hk,e⟩:=aUX hm;have ek:xs[k]? = some j:=by rw[<- aUT,aTP hk,e]
 obtain⟨a,b,c⟩:=nY h j;have hk':k<xs.size:=by simpa using hk
 rcases aUW k (SetTable.below xs j)with q|q
 . have:=b k j q ek;lia
 . have hb:SetTable.below xs j<xs.size:=by lia
   have eb:xs[SetTable.below xs j]? = some xs[SetTable.below xs j]:=aUM hb;have v1:=c _ _ (aRD _) eb;rcases aUW (SetTable.below xs j) k with q2|q2
   . have:=nX h eb ek q2;lia
   . have:SetTable.below xs j=k:=by lia
     rw[this]at hn;exact hn ek
def aJL(j:Nat):SetTable.has #[] j=false:=rfl
theorem aJM{t:SetTable}(hd:t.dummies = #[])(h:dX t.place)(hn:t.place[SetTable.below t.place j]?≠some j):(t.put j).1.dummies = #[]/\dX (t.put j).1.place:=by
 unfold SetTable.put;dsimp only;rw[hd,aJL];refine⟨rfl,?_⟩;show(SetTable.insertAt t.place (SetTable.below t.place j) j).toList.Pairwise _;have hj:=aJK h hn;obtain⟨a,b,c⟩:=nY h j;generalize SetTable.below t.place j=p at *;rw[SetTable.toList_insertAt];have ht:t.place.toList.length=t.place.size:=by simp
 have hlt:∀x∈t.place.toList.take p,x<j:=λx hx=>by obtain⟨k,hk,e⟩:=aUX hx;rw[List.getElem_take]at e;rw[aRU]at hk;exact b k x (by lia) (by rw[<- aUT,aTP (by lia),e])
 have hgt:∀x∈t.place.toList.drop p,j<x:=λx hx=>by
  have hne:x≠j:=λe=>hj (e ▸ List.mem_of_mem_drop hx);obtain⟨k,hk,e⟩:=aUX hx;rw[List.getElem_drop]at e;rw[aSC]at hk;have:=c (p+k) x (by lia) (by rw[<- aUT,aTP (by lia),e])
  lia
 have hs:t.place.toList.Pairwise (· < ·):=h;rw[<- List.take_append_drop p t.place.toList,aUY]at hs;rw[aUY,aUZ];exact⟨hs.1,⟨hgt,hs.2.1⟩,λx hx y hy=>by
  rcases aQU.mp hy with rfl|hy
  . exact hlt x hx
  . exact hs.2.2 x hx y hy⟩
def aJN:isSubtype (.type "list") (.type "set")=pure false:=by rw[aT9];kernel_rfl
def aJO:isSubtype (.type "list") (.type "frozenset")=pure false:=by rw[aT9];kernel_rfl
section
variable {A:aV5}{E:VSP}
def aJP{M:Model}{p:Addr}{Q:Bool->aV4->Prop}(tp:s.TypeIs (.ref p) "list")(q:Q false s):wpAny M A (isInstance (.ref p) (.type "set") <||> isInstance (.ref p) (.type "frozenset")) Q E s:=by unfold orM;exact aRA (aS6 tp aJN (aS6 tp aJO q))
end
section
variable {A:aV5}{E:VSP}
variable  {a:Addr}{o:Obj}{es:Array (Int×aV3)}{t:SetTable}
def plc(t:SetTable):Nat->Nat
 |0=>0
 |i+1=>t.place.getD i 0+1
theorem xS(h:dX t.place)(hi:i<=t.place.size):SetTable.below t.place (plc t i)=i:=by
 cases i with
 |zero=>exact aJI h
 |succ i =>
  have e:t.place[i]? = some (t.place[i]'(by lia)):=aUM _
  show SetTable.below t.place (t.place.getD i 0+1)=_;rw[aUV,e];exact aJJ h e
theorem aJQ(hh:A.handled=none)(hne:a≠I)(hd:o.data=.set es ep t)(hf:t.fits es.size=true)(bt:dG w=false)(hl:t.led=true)(hr:dX t.place)(h1:(!t.plain&&decide (es.size > 1))=false):Walks prog w A I [I,a] [I] es.size (λi v=>(es.map (·.2))[i]? = some v) (λi h=>SIt h I a (.int ((plc t i:Nat):Int) 0) i es.size ep/\h.get? a=some o):=by
 have hz:t.place.size=es.size:=by unfold SetTable.fits at hf;rw[aSI,aRK]at hf;exact hf.1
 refine⟨λb hb=>by simp at hb;simp[hb],λ_ _ _ st hk=>⟨st.1.at λo e=>hk I (by simp) o e,hk a (by simp) o st.2⟩,λi s Q E hi st hQ=>?_,λs Q E st hQ=>?_,λ_ _ _ _ st hQ=>qL st.1 hQ⟩
 . have e1:es[i]? = some (es[i].1,es[i].2):=aUM hi;have e2:t.place[i]? = some (t.place[i]'(by lia)):=aUM _
   have e3:plc t (i+1)=t.place[i]'(by lia)+1:=by show t.place.getD i 0+1=_;rw[aUV,e2];rfl
   refine xI (k:=plc t i) (k':=plc t (i+1)) st.1 st.2 hd hf (x:=es[i].2) (λ{A' E' Q'} q=>?_) λh' sb X'=>?_
   . unfold setNext;refine aRA (aUL st.2 hd hf (aRA (iN ?_)));simp only[bt,↓reduceIte,aS8];split
     . rename_i hc;have hc:(!t.plain&&decide (es.size > 1))=true:=hc;rw[h1]at hc;cases hc
     . show wpAny _ _ ((if(!t.led&&!(es.isEmpty))=true then _ else _)>>=_) _ _ _;rw[hl];refine aRA (aQ9 ?_);rw[xS hr (by lia),e1,e2]
       rw[e3]at q;exact aQ9 q
   . exact hQ _ h' s.toks (by rw[Array.getElem?_map,e1];rfl) ⟨X',sb.extBut a o hne st.2⟩ λb o' hb e=>sb.extBut b o' (λh=>hb (by simp[h])) e
 . refine xJ hh st.1 st.2 hd hf (λ{A' E' Q'} q=>?_) λh' kp=>hQ h' s.toks λb o' hb e=>kp b o' (λh=>hb (by simp[h])) e
   unfold setNext;refine aRA (aUL st.2 hd hf (aRA (iN ?_)));simp only[bt,↓reduceIte,aS8];split
   . rename_i hc;have hc:(!t.plain&&decide (es.size > 1))=true:=hc;rw[h1]at hc;cases hc
   . show wpAny _ _ ((if(!t.led&&!(es.isEmpty))=true then _ else _)>>=_) _ _ _;rw[hl];refine aRA (aQ9 ?_);rw[xS hr (by lia),aUN (aRD _)]
     exact aQ9 q
end
def jU:D->Bool
 |.int _=>true|.bl _=>true|.non=>true|.str _=>true|_=>false
def Rp.inH{F:Hp}{m:Md}{d:D}(s:aD F H)(h:Rp K F H m d v):aB K H d v:=by
 have key:∀a,v=.ref a->F a=none->Top K F H a d->aB K H d v:=λa e _ t=>by
  subst e;cases d with
  |lst ds=>obtain⟨xs,e,r⟩:=t;simp only[aB];exact⟨a,xs,rfl,SqL.of e,r.mono s _ _⟩
  |dct ds=>obtain⟨xs,e,r⟩:=t;simp only[aB];exact⟨a,xs,rfl,e,r.mono s _ _⟩
  |ins c fs=>obtain⟨C,dx,gs,n,e,r⟩:=t;simp only[aB];exact⟨a,C,dx,gs,rfl,n,e,r.mono s _ _⟩
  |set ks=>obtain⟨S,e,r⟩:=t;simp only[aB];exact⟨a,S,rfl,e,r⟩
  |dtn ds=>obtain⟨xs,e,r⟩:=t;simp only[aB];exact⟨a,xs,rfl,e,r.mono s _ _⟩
  |_=>exact t.elim
 cases m with
 |fz=>exact aB.mono s d v h
 |fr=>obtain⟨a,e,n,t⟩:=h;exact key a e n t
 |bo=>obtain⟨a,e,n,t⟩:=h;exact key a e n t
def xT{F:Hp}{d:D}(h:jU d=true)(r:aB K F d v):Rp K F' H .fz d v:=by
 show aB K F' d v;cases d with
 |int i=>simpa only [aB]using r
 |bl i=>simpa only [aB]using r
 |non=>simpa only [aB]using r
 |str i=>simpa only [aB]using r
 |_=>cases h
section
open PySem.SeqAt
open PySem.AutoSeq1 (wpAny_loadPart')
open PySem.MeetsSeq PySem.MeetsSeq2 PySem.MeetsSeq3
variable {A:aV5}{E:VSP}
end
open PySem.Calls
def lI(ra rk rd:Res):Res:=ra.thn λ_ da=>match da with
 |.dct kvs=>rk.thn λ_ dk=>(aW rd).thn λm d=>(match m,hG dk with
  |.fz,some k=>.ok .fz ((dF kvs k).getD d)
  |_,_=>.stuck)
 |_=>.stuck
section
variable  {o f:Expr}{go gf:Rho->Res}
def aJR(hu:X.A.units+1<cLine)(ho:PV C X o go)(he:PV C X e ge)(hf:PV C X f gf)(m:M2 X o "get" apos e f cpos):PV C X (.Call (.Attribute o "get" apos) [e,f] [] cpos) (λρ=>lI (go ρ) (ge ρ) (gf ρ)):=by
 refine PE.imp (aFF hu ho he (fW hf) m) λσ H Q q=>?_;unfold vW;rw[aQ]at q ⊢;obtain⟨ρ,F,R,w⟩:=q;refine⟨ρ,F,R,?_⟩;unfold lI at w;cases ea:go ρ with
 |stuck=>rw[ea]at w;exact w
 |exc c=>rw[ea]at w;exact w
 |ok ma da =>
  rw[ea,Res.thn_ok]at w;intro v F1 H1 s1 r1 _;have w1:=aT.step s1 w;cases da with
  |dct kvs =>
   dsimp only at w1;obtain⟨a,xs,rfl,hh,rk⟩:=r1.dict s1.sub;refine⟨a,rfl,.inl ⟨xs,.inl hh⟩,?_⟩;rw[aQ];refine⟨ρ,F1,R.step s1,?_⟩;cases ek:ge ρ with
   |stuck=>rw[ek]at w1;exact w1
   |exc c=>rw[ek]at w1;exact w1
   |ok mk dk =>
    rw[ek,Res.thn_ok]at w1;intro y F2 H2 s2 r2 _;have w2:=aT.step s2 w1;rw[aQ];refine⟨ρ,F2,(R.step s1).step s2,?_⟩;cases ed:aW (gf ρ)with
    |stuck=>rw[ed]at w2;exact w2
    |exc c=>rw[ed]at w2;exact w2
    |ok md d =>
     rw[ed,Res.thn_ok]at w2;intro z F3 H3 s3 r3 _;have w3:=aT.step s3 w2;have hm:md=.fz:=qI ed;subst hm;cases ek2:hG dk with
     |none=>rw[ek2]at w3;exact w3.elim
     |some k =>
      rw[ek2]at w3;dsimp only at w3;have r1':=(r1.step s2).step s3;have r2':=r2.step s3;obtain⟨a',xs',ea',hh',rk',g⟩:=aIX s3.sub r1' r2' ek2;cases ea';refine⟨_,g,?_⟩;have hv:=aE.val k rk';cases eg:dF kvs k with
      |none=>rw[eg]at hv w3;rw[hv];exact w3 z F3 H3 (.refl s3.sub) r3 (by nofun)
      |some d'=>rw[eg]at hv w3;obtain⟨v',ev,rv⟩:=hv;rw[ev];exact w3 v' F3 H3 (.refl s3.sub) rv (by nofun)
  |_=>exact w1.elim
end
end D3
namespace PySem
open PySem.Sem (wp)
def aJS(a b c:aV3):checkTypeCall "range" ⟨[a,b,c],[]⟩=pure ():=by kernel_rfl
def aJT(a b c:aV3):checkBuiltinCall "range.__new__" ⟨[.type "range", a,b,c],[]⟩=pure ():=by kernel_rfl
def aJU(obj a b c:aV3):argsOk "object.__init__" ⟨[obj,a,b,c],[]⟩:=by unfold argsOk;rw[signature?_of (id := "object.__init__") (n:=['_','_','t','i','n','i','_','_']) (o:=['t','c','e','j','b','o']) (by kernel_rfl) F.owner_object];kernel_rfl
section
variable {A:aV5}{E:VSP}
def aJV{a b c:Int}{t u v:Tok}{Q:VSP}(hc:¬ (some c==some (0:Int))=true)(hp:Builtin.divisionGoesByPylong (b-a) c=false)(h:Q (.ref s.heap.objs.size) { s with heap:=s.heap.push { cls:=.type "range", data:=.fields #[.int a t,.int b u,.int c v] } }):wpAny (model prog w) A (call (.type "range") [.int a t,.int b u,.int c v]) Q E s :=
 callType_new F.called_range (by decide) (aJS _ _ _) (aJT _ _ _) (λobj=>aJU obj _ _ _) F.entry_range_new
  (AutoRange.range___new___type_int_int_int_1 a b c t u v F.called_range.sub hc) ⟨hp,⟨_,aQK _ rfl,rfl⟩,h⟩
end
end PySem
namespace L2
def nSt(lo hi c:Int):Nat:=(Builtin.Range.rangeSize lo hi c).toNat
def ItS(lo c:Int)(n:Nat):It:=⟨λi _=>i<n,λi H x H'=>H'=H/\x=.int (lo+i * c),λi _=>n<=i⟩
theorem aJW(it:Addr)(lo c:Int)(n:Nat):iF P w K tg (ItS lo c n) [it] it (λi h=>IsRangeIter h it (lo+(i:Nat) * c) ((n:Int)-(i:Nat)) c) where
 mem:=by simp
 obj:=λi h st b hb=>by
  have e:b=it:=by simpa using hb
  subst e;exact⟨_,st,λv z=>by
   have z':Data.fields _=Data.cell v:=z;cases z'⟩
 keep:=λi h h' st k=>k it (by simp) _ st
 item:=by
  intro X hP hw hK hc i aA s σ H E I hf st hg;subst hP hw hK;obtain⟨f0,f1,f2,f3,f4,f5⟩:=hf it (by simp)
  have W:=Walks.range (prog:=X.prog) (w:=X.w) (I.ok.hd hc) it lo c n;refine W.item i s _ _ hg st λv h' tk hv st' kk=>?_;obtain⟨t,rfl⟩:=hv;have I1:Inv X aA σ H {s with heap:=h',toks:=tk}:=I.turned (λb o hb e=>kk b o (by simpa using hb) e) f0 f1 f3 f4 f5
  exact⟨_,rfl,jB (s:={s with heap:=h',toks:=tk}) (n := "range_iterator") st' rfl rfl (by decide) ⟨.int (lo+i * c),H,I1,⟨t,rfl⟩,⟨rfl,rfl⟩,st',λb hb=>(hf b hb).1⟩⟩
 done:=by
  intro X hP hw hK hc i aA s σ H E I hf st hg;subst hP hw hK;obtain⟨f0,f1,f2,f3,f4,f5⟩:=hf it (by simp)
  exact wpAny_pyNext_range_end (I.ok.hd hc) st (by have:n<=i:=hg;lia) λh' eb=>⟨rfl,I.turned (t':=s.toks) (λb o hb e=>eb b o hb e) f0 f1 f3 f4 f5⟩
 self:=λ_ _ _ _ _ st h=>wpAny_pyIter_rangeiter st h
theorem aJX{lo hi c:Int}(h:0<c):0<=Builtin.Range.rangeSize lo hi c:=by
 unfold Builtin.Range.rangeSize;rw[if_pos h];split
 . have:=Int.ediv_nonneg (show 0<=hi-lo-1 by lia) (show 0<=c by lia);lia
 . lia
theorem aJY{σ:St}{R:It->Hp->Prop}{E:VSP}{lo hi c:Int}{t u v:Tok}{tk:Nat}(I:Inv X aA σ H s)(hc:0<c)(hs:Builtin.Range.small lo hi c=true)(q:R (ItS lo c (nSt lo hi c)) H):wpAny (model X.prog X.w) X.A (pyIter (.ref s.heap.objs.size)) (PIE X aA σ tg R) E { s with heap:=s.heap.push { cls:=.type "range", data:=.fields #[.int lo t,.int hi u,.int c v] },toks:=tk }:=by
 refine wpAny_pyIter_range (IsRange.new ..) hs ?_;have I1:Inv X aA σ H { s with heap:=s.heap.push { cls:=.type "range", data:=.fields #[.int lo t,.int hi u,.int c v] },toks:=tk }:=I.kept λb o e=>hps e
 refine⟨(s.heap.push { cls:=.type "range", data:=.fields #[.int lo t,.int hi u,.int c v] }).objs.size,[(s.heap.push { cls:=.type "range", data:=.fields #[.int lo t,.int hi u,.int c v] }).objs.size],_,_,H,rfl,
  I1.kept (t':=tk) λb o e=>hps e,aJW _ lo c (nSt lo hi c),?_,λb hb=>?_,q⟩
 . have e1:lo+((0:Nat):Int) * c=lo:=by simp
   have e2:((nSt lo hi c:Nat):Int)-((0:Nat):Int)=Builtin.Range.rangeSize lo hi c:=by have:=aJX (lo:=lo) (hi:=hi) hc;unfold nSt;lia
   show IsRangeIter _ _ (lo+((0:Nat):Int) * c) (((nSt lo hi c:Nat):Int)-((0:Nat):Int)) c;rw[e1,e2];exact aQK _ rfl
 . have e:b=(s.heap.push { cls:=.type "range", data:=.fields #[.int lo t,.int hi u,.int c v] }).objs.size:=by simpa using hb
   subst e;exact I1.fpOk (aRD _) (I1.hok.fresh (aRD _))
def xU(ta:TA):TI:=λσ H R=>ta σ H λvs H1=>∃i j c:Int,vs=[.int i,.int j,.int c]/\(0<=i/\i<=1000000/\0<=j+1000/\j<=1000000/\0<c/\c<=1000000)/\R (ItS i c (nSt i j c)) H1
theorem aJZ{i j c:Int}(h:0<=i/\i<=1000000/\0<=j+1000/\j<=1000000/\0<c/\c<=1000000):Builtin.Range.small i j c=true:=by
 have q:0<=(j-i-1) / c\/¬ i<j:=by
  by_cases hh:i<j
  . exact .inl (Int.ediv_nonneg (by lia) (by lia))
  . exact .inr hh
 have q2:i<j->(j-i-1) / c<=j-i-1:=λhh=>Int.ediv_le_self _ (by lia)
 unfold Builtin.Range.small;simp only[Builtin.Range.rangeSize,Builtin.Range.rangeFitsLong,aSI,aTE,aTC,aRK,if_pos h.2.2.2.2.1];by_cases hh:i<j
 . have b1:=q2 hh;have b0:=q.resolve_right (λz=>z hh);simp only[if_pos hh];generalize (j-i-1) / c=z at *;lia
 . simp only[if_neg hh];lia
theorem aJ0{a b d:Expr}{ta:TA}(hg:Gl X "range")(hm:X.mg "range" = none)(ha:PA X [a,b,d] ta)(hs:starEach [a,b,d] X.env=(false,eval a X.env)::starEach [b,d] X.env)(hs2:(backTo pos (starEach [b,d] X.env)).any (·.1)=false):PI X tg (.Call (.Name "range" p) [a,b,d] [] pos) (xU ta):=by
 intro aA s σ H R I h;refine Call_ (kJ I hg hm boot_range (aRE (thn (ha pos aA s σ H _ I h) λus s1 ⟨vs,H1,I1,r1,q1⟩=>?_) hs hs2));obtain⟨i,j,c,e,hq,q⟩:=q1;subst e;cases r1 with
 |cons r rr =>
  cases rr with
  |cons r' rr =>
   cases rr with
   |cons r'' rr=>cases rr;obtain⟨t,rfl⟩:=r;obtain⟨t',rfl⟩:=r';obtain⟨t'',rfl⟩:=r'';exact aJV (by simp;lia) (PyProof.noPylong_small (by lia)) (aJY I1 hq.2.2.2.2.1 (aJZ hq) q)
end L2
namespace D3
open PySem.Calls
def hU(lo hi c:Int):List D:=(List.range (nSt lo hi c)).map λ(i:Nat)=>.int (lo+(i:Int) * c)
def jV(r:aR):Res:=r.thn λxs=>match xs with
 |[(_,.int i),(_,.int j),(_,.int c)]=>if(decide (0<=i)&&decide (i<=1000000)&&decide (0<=j+1000)&&decide (j<=1000000)&&decide (0<c)&&decide (c<=1000000))=true then .ok .fz (.lst (hU i j c))else .stuck
 |_=>.stuck
def aJ1{F:Hp}{lo hi c:Int}:jL K F (ItS lo c (nSt lo hi c)) (hU lo hi c) where
 go:=λi H s h=>by simpa[hU,ItS]using h
 stop:=λi H s h=>by simpa[hU,ItS]using h
 yld:=λi Fc H x H' s1 s2 h y=>by
  obtain⟨rfl,rfl⟩:=y;have h':i<nSt lo hi c:=by simpa[hU]using h
  refine⟨Fc,.int (lo+i * c),?_,.refl s2,by simp only[aB]⟩
  simp only[hU,aRZ,aTN h',aTO]
def RpL.three{F:Hp}{a b c:Md×D}{vs:List V}(h:RpL K F H [a,b,c] vs):∃u v w,vs=[u,v,w]/\Rp K F H a.1 a.2 u/\Rp K F H b.1 b.2 v/\Rp K F H c.1 c.2 w:=by obtain⟨u,us,rfl,r1,r2⟩:=h;obtain⟨v,w,rfl,r3,r4⟩:=RpL.two r2;exact⟨u,v,w,rfl,r1,r3,r4⟩
section
variable {gs:Rho->aR}
def aJ2{a b d:Expr}(hg:Gl X "range")(hm:X.mg "range" = none)(ha:PAv C X [a,b,d] gs)(hs:starEach [a,b,d] X.env=(false,eval a X.env)::starEach [b,d] X.env)(hs2:(backTo pos (starEach [b,d] X.env)).any (·.1)=false):PIv C X tg (.Call (.Name "range" p) [a,b,d] [] pos) (λρ=>jV (gs ρ)):=by
 refine PI.imp (aJ0 hg hm ha hs hs2) λσ H R q=>?_;obtain⟨ρ,F,RS,w⟩:=q;dsimp only at w;unfold xU;refine⟨ρ,F,RS,?_⟩;cases er:gs ρ with
 |stuck=>rw[er]at w;exact w
 |exc c=>rw[er]at w;exact w
 |ok xs =>
  rw[er]at w;intro vs F' H' st rp;unfold jV at w;rw[aR.thn_ok]at w;split at w
  . rename_i m1 i m2 j m3 c;split at w
    . rename_i hc;simp only[aSI,aTC]at hc;obtain⟨v,u,x,rfl,r,r',r''⟩:=rp.three;cases r.int;cases r'.int;cases r''.int;exact⟨i,j,c,rfl,⟨hc.1.1.1.1.1,hc.1.1.1.1.2,hc.1.1.1.2,hc.1.1.2,hc.1.2,hc.2⟩,w _ F' H' st aJ1⟩
    . exact w.elim
  . exact w.elim
end
def dH(ρ:Rho):List ((Rho->Res)×(Rho->Res))->List (Key×D)->Res
 |[],acc=>if acc.length<=15 then .ok .fr (.dct (acc.foldl (λa kv=>bH a kv.1 kv.2) []))else .stuck
 |(gk,gv)::r,acc=>(gk ρ).thn λ_ dk=>(aW (gv ρ)).thn λm d=>(match m,hG dk with
  |.fz,some k=>dH ρ r (acc++[(k,d)])
  |_,_=>.stuck)
def kvf(kv:Key×V):V×V:=(kV kv.1,kv.2)
theorem aE.snocX{K:Fg}{F:Hp}{k:Key}{d:D}{v:V}:∀{kvs:List (Key×D)}{xs:List (Key×V)},aE K F kvs xs->aB K F d v->aE K F (kvs++[(k,d)]) (xs++[(k,v)])
 |[],xs,h,r=>by simp only[aE]at h;subst h;show aE K F [(k,d)] [(k,v)];simp only[aE];exact⟨v,[],rfl,r,rfl⟩
 |(k',d')::kvs,xs,h,r=>by simp only[aE]at h;obtain⟨y,ys,rfl,q,t⟩:=h;show aE K F ((k',d')::(kvs++[(k,d)])) ((k',y)::(ys++[(k,v)]));simp only[aE];exact⟨y,_,rfl,q,aE.snocX t r⟩
theorem aE.fold{K:Fg}{F:Hp}:∀{kvs:List (Key×D)}{xs:List (Key×V)}{a:List (Key×D)}{b:List (Key×V)},aE K F kvs xs->aE K F a b->aE K F (kvs.foldl (λa kv=>bH a kv.1 kv.2) a) (xs.foldl (λacc kv=>cS acc kv.1 kv.2) b)
 |[],xs,a,b,h,q=>by simp only[aE]at h;subst h;exact q
 |(k,d)::kvs,xs,a,b,h,q=>by simp only[aE]at h;obtain⟨y,ys,rfl,r,t⟩:=h;exact aE.fold (kvs:=kvs) (xs:=ys) t (q.put r)
theorem aE.lenX{K:Fg}{F:Hp}:∀{kvs:List (Key×D)}{xs:List (Key×V)},aE K F kvs xs->xs.length=kvs.length
 |[],xs,h=>by simp only[aE]at h;subst h;rfl
 |(k,d)::kvs,xs,h=>by simp only[aE]at h;obtain⟨y,ys,rfl,_,t⟩:=h;rw[aSQ,aSQ,aE.lenX t]
theorem aE.monoX{K:Fg}{F F':Hp}(s:aD F F'):∀{kvs:List (Key×D)}{xs:List (Key×V)},aE K F kvs xs->aE K F' kvs xs
 |[],xs,h=>by simpa only [aE]using h
 |(k,d)::kvs,xs,h=>by simp only[aE]at h ⊢;obtain⟨y,ys,e,r,t⟩:=h;exact⟨y,ys,e,aB.mono s _ _ r,aE.monoX s t⟩
theorem xV{F H:Hp}{σ:L2.St}{ρ:Rho}{p:Addr}{Q:VK}(hp:H p=none):∀(gs:List ((Rho->Res)×(Rho->Res))) (acc:List (Key×D)) (xs:List (Key×V)) (F1 H1:Hp),aS C.K C.F0 C.H0 F1 H1 σ ρ->aH F H F1 H1->F1 p=none->H1 p=some (.dK [])->aE C.K F1 acc xs->aT C F H σ (dH ρ gs acc) Q->nF (gs.map λg=>(tG C g.1,tG C λρ=>aW (g.2 ρ))) σ H1 (λps H2=>H2 p=some (.dK [])/\∃kvs:List (Key×V),xs.map kvf++ps=kvs.map kvf/\kvs.length<=15/\Q (.ref p) (upd H2 p (.dK (gZ [] kvs))))
 |[],acc,xs,F1,H1,R,st,hf,hh,rk,w=>by
  unfold dH at w;show H1 p=some (.dK [])/\_;split at w
  . rename_i hl;refine⟨hh,xs,by rw[aRQ],by rw[rk.lenX];exact hl,?_⟩
    exact w (.ref p) F1 _ (st.upd hp hf) ⟨p,rfl,hf,_,aV,aE.fold rk (by simp only[aE])⟩ λ_ a ea=>by cases ea;exact hp
  . exact w.elim
 |(gk,gv)::r,acc,xs,F1,H1,R,st,hf,hh,rk,w=>by
  unfold dH at w;show tG C gk σ H1 _;rw[aQ];refine⟨ρ,F1,R,?_⟩;cases ek:gk ρ with
  |stuck=>rw[ek]at w;exact w.elim
  |exc c=>rw[ek]at w;exact λF' H' s'=>w F' H' (st.trans s')
  |ok mk dk =>
   rw[ek,Res.thn_ok]at w;intro u F2 H2 s2 r2 _;have hh2:H2 p=some (.dK []):=s2.same _ _ hh;have hf2:F2 p=none:=s2.new p hf (by rw[hh];exact λz=>nomatch z)
   show tG C (λρ=>aW (gv ρ)) σ H2 _;rw[aQ];refine⟨ρ,F2,R.step s2,?_⟩;cases ev:aW (gv ρ)with
   |stuck=>rw[ev]at w;exact w.elim
   |exc c=>rw[ev]at w;exact λF' H' s'=>w F' H' ((st.trans s2).trans s')
   |ok md d =>
    rw[ev,Res.thn_ok]at w;have hm:md=.fz:=qI ev;subst hm;intro v F3 H3 s3 r3 _;have hh3:H3 p=some (.dK []):=s3.same _ _ hh2;have hf3:F3 p=none:=s3.new p hf2 (by rw[hh2];exact λz=>nomatch z)
    cases e2:hG dk with
    |none=>rw[e2]at w;exact w.elim
    |some k =>
     rw[e2]at w;dsimp only at w;have eu:u=kV k:=pX e2 r2;subst eu;have ih:=xV hp r (acc++[(k,d)]) (xs++[(k,v)]) F3 H3 ((R.step s2).step s3) ((st.trans s2).trans s3) hf3 hh3 (aE.snocX (rk.monoX (s2.fsame.trans s3.fsame)) r3) w;have key:(λps H2=>H2 p=some (HO.dK [])/\∃kvs:List (Key×V),(xs++[(k,v)]).map kvf++ps=kvs.map kvf/\kvs.length<=15/\Q (.ref p) (upd H2 p (.dK (gZ [] kvs))))=λps H2=>H2 p=some (HO.dK [])/\∃kvs:List (Key×V),xs.map kvf++((kV k,v)::ps)=kvs.map kvf/\kvs.length<=15/\Q (.ref p) (upd H2 p (.dK (gZ [] kvs))):=by funext ps H2;rw[aU0,aT8];rfl
     rw[key]at ih;exact ih
def aJ3{keys:List (Option Expr)}{gs:List ((Rho->Res)×(Rho->Res))}(h:PPs X pos keys values (gs.map λg=>(tG (C.at X) g.1,tG (C.at X) λρ=>aW (g.2 ρ))))(hall:keys.all (·.isSome)=true)(hl:keys.length=values.length)(h0:keys≠[])(h15:keys.length<=15):PV C X (.Dict keys values pos) (λρ=>dH ρ gs []):=by refine PE.imp (aFC h hall hl h0 h15) λσ H Q q=>?_;rw[aQ]at q;obtain⟨ρ,F,R,w⟩:=q;intro p hp;have s0:aH F H F (upd H p (.dK [])):=aH.fresh _ R.sub hp;exact xV (C:=C.at X) hp gs [] [] F (upd H p (.dK [])) (R.step s0) s0 (R.sub.free hp) aV (by simp only[aE]) w
theorem xW:∀{xs ys:List Expr}{fs gs:List (Rho->Res)},PVL C X xs fs->PVL C X ys gs->xs.length=ys.length->PPs X pos (xs.map some) ys ((fs.zip gs).map λg=>(tG (C.at X) g.1,tG (C.at X) λρ=>aW (g.2 ρ)))
 |_,_,_,_,.nil,.nil,_=>aFA
 |_,_,_,_,.nil,.cons _ _,h=>by simp at h
 |_,_,_,_,.cons _ _,.nil,h=>by simp at h
 |_,_,_,_,.cons hk rk,.cons hv rv,h=>aFB hk (fW hv) (xW rk rv (by simpa using h))
theorem xX:∀{ks:List (Option Expr)},ks.all (·.isSome)=true->(ks.filterMap id).map some=ks
 |[],_=>rfl
 |none::_,h=>by simp at h
 |some x::ks,h=>by
  have:ks.all (·.isSome)=true:=by simpa using h
  show some x::(ks.filterMap id).map some=_;rw[xX this]
def aJ4{keys:List (Option Expr)}{fs gs:List (Rho->Res)}(hk:PVL C X (keys.filterMap id) fs)(hv:PVL C X values gs)(hall:keys.all (·.isSome)=true)(hl:keys.length=values.length)(h0:keys≠[])(h15:keys.length<=15):PV C X (.Dict keys values pos) (λρ=>dH ρ (fs.zip gs) []):=by
 have e:=xX hall;have hl':(keys.filterMap id).length=values.length:=by rw[<- hl,<- congrArg List.length e,aR2]
 have:=xW (pos:=pos) hk hv hl';rw[e]at this;exact aJ3 this hall hl h0 h15
theorem bO.is:∀{xs:List N}{ys:List V}{us:List aV3},(∀x∈xs,∀v u,NAt X.K H x v->aI v u->IsN s.heap x u)->bO X.K H xs ys->aM ys us->aP s.heap xs us
 |[],ys,us,_,h,r=>by rw[bO]at h;subst h;cases r;rw[aP]
 |x::xs,ys,us,k,h,r=>by
  rw[bO]at h;obtain⟨y,zs,rfl,h1,h2⟩:=h;cases r with
  |cons r1 r2=>rw[aP];exact⟨_,_,rfl,k x mcs _ _ h1 r1,bO.is (λz hz=>k z (mcm hz)) h2 r2⟩
theorem NAt.is(I:L2.Inv X aA σ H s)(k:N):∀v u,NAt X.K H k v->aI v u->IsN s.heap k u:=by
 induction k using N.ind with
 |hi n=>intro v u h r;rw[NAt]at h;subst h;obtain⟨t,rfl⟩:=r;rw[IsN];exact⟨t,rfl⟩
 |hs x=>intro v u h r;rw[NAt]at h;obtain⟨rfl,_,hk⟩:=h;obtain⟨t,rfl⟩:=r;rw[IsN];exact⟨⟨t,rfl⟩,hk⟩
 |ht xs ih=>intro v u h r;rw[NAt]at h;obtain⟨a,ys,rfl,hq,hl⟩:=h;cases r;obtain⟨its,rv,⟨o,e,c,_,n,d⟩,_⟩:=SqT.plain I hq;rw[IsN];exact⟨a,o,its.toArray,n,rfl,e,c,d,by simpa using bO.is ih hl rv⟩
abbrev KN:=Paired (λ(p:N×Addr×V) (q:N×Addr×aV3)=>p.1=q.1/\p.2.1=q.2.1/\aI p.2.2 q.2.2)
def iO(K:Fg)(H:Hp)(kvs:List (N×Addr×V)):Prop:=∀p∈kvs,NAt K H p.1 (.ref p.2.1)/\p.1.dp<=8
noncomputable def eL(kvs:List (N×Addr×V))(k:N):Option V:=(kvs.find? λp=>decide (p.1=k)).map (·.2.2)
def hV(kvs:List (N×Addr×V))(k:N)(b:Addr)(v:V):List (N×Addr×V):=if(eL kvs k).isSome=true then kvs.map (λp=>if p.1=k then(p.1,p.2.1,v)else p)else kvs++[(k,b,v)]
def xY{p:N×Addr×V}{r:List (N×Addr×V)}{k:N}(e:p.1=k):eL (p::r) k=some p.2.2:=by simp[eL,aSO,e]
def xZ{p:N×Addr×V}{r:List (N×Addr×V)}{k:N}(e:¬ p.1=k):eL (p::r) k=eL r k:=by simp[eL,aSO,e]
def KN.val{kvs:List (N×Addr×V)}{xs:List (N×Addr×aV3)}(r:KN kvs xs)(k:N):cK (eL kvs k) ((atKey xs k).map (·.2)):=by
 induction r with
 |nil=>exact True.intro
 | @cons p q ps qs h t ih =>
  by_cases e:p.1=k
  . have b:atKey (q::qs) k=some q.2:=by simp[atKey,aSO,h.1.symm.trans e]
    rw[xY e,b];exact h.2.2
  . have e':¬ q.1=k:=λz=>e (h.1.trans z);have b:atKey (q::qs) k=atKey qs k:=by simp[atKey,aSO,e']
    rw[xZ e,b];exact ih
def KN.repl{kvs:List (N×Addr×V)}{xs:List (N×Addr×aV3)}(r:KN kvs xs)(k:N)(ry:aI y u):KN (kvs.map λp=>if p.1=k then(p.1,p.2.1,y)else p) (xs.map (putAt k u)):=by
 induction r with
 |nil=>exact .nil
 | @cons p q ps qs h t ih =>
  rw[aSS,aSS];refine .cons ?_ ih;unfold putAt;by_cases e:p.1=k
  . rw[if_pos e,if_pos (h.1.symm.trans e)];exact⟨h.1,h.2.1,ry⟩
  . rw[if_neg e,if_neg (λz=>e (h.1.trans z))];exact h
def KN.put{kvs:List (N×Addr×V)}{xs:List (N×Addr×aV3)}(r:KN kvs xs)(k:N)(b:Addr)(ry:aI y u):KN (hV kvs k b y) (storedH xs k b u):=by
 have e:(eL kvs k).isSome=(atKey xs k).isSome:=by rw[(r.val k).isSome_eq,Option.isSome_map]
 unfold hV storedH;rw[e];by_cases q:(atKey xs k).isSome=true
 . rw[if_pos q,if_pos q];exact r.repl k ry
 . rw[if_neg q,if_neg q];exact Paired.snoc r ⟨rfl,rfl,ry⟩
theorem aJ5(kvs:List (N×Addr×V))(k:N)(b:Addr)(v:V):(hV kvs k b v).length<=kvs.length+1:=by
 unfold hV;split
 . rw[aR2];lia
 . rw[aR1];exact aRD _
def KN.is{kvs:List (N×Addr×V)}{xs:List (N×Addr×aV3)}{P:N->Addr->Prop}(r:KN kvs xs)(h:∀p∈kvs,P p.1 p.2.1):∀x∈xs,P x.1 x.2.1:=by
 induction r with
 |nil=>intro x hx;cases hx
 | @cons p q ps qs hq t ih =>
  intro x hx;rcases aQU.mp hx with e|hx
  . subst e;have:=h p mcs;rw[hq.1,hq.2.1]at this;exact this
  . exact ih (λp hp=>h p (mcm hp)) x hx
def nZ{a:Addr}{kvs:List (N×Addr×V)}(I:L2.Inv X aA σ H s)(e:Rd H a (.dN kvs))(hk:iO X.K H kvs):kvs.length<=sizeLine/\(a==sysModules)=false/\∃xs,KN kvs xs/\s.heap.DictOfH (nG X.prog X.w) a xs:=by
 obtain⟨z,y,xs,r,o,es,ep,h1,h2,h3,h4,h5⟩:=(show bD X.prog X.w H s.heap a (.dN kvs)from e.ok I.hok)
 exact⟨z,y,xs,r,o,es,ep,h1,h2,h3,h4,KN.is (P:=λk b=>(nG X.prog X.w).is s.heap k b) r λp hp=>⟨NAt.is I _ _ _ (hk p hp).1 rfl,(hk p hp).2⟩,h5⟩
def jW(K:Fg)(H:Hp)(a:Addr)(y:V)(r:Option V):Prop:=∃kvs k b,Rd H a (.dN kvs)/\iO K H kvs/\y=.ref b/\(NAt K H k (.ref b)/\k.dp<=8)/\r=eL kvs k
def NPut(K:Fg)(H:Hp)(a:Addr)(y v:V)(H':Hp):Prop:=∃kvs k b,H a=some (.dN kvs)/\iO K H kvs/\y=.ref b/\(NAt K H k (.ref b)/\k.dp<=8)/\kvs.length<sizeLine/\H'=upd H a (.dN (hV kvs k b v))
section
variable {a:Addr}{d:V}{r:aV3}{o:Option V}{A:aV5}{E:VSP}
theorem qR(hu:A.units+64<cLine):(nG X.prog X.w).room A.in1:=by show A.units+1+8<cLine;lia
def aJ6{Q:VSP}(hu:A.units+64<cLine)(I:L2.Inv X aA σ H s)(g:jW X.K H a y (some v))(ry:aI y u)(h:∀w' s',L2.Inv X aA σ H s'->aI v w'->Q w' s'):wpAny (model X.prog X.w) A (getItem (.ref a) u) Q E s:=by
 obtain⟨kvs,k,b,e,hk,rfl,kb,l⟩:=g;cases ry;obtain⟨z,hd,xs,rel,dd⟩:=nZ I e hk;obtain⟨w',hw,rw'⟩:=cK.some_of (v:=v) (o:=(atKey xs k).map (·.2)) (by rw[l];exact rel.val k)
 obtain⟨p,hp,hp2⟩:=Option.map_eq_some_iff.mp hw;refine wpAny_getItem_heap (qR hu) (k:=k) ⟨NAt.is I _ _ _ kb.1 rfl,kb.2⟩ dd hp ?_;rw[hp2];exact h w' _ (I.tok _) rw'
def aJ7{Q:VSP}(hu:A.units+64<cLine)(I:L2.Inv X aA σ H s)(g:jW X.K H a y o)(ry:aI y u)(rd:aI d r)(h:∀w' s',L2.Inv X aA σ H s'->aI (o.getD d) w'->Q w' s'):wpAny (model X.prog X.w) A (call (.builtin "dict.get") [.ref a,u,r]) Q E s:=by obtain⟨kvs,k,b,e,hk,rfl,kb,l⟩:=g;cases ry;obtain⟨z,hd,xs,rel,dd⟩:=nZ I e hk;refine call_meetsIn aSU dd.typeIs aSV (aSW _ _ _) (meetsH_dict_get_default (nG X.prog X.w) a b hd r) ⟨qR hu,k,xs,⟨NAt.is I _ _ _ kb.1 rfl,kb.2⟩,dd,h _ _ (I.tok _) ?_⟩;rw[l];exact(rel.val k).getD rd
theorem aJ8(hu:A.units+64<cLine)(I:L2.Inv X aA σ H s)(g:NPut X.K H a y v H')(ry:aI y u)(rv:aI v r)(h:∀s',L2.Inv X aA σ H' s'->Q () s'):wpAny (model X.prog X.w) A (setItem (.ref a) u r) Q E s:=by
 obtain⟨kvs,k,b,e,hk,rfl,kb,l,rfl⟩:=g;cases ry;obtain⟨z,hd,xs,rel,dd⟩:=nZ I (.inl e) hk;have hz:xs.length<=sizeLine:=by rw[<- aQI rel];exact z
 have hl:(hV kvs k b v).length<=sizeLine:=by have:=aJ5 kvs k b v;lia
 refine wpAny_setItem_heap (hsz:=hz) (qR hu) (k:=k) ⟨NAt.is I _ _ _ kb.1 rfl,kb.2⟩ dd λh' dd' hs=>h _ ?_;obtain⟨q,es,ep,hq,h2,h3,h4,_,h5⟩:=dd';exact nE I (by rw[e];exact True.intro) hs ⟨q,hq⟩ ⟨hl,hd,_,rel.put k b rv,q,es,ep,hq,h2,h3,h4,h5⟩
def aJ9(I:L2.Inv X aA σ H s)(g:jW X.K H a y o):s.TypeIs (.ref a) "dict" := by obtain⟨kvs,k,b,e,hk,_⟩:=g;obtain⟨_,_,xs,_,dd⟩:=nZ I e hk;exact dd.typeIs
end
open PySem.Calls
mutual
def nD:N->D
 |.i n=>.int n
 |.s x=>.str x
 |.t xs=>.tup (nDL xs)
def nDL:List N->List D
 |[]=>[]
 |x::xs=>nD x::nDL xs
end
mutual
def bR:D->Option N
 |.int i=>some (.i i)
 |.str x=>some (.s x)
 |.tup ds=>(eM ds).map .t
 |_=>none
def eM:List D->Option (List N)
 |[]=>some []
 |d::ds=>match bR d,eM ds with
  |some k,some ks=>some (k::ks)
  |_,_=>none
end
def cW(d:D):Option N:=match d with
 |.tup ds=>match eM ds with
  |some ks=>if(N.t ks).dp<=8 then some (.t ks)else none
  |none=>none
 |_=>none
section
variable  {F:Hp}
mutual
theorem yA:∀{d:D}{k:N}{v:V},bR d=some k->aB K F d v->NAt K F k v
 |.int i,k,v,e,r=>by simp only[bR]at e;cases e;simpa only [aB,NAt]using r
 |.str x,k,v,e,r=>by simp only[bR]at e;cases e;simpa only [aB,NAt]using r
 |.tup ds,k,v,e,r=>by simp only[bR]at e;obtain⟨ks,ek,rfl⟩:=Option.map_eq_some_iff.mp e;simp only[aB]at r;obtain⟨a,xs,rfl,hq,rl⟩:=r;rw[NAt];exact⟨a,xs,rfl,hq,qS ek rl⟩
 |.non,_,_,e,_=>by simp only[bR]at e;cases e
 |.bl _,_,_,e,_=>by simp only[bR]at e;cases e
 |.lst _,_,_,e,_=>by simp only[bR]at e;cases e
 |.dct _,_,_,e,_=>by simp only[bR]at e;cases e
 |.ty _,_,_,e,_=>by simp only[bR]at e;cases e
 |.ob _,_,_,e,_=>by simp only[bR]at e;cases e
 |.ins _ _,_,_,e,_=>by simp only[bR]at e;cases e
 |.fn _,_,_,e,_=>by simp only[bR]at e;cases e
 |.exn _,_,_,e,_=>by simp only[bR]at e;cases e
 |.set _,_,_,e,_=>by simp only[bR]at e;cases e
 |.dtn _,_,_,e,_=>by simp only[bR]at e;cases e
 |.dtf _,_,_,e,_=>by simp only[bR]at e;cases e
 |.dcf _,_,_,e,_=>by simp only[bR]at e;cases e
 |.clo _ _,_,_,e,_=>by simp only[bR]at e;cases e
theorem qS:∀{ds:List D}{ks:List N}{xs:List V},eM ds=some ks->aC K F ds xs->bO K F ks xs
 |[],ks,xs,e,r=>by simp only[eM]at e;cases e;simpa only [aC,bO]using r
 |d::ds,ks,xs,e,r=>by
  simp only[eM]at e;simp only[aC]at r;obtain⟨y,ys,rfl,r1,r2⟩:=r;cases e1:bR d with
  |none=>rw[e1]at e;cases e
  |some k =>
   cases e2:eM ds with
   |none=>rw[e1,e2]at e;cases e
   |some ks'=>rw[e1,e2]at e;cases e;rw[bO];exact⟨y,ys,rfl,yA e1 r1,qS e2 r2⟩
end
def n4{d:D}{k:N}{m:Md}(e:cW d=some k)(r:Rp K F H m d v):∃b,v=.ref b/\NAt K F k (.ref b)/\k.dp<=8:=by
 unfold cW at e;split at e
 . rename_i ds;split at e
   . rename_i ks ek;split at e
     . rename_i hd;cases e;cases m with
       |fz =>
        have r:aB K F (.tup ds) v:=r;have h:=yA (k:=.t ks) (by simp only[bR];rw[ek];rfl) r
        simp only[aB]at r;obtain⟨a,xs,rfl,_⟩:=r;exact⟨a,rfl,h,hd⟩
       |fr=>obtain⟨a,_,_,q⟩:=r;exact q.elim
       |bo=>obtain⟨a,_,_,q⟩:=r;exact q.elim
     . cases e
   . cases e
 . cases e
theorem yB:∀{xs:List N}{ys:List V},(∀x∈xs,∀v,NAt K F x v->aB K F (nD x) v)->bO K F xs ys->aC K F (nDL xs) ys
 |[],ys,_,h=>by rw[bO]at h;subst h;rw[nDL];exact aC.nil
 |x::xs,ys,k,h=>by rw[bO]at h;obtain⟨y,zs,rfl,h1,h2⟩:=h;rw[nDL];exact aC.cons (k x mcs y h1) (yB (λz hz=>k z (mcm hz)) h2)
def qT(k:N):∀v,NAt K F k v->aB K F (nD k) v:=by
 induction k using N.ind with
 |hi n=>intro v h;rw[NAt]at h;rw[nD];simpa only [aB]using h
 |hs x=>intro v h;rw[NAt]at h;rw[nD];simpa only [aB]using h
 |ht xs ih=>intro v h;rw[NAt]at h;obtain⟨a,ys,rfl,hq,hl⟩:=h;rw[nD];simp only[aB];exact⟨a,ys,rfl,hq,yB ih hl⟩
def cX(kvs:List (N×D))(k:N):Option D:=(kvs.find? λkv=>decide (kv.1=k)).map (·.2)
def jX(kvs:List (N×D))(k:N)(d:D):List (N×D):=if(cX kvs k).isSome=true then kvs.map (λkv=>if kv.1=k then(kv.1,d)else kv)else kvs++[(k,d)]
def yC{p:N×D}{r:List (N×D)}{k:N}(e:p.1=k):cX (p::r) k=some p.2:=by simp[cX,aSO,e]
def yD{p:N×D}{r:List (N×D)}{k:N}(e:¬ p.1=k):cX (p::r) k=cX r k:=by simp[cX,aSO,e]
theorem aN.val:∀{kvs:List (N×D)}{xs:List (N×Addr×V)} (k:N),aN K F kvs xs->match cX kvs k with|some d=>∃v,eL xs k=some v/\aB K F d v|none=>eL xs k=none
 |[],xs,k,h=>by simp only[aN]at h;subst h;rfl
 |(k',d)::kvs,xs,k,h=>by
  simp only[aN]at h;obtain⟨b,y,ys,rfl,_,r,t⟩:=h;by_cases e:k'=k
  . rw[yC (p:=(k',d)) e];exact⟨y,xY (p:=(k',b,y)) e,r⟩
  . rw[yD (p:=(k',d)) e,xZ (p:=(k',b,y)) e];exact aN.val k t
def aN.hasK{kvs:List (N×D)}{xs:List (N×Addr×V)}(k:N)(h:aN K F kvs xs):(eL xs k).isSome=(cX kvs k).isSome:=by
 have:=aN.val k h;cases e:cX kvs k with
 |none=>rw[e]at this;dsimp only at this;rw[this];rfl
 |some d=>rw[e]at this;obtain⟨v,ev,_⟩:=this;rw[ev];rfl
theorem aN.keys:∀{kvs:List (N×D)}{xs:List (N×Addr×V)},aN K F kvs xs->iO K F xs
 |[],xs,h=>by simp only[aN]at h;subst h;intro p hp;cases hp
 |(k',d)::kvs,xs,h=>by
  simp only[aN]at h;obtain⟨b,y,ys,rfl,q,r,t⟩:=h;intro p hp;rcases aQU.mp hp with rfl|hp
  . exact q
  . exact t.keys p hp
theorem iO.mono{xs:List (N×Addr×V)}(s:aD F F')(h:iO K F xs):iO K F' xs:=λp hp=>⟨NAt.mono s _ _ (h p hp).1,(h p hp).2⟩
theorem aN.len:∀{kvs:List (N×D)}{xs:List (N×Addr×V)},aN K F kvs xs->xs.length=kvs.length
 |[],xs,h=>by simp only[aN]at h;subst h;rfl
 |(k',d)::kvs,xs,h=>by simp only[aN]at h;obtain⟨b,y,ys,rfl,q,r,t⟩:=h;rw[aSQ,aSQ,t.len]
theorem aN.repl{k:N}{d:D}(rv:aB K F d v):∀{kvs:List (N×D)}{xs:List (N×Addr×V)},aN K F kvs xs->aN K F (kvs.map λkv=>if kv.1=k then(kv.1,d)else kv) (xs.map λp=>if p.1=k then(p.1,p.2.1,v)else p)
 |[],xs,h=>by simp only[aN]at h;subst h;simp only[aN,aST]
 |(k',d')::kvs,xs,h=>by
  simp only[aN]at h;obtain⟨b,y,ys,rfl,q,r,t⟩:=h;rw[aSS,aSS];by_cases e:k'=k
  . rw[if_pos e,if_pos e];simp only[aN];exact⟨b,v,_,rfl,q,rv,t.repl rv⟩
  . rw[if_neg e,if_neg e];simp only[aN];exact⟨b,y,_,rfl,q,r,t.repl rv⟩
theorem aN.snoc{k:N}{d:D}(hk:NAt K F k (.ref b)/\k.dp<=8)(rv:aB K F d v):∀{kvs:List (N×D)}{xs:List (N×Addr×V)},aN K F kvs xs->aN K F (kvs++[(k,d)]) (xs++[(k,b,v)])
 |[],xs,h=>by simp only[aN]at h;subst h;simp only[aN,aS9];exact⟨b,v,[],rfl,hk,rv,rfl⟩
 |(k',d')::kvs,xs,h=>by simp only[aN]at h;obtain⟨b',y,ys,rfl,q,r,t⟩:=h;rw[aSZ,aSZ];simp only[aN];exact⟨b',y,_,rfl,q,r,t.snoc hk rv⟩
def aN.put{k:N}{d:D}{kvs:List (N×D)}{xs:List (N×Addr×V)}(hk:NAt K F k (.ref b)/\k.dp<=8)(rv:aB K F d v)(h:aN K F kvs xs):aN K F (jX kvs k d) (hV xs k b v):=by
 unfold jX hV;rw[h.hasK k];split
 . exact h.repl rv
 . exact h.snoc hk rv
def asN:D->Option (List (N×D))
 |.dtn kvs=>some kvs
 |.dtf kvs=>some kvs
 |_=>none
theorem Rp.asN{m:Md}{d:D}{kvs:List (N×D)}(s:aD F H)(r:Rp K F H m d v)(e:asN d=some kvs):∃a xs,v=.ref a/\Rd H a (.dN xs)/\aN K F kvs xs:=by
 cases d with
 |dtn ks =>
  cases e;cases m with
  |fz=>have r:aB K F (.dtn kvs) v:=r;simp only[aB]at r;obtain⟨a,xs,rfl,q,t⟩:=r;exact⟨a,xs,rfl,.inl (s _ _ q),t⟩
  |fr=>obtain⟨a,rfl,_,xs,q,t⟩:=r;exact⟨a,xs,rfl,.inl q,t⟩
  |bo=>obtain⟨a,rfl,_,xs,q,t⟩:=r;exact⟨a,xs,rfl,.inl q,t⟩
 |dtf ks =>
  cases e;cases m with
  |fz=>have r:aB K F (.dtf kvs) v:=r;simp only[aB]at r;obtain⟨a,o,xs,rfl,q,t⟩:=r;exact⟨a,xs,rfl,.inr ⟨o,s _ _ q⟩,t⟩
  |fr=>obtain⟨a,_,_,q⟩:=r;exact q.elim
  |bo=>obtain⟨a,_,_,q⟩:=r;exact q.elim
 |_=>cases e
def yE{m n:Md}{x y:D}{kvs:List (N×D)}{k:N}{u:V}(s:aD F H)(rx:Rp K F H m x v)(ex:D3.asN x=some kvs)(ry:Rp K F H n y u)(ey:cW y=some k):∃a xs,v=.ref a/\Rd H a (.dN xs)/\aN K F kvs xs/\jW K H a u (eL xs k):=by obtain⟨a,xs,rfl,hr,t⟩:=Rp.asN s rx ex;obtain⟨b,rfl,hn,hd⟩:=n4 ey ry;exact⟨a,xs,rfl,hr,t,xs,k,b,hr,t.keys.mono s,rfl,⟨NAt.mono s _ _ hn,hd⟩,rfl⟩
end
def rIxN(K:Fg):R2:=λx y H Q=>∃a v,x=.ref a/\jW K H a y (some v)/\Q v H
def ix_dn(hu:X.A.units+64<cLine):IxR X (rIxN X.K):=by
 intro value slice aA s σ H x y v u Q I rx ry h hsub;obtain⟨a,w',rfl,g,q⟩:=h;cases(show v=Value.ref a from rx)
 have hT:=aJ9 I g;unfold subscriptTail;refine aRA ?_;rw[getitemInPython_of_ne hT.not_modules];refine aRA (aS1 hT PySem.F.slot_dict_getitem.lookup ?_);have fin:wpAny (model X.prog X.w) X.A (subscripted slice false (.ref a) u) (λr s3=>wpAny (model X.prog X.w) X.A (letTemporaryGo value (.ref a) r>>=λ_=>pure r) (EP X aA σ Q) X.xe s3) X.xe s:=by rw[hsub];exact wpAny_operating (aJ6 hu I g ry λz s3 I3 rz=>aRA (wpAny_letTemporaryGo (aQ9 ⟨w',H,I3,rz,q⟩)))
 first
  |exact aQ9 (aRA fin)
  |exact aRA (aQ9 (aRA fin))
  |exact aRA fin
noncomputable def lJ:Md->D->Md->D->Option (Md×D):=λ_ x _ y=>match asN x,cW y with
 |some kvs,some k=>(cX kvs k).map λd=>(.fz,d)
 |_,_=>none
def lK(ra rk rd:Res):Res:=ra.thn λ_ da=>match asN da with
 |some kvs=>rk.thn λ_ dk=>(aW rd).thn λm d=>(match m,cW dk with
  |.fz,some k=>.ok .fz ((cX kvs k).getD d)
  |_,_=>.stuck)
 |none=>.stuck
noncomputable def lL(ρ:Rho)(i:Nat)(rk rv:Res):aG:=match ρ[i]? with
 |some (some (true,.dtn kvs))=>(aW rv).thS ρ λm d=>match m with
  |.fz=>rk.thS ρ λ_ kd=>(match cW kd with
   |some k=>if kvs.length<sizeLine then .nx (ρ.set i (some (true,.dtn (jX kvs k d))))else .stuck
   |none=>.stuck)
  |_=>.stuck
 |_=>.stuck
def tNNew:TE:=λ_ H Q=>∀p,H p=none->Q (.ref p) (upd H p (.dN []))
def aKA:PE X (.Dict [] [] pos) tNNew:=λaA s σ H Q I h =>
 wpAny_Dict_empty ⟨.ref s.heap.objs.size,_,I.laid (a:=s.heap.objs.size) (o:=.dN []) (t':=s.toks) (λ_ _ q=>hps q) (aRD _)
  ⟨aRN _,aQH.mpr (Ne.symm (aQO I.big)),[],.nil,_,#[],0,aQK _ rfl,⟨rfl,rfl,rfl⟩,rfl,rfl,aU1⟩,rfl,h _ (I.hok.fresh (aRD _))⟩
section
variable  {a b o f:Expr}{go gf:Rho->Res}
def aKB:PV C X (.Dict [] [] pos) (λ_=>.ok .fr (.dtn [])):=by refine PE.imp aKA λσ H Q q=>?_;rw[aQ]at q;obtain⟨ρ,F,R,w⟩:=q;intro p hp;exact w (.ref p) F _ (aH.fresh _ R.sub hp) ⟨p,rfl,R.sub.free hp,[],aV,by simp[aN]⟩ λ_ a ea=>by cases ea;exact hp
def aKC(hu:X.A.units+64<cLine)(ha:PV C X a ga)(hb:PV C X b gb)(hs:m7 b):PV C X (.Subscript a b pos) (λρ=>op2 lJ (ga ρ) (gb ρ)):=by
 refine PE.imp (vN (ix_dn hu) ha hb hs) λσ H Q q=>kU (λF H m x n y v u k d Q s rx ry e w=>?_) q;unfold lJ at e;split at e
 . rename_i kvs ky ek1 ek2;obtain⟨p,xs,rfl,hh,rk,g⟩:=yE s rx ek1 ry ek2;have hv:=aN.val ky rk;cases eg:cX kvs ky with
   |none=>rw[eg]at e;cases e
   |some d'=>rw[eg]at e hv;cases e;obtain⟨v',ev,rv⟩:=hv;rw[ev]at g;exact⟨p,v',rfl,g,w v' F H (.refl s) rv (by nofun)⟩
 . cases e
def IsDN(H:Hp)(a:Addr):Prop:=∃kvs,Rd H a (.dN kvs)
def yF{a:Addr}(I:L2.Inv X aA σ H s)(d:IsDN H a):s.TypeIs (.ref a) "dict" /\ ∀b,Value.ref a=.ref b->∃ob,s.heap.get? b=some ob/\ob.dict=none:=by
 obtain⟨kvs,e⟩:=d;obtain⟨_,_,xs,_,ob,es,ep,h1,h2,_⟩:=(show bD X.prog X.w H s.heap a (.dN kvs)from e.ok I.hok)
 exact⟨⟨ob,h1,h2.1⟩,λb q=>by cases q;exact⟨ob,h1,h2.2.1⟩⟩
def yG(K:Fg)(td ty tx:TE):TE:=λσ H Q=>td σ H λx H1=>∃a,x=.ref a/\IsDN H1 a/\ty σ H1 λy H2=>tx σ H2 λz H3=>∃o,jW K H3 a y o/\Q (o.getD z) H3
def aKD{ty tx:TE}(hu:X.A.units+64<cLine)(ho:PE X o td)(he:PE X e ty)(hf:PE X f tx)(m:M2 X o "get" apos e f cpos):PE X (.Call (.Attribute o "get" apos) [e,f] [] cpos) (yG X.K td ty tx):=by
 intro aA s σ H Q I h;refine wpAny_Call_method m.base m.few m.line PySem.F.plainAttrs_dict aSU PySem.F.type_dict_get (thn (ho aA s σ H _ I h) λu s1 ⟨x,H1,I1,rx,a,ex,d,q1⟩=>?_);subst ex;obtain rfl:u=Value.ref a:=rx;refine⟨(yF I1 d).1,(yF I1 d).2,?_⟩;rw[m.trees];refine aSL rfl (aSM (aRP (thn (he aA s1 σ H1 _ I1 q1) λiv s2 ⟨y,H2,I2,ry,q2⟩ =>
  aRP (thn (hf aA s2 σ H2 _ I2 q2) λfv s3 ⟨z,H3,I3,rz,ov,g,q3⟩=>aRO ?_))))
 exact aJ7 hu I3 g ry rz λw' s4 I4 rw'=>⟨_,H3,I4,rw',q3⟩
def aKE(hu:X.A.units+64<cLine)(ho:PV C X o go)(he:PV C X e ge)(hf:PV C X f gf)(m:M2 X o "get" apos e f cpos):PV C X (.Call (.Attribute o "get" apos) [e,f] [] cpos) (λρ=>lK (go ρ) (ge ρ) (gf ρ)):=by
 refine PE.imp (aKD hu ho he (fW hf) m) λσ H Q q=>?_;unfold yG;rw[aQ]at q ⊢;obtain⟨ρ,F,R,w⟩:=q;refine⟨ρ,F,R,?_⟩;unfold lK at w;cases ea:go ρ with
 |stuck=>rw[ea]at w;exact w
 |exc c=>rw[ea]at w;exact w
 |ok ma da =>
  rw[ea,Res.thn_ok]at w;intro v F1 H1 s1 r1 _;have w1:=aT.step s1 w;cases en:asN da with
  |none=>rw[en]at w1;exact w1.elim
  |some kvs =>
   rw[en]at w1;dsimp only at w1;obtain⟨a,xs,rfl,hh,rk⟩:=Rp.asN s1.sub r1 en;refine⟨a,rfl,⟨xs,hh⟩,?_⟩;rw[aQ];refine⟨ρ,F1,R.step s1,?_⟩;cases ek:ge ρ with
   |stuck=>rw[ek]at w1;exact w1
   |exc c=>rw[ek]at w1;exact w1
   |ok mk dk =>
    rw[ek,Res.thn_ok]at w1;intro y F2 H2 s2 r2 _;have w2:=aT.step s2 w1;rw[aQ];refine⟨ρ,F2,(R.step s1).step s2,?_⟩;cases ed:aW (gf ρ)with
    |stuck=>rw[ed]at w2;exact w2
    |exc c=>rw[ed]at w2;exact w2
    |ok md d =>
     rw[ed,Res.thn_ok]at w2;intro z F3 H3 s3 r3 _;have w3:=aT.step s3 w2;have hm:md=.fz:=qI ed;subst hm;cases ek2:cW dk with
     |none=>rw[ek2]at w3;exact w3.elim
     |some k =>
      rw[ek2]at w3;dsimp only at w3;obtain⟨a',xs',ea',hh',rk',g⟩:=yE s3.sub ((r1.step s2).step s3) en (r2.step s3) ek2;cases ea';refine⟨_,g,?_⟩;have hv:=aN.val k rk';cases eg:cX kvs k with
      |none=>rw[eg]at hv w3;dsimp only at hv;rw[hv];exact w3 z F3 H3 (.refl s3.sub) r3 (by nofun)
      |some d'=>rw[eg]at hv w3;obtain⟨v',ev,rv⟩:=hv;rw[ev];exact w3 v' F3 H3 (.refl s3.sub) rv (by nofun)
def yH(K:Fg)(td ty tv:TE):TS:=λD σ H=>tv σ H λv H1=>td σ H1 λx H2=>ty σ H2 λy H3=>∃a H4,x=.ref a/\NPut K H3 a y v H4/\D.nx σ H4
def aKF{i value:Expr}{ty:TE}(hu:X.A.units+64<cLine)(ho:PE X o td)(hi:PE X i ty)(hv:PE X value tv)(hs:swapsWith value (some (.Subscript o i pos')) pos.line X.env=pure false):PS X (.Assign [.Subscript o i pos'] value pos) (yH X.K td ty tv):=by intro aA s σ H D I h;refine wpAny_Assign_Subscript (thn (hv aA s σ H _ I h) λr s1 ⟨v,H1,I1,rv,q1⟩=>thn (ho aA s1 σ H1 _ I1 q1) λu s2 ⟨x,H2,I2,rx,q2⟩=>thn (hi aA s2 σ H2 _ I2 q2) λiv s3 ⟨y,H3,I3,ry,a,H4,ex,g,q3⟩=>?_) hs;subst ex;obtain rfl:u=Value.ref a:=rx;exact aJ8 hu I3 g ry rv λs4 I4=>⟨σ,H4,I4,q3⟩
end
section
variable  {gk:Rho->Res}{sp:Pos}
def aKG(i:Nat)(hu:X.A.units+64<cLine)(hv:PE X (.Name x p) (gH i))(hk:PV C X ke gk)(he:PV C X e g)(hsw:swapsWith e (some (.Subscript (.Name x p) ke sp)) pos.line X.env=pure false):PSv C X (.Assign [.Subscript (.Name x p) ke sp] e pos) (λρ=>lL ρ i (gk ρ) (g ρ)):=by
 refine PS.imp (aKF hu hv hk (fW he) hsw) λE σ H q=>?_;obtain⟨ρ,F,R,w⟩:=q;dsimp only at w;unfold yH;unfold lL at w;split at w
 . rename_i kvs e0;obtain⟨v0,ev0,rp0,hn0⟩:=R.slot i true _ e0;obtain⟨a,ea,hfa,xs,hh,rk⟩:=rp0;subst ea;refine iJ R w λm d v F' H' w' s R' rp fr=>?_;cases m with
   |fr=>exact(show False from w').elim
   |bo=>exact(show False from w').elim
   |fz =>
   dsimp only at w';refine⟨.ref a,ev0,?_⟩;refine iJ R' w' λm2 kd u F2 H2 w2 s2 R2 rp2 _=>?_;cases ek:cW kd with
   |none=>rw[ek]at w2;exact w2.elim
   |some k =>
    rw[ek]at w2;dsimp only at w2;split at w2
    . rename_i hl;have hh2:H2 a=some (.dN xs):=s2.same _ _ (s.same _ _ hh);obtain⟨b,rfl,hn,hd⟩:=n4 ek rp2;have rk2:=rk.mono (s.fsame.trans s2.fsame) _ _;refine⟨a,_,rfl,⟨xs,k,b,hh2,rk2.keys.mono s2.sub,rfl,⟨NAt.mono s2.sub _ _ hn,hd⟩,by rw[rk.len];exact hl,rfl⟩,?_⟩
      exact w2 σ F2 _ (aD.refl _) (R2.mut e0 ev0 ⟨_,aV,aN.put ⟨hn,hd⟩ (aB.mono s2.fsame _ _ rp) rk2⟩)
    . exact w2.elim
 . exact w.elim
end
open PySem.W
structure WkO(lt:Nat->Nat->Bool):Prop where
 ntr:∀{i j k},lt i j=false->lt j k=false->lt i k=false
 asy:∀{i j},lt i j=true->lt j i=false
def WkO.irr{lt:Nat->Nat->Bool}(O:WkO lt)(i:Nat):lt i i=false:=by
 cases e:lt i i with
 |false=>rfl
 |true=>have:=O.asy e;rw[e]at this;cases this
structure PW(n:Nat)(p:Array Nat):Prop where
 size:p.size=n
 below:∀k,p.getD k 0<n
def PW.perm{p q:Array Nat}(h:PW n p)(e:q.Perm p):PW n q:=by
 refine⟨by rw[e.size_eq,h.size],λk=>?_⟩
 simp only[aUV];cases z:q[k]? with
 |none=>have:=h.below p.size;simp only[aUV,Array.getElem?_size]at this;exact this
 |some v =>
  have hm:v∈p.toList:=(Array.perm_iff_toList_perm.mp e).mem_iff.mp (by rw[aRJ];exact aTJ z)
  obtain⟨i,hi⟩:=List.getElem?_of_mem hm;have:=h.below i;rw[aUT]at hi;simp only[aUV,hi]at this;exact this
section
variable {lt:Nat->Nat->Bool}{cmp:Nat->Nat->(Bool->aV4->Prop)->aV4->Prop}{J:aV4->Prop}
def Wup(lt:Nat->Nat->Bool)(p:Array Nat)(b:Nat):Prop:=∀i j,i<j->j<b->lt (p.getD j 0) (p.getD i 0)=false
def Wdn(lt:Nat->Nat->Bool)(p:Array Nat)(b:Nat):Prop:=∀i j,i<j->j<b->lt (p.getD i 0) (p.getD j 0)=false
def Weq(lt:Nat->Nat->Bool)(p:Array Nat)(a b:Nat):Prop:=∀i j,a<=i->i<b->a<=j->j<b->lt (p.getD i 0) (p.getD j 0)=false
theorem Wup.more(O:WkO lt){p:Array Nat}{m:Nat}(h:Wup lt p m)(hm:1<=m)(e:lt (p.getD m 0) (p.getD (m-1) 0)=false):Wup lt p (m+1):=λi j hij hj=>by
 by_cases hjm:j<m
 . exact h i j hij hjm
 . have:j=m:=by lia
   subst this;by_cases hi:i=j-1
   . rw[hi];exact e
   . exact O.ntr e (h i (j-1) (by lia) (by lia))
theorem Wdn.more(O:WkO lt){p:Array Nat}{m:Nat}(h:Wdn lt p m)(hm:1<=m)(e:lt (p.getD (m-1) 0) (p.getD m 0)=false):Wdn lt p (m+1):=λi j hij hj=>by
 by_cases hjm:j<m
 . exact h i j hij hjm
 . have:j=m:=by lia
   subst this;by_cases hi:i=j-1
   . rw[hi];exact e
   . exact O.ntr (h i (j-1) (by lia) (by lia)) e
def hW{p:Array Nat}(a b:Nat)(hb:b<=p.size)(k:Nat):(kas_rev p a b).getD k 0=if a<=k/\k<b then p.getD (a+b-1-k) 0 else p.getD k 0:=by simp only[aUV];unfold kas_rev;rw[getElem?_mirror_all hb];split <;> rfl
def n6{p:Array Nat}(pp:PW n p)(a b:Nat):PW n (kas_rev p a b)/\(kas_rev p a b).Perm p:=by have pe:(kas_rev p a b).Perm p:=mirror_perm _ _ _ _;exact⟨pp.perm pe,pe⟩
theorem qU(O:WkO lt)(hc:gN n lt cmp J){p:Array Nat}(pp:PW n p):∀(f m:Nat) (s:aV4) (Q:Nat->aV4->Prop),m+f=n->1<=m->Wup lt p m->J s->(∀m' s',m<=m'->m'<=n->Wup lt p m'->(m'<n->lt (p.getD m' 0) (p.getD (m'-1) 0)=true)->J s'->Q m' s')->(kas_asc p f m).kasWp cmp Q s
 |0,m,s,Q,e,h1,u,hJ,q=>q m s (aRD _) (by lia) u (λz=>by lia) hJ
 |f+1,m,s,Q,e,h1,u,hJ,q=>by
  refine hc _ _ s _ (pp.below m) (pp.below (m-1)) hJ λs' hJ'=>?_;cases ec:lt (p.getD m 0) (p.getD (m-1) 0)with
  |true=>exact q m s' (aRD _) (by lia) u (λ_=>ec) hJ'
  |false=>exact qU O hc pp f (m+1) s' Q (by lia) (by lia) (u.more O h1 ec) hJ' λm' s2 a b c d e=>q m' s2 (by lia) b c d e
theorem Wdn.turn{p:Array Nat}{a m:Nat}(hp:m<=p.size)(d:Wdn lt p m)(e:Weq lt p a m):Wdn lt (kas_rev p a m) m:=λi j hij hj=>by
 rw[hW a m hp,hW a m hp];by_cases hi:a<=i
 . rw[if_pos ⟨hi,by lia⟩,if_pos ⟨by lia,hj⟩]
   exact e _ _ (by lia) (by lia) (by lia) (by lia)
 . rw[if_neg (by lia)]
   by_cases hj2:a<=j
   . rw[if_pos ⟨hj2,hj⟩];exact d _ _ (by lia) (by lia)
   . rw[if_neg (by lia)];exact d i j hij hj
theorem n8(O:WkO lt)(hc:gN n lt cmp J)(p0:Array Nat):∀(f m q:Nat) (p:Array Nat) (s:aV4) (Q:Array Nat×Nat×Nat->aV4->Prop),PW n p->p.Perm p0->m+f=n->q+1<=m->Wdn lt p m->Weq lt p (m-(q+1)) m->J s->(∀p' m' q' s',PW n p'->p'.Perm p0->q'+1<=m'->1<=m'->m'<=n->Wdn lt p' m'->Weq lt p' (m'-(q'+1)) m'->J s'->Q (p',m',q') s')->(kas_desc f p m q).kasWp cmp Q s
 |0,m,q,p,s,Q,pp,pe,e,h1,u,we,hJ,k=>k p m q s pp pe h1 (by lia) (by lia) u we hJ
 |f+1,m,q,p,s,Q,pp,pe,e,h1,u,we,hJ,k=>by
  unfold kas_desc;refine hc _ _ s _ (pp.below m) (pp.below (m-1)) hJ λs' hJ'=>?_;have sz:=pp.size;cases ec:lt (p.getD m 0) (p.getD (m-1) 0)with
  |true =>
   have e1:=O.asy ec;have one:∀(r:Array Nat),Weq lt r (m+1-(0+1)) (m+1):=λr i j a b c d=>by
    have:i=j:=by lia
    subst this;exact O.irr _
   dsimp only;rw[if_pos rfl];by_cases hq:q > 0
   . rw[if_pos hq];obtain⟨pp2,pe2⟩:=n6 pp (m-(q+1)) m;refine n8 O hc p0 f (m+1) 0 _ s' Q pp2 (pe2.trans pe) (by lia) (by lia) ?_ (one _) hJ' k
     refine(u.turn (by lia) we).more O (by lia) ?_
     rw[hW _ _ (by lia),hW _ _ (by lia),if_pos ⟨by lia,by lia⟩,if_neg (by lia)]
     exact O.ntr (we _ (m-1) (by lia) (by lia) (by lia) (by lia)) e1
   . rw[if_neg hq];exact n8 O hc p0 f (m+1) 0 p s' Q pp pe (by lia) (by lia) (u.more O (by lia) e1) (one _) hJ' k
  |false =>
   dsimp only;rw[if_neg aQ7];refine hc _ _ s' _ (pp.below (m-1)) (pp.below m) hJ' λs2 hJ2=>?_;cases ed:lt (p.getD (m-1) 0) (p.getD m 0)with
   |true=>dsimp only;rw[if_pos rfl];exact k p m q s2 pp pe h1 (by lia) (by lia) u we hJ2
   |false =>
    dsimp only;rw[if_neg aQ7];refine n8 O hc p0 f (m+1) (q+1) p s2 Q pp pe (by lia) (by lia) (u.more O (by lia) ed) (λi j a b c d=>?_) hJ2 k
    by_cases hi:i<m
    . by_cases hj:j<m
      . exact we i j (by lia) hi (by lia) hj
      . have:j=m:=by lia
        subst this;exact O.ntr (we i (j-1) (by lia) hi (by lia) (by lia)) ed
    . have:i=m:=by lia
      subst this;by_cases hj:j<i
      . exact O.ntr ec (we (i-1) j (by lia) (by lia) (by lia) hj)
      . have:j=i:=by lia
        subst this;exact O.irr _
theorem yI(O:WkO lt)(hc:gN n lt cmp J){p:Array Nat}(pp:PW n p){m:Nat}(h1:1<=m)(hm:m<=n)(d:Wdn lt p m){Q:Nat×Array Nat->aV4->Prop}(hJ:J s)(q:∀m' p' s',1<=m'->m'<=n->PW n p'->p'.Perm p->Wup lt p' m'->J s'->Q (m',p') s'):(kas_tail3 m n p).kasWp cmp Q s:=by
 unfold kas_tail3;rw[KasT.kasWp_bind];obtain⟨pp2,pe2⟩:=n6 pp 0 m;have sz:=pp.size;refine qU O hc pp2 (n-m) m s _ (by lia) h1 (λi j hij hj=>?_) hJ λm2 s3 a2 b2 u2 _ hJ3=>q m2 _ s3 (by lia) b2 pp2 pe2 u2 hJ3
 rw[hW _ _ (by lia),hW _ _ (by lia),if_pos ⟨by lia,by lia⟩,if_pos ⟨by lia,by lia⟩]
 exact d _ _ (by lia) (by lia)
theorem yJ(O:WkO lt)(hc:gN n lt cmp J){p:Array Nat}(pp:PW n p){m:Nat}(hm:m<n)(d:Wdn lt p (m+1)){Q:Nat×Array Nat->aV4->Prop}(hJ:J s)(q:∀m' p' s',1<=m'->m'<=n->PW n p'->p'.Perm p->Wup lt p' m'->J s'->Q (m',p') s'):(kas_descPart m n p).kasWp cmp Q s:=by
 unfold kas_descPart;rw[KasT.kasWp_bind];refine n8 O hc p (n-(m+1)) (m+1) 0 p s _ pp (aU2 _) (by lia) (by lia) d (λi j a b c d=>?_) hJ λp' m' q' s' pp' pe' h1 h2 h3 d' e' hJ'=>?_
 . have:i=j:=by lia
   subst this;exact O.irr _
 . dsimp only;have sz:=pp'.size;by_cases hq:q' > 0
   . rw[if_pos hq];obtain⟨pp2,pe2⟩:=n6 pp' (m'-(q'+1)) m';exact yI O hc pp2 h2 h3 (d'.turn (by lia) e') hJ' λm2 p2 s2 x1 x2 x3 x4 x5 x6=>q m2 p2 s2 x1 x2 x3 ((x4.trans pe2).trans pe') x5 x6
   . rw[if_neg hq];exact yI O hc pp' h2 h3 d' hJ' λm2 p2 s2 x1 x2 x3 x4 x5 x6=>q m2 p2 s2 x1 x2 x3 (x4.trans pe') x5 x6
theorem aKH(O:WkO lt)(hc:gN n lt cmp J)(hn:2<=n){p:Array Nat}(pp:PW n p){Q:Nat×Array Nat->aV4->Prop}(hJ:J s)(q:∀m' p' s',1<=m'->m'<=n->PW n p'->p'.Perm p->Wup lt p' m'->J s'->Q (m',p') s'):(kas_count n p).kasWp cmp Q s:=by
 unfold kas_count;rw[KasT.kasWp_bind];have sz:=pp.size;refine qU O hc pp (n-1) 1 s _ (by lia) (aRD _) (λi j h1 h2=>by lia) hJ λm s1 a b u d hJ1=>?_
 by_cases em:m=n
 . rw[if_pos (by simpa using em)]
   exact q m p s1 a b pp (aU2 _) u hJ1
 . rw[if_neg (by simpa using em)]
   have dm:=O.asy (d (by lia))
   by_cases h1:m > 1
   . rw[if_pos h1];refine hc _ _ s1 _ (pp.below 0) (pp.below (m-1)) hJ1 λs2 hJ2=>?_;cases ec:lt (p.getD 0 0) (p.getD (m-1) 0)with
     |true=>dsimp only;rw[if_pos rfl];exact q m p s2 a b pp (aU2 _) u hJ2
     |false =>
      dsimp only;rw[if_neg aQ7];obtain⟨pp2,pe2⟩:=n6 pp 0 m;have ge:∀i,i<m->lt (p.getD i 0) (p.getD 0 0)=false:=λi hi=>by
       by_cases h0:i=0
       . rw[h0];exact O.irr _
       . exact u 0 i (by lia) hi
      have le:∀i,i<m->lt (p.getD (m-1) 0) (p.getD i 0)=false:=λi hi=>by
       by_cases h0:i=m-1
       . rw[h0];exact O.irr _
       . exact u i (m-1) (by lia) (by lia)
      have all:Weq lt p 0 m:=λi j _ hi _ hj=>O.ntr (O.ntr (ge i hi) ec) (le j hj);refine yJ O hc pp2 (by lia) (Wdn.more O (Wdn.turn (by lia) (λi j hij hj=>all i j (by lia) (by lia) (by lia) hj) all) (by lia) ?_) hJ2 λm2 p2 s3 x1 x2 x3 x4 x5 x6=>q m2 p2 s3 x1 x2 x3 (x4.trans pe2) x5 x6
      rw[hW _ _ (by lia),hW _ _ (by lia),if_pos ⟨by lia,by lia⟩,if_neg (by lia)]
      exact O.ntr (all _ (m-1) (by lia) (by lia) (by lia) (by lia)) dm
   . rw[if_neg h1];have e1:m=1:=by lia
     subst e1
     exact yJ O hc pp (by lia) (λi j hij hj=>by
      have:i=0/\j=1:=by lia
      rw[this.1,this.2];exact dm) hJ1 q
theorem qV(O:WkO lt)(hc:gN n lt cmp J){p:Array Nat}(pp:PW n p){k:Nat}(hk:k<n)(u:Wup lt p k):∀(f l r:Nat) (s:aV4) (Q:Nat->aV4->Prop),l<=r->r<=k->r-l<=f->J s->(∀i,i<l->lt (p.getD k 0) (p.getD i 0)=false)->(∀i,r<=i->i<k->lt (p.getD i 0) (p.getD k 0)=false)->(∀l' s',l'<=k->(∀i,i<l'->lt (p.getD k 0) (p.getD i 0)=false)->(∀i,l'<=i->i<k->lt (p.getD i 0) (p.getD k 0)=false)->J s'->Q l' s')->(kas_place p k f l r).kasWp cmp Q s
 |0,l,r,s,Q,h1,h2,h3,hJ,a,b,q=>q l s (by lia) a (λi hi=>b i (by lia)) hJ
 |f+1,l,r,s,Q,h1,h2,h3,hJ,a,b,q=>by
  unfold kas_place;by_cases hlr:l ≥ r
  . rw[if_pos hlr];exact q l s (by lia) a (λi hi=>b i (by lia)) hJ
  . rw[if_neg hlr];refine hc _ _ s _ (pp.below k) (pp.below ((l+r) / 2)) hJ λs' hJ'=>?_;cases ec:lt (p.getD k 0) (p.getD ((l+r) / 2) 0)with
    |true =>
     refine qV O hc pp hk u f l ((l+r) / 2) s' Q (by lia) (by lia) (by lia) hJ' a (λi h4 h5=>?_) q
     by_cases e:i=(l+r) / 2
     . rw[e];exact O.asy ec
     . exact O.ntr (u _ i (by lia) h5) (O.asy ec)
    |false =>
     refine qV O hc pp hk u f ((l+r) / 2+1) r s' Q (by lia) h2 (by lia) hJ' (λi h4=>?_) b q
     by_cases e:i=(l+r) / 2
     . rw[e];exact ec
     . exact O.ntr ec (u i _ (by lia) (by lia))
theorem yK(O:WkO lt)(hc:gN n lt cmp J):∀(f k:Nat) (p:Array Nat) (s:aV4) (Q:Array Nat->aV4->Prop),k+f=n->PW n p->Wup lt p k->J s->(∀p' s',PW n p'->p'.Perm p->Wup lt p' n->J s'->Q p' s')->(kas_bin f p k).kasWp cmp Q s
 |0,k,p,s,Q,e,pp,u,hJ,q=>by
  have:k=n:=by lia
  subst this;exact q p s pp (aU2 _) u hJ
 |f+1,k,p,s,Q,e,pp,u,hJ,q=>by
  unfold kas_bin;rw[KasT.kasWp_bind];refine qV O hc pp (by lia) u k 0 k s _ (aRN _) (aRD _) (by lia) hJ (λi h=>by lia) (λi h1 h2=>by lia) λl s1 hl a b hJ1=>?_
  have pe:(bubble p k (k-l)).Perm p:=bubble_perm _ _ _;have g:=getElem?_bubble (xs:=p) (src:=k) (by rw[pp.size];lia) (k-l) (by lia)
  refine yK O hc f (k+1) _ s1 Q (by lia) (pp.perm pe) (λi j hij hj=>?_) hJ1 λp' s2 x y z w=>q p' s2 x (y.trans pe) z w
  have el:k-(k-l)=l:=by lia
  rw[el]at g;have gd:∀i,(bubble p k (k-l)).getD i 0=if i=l then p.getD k 0 else if l<i/\i<=k then p.getD (i-1) 0 else p.getD i 0:=λi=>by
   simp only[aUV];rw[g i];split
   . rfl
   . split <;> rfl
  rw[gd i,gd j];by_cases h1:i<l
  . rw[if_neg (show ¬ i=l by lia),if_neg (show ¬ (l<i/\i<=k) by lia)]
    by_cases h2:j=l
    . rw[if_pos h2];exact a i h1
    . rw[if_neg h2];split
      . exact u i (j-1) (by lia) (by lia)
      . exact u i j hij (by lia)
  . by_cases h2:i=l
    . rw[if_pos h2,if_neg (show ¬ j=l by lia),if_pos (show l<j/\j<=k by lia)]
      exact b (j-1) (by lia) (by lia)
    . rw[if_neg h2,if_pos (show l<i/\i<=k by lia),if_neg (show ¬ j=l by lia),if_pos (show l<j/\j<=k by lia)]
      exact u (i-1) (j-1) (by lia) (by lia)
theorem aKI(O:WkO lt)(hc:gN n lt cmp J)(hn:2<=n){Q:Array Nat->aV4->Prop}(hJ:J s)(q:∀p s',PW n p->p.Perm (List.toArray (List.range n))->Wup lt p n->J s'->Q p s'):(kas_sort n).kasWp cmp Q s:=by
 unfold kas_sort;rw[KasT.kasWp_bind];have pp:PW n (List.toArray (List.range n)):=by
  refine⟨by simp,λk=>?_⟩
  simp only[aUV,aUQ,aTN];by_cases hk:k<n
  . simp[hk]
  . simp[hk];lia
 refine aKH O hc hn pp hJ λm p s1 a b pp' pe u hJ1=>?_;by_cases h:m<n
 . rw[if_pos h];have em:max m 1=m:=by lia
   rw[em];exact yK O hc (n-m) m p s1 Q (by lia) pp' u hJ1 λp' s2 x y z w=>q p' s2 x (y.trans pe) z w
 . rw[if_neg h];have em:m=n:=by lia
   subst em;exact q p s1 pp' pe u hJ1
end
def hX:Nat:=64
def lM:hX<=1000000:=by decide
def qW:64<=hX:=aRD _
section
variable {A:aV5}{E:VSP}{κ:SortKind}{ks:List aV3}{lt:Nat->Nat->Bool}
def aKJ(O:WkO lt)(hl:ks.length=vs.length)(h1:2<=vs.length)(hb:vs.length<hX)(ask:∀i j (C:Bool->aV4->Prop),i<vs.length->j<vs.length->C (lt i j) s->wpAny (model prog w) A (keyLt' κ (ks.getD i .none) (ks.getD j .none)) C (λ_ _=>False) s){Q:SortSt->aV4->Prop}(q:∀p st',PW vs.length p->p.Perm (List.toArray (List.range vs.length))->Wup lt p vs.length->arrOf st'=p.map (kas_item (ks.toArray.zip vs.toArray))->failedOf st'=none->Q st' s):wpAny (model prog w) A ((sortRuns').run (SortSt.mk' κ (ks.toArray.zip vs.toArray) #[] 7 none)) (λr s'=>Q r.2 s') E s:=by
 have a:gN vs.length lt (kas_ask prog w A κ ks) (λs2=>s2=s):=λi j s2 C hi hj hJ q=>by subst hJ;unfold kas_ask;exact ask i j _ hi hj (q _ rfl)
 exact kat_run (G:=λp s2=>s2=s/\PW vs.length p/\p.Perm (List.toArray (List.range vs.length))/\Wup lt p vs.length) hl h1 hb (λp st' s2 a1 a2 a3 a4=>by
  obtain⟨rfl,b1,b2,b3⟩:=a4;exact q p st' b1 b2 b3 a2 a3) (aKI O a h1 rfl λp s2 b1 b2 b3 b4=>⟨b4,b1,b2,b3⟩)
end
mutual
def ltN:N->N->Bool
 |.i n,.i m=>decide (n<m)
 |.i _,.s _=>true
 |.i _,.t _=>true
 |.s _,.i _=>false
 |.s x,.s y=>lts x y
 |.s _,.t _=>true
 |.t _,.i _=>false
 |.t _,.s _=>false
 |.t xs,.t ys=>bF xs ys
def bF:List N->List N->Bool
 |[],[]=>false
 |[],_::_=>true
 |_::_,[]=>false
 |x::xs,y::ys=>if x=y then bF xs ys else ltN x y
end
mutual
def okN:N->N->Bool
 |.i _,.i _=>true
 |.s _,.s _=>true
 |.t xs,.t ys=>eW xs ys
 |.i _,.s _=>false
 |.i _,.t _=>false
 |.s _,.i _=>false
 |.s _,.t _=>false
 |.t _,.i _=>false
 |.t _,.s _=>false
def eW:List N->List N->Bool
 |[],_=>true
 |_::_,[]=>true
 |x::xs,y::ys=>if x=y then eW xs ys else okN x y
end
theorem yL:∀(xs:List N),bF xs xs=false
 |[]=>by rw[bF]
 |x::xs=>by rw[bF,if_pos rfl,yL xs]
def lN(k:N):ltN k k=false:=by
 cases k with
 |i n=>rw[ltN];simp
 |s x=>rw[ltN];exact nV x
 |t xs=>rw[ltN];exact yL xs
theorem yM:∀{xs ys:List N},(∀x∈xs,∀y,ltN x y=false->ltN y x=false->x=y)->bF xs ys=false->bF ys xs=false->xs=ys
 |[],[],_,_,_=>rfl
 |[],_::_,_,h,_=>by rw[bF]at h;cases h
 |_::_,[],_,_,h=>by rw[bF]at h;cases h
 |x::xs,y::ys,k,h1,h2=>by
  rw[bF]at h1 h2;by_cases e:x=y
  . subst e;rw[if_pos rfl]at h1 h2;rw[yM (λz hz=>k z (mcm hz)) h1 h2]
  . rw[if_neg e]at h1;rw[if_neg (λz=>e z.symm)]at h2;exact absurd (k x mcs y h1 h2) e
theorem qX(k:N):∀y,ltN k y=false->ltN y k=false->k=y:=by
 induction k using N.ind with
 |hi n =>
  intro y h1 h2;cases y with
  |i m =>
   rw[ltN]at h1 h2;have:n=m:=by have a1:=aU3 h1;have a2:=aU3 h2;lia
   rw[this]
  |s x=>rw[ltN]at h1;cases h1
  |t xs=>rw[ltN]at h1;cases h1
 |hs x =>
  intro y h1 h2;cases y with
  |i m=>rw[ltN]at h2;cases h2
  |s z=>rw[ltN]at h1 h2;rw[qO h1 h2]
  |t xs=>rw[ltN]at h1;cases h1
 |ht xs ih =>
  intro y h1 h2;cases y with
  |i m=>rw[ltN]at h2;cases h2
  |s z=>rw[ltN]at h2;cases h2
  |t ys=>rw[ltN]at h1 h2;rw[yM ih h1 h2]
theorem yN:∀{xs ys zs:List N},(∀x∈xs,∀y z,ltN x y=true->ltN y z=true->ltN x z=true)->bF xs ys=true->bF ys zs=true->bF xs zs=true
 |[],[],_,_,h,_=>by rw[bF]at h;cases h
 |[],_::_,[],_,_,h=>by rw[bF]at h;cases h
 |[],_::_,_::_,_,_,_=>by rw[bF]
 |_::_,[],_,_,h,_=>by rw[bF]at h;cases h
 |_::_,_::_,[],_,_,h=>by rw[bF]at h;cases h
 |x::xs,y::ys,z::zs,k,h1,h2=>by
  rw[bF]at h1 h2 ⊢;by_cases e1:x=y
  . subst e1;rw[if_pos rfl]at h1;by_cases e2:x=z
    . rw[if_pos e2]at h2 ⊢;exact yN (λz hz=>k z (mcm hz)) h1 h2
    . rw[if_neg e2]at h2 ⊢;exact h2
  . rw[if_neg e1]at h1;by_cases e2:y=z
    . subst e2;rw[if_neg e1];exact h1
    . rw[if_neg e2]at h2;have h3:=k x mcs y z h1 h2;by_cases e3:x=z
      . rw[<- e3]at h2;have:=k x mcs y x h1 h2;rw[lN]at this;cases this
      . rw[if_neg e3];exact h3
theorem qY(k:N):∀y z,ltN k y=true->ltN y z=true->ltN k z=true:=by
 induction k using N.ind with
 |hi n =>
  intro y z h1 h2;cases z with
  |i l =>
   cases y with
   |i m=>rw[ltN]at h1 h2 ⊢;have a1:=aTD h1;have a2:=aTD h2;exact aSP (by lia)
   |s x=>rw[ltN]at h2;cases h2
   |t xs=>rw[ltN]at h2;cases h2
  |s x=>rw[ltN]
  |t xs=>rw[ltN]
 |hs x =>
  intro y z h1 h2;cases y with
  |i m=>rw[ltN]at h1;cases h1
  |s x2 =>
   cases z with
   |i l=>rw[ltN]at h2;cases h2
   |s x3=>rw[ltN]at h1 h2 ⊢;exact qN h1 h2
   |t xs=>rw[ltN]
  |t xs =>
   cases z with
   |i l=>rw[ltN]at h2;cases h2
   |s x3=>rw[ltN]at h2;cases h2
   |t xs=>rw[ltN]
 |ht xs ih =>
  intro y z h1 h2;cases y with
  |i m=>rw[ltN]at h1;cases h1
  |s x2=>rw[ltN]at h1;cases h1
  |t ys =>
   cases z with
   |i l=>rw[ltN]at h2;cases h2
   |s x3=>rw[ltN]at h2;cases h2
   |t zs=>rw[ltN]at h1 h2 ⊢;exact yN ih h1 h2
def qZ{a b:N}(h:ltN a b=true):ltN b a=false:=by
 cases e:ltN b a with
 |false=>rfl
 |true=>have:=qY a b a h e;rw[lN]at this;cases this
def rA{a b c:N}(h1:ltN a b=false)(h2:ltN b c=false):ltN a c=false:=by
 cases e:ltN a c with
 |false=>rfl
 |true =>
  cases e1:ltN b a with
  |true=>have:=qY b a c e1 e;rw[h2]at this;cases this
  |false=>have:=qX a b h1 e1;subst this;rw[e]at h2;cases h2
def eX(l:List N):Prop:=l.Pairwise λx y=>ltN y x=false
def jY(x:N):List N->List N
 |[]=>[x]
 |y::l=>if ltN y x=true then y::jY x l else x::y::l
def dI(l:List N):List N:=l.foldr jY []
theorem rB(x:N):∀(l:List N),(jY x l).Perm (x::l)
 |[]=>aU4 _
 |y::l=>by
  unfold jY;split
  . exact((rB x l).cons y).trans (List.Perm.swap x y l)
  . exact aU4 _
theorem lO:∀(l:List N),(dI l).Perm l
 |[]=>aU4 _
 |x::l=>(rB x (dI l)).trans ((lO l).cons x)
theorem yO{x:N}:∀{l:List N},eX l->eX (jY x l)
 |[],_=>aU5 _ _
 |y::l,h=>by
  unfold jY;split
  . rename_i e;refine aUZ.mpr ⟨λz hz=>?_,yO (aUZ.mp h).2⟩;rcases aQU.mp ((rB x l).mem_iff.mp hz)with rfl|hz
    . exact qZ e
    . exact(aUZ.mp h).1 z hz
  . rename_i e;have e:ltN y x=false:=by simpa using e
    refine aUZ.mpr ⟨λz hz=>?_,h⟩;rcases aQU.mp hz with rfl|hz
    . exact e
    . exact rA ((aUZ.mp h).1 z hz) e
theorem rC:∀(l:List N),eX (dI l)
 |[]=>List.Pairwise.nil
 |x::l=>yO (rC l)
theorem yP:∀{l l':List N},eX l->eX l'->l.Perm l'->l=l'
 |[],l',_,_,p=>p.symm.eq_nil.symm
 |x::l,[],_,_,p=>p.eq_nil
 |x::l,y::l',h,h',p=>by
  have h1:=aUZ.mp h;have h2:=aUZ.mp h';have exy:x=y:=by
   have a:ltN y x=false:=by
    rcases aQU.mp (p.mem_iff.mpr mcs)with e|e
    . rw[e];exact lN _
    . exact h1.1 y e
   have b:ltN x y=false:=by
    rcases aQU.mp (p.mem_iff.mp mcs)with e|e
    . rw[e];exact lN _
    . exact h2.1 x e
   exact qX x y b a
  subst exy;rw[yP h1.2 h2.2 p.cons_inv]
def rE{l l':List N}(h:eX l')(p:l'.Perm l):l'=dI l:=yP h (rC l) (p.trans (lO l).symm)
theorem aKK{A:aV5}{x y:N}{v:aV3}(hu:A.units+x.dp<cLine)(hx:IsN s.heap x u)(hy:IsN s.heap y v):SeqAt.EqAt A s u v (decide (x=y)):=by
 obtain⟨⟨as,ra⟩,ca⟩:=IsN.reads x u hx;obtain⟨⟨bs,rb⟩,cb⟩:=IsN.reads y v hy;have:=aS4 x.py y.py A s u v as bs ra rb ca cb (by rw[N.py_depth];have:=aS5 x.dp y.py.depth;lia)
 rw[N.py_eqv]at this;exact this
theorem yQ{A:aV5}:∀{xs ys:List N}{us vs:List aV3},(∀x∈xs,∀(y:N) (u v:aV3),IsN s.heap x u->IsN s.heap y v->okN x y=true->∀(prog:aV7) (w':aV6) (E:VSP) (Q:VSP),Q (.bool (ltN x y)) s->wpAny (model prog w') A (compareOp .Lt u v) Q E s)->A.units+N.dpL xs<cLine->aP s.heap xs us->aP s.heap ys vs->eW xs ys=true->LtI A s us vs (bF xs ys)
 |[],[],us,vs,_,_,h1,h2,_=>by rw[aP]at h1 h2;subst h1;subst h2;rw[bF];exact .nn
 |[],y::ys,us,vs,_,_,h1,h2,_=>by rw[aP]at h1;rw[aP]at h2;subst h1;obtain⟨v,ws,rfl,_⟩:=h2;rw[bF];exact .nc
 |x::xs,[],us,vs,_,_,h1,h2,_=>by rw[aP]at h1;rw[aP]at h2;subst h2;obtain⟨v,ws,rfl,_⟩:=h1;rw[bF];exact .cn
 |x::xs,y::ys,us,vs,k,hu,h1,h2,ok=>by
  rw[aP]at h1 h2;obtain⟨u,us,rfl,p1,p2⟩:=h1;obtain⟨v,vs,rfl,q1,q2⟩:=h2;rw[N.dpL]at hu;rw[eW]at ok;have e:=aKK (A:=A) (by lia) p1 q1
  rw[bF];by_cases exy:x=y
  . rw[aSP exy]at e;rw[if_pos exy]at ok ⊢;exact .eq e (yQ (λz hz=>k z (mcm hz)) (by lia) p2 q2 ok)
  . rw[aQG exy]at e;rw[if_neg exy]at ok ⊢;exact .ne e λprog w' E Q q=>k x mcs y u v p1 q1 ok prog w' E Q q
theorem n_lt(k:N):∀{A:aV5}{E:VSP}{y:N}{u v:aV3}{Q:VSP}{prog:aV7}{w:aV6},A.units+k.dp+1<cLine->IsN s.heap k u->IsN s.heap y v->okN k y=true->Q (.bool (ltN k y)) s->wpAny (model prog w) A (compareOp .Lt u v) Q E s:=by
 induction k using N.ind with
 |hi n =>
  intro A E y u v Q prog w hu h1 h2 ok q;cases y with
  |i m=>rw[IsN]at h1 h2;obtain⟨t,rfl⟩:=h1;obtain⟨t',rfl⟩:=h2;rw[ltN]at q;exact lt_int q
  |s x=>rw[okN]at ok;cases ok
  |t xs=>rw[okN]at ok;cases ok
 |hs x =>
  intro A E y u v Q prog w hu h1 h2 ok q;cases y with
  |s z=>rw[IsN]at h1 h2;obtain⟨⟨t,rfl⟩,_⟩:=h1;obtain⟨⟨t',rfl⟩,_⟩:=h2;rw[ltN]at q;unfold lts at q;rw[ltCps_eq]at q;exact lt_str q
  |i m=>rw[okN]at ok;cases ok
  |t xs=>rw[okN]at ok;cases ok
 |ht xs ih =>
  intro A E y u v Q prog w hu h1 h2 ok q;cases y with
  |i m=>rw[okN]at ok;cases ok
  |s x=>rw[okN]at ok;cases ok
  |t ys=>rw[IsN]at h1 h2;obtain⟨a,o,its,n,rfl,g1,c1,d1,l1⟩:=h1;obtain⟨b,o',its',n',rfl,g2,c2,d2,l2⟩:=h2;rw[ltN]at q;rw[okN]at ok;rw[N.dp]at hu;exact aIL ⟨o,g1,c1,n,d1⟩ ⟨o',g2,c2,n',d2⟩ (yQ (A:=A.in1) (λx hx y u v p1 p2 ok prog w' E Q q=>ih x hx (by have:=N.dp_mem hx;show A.units+1+_+1<_;lia) p1 p2 ok q) (by show A.units+1+_<_;lia) l1 l2 ok) (by lia) q
def eI(h:Heap)(vs:List aV3)(ks:List N):Prop:=vs.length=ks.length/\∀i,i<ks.length->IsN h (ks.getD i (.i 0)) (vs.getD i .none)
def cO:N->Bool
 |.t (.t _::_)=>true
 |_=>false
structure iP(ks:List N)(p:List Nat):Prop where
 perm:p.Perm (List.range ks.length)
 up:eX (p.map λi=>ks.getD i (.i 0))
def iP.eq{p:List Nat}(h:iP ks p):(p.map λi=>ks.getD i (.i 0))=dI ks:=by refine rE h.up ?_;have:=h.perm.map λi=>ks.getD i (.i 0);rw[nW]at this;exact this
def IsN.kept(k:N):∀{v:aV3},IsN h k v->(∀a o,h.get? a=some o->o.cls=.type "tuple" -> h'.get? a=some o)->IsN h' k v:=by
 induction k using N.ind with
 |hi n=>intro v q _;rw[IsN]at q ⊢;exact q
 |hs x=>intro v q _;rw[IsN]at q ⊢;exact q
 |ht xs ih=>intro v q kp;rw[IsN]at q ⊢;obtain⟨a,o,its,n,e,ha,hc,hd,hi⟩:=q;exact⟨a,o,its,n,e,kp a o ha hc,hc,hd,hi.map λx hx v q=>ih x hx q kp⟩
def rF(ks:List N):Prop:=∀x∈ks,∀y∈ks,okN x y=true
section
variable {A:aV5}{E:VSP}
theorem yR{fin:Bool}{Q:Bool->aV4->Prop}:∀{xs ys:List N}{us vs:List aV3}{i:Nat},A.units+N.dpL xs+1<cLine->aP s.heap xs us->aP s.heap ys vs->eW xs ys=true->fin=decide (us.length<vs.length)->Q (bF xs ys) s->KatLex prog w A false fin Q (us.zip vs) i s
 |[],[],us,vs,i,_,h1,h2,_,e,q=>by rw[aP]at h1 h2;subst h1;subst h2;subst e;rw[bF]at q;exact q
 |[],y::ys,us,vs,i,_,h1,h2,_,e,q=>by rw[aP]at h1;rw[aP]at h2;subst h1;obtain⟨v,zs,rfl,_⟩:=h2;subst e;rw[bF]at q;exact q
 |x::xs,[],us,vs,i,_,h1,h2,_,e,q=>by rw[aP]at h1;rw[aP]at h2;subst h2;obtain⟨v,zs,rfl,_⟩:=h1;subst e;rw[bF]at q;exact q
 |x::xs,y::ys,us,vs,i,hu,h1,h2,ok,e,q=>by
  rw[aP]at h1 h2;obtain⟨u,us,rfl,p1,p2⟩:=h1;obtain⟨v,vs,rfl,q1,q2⟩:=h2;rw[N.dpL]at hu;rw[eW]at ok;rw[bF]at q;rw[aT0];refine kat_cons (pT (by lia) p1 q1 (kat_go (λh=>?_) λh=>?_))
  . have exy:=aTD h;rw[if_pos exy]at ok q;exact kat_yes (yR (by lia) p2 q2 ok (by subst e;simp) q)
  . have exy:=aU3 h;rw[if_neg exy]at ok q;exact kat_no (kat_one _ _ (n_lt x (by lia) p1 q1 ok q))
theorem aKL{x y:N}{v:aV3}{Q:Bool->aV4->Prop}(hu:A.units+x.dp<cLine)(fx:cO x=true)(fy:cO y=true)(hx:IsN s.heap x u)(hy:IsN s.heap y v)(ok:okN x y=true)(q:Q (ltN x y) s):wpAny (model prog w) A (keyLt' (tuples' false) u v) Q E s:=by
 cases x with
 |i n=>cases fx
 |s z=>cases fx
 |t xs =>
  cases y with
  |i n=>cases fy
  |s z=>cases fy
  |t ys=>rw[IsN]at hx hy;obtain⟨a,o,its,n,rfl,g1,c1,d1,l1⟩:=hx;obtain⟨b,o',its',n',rfl,g2,c2,d2,l2⟩:=hy;rw[okN]at ok;rw[ltN]at q;rw[N.dp]at hu;exact kat_lt g1 d1 g2 d2 (yR (by lia) l1 l2 ok (by simp) q)
theorem yS:∀{vs:List aV3}{ks:List N},eI s.heap vs ks->(∀k∈ks,cO k=true)->∃fs:List aV3,KatTups s.heap vs fs/\fs.length=ks.length/\∀f∈fs,Looks (model prog w) s.heap (typeOf f) (.type "tuple")
 |[],[],_,_=>⟨[],trivial,rfl,λf hf=>nomatch hf⟩
 |[],_::_,h,_=>by have:=h.1;simp at this
 |_::_,[],h,_=>by have:=h.1;simp at this
 |v::vs,k::ks,h,ft=>by
  have h0:=h.2 0 (by simp)
  have h0:IsN s.heap k v:=by simpa using h0
  have tail:eI s.heap vs ks:=⟨by simpa using h.1,λi hi=>by
   have:=h.2 (i+1) (by simpa using hi)
   simpa using this⟩
  obtain⟨fs,k1,k2,k3⟩:=yS tail λt ht=>ft t (mcm ht);have fk:=ft k mcs;unfold cO at fk;split at fk
  . rename_i ys zs;rw[IsN]at h0;obtain⟨a,o,its,n,rfl,g1,c1,d1,l1⟩:=h0;rw[aP]at l1;obtain⟨f,us,e1,p1,_⟩:=l1;rw[IsN]at p1;obtain⟨b,o2,its2,n2,rfl,g2,c2,d2,_⟩:=p1;have f0:its[0]? = some (.ref b):=by
      have:its.toList[0]? = some (.ref b):=by rw[e1];rfl
      simpa using this
    refine⟨.ref b::fs,⟨⟨a,o,its,n,rfl,g1,c1,d1,f0⟩,k1⟩,by simp[k2],λf hf=>?_⟩
    rcases aQU.mp hf with rfl|hf
    . have L:Looks (model prog w) s.heap (typeOf (.ref b)) o2.cls:=(Looks.ld g2).andThen .now;rw[c2]at L;exact L
    . exact k3 f hf
  . cases fk
theorem kindN{Q:SortKind->aV4->Prop}(h:eI s.heap vs ks)(ft:∀k∈ks,cO k=true)(h2:0<ks.length)(q:Q (tuples' false) s):wpAny (model prog w) A (keyKind' vs.toArray) Q E s:=by obtain⟨fs,k1,k2,k3⟩:=yS (prog:=prog) (w:=w) h ft;exact kat_kind (T:=.type "tuple") k1 (by lia) k3 rfl q
def wkO_N(ks:List N):WkO λi j=>ltN (ks.getD i (.i 0)) (ks.getD j (.i 0)):=⟨λa b=>rA a b,λa=>qZ a⟩
def aKM{p:Array Nat}(pp:PW ks.length p)(pe:p.Perm (List.toArray (List.range ks.length)))(u:Wup (λi j=>ltN (ks.getD i (.i 0)) (ks.getD j (.i 0))) p ks.length):iP ks p.toList:=by
 refine⟨by simpa using Array.perm_iff_toList_perm.mp pe,?_⟩
 unfold eX;rw[aU6];refine List.pairwise_iff_getElem.mpr λi j hi hj hij=>?_;rw[aQ2]at hi hj;have:=u i j hij (by rw[<- pp.size];exact hj)
 simpa[Array.getD,hi,hj]using this
theorem eI.kept(q:eI h vs ks)(kp:∀a o,h.get? a=some o->o.cls=.type "tuple" -> h'.get? a=some o):eI h' vs ks:=⟨q.1,λi hi=>IsN.kept _ (q.2 i hi) kp⟩
theorem yT{a:Addr}{P:PySem.Fin->aV4->Prop}(hu:A.units+13<cLine)(ho:s.heap.get? a=some (seqObj "list" vs.toArray n))(hv:eI s.heap vs ks)(d8:∀k∈ks,k.dp<=12)(ok:rF ks)(ft:ks.length<=1\/∀k∈ks,cO k=true)(hb64:ks.length<hX)(h:∀p,iP ks p->P (.done (.ret .none)) {s with heap:=sortedHeap s.heap a vs (p.map λi=>vs.getD i .none).toArray}):wpAny (model prog w) A (Builtin.«list.sort» ⟨[.ref a],[]⟩) P E s:=by
 have h64:ks.length<1000000:=aQM hb64 lM;have lv:=hv.1;have la:a<s.heap.objs.size:=aQL ho;rw[list_sort_plain];refine aRA (listItems_at ho rfl (aRA (listUpdate_at ho rfl ?_ (by rw[aRI,aRH];lia) (aRN _))))
 obtain⟨e1,ho1⟩:∃c,(s.heap.update a (Obj.mapSeq λ_=>(#[]:Array aV3))).get? a=some (seqObj "list" #[] c):=⟨_,get?_update_seq ho λ_=>#[]⟩;refine aRA (seqEpoch_at ho1 rfl (aRA (wpAny_newTuple (aRA (aU7 (aSD ?_) (aRN _))) (by show vs.length<=_;rw[aRH];lia))))
 have ho2:(((s.heap.update a (Obj.mapSeq λ_=>(#[]:Array Value))).push (seqObj "tuple" vs.toArray 0)).push (seqObj "list" #[] 0)).get? a=some (seqObj "list" #[] e1):=hps (hps ho1);have hv2:eI (((s.heap.update a (Obj.mapSeq λ_=>(#[]:Array Value))).push (seqObj "tuple" vs.toArray 0)).push (seqObj "list" #[] 0)) vs ks:=hv.kept λb o e c=>by
  have hb:b≠a:=λz=>by
   rw[z,ho]at e;cases e;have c:Value.type "list" = .type "tuple" := c;injection c with c
   exact absurd c (by decide)
  exact hps (hps ((Heap.get?_update_ne _ _ _ _ hb).trans e))
 have fin:=h;show wpAny (model prog w) A _ P E { s with heap:=((s.heap.update a (Obj.mapSeq λ_=>(#[]:Array aV3))).push (seqObj "tuple" vs.toArray 0)).push (seqObj "list" #[] 0) }
 dsimp only;by_cases hs:vs.toArray.size<2
 . rw[if_pos hs,if_pos hs];rw[aRI]at hs;refine aRA (aQ9 ?_);rw[StateT.run_pure];refine aRA (aQ9 ?_);have w0:iP ks (List.range ks.length):=⟨aU4 _,by
     rw[nW]
     match ks,lv with
     |[],_=>exact List.Pairwise.nil
     |[t],_=>exact aU5 _ _
     |_::_::_,lv=>simp at lv;lia⟩
   have ev:((List.range ks.length).map λi=>vs.getD i Value.none).toArray=(arrOf (SortSt.mk' general' (vs.toArray.zip vs.toArray) #[] 7 none)).map (·.2):=by
    rw[<- lv,nW];show vs.toArray=(vs.toArray.zip vs.toArray).map (·.2);apply Array.ext
    . simp
    . intro i h1 h2;simp
   have w1:=fin _ w0;rw[ev]at w1;refine aRA (seqEpoch_at ho2 rfl (aRA (listUpdate_at ho2 rfl ?_ (aRN _) (by rw[<- ev,aRI,aR2,aUO,aRH];lia))))
   simp only[aUJ,aS8,aSA];exact aQ9 w1
 . rw[if_neg hs,if_neg hs];rw[aRI]at hs;have ft:∀k∈ks,cO k=true:=ft.resolve_left (by lia)
   refine aRA (kindN (s:={ s with heap:=((s.heap.update a (Obj.mapSeq λ_=>(#[]:Array aV3))).push (seqObj "tuple" vs.toArray 0)).push (seqObj "list" #[] 0) }) hv2 ft (by lia) ?_)
   refine aRA (aQ0 (aKJ (ks := vs) (vs := vs) (κ := tuples' false) (wkO_N ks) rfl (by lia) (by lia) (fun i j C hi hj q => by
       have hi:i<ks.length:=by lia
       have hj:j<ks.length:=by lia
       have mi:ks.getD i (.i 0)∈ks:=by simp[hi]
       have mj:ks.getD j (.i 0)∈ks:=by simp[hj]
       exact aKL (by have:=d8 _ mi;lia) (ft _ mi) (ft _ mj) (hv2.2 i hi) (hv2.2 j hj) (ok _ mi _ mj) q)
    (Q:=λst' s'=>s'=_/\∃p:Array Nat,PW ks.length p/\p.Perm (List.toArray (List.range ks.length))/\Wup (λi j=>ltN (ks.getD i (.i 0)) (ks.getD j (.i 0))) p ks.length/\arrOf st'=p.map (kas_item (vs.toArray.zip vs.toArray))/\failedOf st'=none)
    λp st' a1 a2 a3 a4 a5=>⟨rfl,p,by rw[<- lv];exact a1,by rw[<- lv];exact a2,by rw[<- lv];exact a3,a4,a5⟩) ?_ λ_ _ e=>e)
   rintro⟨⟨⟩,st'⟩ s' ⟨rfl,p,pp,pe,u,ea,ef⟩;have w1:=fin _ (aKM pp pe u);have ev:=kat_snds (vs:=vs) rfl ea;rw[<- ev]at w1;refine aRA (seqEpoch_at ho2 rfl (aRA (listUpdate_at ho2 rfl ?_ (aRN _) (by rw[ev,aRI,aR2,aQ2,pp.size,aRH];lia))))
   rw[ef];simp only[aUJ,aS8,aSA];exact aQ9 w1
theorem yU{l:Addr}{Q:List aV3->aV4->Prop}(hl:IsTup s.heap l vs.toArray)(hz:vs.length<=sizeLine)(h:Q vs { s with heap:=(s.heap.push (seqObj "list" #[] 0)).update s.heap.objs.size (Obj.mapSeq (·++vs.toArray)) }):wpAny (model prog w) A (collect (.ref l)) Q E s:=by
 obtain⟨o,ho,hc,n,hd⟩:=id hl;have g0:=Heap.get?_push_of_some (seqObj "list" #[] 0) ho;have g1:(s.heap.push (seqObj "list" #[] 0)).get? s.heap.objs.size=some (seqObj "list" #[] 0):=aQK _ rfl;unfold collect;refine aRA (wpAny_runValue (aT5 entry_proto_collect' ?_));show wpAny _ _ (do let l' <- newList [];again (.builtin "list.__iadd__" ⟨[l',.ref l],[]⟩)) _ _ s
 refine aRA (aU7 (aQ9 ⟨Code.quiet_builtin _ (by decide +kernel),aT5 entry_list_iadd' ?_⟩))
 show wpAny (model prog w) _ (Builtin.List.listExtendWith (.ref s.heap.objs.size) (.ref l) (.ref s.heap.objs.size)) _ _ _;unfold Builtin.List.listExtendWith;refine aRA (aSH (T := "tuple") (s:={ s with heap:=s.heap.push (seqObj "list" #[] 0) }) ⟨o,g0,hc⟩ ?_)
 rw[if_pos (by rw[show(Value.type "tuple" == Value.type "tuple")=true from rfl,Bool.or_true])]
 refine aRA (listItems_at (s:={ s with heap:=s.heap.push (seqObj "list" #[] 0) }) g0 hd (aRA (listItems_at (xs:=#[]) (n:=0) g1 rfl ?_)))
 rw[if_neg (by simp)]
 refine aRA (listUpdate_at (xs:=#[]) (n:=0) g1 rfl (aQ9 ?_) (aRN _) (by show(#[]++vs.toArray).size<=sizeLine+1;simp only[Array.size_append,aRI,aSR];lia))
 show wpAny (model prog w) A (do match(<- load s.heap.objs.size).data with|.seq xs _=>pure xs.toList|_=>unsupported "internal:collect") Q E _
 refine aRA (aRB (get?_update_seq g1 _) ?_);show wpAny _ A (pure ((#[]:Array aV3)++vs.toArray).toList) Q E _;rw[show((#[]:Array aV3)++vs.toArray).toList=vs by simp]
 exact aQ9 h
theorem aKN{l:Addr}{Q:VSP}(hu:A.units+64<cLine)(hl:s.heap.IsList l vs.toArray\/IsTup s.heap l vs.toArray)(hv:eI s.heap vs ks)(d8:∀k∈ks,k.dp<=12)(ok:rF ks)(ft:ks.length<=1\/∀k∈ks,cO k=true)(hb64:ks.length<hX)(h:∀p,iP ks p->Q (.ref (s.heap.objs.size+1)) {s with heap:=sortedAll s.heap vs (p.map λi=>vs.getD i .none).toArray}):wpAny (model prog w) A (call (.builtin "sorted") [.ref l]) Q E s:=by
 have h64:ks.length<1000000:=aQM hb64 lM;have lv:=hv.1;refine aU8 kind_sorted plain_sorted entry_sorted (args_sorted1 (.ref l)) ?_;unfold Builtin.«sorted»;have col:∀{R:List aV3->aV4->Prop}{E':VSP},R vs { s with heap:=(s.heap.push (seqObj "list" #[] 0)).update s.heap.objs.size (Obj.mapSeq (·++vs.toArray)) } -> wpAny (model prog w) A.in1 (collect (.ref l)) R E' s:=λ{R E'} r=>by
  rcases hl with hl|hl
  . exact collect_list hl r (by rw[aRH];lia)
  . exact yU hl (by rw[aRH];lia) r
 refine aRA (m:=checkCount "sorted" 1 1 [Value.ref l].length) (aQ9 (aRA (col (aRA (aU7 ?_ (by rw[aRH];lia))))))
 have z1:((s.heap.push (seqObj "list" #[] 0)).update s.heap.objs.size (Obj.mapSeq (·++vs.toArray))).objs.size=s.heap.objs.size+1:=(Heap.size_update ..).trans (size_push' ..);have g1:(((s.heap.push (seqObj "list" #[] 0)).update s.heap.objs.size (Obj.mapSeq (·++vs.toArray))).push (seqObj "list" vs.toArray 0)).get? (s.heap.objs.size+1)=some (seqObj "list" vs.toArray 0):=z1 ▸ aQK _ rfl;have hv1:eI (((s.heap.push (seqObj "list" #[] 0)).update s.heap.objs.size (Obj.mapSeq (·++vs.toArray))).push (seqObj "list" vs.toArray 0)) vs ks:=hv.kept λb o e _ =>
  hps ((Heap.get?_update_ne _ _ _ _ (aQO (aQL e))).trans (hps e))
 show wpAny _ _ _ _ _ { s with heap:=((s.heap.push (seqObj "list" #[] 0)).update s.heap.objs.size (Obj.mapSeq (·++vs.toArray))).push (seqObj "list" vs.toArray 0) }
 rw[z1];exact aRA (aSD (aSG slot_list_sort ⟨_,g1,rfl⟩ entry_list_sort (yT (A:=A.in1.in1) (by show A.units+1+1+13<_;lia) (s:={ s with heap:=((s.heap.push (seqObj "list" #[] 0)).update s.heap.objs.size (Obj.mapSeq (·++vs.toArray))).push (seqObj "list" vs.toArray 0) }) g1 hv1 d8 ok ft hb64 λp wp=>⟨_,rfl,aQ9 ⟨_,rfl,h p wp⟩⟩) (args_list_sort _)))
end
theorem yV:∀{h:Heap}{ks:List N}{us:List aV3},aP h ks us->eI h us ks
 |h,[],us,q=>by rw[aP]at q;subst q;exact⟨rfl,λi hi=>by simp at hi⟩
 |h,k::ks,us,q=>by
  rw[aP]at q;obtain⟨u,us,rfl,q1,q2⟩:=q;obtain⟨l,r⟩:=yV q2;refine⟨by simp[l],λi hi=>?_⟩
  cases i with
  |zero=>simpa using q1
  |succ i=>have:=r i (by simpa using hi);simpa using this
theorem bO.nth{K:Fg}{F:Hp}:∀{ks:List N}{vs:List V},bO K F ks vs->vs.length=ks.length/\∀i,i<ks.length->NAt K F (ks.getD i (.i 0)) (vs.getD i .non)
 |[],vs,q=>by rw[bO]at q;subst q;exact⟨rfl,λi hi=>by simp at hi⟩
 |k::ks,vs,q=>by
  rw[bO]at q;obtain⟨u,us,rfl,q1,q2⟩:=q;obtain⟨l,r⟩:=bO.nth q2;refine⟨by simp[l],λi hi=>?_⟩
  cases i with
  |zero=>simpa using q1
  |succ i=>have:=r i (by simpa using hi);simpa using this
theorem gO:∀(ks:List N),nDL ks=ks.map nD
 |[]=>by rw[nDL];rfl
 |k::ks=>by rw[nDL,gO ks];rfl
def okS(ks:List N):Bool:=ks.all (λk=>decide (k.dp<=12))&&(decide (ks.length<=1)||ks.all cO)&&ks.all (λx=>ks.all λy=>okN x y)&&decide (ks.length<hX)
def iQ(l:List Str):Prop:=l.Pairwise λx y=>lts y x=false
def jZ(x:Str):List Str->List Str
 |[]=>[x]
 |y::l=>if lts y x=true then y::jZ x l else x::y::l
def bI(l:List Str):List Str:=l.foldr jZ []
def aKO{y:Str}(h:lts x y=true):lts y x=false:=by
 cases e:lts y x with
 |false=>rfl
 |true=>have:=qN h e;rw[nV]at this;cases this
def aKP{a b c:Str}(h1:lts a b=false)(h2:lts b c=false):lts a c=false:=by
 have:=rA (a:=.s a) (b:=.s b) (c:=.s c) (by rw[ltN];exact h1) (by rw[ltN];exact h2)
 rw[ltN]at this;exact this
theorem rG(x:Str):∀(l:List Str),(jZ x l).Perm (x::l)
 |[]=>aU4 _
 |y::l=>by
  unfold jZ;split
  . exact((rG x l).cons y).trans (List.Perm.swap x y l)
  . exact aU4 _
theorem iR:∀(l:List Str),(bI l).Perm l
 |[]=>aU4 _
 |x::l=>(rG x (bI l)).trans ((iR l).cons x)
theorem yW{x:Str}:∀{l:List Str},iQ l->iQ (jZ x l)
 |[],_=>aU5 _ _
 |y::l,h=>by
  unfold jZ;split
  . rename_i e;refine aUZ.mpr ⟨λz hz=>?_,yW (aUZ.mp h).2⟩;rcases aQU.mp ((rG x l).mem_iff.mp hz)with rfl|hz
    . exact aKO e
    . exact(aUZ.mp h).1 z hz
  . rename_i e;have e:lts y x=false:=by simpa using e
    refine aUZ.mpr ⟨λz hz=>?_,h⟩;rcases aQU.mp hz with rfl|hz
    . exact e
    . exact aKP ((aUZ.mp h).1 z hz) e
theorem rH:∀(l:List Str),iQ (bI l)
 |[]=>List.Pairwise.nil
 |x::l=>yW (rH l)
theorem yX:∀{l l':List Str},iQ l->iQ l'->l.Perm l'->l=l'
 |[],l',_,_,p=>p.symm.eq_nil.symm
 |x::l,[],_,_,p=>p.eq_nil
 |x::l,y::l',h,h',p=>by
  have h1:=aUZ.mp h;have h2:=aUZ.mp h';have exy:x=y:=by
   have a:lts y x=false:=by
    rcases aQU.mp (p.mem_iff.mpr mcs)with e|e
    . rw[e];exact nV _
    . exact h1.1 y e
   have b:lts x y=false:=by
    rcases aQU.mp (p.mem_iff.mp mcs)with e|e
    . rw[e];exact nV _
    . exact h2.1 x e
   exact qO b a
  subst exy;rw[yX h1.2 h2.2 p.cons_inv]
def yY{l l':List Str}(h:iQ l')(p:l'.Perm l):l'=bI l:=yX h (rH l) (p.trans (iR l).symm)
theorem yZ:∀{l:List Str},sortedS l=true->iQ l
 |[],_=>.nil
 |x::l,h=>by
  refine aUZ.mpr ⟨λy hy=>xL (show risingS x l=true from h) y hy,yZ ?_⟩
  cases l with
  |nil=>rfl
  |cons y l=>have h:(!lts y x&&risingS y l)=true:=h;rw[aSI]at h;exact h.2
section
variable {A:aV5}{E:VSP}
theorem aKQ{l:Addr}{ns:List Str}{Q:VSP}(hl:s.heap.IsList l vs.toArray\/IsTup s.heap l vs.toArray)(sa:StrsAre vs ns)(h64:vs.length<64)(h:∀(out:Array aV3) ys,StrsAre out.toList ys->ys.Perm ns->sortedS ys=true->Q (.ref (s.heap.objs.size+1)) {s with heap:=sortedAll s.heap vs out}):wpAny (model prog w) A (call (.builtin "sorted") [.ref l]) Q E s:=by
 refine aU8 kind_sorted plain_sorted entry_sorted (args_sorted1 (.ref l)) ?_;unfold Builtin.«sorted»;have col:∀{R:List aV3->aV4->Prop}{E':VSP},R vs { s with heap:=(s.heap.push (seqObj "list" #[] 0)).update s.heap.objs.size (Obj.mapSeq (·++vs.toArray)) } -> wpAny (model prog w) A.in1 (collect (.ref l)) R E' s:=λ{R E'} r=>by
  rcases hl with hl|hl
  . exact collect_list hl r (by rw[aRH];lia)
  . exact yU hl (by rw[aRH];lia) r
 refine aRA (m:=checkCount "sorted" 1 1 [Value.ref l].length) (aQ9 (aRA (col (aRA (aU7 ?_ (by rw[aRH];lia))))))
 have z1:((s.heap.push (seqObj "list" #[] 0)).update s.heap.objs.size (Obj.mapSeq (·++vs.toArray))).objs.size=s.heap.objs.size+1:=(Heap.size_update ..).trans (size_push' ..);have g1:(((s.heap.push (seqObj "list" #[] 0)).update s.heap.objs.size (Obj.mapSeq (·++vs.toArray))).push (seqObj "list" vs.toArray 0)).get? (s.heap.objs.size+1)=some (seqObj "list" vs.toArray 0):=z1 ▸ aQK _ rfl;show wpAny _ _ _ _ _ { s with heap:=((s.heap.push (seqObj "list" #[] 0)).update s.heap.objs.size (Obj.mapSeq (·++vs.toArray))).push (seqObj "list" vs.toArray 0) }
 rw[z1];refine aRA (aSD (aSG slot_list_sort ⟨_,g1,rfl⟩ entry_list_sort (list_sort_treeK strKind_oneLt (s:={ s with heap:=((s.heap.push (seqObj "list" #[] 0)).update s.heap.objs.size (Obj.mapSeq (·++vs.toArray))).push (seqObj "list" vs.toArray 0) }) g1 sa.keysOf (λv1 v2 r e=>keyKind_strs (by rw[<- e];exact sa)) h64 λst' p1 p2=>⟨_,rfl,?_⟩) (args_list_sort _)))
 obtain⟨zs,y1,y2,y3⟩:=sorted_out_str sa p1 p2;exact aQ9 ⟨_,rfl,h _ zs y1 y2 y3⟩
end
def rSrtN(K:Fg):List V->Hp->VK->Prop:=λxs H Q=>∃(p:Addr) (vs:List V) (ks:List N),xs=[.ref p]/\(SqL K H p vs\/SqT K H p vs)/\bO K H ks vs/\okS ks=true/\∀l q,H l=none->iP ks q->Q (.ref l) (upd H l (.lst (q.map λi=>vs.getD i .non)))
def y0{p:Addr}{vs:List V}(I:L2.Inv X aA σ H s)(h:SqL X.K H p vs\/SqT X.K H p vs):∃its:List aV3,aM vs its/\(s.heap.IsList p its.toArray\/IsTup s.heap p its.toArray):=by
 rcases h with h|h
 . obtain⟨its,rv,pl,_⟩:=I.list h;exact⟨its,rv,.inl pl.isList⟩
 . obtain⟨its,rv,pl,_⟩:=SqT.plain I h;exact⟨its,rv,.inr pl.isTup⟩
theorem aKR(hu:X.A.units+64<cLine):cI X (.builtin "sorted") (rSrtN X.K):=by
 intro aA s σ H xs us Q I r h;obtain⟨p,vs,ks,rfl,hp,hn,ok,q⟩:=h;obtain⟨u,rfl,rx⟩:=eC r;cases rx;obtain⟨its,rv,pl⟩:=y0 I hp;unfold okS at ok;simp only[aSI,aTE,aTC,aU9]at ok;obtain⟨⟨⟨d8,ft⟩,ao⟩,h64⟩:=ok;have h65:_<1000000:=aQM h64 lM;have lz:its.length=vs.length:=rv.length.symm;have lv:=hn.nth.1;have ta:eI s.heap its ks:=yV (bO.is (λx _ v u a b=>NAt.is I x v u a b) hn rv);refine aKN hu pl ta d8 ao ft h64 λw wp=>?_;obtain⟨e,he⟩:=sortedAll_at s.heap its (w.map λi=>its.getD i .none).toArray;have wl:w.length=ks.length:=by rw[wp.perm.length_eq,aUO]
 have le:(w.map λi=>vs.getD i V.non).length<=sizeLine:=by rw[aR2,wl,aRH];lia
 have rv2:aM (w.map λi=>vs.getD i V.non) (w.map λi=>its.getD i Value.none):=xQ λi hi=>xR rv (by
  have:=wp.perm.mem_iff.mp hi;rw[aQP]at this;lia)
 exact⟨.ref (s.heap.objs.size+1),_,I.laid (t':=s.toks) (λb o e=>sortedAll_old e) (aTX _) (show bD X.prog X.w _ _ _ (.lst (w.map λi=>vs.getD i V.non))from⟨le,_,e,rv2,he⟩),rfl,q _ w (I.hok.fresh (aTX _)) wp⟩
def rSrtS(K:Fg):List V->Hp->VK->Prop:=λxs H Q=>∃(p:Addr) (ns:List Str),xs=[.ref p]/\(SqL K H p (ns.map V.str)\/SqT K H p (ns.map V.str))/\ns.length<64/\∀l,H l=none->Q (.ref l) (upd H l (.lst ((bI ns).map V.str)))
theorem aKS:cI X (.builtin "sorted") (rSrtS X.K):=by
 intro aA s σ H xs us Q I r h;obtain⟨p,ns,rfl,hp,hz,q⟩:=h;obtain⟨u,rfl,rx⟩:=eC r;cases rx;obtain⟨its,rv,pl⟩:=y0 I hp;have sa:=wP rv;have lz:its.length=ns.length:=sa.length;refine aKQ pl sa (by rw[lz];exact hz) λout ys oa py so=>?_
 obtain⟨e,he⟩:=sortedAll_at s.heap its out;have e1:ys=bI ns:=yY (yZ so) py;have le:((bI ns).map V.str).length<=sizeLine:=by rw[aR2,<- e1,py.length_eq,aRH];lia
 exact⟨.ref (s.heap.objs.size+1),_,I.laid (t':=s.toks) (λb o e=>sortedAll_old e) (aTX _) (show bD X.prog X.w _ _ _ (.lst ((bI ns).map V.str))from⟨le,out.toList,e,by rw[<- e1];exact xM oa,by simpa using he⟩),rfl,q _ (I.hok.fresh (aTX _))⟩
def cI.or{f:aV3}{r1 r2:List V->Hp->VK->Prop}(h1:cI X f r1)(h2:cI X f r2):cI X f (λxs H Q=>r1 xs H Q\/r2 xs H Q):=λaA s σ H xs us Q I r h=>by
 rcases h with h|h
 . exact h1 aA s σ H xs us Q I r h
 . exact h2 aA s σ H xs us Q I r h
def seqD:D->Option (List D)
 |.lst ds=>some ds
 |.tup ds=>some ds
 |_=>none
def gP:List (Md×D)->Option (Md×D)
 |[(_,d)]=>match seqD d with
  |some ds=>match txD ds with
   |some ns=>if ns.length<64 then some (.fr,.lst ((bI ns).map .str))else none
   |none=>match eM ds with
    |some ks=>if okS ks=true then some (.fr,.lst (nDL (dI ks)))else none
    |none=>none
  |none=>none
 |_=>none
theorem Rp.seqD{F:Hp}{m:Md}{d:D}(s:aD F H)(e:D3.seqD d=some ds)(r:Rp K F H m d v):∃a xs,v=.ref a/\(SqL K H a xs\/SqT K H a xs)/\aC K F ds xs:=by
 cases d with
 |lst es=>cases e;obtain⟨a,xs,rfl,q,rl⟩:=r.seqL s;exact⟨a,xs,rfl,.inl q,rl⟩
 |tup es=>cases e;obtain⟨a,xs,rfl,q,rl⟩:=r.seqT s;exact⟨a,xs,rfl,.inr q,rl⟩
 |_=>cases e
def aKT(hu:X.A.units+64<cLine):dR X (.builtin "sorted") gP:=by
 refine⟨_,cI.or aKS (aKR hu),λF H xs vs k d Q s rx e w=>?_⟩;unfold gP at e;split at e
 . rename_i m d0;obtain⟨v,rfl,r⟩:=rx.one;split at e
   . rename_i ds ed;obtain⟨a,xs,rfl,q,rl⟩:=Rp.seqD s ed r;split at e
     . rename_i ns en;split at e
       . rename_i hc;cases e;obtain⟨rfl,k1⟩:=xO en rl;exact .inl ⟨a,ns,rfl,q,hc,λl hl=>w (.ref l) F _ (aH.fresh _ s hl) ⟨l,rfl,s.free hl,_,aV,xP λx hx=>k1 x ((iR ns).mem_iff.mp hx)⟩ λ_ a ea=>by cases ea;exact hl⟩
       . cases e
     . split at e
       . rename_i ks en;split at e
         . rename_i hc;cases e;have hn:=qS en rl;refine .inr ⟨a,xs,ks,rfl,q,hn.map (λx _ v z=>NAt.mono s x v z),hc,λl p hl wp=>w (.ref l) F _ (aH.fresh _ s hl) ⟨l,rfl,s.free hl,_,aV,?_⟩ λ_ a ea=>by cases ea;exact hl⟩
           rw[<- wp.eq,gO,aVA];refine qP λi hi=>?_;have:=wp.perm.mem_iff.mp hi;rw[aQP]at this;exact qT _ _ (hn.nth.2 i this)
         . cases e
       . cases e
   . cases e
 . cases e
section
variable {A:aV5}{E:VSP}{d:Addr}{o:Obj}{es:Array DictEntry}
def aKU{Q:VSP}(hm:(d==sysModules)=false)(ho:s.heap.get? d=some o)(hc:o.ExactDict)(hd:o.data=.dict es ep)(q:Q (.ref s.heap.objs.size) { s with heap:=s.heap.push { cls:=.type "dict_keyiterator", data:=.fields #[.ref d,.int 0 0,.int es.size 0,.int ep 0] } }):wpAny (model prog w) A (pyIter (.ref d)) Q E s:=by
 have hT:s.TypeIs (.ref d) "dict" := ⟨o,ho,hc.1⟩;refine aUA hT F.slot_dict_iter (aSG F.slot_dict_iter hT F.entry_dict_iter ?_ (F.args_dict_iter_1 (.ref d)));unfold Builtin.«dict.__iter__» Builtin.Dict.dictSlotNone;refine aRA (aRA (wpAny_notOrdered_dict hT (aQ9 ?_)));show wpAny (model prog w) _ (Builtin.Dict.showsAll d>>=_) _ _ s;unfold Builtin.Dict.showsAll;rw[if_neg (λz=>by rw[hm]at z;cases z)]
 refine aRA (aQ9 (aRA (aVB ho hd (aRA (aVC ho hd ?_)))));refine aRA (aSJ (aQ9 ⟨.ref s.heap.objs.size,rfl,"dict_keyiterator", _,⟨_,aQK _ rfl,rfl⟩,F.slot_dict_keyiterator_next.lookup,?_⟩));simpa[rawInt]using q
theorem aKV{e:DictEntry}{Q:Option aV3->aV4->Prop}(hit:s.heap.IsKeyIter it d i es.size ep)(ho:s.heap.get? d=some o)(hd:o.data=.dict es ep)(he:es[i]? = some e)(q:∀h',h'.IsKeyIter it d (i+1) es.size ep->Heap.SameBut it s.heap h'->Q (some e.key) {s with heap:=h'}):wpAny (model prog w) A (pyNext (.ref it)) Q E s:=by
 obtain⟨io,hio,hic,hid⟩:=id hit;obtain⟨hlt,rfl⟩:=aQQ.mp he;unfold pyNext;refine aRA (aUG (aSE (name:=Str.ofString "__next__") hit.typeIs aVD (aSG aVD hit.typeIs aVE ?_ (aVF (.ref it)))));refine aRA (aQ9 (aRA (aRA ?_)))
 first|refine aRA (aVG hit.typeIs (aQ9 (aRA (aUH hio hid ?_))))|refine aRA (aVH hit.typeIs (aQ9 (aRA (aUH hio hid ?_))))
 simp only[show Builtin.Dict_items.ownsTuple "dict_keyiterator" = false by decide,aS8,aSA]
 show wpAny _ _ (if(Value.ref d==Value.none)=true then _ else _) _ _ s;rw[if_neg (λ(z:(Value.ref d==Value.none)=true)=>aQ7 z)];refine aRA (aQ9 (aRA (aVB ho hd ?_)));rw[if_neg (by simp)]
 refine aRA (aQ9 (aRA (aVC ho hd ?_)));rw[if_neg (by simp)]
 refine aQ9 ?_;simp only[show ¬ ((i:Int)<0)from by lia,aSA,aUK,aUM hlt]
 refine aRA ?_
 first|refine aRA (aVG hit.typeIs (aQ9 (aRA (aVI hit.typeIs ?_))))|refine aRA (aVH hit.typeIs (aQ9 (aRA (aVI hit.typeIs ?_))))
 show wpAny _ _ (setField (.ref it) 1 (rawInt ((i:Int)+1))>>=_) _ _ s;refine aRA (aT3 hio hid (by simp) ?_)
 have hit2:(s.heap.update it (Obj.mapFields (·.setIfInBounds 1 (rawInt ((i:Int)+1))))).IsKeyIter it d (i+1) es.size ep :=
  ⟨_,aUB _ hio (aUC (aUD hid _)),(aUF ..).trans hic,by rw[aUD hid];simp[rawInt]⟩
 refine aRA (aSD (aRA (aVI (s:={s with heap:=s.heap.update it (Obj.mapFields (·.setIfInBounds 1 (rawInt ((i:Int)+1))))}) hit2.typeIs ?_)))
 show wpAny _ _ (pure es[i].key) _ _ _;exact aQ9 (aQ9 ⟨_,rfl,aQ9 (q _ hit2 (aUE ..))⟩)
end
theorem aKW{A:aV5}{E:VSP}{d:Addr}{o:Obj}{es:Array DictEntry}{Q:Option aV3->aV4->Prop}(hh:A.handled=none)(hit:s.heap.IsKeyIter it d i es.size ep)(ho:s.heap.get? d=some o)(hd:o.data=.dict es ep)(hi:es.size<=i)(q:∀h',Heap.ExtBut it s.heap h'->Q none {s with heap:=h'}):wpAny (model prog w) A (pyNext (.ref it)) Q E s:=by
 obtain⟨io,hio,hic,hid⟩:=id hit;unfold pyNext;refine aRA (aUG (aSE (name:=Str.ofString "__next__") hit.typeIs aVD (aSG aVD hit.typeIs aVE ?_ (aVF (.ref it)))));refine aRA (aQ9 (aRA (aRA ?_)))
 first|refine aRA (aVG hit.typeIs (aQ9 (aRA (aUH hio hid ?_))))|refine aRA (aVH hit.typeIs (aQ9 (aRA (aUH hio hid ?_))))
 simp only[show Builtin.Dict_items.ownsTuple "dict_keyiterator" = false by decide,aS8,aSA]
 show wpAny _ _ (if(Value.ref d==Value.none)=true then _ else _) _ _ s;rw[if_neg (λ(z:(Value.ref d==Value.none)=true)=>aQ7 z)];refine aRA (aQ9 (aRA (aVB ho hd ?_)));rw[if_neg (by simp)]
 refine aRA (aQ9 (aRA (aVC ho hd ?_)));rw[if_neg (by simp)]
 refine aQ9 ?_;simp only[show ¬ ((i:Int)<0)from by lia,aSA,aUK,aUN hi]
 refine aRA ?_
 first|refine aRA (aVG hit.typeIs (aQ9 ?_))|refine aRA (aVH hit.typeIs (aQ9 ?_))
 show wpAny (model prog w) _ (setField (.ref it) 0 .none>>=_) _ _ s;refine aRA (aT3 hio hid (by simp) ?_)
 show wpAny (model prog w) _ (newExc (.type "StopIteration") []>>=_) _ _ _;refine aRA ?_;simp only[newExc,newTuple];refine aRA (aSJ (aRA (m:=firstArgMember _ _) (wpAny_of_eq (a:=Value.none) (by first|rfl|(simp only[firstArgMember];rfl)) (aSJ ?_ (by size_fits)))) (by size_fits))
 simp only[raiseNew];refine aRA (wpAny_handled ?_);rw[show A.in1.handled=none from hh]
 refine aRA (aQ9 (wpAny_throw ?_));refine aRA (aS6 (b:=true) (T := "StopIteration") ⟨_,aQK _ rfl,rfl⟩ isSubtype_stop ?_);exact aQ9 (q _ (((aUE ..).extBut.push _).push _))
def Itn(d:Addr)(o:Obj)(xs:List (N×Addr×V)):It :=
 ⟨λi H=>H d=some (.frz o (.dN xs))/\i<xs.length,λi H x H'=>H'=H/\∃p,xs[i]? = some p/\x=.ref p.2.1,λi H=>H d=some (.frz o (.dN xs))/\xs.length<=i⟩
def KN.nth{kvs:List (N×Addr×V)}{xs:List (N×Addr×aV3)}(r:KN kvs xs):xs.length=kvs.length/\∀(i:Nat) (p:N×Addr×V),kvs[i]? = some p->∃u,xs[i]? = some (p.1,p.2.1,u):=by
 induction r with
 |nil=>exact⟨rfl,λi p h=>by simp at h⟩
 | @cons a b as bs h t ih =>
  refine⟨by simp[ih.1],λi p hp=>?_⟩
  cases i with
  |zero =>
   have hp:a=p:=by simpa using hp
   subst hp;refine⟨b.2.2,?_⟩;rw[h.1,h.2.1];rfl
  |succ i=>have:=ih.2 i p (by simpa using hp);simpa using this
def rJ{d:Addr}{o:Obj}{xs:List (N×Addr×V)}(ok:HOk P w H h)(hd:H d=some (.frz o (.dN xs))):(d==sysModules)=false/\∃es,h.get? d=some o/\o.ExactDict/\o.data=.dict es (epO o)/\es.size=xs.length/\∀(i:Nat) (p:N×Addr×V),xs[i]? = some p->∃e,es[i]? = some e/\e.key=.ref p.2.1:=by
 obtain⟨g,z,y,vs,r,o',es,ep,h1,h2,h3,h4,h5⟩:=ok d _ hd;rw[g]at h1;cases h1;obtain⟨l,n⟩:=KN.nth r;refine⟨y,es,g,h2,by unfold epO;rw[h3],by rw[<- aQ2,h4,aR2,l],λi p hp=>?_⟩
 obtain⟨u,hu⟩:=n i p hp;refine⟨uQ w (p.1,p.2.1,u),?_,rfl⟩;rw[<- aUT,h4,aRZ,hu];rfl
theorem aKX(d it:Addr)(o:Obj)(xs:List (N×Addr×V)):iF P w K tg (Itn d o xs) [it] it (λi h=>h.IsKeyIter it d i xs.length (epO o)) where
 mem:=by simp
 obj:=λi h st b hb=>by
  have e:b=it:=by simpa using hb
  subst e;obtain⟨o,e,c,d⟩:=st;exact⟨o,e,λv z=>by rw[d]at z;cases z⟩
 keep:=λi h h' st k=>st.at λo e=>k it (by simp) o e
 item:=by
  intro X hP hw hK hc i aA s σ H E I hf st hg;subst hP hw hK;obtain⟨hd,hi⟩:=hg;obtain⟨ns,es,g,hx,dt,sz,n⟩:=rJ I.hok hd;obtain⟨f0,f1,f2,f3,f4,f5⟩:=hf it (by simp)
  obtain⟨e,he,ke⟩:=n i xs[i] (by simp[hi])
  rw[<- sz]at st;refine aKV st g dt he λh' hit' hs'=>?_;have I1:L2.Inv X aA σ H {s with heap:=h'}:=I.turned (t':=s.toks) (λb o hb e=>hs'.extBut b o hb e) f0 f1 f3 f4 f5
  rw[sz]at hit';obtain⟨o1,e1,c1,d1⟩:=id hit';refine⟨e.key,rfl,jB (s:={s with heap:=h'}) e1 c1 d1 (by decide) ⟨.ref xs[i].2.1,H,I1,ke,⟨rfl,xs[i],by simp[hi],rfl⟩,hit',λb hb=>(hf b hb).1⟩⟩
 done:=by
  intro X hP hw hK hc i aA s σ H E I hf st hg;subst hP hw hK;obtain⟨hd,hi⟩:=hg;obtain⟨ns,es,g,hx,dt,sz,n⟩:=rJ I.hok hd;obtain⟨f0,f1,f2,f3,f4,f5⟩:=hf it (by simp)
  exact aKW (I.ok.hd hc) (by rw[sz];exact st) g dt (by lia) λh' eb=>⟨rfl,I.turned (t':=s.toks) (λb o hb e=>eb b o hb e) f0 f1 f3 f4 f5⟩
 self:=λ_ _ _ _ _ st h=>wpAny_pyIter_keyiter st h
def iDn(tl:TE):TI:=λσ H R=>tl σ H λx H1=>∃d o xs,x=.ref d/\H1 d=some (.frz o (.dN xs))/\R (Itn d o xs) H1
def pi_dn{l:Expr}(hl:PE X l tl):PI X tg l (iDn tl):=by
 intro aA s σ H R I h;refine thn (hl aA s σ H _ I h) λv s1 ⟨x,H1,I1,r1,q1⟩=>?_;obtain⟨d,o,xs,e,hd,q⟩:=q1;subst e;cases r1;obtain⟨ns,es,g,hx,dt,sz,n⟩:=rJ I1.hok hd;refine aKU ns g hx dt ?_;rw[sz];have I2:L2.Inv X aA σ H1 { s1 with heap:=s1.heap.push { cls:=.type "dict_keyiterator", data:=.fields #[.ref d,.int 0 0,.int xs.length 0,.int (epO o) 0] } }:=I1.kept (t':=s1.toks) λb o e=>hps e
 refine⟨s1.heap.objs.size,[s1.heap.objs.size],_,_,_,rfl,I2,aKX d _ o xs,⟨_,aQK _ rfl,rfl,rfl⟩,λb hb=>?_,q⟩;have e:b=s1.heap.objs.size:=by simpa using hb
 subst e;exact I1.fpOk (aRD _) (I1.hok.fresh (aRD _))
theorem aN.nth{F:Hp}:∀{kvs:List (N×D)}{xs:List (N×Addr×V)},aN K F kvs xs->∀(i:Nat) (p:N×Addr×V),xs[i]? = some p->∃d,kvs[i]? = some (p.1,d)/\NAt K F p.1 (.ref p.2.1)
 |[],xs,h,i,p,e=>by simp only[aN]at h;subst h;simp at e
 |(k,d)::kvs,xs,h,i,p,e=>by
  simp only[aN]at h;obtain⟨b,y,ys,rfl,q,r,t⟩:=h;cases i with
  |zero =>
   have e:(k,b,y)=p:=by simpa using e
   subst e;exact⟨d,rfl,q.1⟩
  |succ i=>have:=t.nth i p (by simpa using e);simpa using this
def aKY{F:Hp}{a:Addr}{o:Obj}{kvs:List (N×D)}{xs:List (N×Addr×V)}(hf:F a=some (.frz o (.dN xs)))(r:aN K F kvs xs):jL K F (Itn a o xs) (kvs.map λkv=>nD kv.1) where
 go:=λi H s hi=>⟨s _ _ hf,by rw[r.len];simpa using hi⟩
 stop:=λi H s hi=>⟨s _ _ hf,by rw[r.len];simpa using hi⟩
 yld:=λi Fc H x H' s1 s2 hi y=>by obtain⟨rfl,p,hp,rfl⟩:=y;obtain⟨d,hd,hn⟩:=r.nth i p hp;exact⟨Fc,nD p.1,by rw[aRZ,hd];rfl,.refl s2,qT _ _ (NAt.mono s1 _ _ hn)⟩
def lP(r:Res):Res:=r.thn λ_ d=>match d with
 |.dtf kvs=>.ok .fz (.lst (kvs.map λkv=>nD kv.1))
 |_=>.stuck
def aKZ(h:PV C X e g):PIv C X tg e (λρ=>lP (g ρ)):=by
 refine PI.imp (pi_dn h) λσ H R q=>?_;obtain⟨ρ,F,RS,w⟩:=q;dsimp only at w;unfold iDn;rw[aQ];refine⟨ρ,F,RS,?_⟩;unfold lP at w;cases er:g ρ with
 |stuck=>rw[er]at w;exact w.elim
 |exc c=>rw[er]at w;exact w
 |ok m d =>
  rw[er,Res.thn_ok]at w;intro v F' H' st rp _;cases d with
  |dtf kvs =>
   cases m with
   |fz=>have rp:aB X.K F' (.dtf kvs) v:=rp;simp only[aB]at rp;obtain⟨a,o,xs,rfl,hf,r⟩:=rp;exact⟨a,o,xs,rfl,st.sub _ _ hf,w _ F' H' st (aKY hf r)⟩
   |fr=>obtain⟨a,_,_,q⟩:=rp;exact q.elim
   |bo=>obtain⟨a,_,_,q⟩:=rp;exact q.elim
  |_=>exact w.elim
def j0(ρ:Rho)(i:Nat):aG:=match ρ[i]? with
 |some (some (true,.dtn kvs))=>.nx (ρ.set i (some (false,.dtf kvs)))
 |_=>.stuck
def aS.nfrz{F:Hp}{kvs:List (N×D)}{a:Addr}{xs:List (N×Addr×V)}(o:Obj)(R:aS K F0 H0 F H σ ρ)(e:ρ[i]? = some (some (true,.dtn kvs)))(ev:σ[i]? = some (some (.ref a)))(hF:F a=none)(hH:H a=some (.dN xs))(h0:H0 a=none)(r:aN K F kvs xs):aD F (upd F a (.frz o (.dN xs)))/\aS K F0 H0 (upd F a (.frz o (.dN xs))) (upd H a (.frz o (.dN xs))) σ (ρ.set i (some (false,.dtf kvs))):=by
 have sm:aD F (upd F a (.frz o (.dN xs))):=λb u q=>by rw[aJ (bN q hF)];exact q
 have hi:i<ρ.length:=(aQX.mp e).1;have own:∀{j:Nat}{d1:D},(ρ.set i (some (false,.dtf kvs)))[j]? = some (some (true,d1))->j≠i/\ρ[j]? = some (some (true,d1)):=λ{j d1} z=>by
  by_cases hj:j=i
  . subst hj;rw[aQY hi]at z;cases z
  . rw[aQZ (λy=>hj y.symm)]at z;exact⟨hj,z⟩
 refine⟨sm,⟨λb u q=>?_,λb u q=>?_,λb u q=>?_,λb q1 q2=>?_⟩,λj m d' ej=>?_,λj k d1 d2 b hjk e1 e2 q1 q2=>R.apart j k d1 d2 b hjk (own e1).2 (own e2).2 q1 q2,by rw[aTL];exact R.len⟩
 . rw[aJ (bN q h0)];exact R.st.same b u q
 . rw[aJ (bN (R.st.fsame b u q) hF)];exact R.st.fsame b u q
 . by_cases hb:b=a
   . subst hb;rw[aV]at q ⊢;exact q
   . rw[aJ hb]at q ⊢;exact R.sub b u q
 . have:b≠a:=λz=>q2 (fV (by rw[z];exact h0))
   rw[aJ this];exact R.st.new b q1 q2
 . by_cases hj:j=i
   . subst hj;rw[aQY hi]at ej;cases ej;refine⟨.ref a,ev,?_,by nofun⟩
     show aB K _ (.dtf kvs) _;simp only[aB];exact⟨a,o,xs,rfl,aV,r.mono sm _ _⟩
   . rw[aQZ (λz=>hj z.symm)]at ej;obtain⟨v',ev',rp',hn'⟩:=R.slot j m d' ej;refine⟨v',ev',?_,hn'⟩;cases m with
     |false=>exact aB.mono sm _ _ rp'
     |true =>
      obtain⟨b,rfl,nb,t'⟩:=rp';have ab:b≠a:=λz=>by subst z;exact R.apart j i d' _ b hj ej e ev' ev
      refine⟨b,rfl,by rw[aJ ab];exact nb,?_⟩
      cases d' with
      |lst ds=>obtain⟨ys,q,rr⟩:=t';exact⟨ys,by rw[aJ ab];exact q,rr.mono sm _ _⟩
      |dct ds=>obtain⟨ys,q,rr⟩:=t';exact⟨ys,by rw[aJ ab];exact q,rr.mono sm _ _⟩
      |ins c fs=>obtain⟨C,dx,gs,n,q,rr⟩:=t';exact⟨C,dx,gs,n,by rw[aJ ab];exact q,rr.mono sm _ _⟩
      |set ks=>obtain⟨S,q,rr⟩:=t';exact⟨S,by rw[aJ ab];exact q,rr⟩
      |dtn ds=>obtain⟨ys,q,rr⟩:=t';exact⟨ys,by rw[aJ ab];exact q,rr.mono sm _ _⟩
      |_=>exact t'.elim
def aK0{g:Rho->aG}(h:PBv C X sts g):PBv C X sts (λρ=>(j0 ρ i).thn g):=by
 intro aA s σ H E I q;obtain⟨ρ,F,R,w⟩:=q;dsimp only at w;unfold j0 at w;split at w
 . rename_i kvs e;obtain⟨v,ev,rp,hn⟩:=R.slot i true _ e;obtain⟨a,rfl,hF,xs,hH,r⟩:=rp;have ok:=I.hok a _ hH;obtain⟨_,_,_,_,o,_,_,g1,_⟩:=id ok;have I2:=I.write (x:=a) (e:=a) (o:=.frz o (.dN xs)) (t':=s.toks) (h':=s.heap) (by rw[hH];exact trivial) (.inl rfl) (λ_ _ _ q=>q) ⟨_,g1⟩ ⟨g1,ok.stay (λ_ _ _ q=>q) (λc q=>by rw[aJ (λz=>by rw[z,hH]at q;cases q)];exact q) λc ys q=>by rw[aJ (λz=>by rw[z,hH]at q;cases ys <;> cases q)];exact q⟩
   obtain⟨sm,R2⟩:=aS.nfrz o R e ev hF hH (hn rfl a rfl) r;exact h aA s σ _ E I2 ⟨_,_,R2,bW.mono sm w⟩
 . exact w.elim
def slot0{t:SetTable}(hp:t.place = #[])(hd:t.dummies = #[])(j:Nat):t.slot j=.empty:=by unfold SetTable.slot SetTable.has;rw[hp,hd];rfl
def rK(j1 j:Nat):SetTable.below #[j1] j=if j1<j then 1 else 0:=by
 show SetTable.below.go #[j1] j 1 0 1=_;unfold SetTable.below.go;rw[if_pos (by decide)]
 show(if(#[j1]:Array Nat).getD 0 j<j then SetTable.below.go #[j1] j 0 1 1 else SetTable.below.go #[j1] j 0 0 0)=_;have e:(#[j1]:Array Nat).getD 0 j=j1:=rfl;rw[e];by_cases h:j1<j
 . rw[if_pos h,if_pos h];rfl
 . rw[if_neg h,if_neg h];rfl
def rL{t:SetTable}(hp:t.place = #[j1])(hd:t.dummies = #[])(j:Nat):t.slot j=if j=j1 then .live 0 else .empty:=by
 unfold SetTable.slot;rw[hp,hd,rK];by_cases h:j=j1
 . subst h;rw[if_pos rfl,if_neg (aQN _)];simp
 . rw[if_neg h];by_cases h2:j1<j
   . rw[if_pos h2];rfl
   . rw[if_neg h2];have:((#[j1]:Array Nat)[0]?==some j)=false:=by simp;exact λe=>h e.symm
     simp only[this,aS8,aSA];rfl
def iS(t:SetTable)(j1:Nat):Nat->SetTable.Probe->Prop
 |0,p=>p.j≠j1
 |g+1,p=>p.j≠j1\/iS t j1 g (t.advance p)
theorem adv7{t:SetTable}(hm:t.mask=7){p:SetTable.Probe}(h0:p.more=0):t.advance p={p with j:=(p.i * 5+1+p.perturb / 32) % 8,more:=0,i:=(p.i * 5+1+p.perturb / 32) % 8,perturb:=p.perturb / 32}:=by
 unfold SetTable.advance SetTable.leap SetTable.runEnd;rw[h0,hm];simp only[aQN,gt_iff_lt,aSA];have:¬ (p.i * 5+1+p.perturb / 32) % (7+1)+9<=7:=by lia
 rw[if_neg this,Nat.sub_self]
theorem zA{t:SetTable}(hm:t.mask=7)(j1:Nat):∀(g:Nat) (p:SetTable.Probe),p.more=0->p.j=p.i->p.perturb<32 ^ g->p.i<8->iS t j1 (g+1) p
 |0,p,h0,hj,hp,h8=>by
  by_cases e:p.j=j1
  . right;show(t.advance p).j≠j1;rw[adv7 hm h0];show(p.i * 5+1+p.perturb / 32) % 8≠j1;have:p.perturb=0:=by simpa using hp
    rw[this];lia
  . left;exact e
 |g+1,p,h0,hj,hp,h8=>by
  right;rw[adv7 hm h0];refine zA hm j1 g _ rfl rfl ?_ ?_
  . show p.perturb / 32<32 ^ g;rw[Nat.pow_succ]at hp;exact Nat.div_lt_of_lt_mul (by rw[Nat.mul_comm];exact hp)
  . show(p.i * 5+1+p.perturb / 32) % 8<8;lia
theorem aK1{t:SetTable}(hm:t.mask=7)(j1:Nat)(h:Int):iS t j1 14 (t.probeStart h):=by
 refine zA hm j1 13 _ ?_ rfl ?_ ?_
 . show SetTable.runEnd t.mask (SetTable.bits h % (t.mask+1))-SetTable.bits h % (t.mask+1)=0;unfold SetTable.runEnd;rw[hm,if_neg (by lia),Nat.sub_self]
 . show SetTable.bits h<32 ^ 13;have:SetTable.bits h<2 ^ 64:=by unfold SetTable.bits;lia
   exact aQM this (by decide)
 . show SetTable.bits h % (t.mask+1)<8;rw[hm];lia
theorem go1{t:SetTable}{j1:Nat}(hm:t.mask=7)(hp:t.place = #[j1])(hd:t.dummies = #[])(f:Nat->Int)(h:Int):∀(n g:Nat) (p:SetTable.Probe),p.dummy=none->iS t j1 g p->g<n->(∃j,SetTable.probe.go t f h n p=some (.empty j none)/\j≠j1)\/(f 0==h)=true/\∃next g',g'<g/\next.dummy=none/\iS t j1 g' next/\SetTable.probe.go t f h n p=some (.candidate j1 0 next)
 |0,g,p,_,_,h2=>by lia
 |n+1,g,p,h0,h1,h2=>by
  unfold SetTable.probe.go;rw[rL hp hd];by_cases e:p.j=j1
  . rw[if_pos e];cases g with
    |zero=>exact absurd e h1
    |succ g =>
     have h1:iS t j1 g (t.advance p):=h1.resolve_left λz=>z e;have da:(t.advance p).dummy=none:=by
      unfold SetTable.advance;split
      . exact h0
      . exact h0
     dsimp only;by_cases hf:(f 0==h)=true
     . rw[if_pos hf];exact .inr ⟨hf,_,g,aRM g,da,h1,by rw[e]⟩
     . rw[if_neg hf];rcases go1 hm hp hd f h n g _ da h1 (by lia)with q|⟨q,_⟩
       . exact .inl q
       . exact absurd q hf
  . rw[if_neg e];exact .inl ⟨p.j,by dsimp only;rw[h0],e⟩
section
variable {A:aV5}{E:VSP}
def zB(k:N):∀{n:Nat}{v:aV3}{Q:Bool->aV4->Prop},IsN s.heap k v->(∀b,Q b s)->wpAny (model prog w) A (hashByValue n v) Q E s:=by
 induction k using N.ind with
 |hi m=>intro n v Q hk h;rw[IsN]at hk;obtain⟨t,rfl⟩:=hk;cases n <;> exact aQ9 (h _)
 |hs x=>intro n v Q hk h;rw[IsN]at hk;obtain⟨⟨t,rfl⟩,_⟩:=hk;cases n <;> exact aQ9 (h _)
 |ht xs ih =>
  intro n v Q hk h;rw[IsN]at hk;obtain⟨a,o,items,c,rfl,ho,hc,hd,hi⟩:=hk;cases n with
  |zero=>exact aQ9 (h _)
  |succ n =>
   have hT:s.TypeIs (.ref a) "tuple" := ⟨o,ho,hc⟩;unfold hashByValue;refine aRA (aS1 hT F.slot_tuple_hash.lookup ?_);dsimp only;unfold seqItems?;refine aRA (aRA (aRB ho ?_));rw[hd];refine aQ9 ?_;refine aRA ?_;show wpAny _ _ (forIn items _ _) _ _ s;rw[<- aS2];refine aS3 _ (λrest r s'=>s'=s/\∀v∈rest,∃x∈xs,IsN s.heap x v) _ ?_ ?_ _ _ ⟨rfl,hi.mem⟩
   . rintro v rest r s' ⟨rfl,hall⟩;obtain⟨x,hx,hv⟩:=hall v mcs;refine aRA (ih x hx (n:=n) hv λb=>?_);cases b with
     |true=>exact aQ9 ⟨rfl,λu hu=>hall u (mcm hu)⟩
     |false=>exact aQ9 (by first|exact⟨rfl,λu hu=>hall u (mcm hu)⟩|exact aQ9 (h _))
   . rintro⟨r1,r2⟩ s' ⟨rfl,_⟩;cases r1 with
     |none=>exact aQ9 (h _)
     |some b=>exact aQ9 (h _)
theorem zC(k:N):∀{n:Nat}{v:aV3}{Q:Bool->aV4->Prop},k.dp<=n->IsN s.heap k v->Q false s->wpAny (model prog w) A (ofAClassStatement n v) Q E s:=by
 induction k using N.ind with
 |hi m=>intro n v Q hn hk h;rw[IsN]at hk;obtain⟨t,rfl⟩:=hk;cases n <;> exact aQ9 h
 |hs x=>intro n v Q hn hk h;rw[IsN]at hk;obtain⟨⟨t,rfl⟩,_⟩:=hk;cases n <;> exact aQ9 h
 |ht xs ih =>
  intro n v Q hn hk h;rw[IsN]at hk;obtain⟨a,o,items,c,rfl,ho,hc,hd,hi⟩:=hk;rw[N.dp]at hn;cases n with
  |zero=>lia
  |succ n =>
   have hT:s.TypeIs (.ref a) "tuple" := ⟨o,ho,hc⟩;unfold ofAClassStatement;refine aRA (aSH hT ?_);dsimp only;rw[if_pos (by decide)]
   refine aRA (aQ9 ?_);simp only[aS7,aS8,aSA];unfold seqItems?;refine aRA (aRA (aRB ho ?_));rw[hd];refine aQ9 ?_;dsimp only;refine aRA ?_;rw[<- aS2];refine aS3 _ (λrest r s'=>r.1=none/\s'=s/\∀v∈rest,∃x∈xs,IsN s.heap x v) _ ?_ ?_ _ _ ⟨rfl,rfl,hi.mem⟩
   . rintro v rest r s' ⟨hr,rfl,hall⟩;obtain⟨x,hx,hv⟩:=hall v mcs;refine aRA (ih x hx (n:=n) (by have:=N.dp_mem hx;lia) hv ?_)
     simp only[aS8,aSA];exact aQ9 ⟨rfl,rfl,λu hu'=>hall u (mcm hu')⟩
   . rintro⟨r1,r2⟩ s' ⟨hr,rfl,_⟩;simp only at hr;subst hr;exact aQ9 h
def aK2{x y:N}{c:Addr}{Q:Bool->aV4->Prop}(dx:x.dp<=8)(dy:y.dp<=8)(hx:IsN s.heap x (.ref b))(hy:IsN s.heap y (.ref c))(q:Q false s):wpAny (model prog w) A (searchCouldBeSeen (.ref b) [.ref c]) Q E s:=by
 unfold searchCouldBeSeen;refine aRA ?_;refine aS3 _ (λrest r s'=>r.1=none/\s'=s/\(rest=[]\/rest=[.ref c])) _ ?_ ?_ _ _ ⟨rfl,rfl,.inr rfl⟩
 . rintro v rest r s' ⟨hr,rfl,hl⟩;rcases hl with hl|hl
   . cases hl
   . cases hl;dsimp only;by_cases e:(b==c||carriedByValue (.ref b)&&carriedByValue (.ref c))=true
     . rw[if_pos e];exact aQ9 ⟨rfl,rfl,by first|exact .inl rfl|simp⟩
     . rw[if_neg e];refine aRA (pU x dx hx ?_);simp only[aS7,aS8,aSA];refine aRA (pU y dy hy ?_);simp only[aS7,aS8,aSA];refine aRA (zC x dx hx ?_);simp only[aS8,aSA];refine aRA (zC y dy hy ?_);simp only[aS8,aSA];exact aQ9 ⟨rfl,rfl,by first|exact .inl rfl|simp⟩
 . rintro⟨r1,r2⟩ s' ⟨hr,rfl,_⟩;simp only at hr;subst hr;exact aQ9 q
end
def cE(w:aV6)(p:N×Addr):Int×aV3:=(aX w p.1,.ref p.2)
def cY(h:Heap)(p:N×Addr):Prop:=IsN h p.1 (.ref p.2)/\p.1.dp<=8
def cB(w:aV6)(h:Heap)(a:Addr)(ps:List (N×Addr)):Prop:=∃o es ep t,h.get? a=some o/\o.ExactSet/\o.data=.set es ep t/\es.toList=ps.map (cE w)/\ps.length<=4/\t.fits es.size=true/\t.led = !dG w/\PlOk t
def iT(w:aV6)(h:Heap)(a:Addr)(p:N×Addr):Prop:=∃o ep t,h.get? a=some o/\o.ExactSet/\o.data=.set #[cE w p] ep t/\t.mask=7/\t.dummies = #[]/\t.place = #[SetTable.bits (aX w p.1) % 8]/\t.led = !dG w
section
variable {A:aV5}{E:VSP}{a c:Addr}{x y:N}
def zD{t:SetTable}{p:N×Addr}(hm:t.mask=7)(hd:t.dummies = #[])(hp:t.place = #[SetTable.bits (aX w p.1) % 8]):t.fits (#[cE w p]:Array (Int×aV3)).size=true:=by unfold SetTable.fits SetTable.fill;rw[hm,hd,hp];rfl
def srch0{Q:SetFound->aV4->Prop}{o:Obj}{t:SetTable}{h:Int}(ho:s.heap.get? a=some o)(hd:o.data=.set #[] ep t)(hm:t.mask=7)(hp:t.place = #[])(hdu:t.dummies = #[])(q:Q (.free (SetTable.bits h % 8) false) s):wpAny (model prog w) A (setSearch a (.ref b) h (adding:=true)) Q E s:=by
 have hf:t.fits (#[]:Array (Int×aV3)).size=true:=by unfold SetTable.fits SetTable.fill;rw[hm,hp,hdu];rfl
 unfold setSearch setSearchFrom;refine aRA (aUL ho hd hf ?_);dsimp only;have gw:t.gaveWay=false:=by unfold SetTable.gaveWay;rw[hm];rfl
 rw[gw];simp only[aS8,aSA];have e:∀f:Nat->Int,t.probe f h (t.probeStart h)=some (.empty (SetTable.bits h % 8) none):=λf=>by unfold SetTable.probe;rw[hm];show SetTable.probe.go t f h (219+1) _=_;unfold SetTable.probe.go;rw[slot0 hp hdu];show some (SetTable.Met.empty (SetTable.bits h % (t.mask+1)) none)=_;rw[hm]
 rw[aSK,e];exact aQ9 q
theorem srch1{Q:SetFound->aV4->Prop}{o:Obj}{t:SetTable}(hu:A.units+8<cLine)(ho:s.heap.get? a=some o)(hd:o.data=.set #[cE w (y,c)] ep t)(hm:t.mask=7)(hp:t.place = #[j1])(hdu:t.dummies = #[])(kx:cY s.heap (x,b))(ky:cY s.heap (y,c))(q1:x=y->Q (.there none) s)(q2:∀j,j≠j1->x≠y->Q (.free j false) s)(first:SetTable.bits (aX w y) % 8=j1):∀(g fuel:Nat) (stand:Option SetTable.Probe),(stand.getD (t.probeStart (aX w x))).dummy=none->iS t j1 g (stand.getD (t.probeStart (aX w x)))->g<200->g<fuel->(stand=none\/x≠y)->wpAny (model prog w) A (setSearchFrom a (.ref b) (aX w x) true fuel stand) Q E s:=by
 intro g
 induction g using Nat.strongRecOn with
 |ind g ih =>
 intro fuel stand d0 lv g2 gf once;cases fuel with
 |zero=>lia
 |succ fuel =>
 have hf:t.fits (#[cE w (y,c)]:Array (Int×aV3)).size=true:=by unfold SetTable.fits SetTable.fill;rw[hm,hp,hdu];rfl
 unfold setSearchFrom;refine aRA (aUL ho hd hf ?_);dsimp only;have gw:t.gaveWay=false:=by unfold SetTable.gaveWay;rw[hm];rfl
 rw[gw];simp only[aS8,aSA];have f0:∀f:Nat->Int,t.probe f (aX w x) (stand.getD (t.probeStart (aX w x)))=SetTable.probe.go t f (aX w x) 220 (stand.getD (t.probeStart (aX w x))):=λf=>by unfold SetTable.probe;rw[hm];rfl
 rw[f0];rcases go1 hm hp hdu _ (aX w x) 220 g _ d0 lv (by lia)with⟨j,e,nj⟩|⟨hq,next,g',l1,l2,l3,e⟩
 . rw[e];refine aQ9 (q2 j nj λexy=>?_);rcases once with once|once
   . subst once;subst exy;rw[aSK]at e;have:SetTable.probe.go t _ (aX w x) (219+1) (t.probeStart (aX w x))=some (.empty j none):=e;unfold SetTable.probe.go at this;have ej:(t.probeStart (aX w x)).j=j1:=by show SetTable.bits (aX w x) % (t.mask+1)=j1;rw[hm];exact first
     rw[rL hp hdu,ej,if_pos rfl]at this;dsimp only at this;rw[if_pos (by first|rfl|exact aTT _)]at this
     cases this
   . exact once exy
 . rw[e];dsimp only;have seen:∀{R:Bool->aV4->Prop}{E':VSP},R false s->wpAny (model prog w) A (searchCouldBeSeen (.ref b) (((#[cE w (y,c)]:Array (Int×aV3)).filter (·.1==aX w x)).toList.map (·.2))) R E' s:=λ{R E'} r=>by
     have ef:((#[cE w (y,c)]:Array (Int×aV3)).filter (·.1==aX w x)).toList.map (·.2)=[.ref c]:=by have hq:(aX w y==aX w x)=true:=hq;simp[cE,hq]
     rw[ef];exact aK2 kx.2 ky.2 kx.1 ky.1 r
   refine aUS (λ_=>aRA (seen ?_)) (λ_=>?_)
   all_goals
    first|rw[if_neg aQ7]|skip
    show wpAny _ _ (holding [Value.ref c] (eqBool (.ref c) (.ref b))>>=_) _ _ _;refine aRA (aSD (pT (x:=y) (y:=x) (by have:=ky.2;dsimp only at this;lia) ky.1 kx.1 (aRA (aUL ho hd hf ?_))))
    dsimp only;by_cases exy:y=x
    . rw[if_pos (by rw[aSP exy];rfl)]
      exact aQ9 (q1 exy.symm)
    . rw[if_neg (by rw[aQG exy];decide)]
      have em:t.sameMemory t.moves t.mask=some true:=by unfold SetTable.sameMemory;rw[if_pos (aTT _)]
      rw[em];dsimp only;rw[if_pos rfl,rL hp hdu,if_pos rfl];show wpAny _ _ (isSame (.ref c) (.ref c)>>=_) _ _ _;refine aRA (wpAny_isSame_ref_self (aRA (aQ9 ?_)));rw[if_pos rfl];dsimp only;rw[if_neg (by rw[aQG exy];decide)]
      exact ih g' l1 fuel (some next) l2 l3 (by lia) (by lia) (.inr λz=>exy z.symm)
def zE{o:Obj}{es es':Array (Int×aV3)}{t t':SetTable}(ho:h.get? a=some o)(hd:o.data=.set es ep t):(h.update a (Obj.putSet es' t')).get? a=some {o with data:=.set es' (ep+1) t'}:=by obtain⟨oc,od,odata,os⟩:=o;dsimp only at hd;subst hd;exact aUB (Obj.putSet es' t') ho rfl
theorem aK3{Q:Bool->aV4->Prop}(hu:A.units+8<cLine)(g0:s.heap.get? a=some (sob w))(kx:cY s.heap (x,b))(q:∀h',Heap.SameBut a s.heap h'->iT w h' a (x,b)->Q true {s with heap:=h',toks:=s.toks+x.dr}):wpAny (model prog w) A (setAdd a (.ref b)) Q E s:=by
 unfold setAdd;refine aSD (aRA (pS x (by have:=kx.2;dsimp only at this;lia) kx.1 ?_))
 unfold setAddHashed setAddHashedIn;refine aSD (aRA (aUL (s:={s with toks:=s.toks+x.dr}) g0 rfl rfl ?_))
 dsimp only;rw[if_neg (λz=>by cases z)]
 refine aRA (srch0 (s:={s with toks:=s.toks+x.dr}) g0 rfl rfl rfl rfl ?_)
 dsimp only;refine aRA (aUL (s:={s with toks:=s.toks+x.dr}) g0 rfl rfl ?_)
 dsimp only;have hb:∀{R:Bool->aV4->Prop}{E':VSP},(∀v,R v {s with toks:=s.toks+x.dr})->wpAny (model prog w) A (if((SetTable.fresh 0 0 (!dG w)).put (SetTable.bits (aX w x) % 8)).1.plain=true then hashByValue 8 (.ref b)else pure true) R E' {s with toks:=s.toks+x.dr}:=λ{R E'} r=>by
  split
  . exact zB x kx.1 r
  . exact aQ9 (r _)
 refine aRA (hb λv=>?_);refine aRA (wpAny_storeSet_of (s:={s with toks:=s.toks+x.dr}) g0 rfl ?_ (by show 1<=_;decide))
 have fin:∀t':SetTable,t'.mask=7->t'.dummies = #[]->t'.place = #[SetTable.bits (aX w x) % 8]->t'.led = !dG w->Q true {s with heap:=s.heap.update a (Obj.putSet (SetTable.insertAt #[] 0 (aX w x,Value.ref b)) t'),toks:=s.toks+x.dr}:=λt' h1 h2 h3 h4 =>
  q _ (aUE ..) ⟨_,_,t',zE g0 rfl,⟨rfl,rfl,rfl⟩,rfl,h1,h2,h3,h4⟩
 cases v with
 |true=>exact aQ9 (fin _ rfl rfl rfl rfl)
 |false=>exact aQ9 (fin _ rfl rfl rfl rfl)
theorem ins1(e f:α)(p:Nat)(hp:p<=1):(SetTable.insertAt #[e] p f).toList.Perm [e,f]:=by
 have:p=0\/p=1:=by lia
 rcases this with rfl|rfl
 . exact List.Perm.swap _ _ _
 . exact aU4 _
def iT.sn{p:N×Addr}(X:iT w h a p):cB w h a [p]:=by obtain⟨o,ep,t,ho,hex,hd,hm,hdu,hp,hl⟩:=X;exact⟨o,_,ep,t,ho,hex,hd,rfl,by show 1<=4;decide,zD hm hdu hp,hl,.inr ⟨hdu,by rw[hp];exact aU5 _ _⟩⟩
def iT.kept{p:N×Addr}(X:iT w h a p)(k:∀o,h.get? a=some o->h'.get? a=some o):iT w h' a p:=by obtain⟨o,ep,t,ho,r⟩:=X;exact⟨o,ep,t,k o ho,r⟩
def cB.kept{ps:List (N×Addr)}(X:cB w h a ps)(k:∀o,h.get? a=some o->h'.get? a=some o):cB w h' a ps:=by obtain⟨o,es,ep,t,ho,r⟩:=X;exact⟨o,es,ep,t,k o ho,r⟩
theorem aK4{Q:Bool->aV4->Prop}(hu:A.units+8<cLine)(X:iT w s.heap a (y,c))(kx:cY s.heap (x,b))(ky:cY s.heap (y,c))(q:∀v h' ps,Heap.SameBut a s.heap h'->cB w h' a ps->(if x=y then ps=[(y,c)]else ps.Perm [(y,c),(x,b)])->Q v {s with heap:=h',toks:=s.toks+x.dr}):wpAny (model prog w) A (setAdd a (.ref b)) Q E s:=by
 obtain⟨o,ep,t,ho,hex,hd,hm,hdu,hp,hl⟩:=id X;have hf:=zD (w:=w) (p:=(y,c)) hm hdu hp;unfold setAdd;refine aSD (aRA (pS x (by have:=kx.2;dsimp only at this;lia) kx.1 ?_))
 unfold setAddHashed setAddHashedIn;refine aSD (aRA (aUL (s:={s with toks:=s.toks+x.dr}) ho hd hf ?_))
 dsimp only;rw[if_neg (λz=>by cases z)]
 unfold setSearch;refine aRA (srch1 (s:={s with toks:=s.toks+x.dr}) hu ho hd hm hp hdu kx ky (λexy=>?_) (λj nj nxy=>?_) rfl 14 100000 none rfl (aK1 hm _ _) (by decide) (by decide) (.inl rfl))
 . dsimp only;exact aQ9 (q false s.heap [(y,c)] (Heap.SameBut.refl a s.heap) X.sn (by rw[if_pos exy]))
 . dsimp only;refine aRA (aUL (s:={s with toks:=s.toks+x.dr}) ho hd hf ?_)
   dsimp only
   suffices key : ∀ v : Bool, wpAny (model prog w) A (do
       storeSet a (SetTable.insertAt #[cE w (y,c)] (t.put j).2 (aX w x,Value.ref b)) (if v=true then(t.put j).1 else{ (t.put j).1 with plain:=false })
       if (!false && (if v = true then (t.put j).1 else { (t.put j).1 with plain := false }).tooFull) = true then do
           setRelay a (SetTable.grown ((#[cE w (y,c)]:Array (Int×aV3)).size+1))
           pure true
        else pure true) Q E {s with toks:=s.toks+x.dr}from
    aUS (λ_=>aRA (zB x kx.1 key)) (λ_=>aRA (aQ9 (key true)))
   intro v;have rs:dX t.place:=by rw[hp];exact aU5 _ _
   have hn:t.place[SetTable.below t.place j]?≠some j:=by
    rw[hp,rK];split
    . simp
    . intro z;have z:SetTable.bits (aX w y) % 8=j:=by simpa using z
      exact nj z.symm
   obtain⟨k1,k2⟩:=aJM hdu rs hn;have pb:(t.put j).2<=1:=by show SetTable.below t.place j<=1;rw[hp,rK];split <;> decide
   have pe:(SetTable.insertAt #[cE w (y,c)] (t.put j).2 (aX w x,Value.ref b)).toList.Perm [cE w (y,c),cE w (x,b)]:=ins1 _ _ _ pb;have sz:(SetTable.insertAt #[cE w (y,c)] (t.put j).2 (aX w x,Value.ref b)).size=2:=by rw[<- aQ2,pe.length_eq];rfl
   have pz:(t.put j).1.place.size=2:=by show(SetTable.insertAt t.place (SetTable.below t.place j) j).size=2;have:=ins1 (SetTable.bits (aX w y) % 8) j (SetTable.below t.place j) pb;rw[hp]at this ⊢;rw[<- aQ2,this.length_eq];rfl
   have hl2:(t.put j).1.led = !dG w:=hl;have hm2:(t.put j).1.mask=7:=hm;generalize (t.put j).1=t1 at *;generalize SetTable.insertAt #[cE w (y,c)] (t.put j).2 (aX w x,Value.ref b)=es1 at *;refine aRA (wpAny_storeSet_of (s:={s with toks:=s.toks+x.dr}) ho hd ?_ (by rw[sz];decide))
   obtain⟨ps,pp,ee⟩:∃ps:List (N×Addr),ps.Perm [(y,c),(x,b)]/\es1.toList=ps.map (cE w):=by
    have l2:es1.toList.length=2:=by rw[aQ2];exact sz
    match es1.toList,l2,pe with
    |[u,v],_,pe =>
     rcases aQU.mp (pe.mem_iff.mp (show u∈[u,v]from mcs))with e|e
     . subst e;have:=pe.cons_inv;have e2:v=cE w (x,b):=by simpa using this.mem_iff.mp (aTY.mpr rfl)
       subst e2;exact⟨_,.refl _,rfl⟩
     . have e:u=cE w (x,b):=by simpa using e
       subst e;have:=(pe.trans (List.Perm.swap _ _ _)).cons_inv;have e2:v=cE w (y,c):=by simpa using this.mem_iff.mp (aTY.mpr rfl)
       subst e2;exact⟨[(x,b),(y,c)],List.Perm.swap _ _ _,rfl⟩
   have fin:∀t2:SetTable,t2.mask=7->t2.dummies = #[]->dX t2.place->t2.place.size=2->t2.led = !dG w->Q true {s with heap:=s.heap.update a (Obj.putSet es1 t2),toks:=s.toks+x.dr}:=λt2 h1 h2 h3 h4 h5 =>
    q true _ ps (aUE ..) ⟨_,es1,_,t2,zE ho hd,hex,rfl,ee,by rw[pp.length_eq];show 2<=4;decide,by unfold SetTable.fits SetTable.fill;rw[h1,h2,h4,sz];rfl,h5,.inr ⟨h2,h3⟩⟩ (by rw[if_neg nxy];exact pp)
   have tf:∀t2:SetTable,t2.mask=7->t2.dummies = #[]->t2.place.size=2->(!false&&t2.tooFull)=false:=λt2 h1 h2 h4=>by unfold SetTable.tooFull SetTable.fill;rw[h1,h2,h4];rfl
   cases v with
   |true =>
    have e:(if true=true then t1 else{t1 with plain:=false})=t1:=rfl
    rw[e,tf t1 hm2 k1 pz];exact aQ9 (fin t1 hm2 k1 k2 pz hl2)
   |false =>
    have e:(if false=true then t1 else{t1 with plain:=false})={t1 with plain:=false}:=rfl
    rw[e,tf {t1 with plain:=false} hm2 k1 pz]
    exact aQ9 (fin {t1 with plain:=false} hm2 k1 k2 pz hl2)
end
theorem j3{α β:Type}{f:α->β}:∀{l:List β}{ps:List α},l.Perm (ps.map f)->∃qs:List α,qs.Perm ps/\l=qs.map f
 |[],ps,h=>by
  have:=h.symm.eq_nil;have e:ps=[]:=by simpa using this
  subst e;exact⟨[],.refl _,rfl⟩
 |x::l,ps,h=>by obtain⟨p,hp,rfl⟩:=aVJ.mp (h.mem_iff.mp mcs);obtain⟨s,t,rfl⟩:=List.append_of_mem hp;have pm:(s++p::t).Perm (p::(s++t)):=List.perm_middle;obtain⟨qs,q1,q2⟩:=j3 ((h.trans (pm.map f)).cons_inv);exact⟨p::qs,(q1.cons p).trans pm.symm,by rw[q2];rfl⟩
theorem cY.kept{p:N×Addr}(k:cY h p)(kp:∀a o,h.get? a=some o->o.cls=.type "tuple" -> h'.get? a=some o):cY h' p:=⟨IsN.kept _ k.1 kp,k.2⟩
def cB.there{a:Addr}{ps:List (N×Addr)}(x:cB w h a ps):a<h.objs.size:=by obtain⟨o,es,ep,t,ho,r⟩:=x;exact aQL ho
def cB.ty{a:Addr}{ps:List (N×Addr)}(x:cB w s.heap a ps):s.TypeIs (.ref a) "set" := by obtain⟨o,es,ep,t,ho,hex,r⟩:=x;exact⟨o,ho,hex.1⟩
def Two(k1 k2:N)(b1 b2:Addr)(ps:List (N×Addr)):Prop:=if k2=k1 then ps=[(k1,b1)]else ps.Perm [(k1,b1),(k2,b2)]
section
variable {A:aV5}{E:VSP}{k1 k2:N}{b1 b2:Addr}
theorem aK5{R:Result->aV4->Prop}{P:Nat->aV3->Prop}{St:Nat->Heap->Prop}(hu:A.units+16<cLine)(W:Walks prog w A.in1 I fp [I] 2 P St)(p1:∀v,P 0 v->v=.ref b1)(p2:∀v,P 1 v->v=.ref b2)(S:Addr)(hSf:S∉fp)(hst:St 0 s.heap)(g0:s.heap.get? S=some (sob w))(hI:∀o,s.heap.get? I=some o->o.cls ≠ .type "tuple")(q1:cY s.heap (k1,b1))(q2:cY s.heap (k2,b2))(hR:∀h' tk ps,(∀b o,b≠S->b≠I->s.heap.get? b=some o->h'.get? b=some o)->cB w h' S ps->Two k1 k2 b1 b2 ps->R (.ok (.ret .none)) {s with heap:=h',toks:=tk}):codeAny (model prog w) A (.builtin "set.update.loop" ⟨[.ref S,.ref I],[]⟩) R s:=by
 have hSw:S∉[I]:=λh=>hSf (W.sub _ h);have hSI:S≠I:=λe=>hSw (by simp[e])
 have tupI:∀a o,s.heap.get? a=some o->o.cls=.type "tuple" -> a≠I:=λa o e c z=>hI o (by rw[<- z];exact e) c
 have tupS:∀a o,s.heap.get? a=some o->o.cls=.type "tuple" -> a≠S:=λa o e c z=>by
  rw[z,g0]at e;cases e;have c:Value.type "set" = .type "tuple" := c;injection c with c
  exact absurd c (by decide)
 have hu1:A.in1.units+8<cLine:=by show A.units+1+8<_;lia
 refine aT5 qJ ?_;rw[aT6 lH _];show wpAny _ A.in1 (pyNext (.ref I)>>=_) _ _ s;refine aRA (W.item 0 s _ _ (by decide) hst λv h1 tk hP1 hst1 hk1=>?_)
 cases p1 v hP1;have c1:∀a o,s.heap.get? a=some o->o.cls=.type "tuple" -> h1.get? a=some o:=λa o e c=>hk1 a o (by simpa using tupI a o e c) e
 show wpAny _ A.in1 (holding [.ref b1] (setAdd S (.ref b1))>>=_) _ _ _;refine aRA (aSD (aK3 (s:={s with heap:=h1,toks:=tk}) hu1 (hk1 S _ hSw g0) (q1.kept c1) λh2 sb X2=>?_))
 have c2:∀a o,s.heap.get? a=some o->o.cls=.type "tuple" -> h2.get? a=some o:=λa o e c=>sb.extBut a o (tupS a o e c) (c1 a o e c);refine aQ9 ⟨aT4 lH _,aT5 qJ ?_⟩;rw[aT6 lH _];show wpAny _ A.in1 (pyNext (.ref I)>>=_) _ _ _;refine aRA (W.item 1 _ _ _ (by decide) (W.frame _ _ _ hst1 λb hb o e=>sb.extBut b o (λe'=>hSf (e' ▸ hb)) e) λv h3 tk3 hP3 hst3 hk3=>?_)
 cases p2 v hP3;have c3:∀a o,s.heap.get? a=some o->o.cls=.type "tuple" -> h3.get? a=some o:=λa o e c=>hk3 a o (by simpa using tupI a o e c) (c2 a o e c)
 show wpAny _ A.in1 (holding [.ref b2] (setAdd S (.ref b2))>>=_) _ _ _;refine aRA (aSD (aK4 hu1 (X2.kept λo e=>hk3 S o hSw e) (q2.kept c3) (q1.kept c3) λv h4 ps sb4 X4 two=>?_));refine aQ9 ⟨aT4 lH _,aT5 qJ ?_⟩;rw[aT6 lH _];show wpAny _ A.in1 (pyNext (.ref I)>>=_) _ _ _;refine aRA (W.done _ _ _ (W.frame _ _ _ hst3 λb hb o e=>sb4.extBut b o (λe'=>hSf (e' ▸ hb)) e) λh5 tk5 hk5=>?_);exact aQ9 (hR h5 tk5 ps (λb o n1 n2 e=>hk5 b o (by simpa using n2) (sb4.extBut b o n1 (hk3 b o (by simpa using n2) (sb.extBut b o n1 (hk1 b o (by simpa using n2) e))))) (X4.kept λo e=>hk5 S o hSw e) two)
def aK6{a p:Addr}{K:Fin->aV4->Prop}(hu:A.units+16<cLine)(hh:A.handled=none)(g0:s.heap.get? a=some (sob w))(hp:s.heap.IsList p #[.ref b1,.ref b2])(ne:a≠p)(q1:cY s.heap (k1,b1))(q2:cY s.heap (k2,b2))(h:∀h' tk ps,(∀b o,b≠a->s.heap.get? b=some o->h'.get? b=some o)->cB w h' a ps->Two k1 k2 b1 b2 ps->K (.done (.ret .none)) {s with heap:=h',toks:=tk}):wpAny (model prog w) A (Builtin.«set.__init__» ⟨[.ref a,.ref p],[]⟩) K E s:=by
 have ty:s.TypeIs (.ref a) "set" := ⟨_,g0,rfl⟩;have tp:s.TypeIs (.ref p) "list" := hp.typeIs;unfold Builtin.«set.__init__»;refine aRA (m:=noKeywords _ _) (aQ9 ?_);dsimp only;unfold typeNameOfCut shownTypeOf;refine aRA (aRA (aRA (aSH ty ?_)));have e1:(Value.type "set" == Value.type "builtin_function_or_method")=false:=by decide
 simp only[e1,aS8,↓reduceIte];refine aQ9 ?_;refine aQ9 (aRA (m:=checkCount _ 0 1 _) (aQ9 (aRA (m:=Builtin.Frozenset.addrOf _) (aQ9 (aRA ?_)))));unfold setUsed;refine aRA (aUL g0 rfl rfl (aQ9 ?_));have e2:((SetTable.fresh 0 0 (!dG w)).fill != 0)=false:=rfl;dsimp only;rw[e2];simp only[aS8,↓reduceIte];refine aRA ?_;unfold Builtin.Frozenset.updateFrom Builtin.Frozenset.isAnySet;refine aRA (aJP tp ?_);simp only[aS8,↓reduceIte];refine aRA (aSH tp ?_);have e3:(Value.type "list" == Value.type "dict")=false:=by decide
 simp only[e3,aS8,↓reduceIte];refine aRA (aRC hp (aRA (wpAny_runValue ?_)));obtain⟨op,ho,hrest⟩:=id hp;have lp:p<s.heap.objs.size:=aQL ho;have la:a<s.heap.objs.size:=aQL g0;refine aK5 (A:=A) (s:={s with heap:=s.heap.push _}) hu (Walks.list (A:=A.in1) hh s.heap.objs.size p (aQO lp) #[.ref b1,.ref b2]) (λv q=>(aQJ q).symm) (λv q=>(aQJ q).symm) a
  (by simp only[aQU,aVK,aT2,not_or];exact⟨aQO la,ne⟩) ⟨⟨_,aQK _ rfl,rfl,rfl⟩,hp.push _⟩ (hps g0) (λo e=>?_) (q1.kept λb o e _=>hps e) (q2.kept λb o e _=>hps e) λh' tk ps kp X m=>?_
 . have e2:some _=some o:=(aQK _ rfl).symm.trans e;cases e2;intro z;injection z with z
   exact absurd z (by decide)
 . exact aQ9 (aQ9 (h h' tk ps (λb o hb e=>kp b o hb (aQO (aQL e)) (hps e)) X m))
theorem aK7{p:Addr}{Q:VSP}(hu:A.units+64<cLine)(hh:A.handled=none)(hp:s.heap.IsList p #[.ref b1,.ref b2])(q1:cY s.heap (k1,b1))(q2:cY s.heap (k2,b2))(h:∀h' tk ps,(∀b o,s.heap.get? b=some o->h'.get? b=some o)->cB w h' s.heap.objs.size ps->Two k1 k2 b1 b2 ps->Q (.ref s.heap.objs.size) {s with heap:=h',toks:=tk}):wpAny (model prog w) A (call (.type "set") [.ref p]) Q E s:=by
 obtain⟨c,tl,hmro⟩:=PySem.F.called_set.mro;have hmade:=PySem.F.called_set.made;have hsub:=PySem.F.called_set.sub;have h1:=PySem.F.called_set.notType;have h2:=PySem.F.called_set.canCreate;have hct:=aI1 (.ref p);refine aTW (codeAny_of_tree (show wpAny _ _ (callAny (.type "set") _) _ _ _ from aQ9 ⟨Code.quiet_builtin _ (by decide +kernel),aT5 PySem.F.entry_type_call ?_⟩))
 rw[Around.under_plain (weight_type_call_type "set" [.ref p] []) rfl]
 repeat (any_goals (first|assumption|wp_step))
 refine aSX (aI3 (E:=E) (.ref p) (Q1:=λr s1=>r=.ref s.heap.objs.size/\s1={s with heap:=s.heap.push (sob w)}) ⟨rfl,rfl⟩) λr s1 hr=>?_
 cases r with
 |error e=>exact hr
 |ok fl =>
  cases fl with
  |ret obj =>
   obtain⟨rfl,rfl⟩:=hr;have g0:(s.heap.push (sob w)).get? s.heap.objs.size=some (sob w):=aQK _ rfl;have ty:Shared.TypeIs {s with heap:=s.heap.push (sob w)} (.ref s.heap.objs.size) "set" := ⟨_,g0,rfl⟩
   have hli:=PySem.F.called_set.init.lookup;have hbi:=PySem.F.called_set.init.bind (.ref s.heap.objs.size)
   repeat (any_goals (first|assumption|wp_step))
   refine aSX (codeAny_call_builtin (R:=wants (λr s2=>r=.none/\Q (.ref s.heap.objs.size) s2) E) PySem.F.called_set.init.plain PySem.F.entry_set_init (aI4 ty ?_)) λr2 s2 hr2=>?_
   . refine aK6 (A:=A.in1.in1) (s:={s with heap:=s.heap.push (sob w)}) (by show A.units+1+1+16<_;lia) hh g0 (hp.push _) (aQ8 (aQL hp.choose_spec.1)) (q1.kept λb o e _=>hps e) (q2.kept λb o e _=>hps e) λh' tk ys kp X m=>⟨rfl,h h' tk ys (λb o e=>kp b o (aQO (aQL e)) (hps e)) X m⟩
   . cases r2 with
     |error e=>exact hr2
     |ok f2 =>
      cases f2 with
      |ret r =>
       obtain⟨rfl,hq⟩:=hr2
       repeat (any_goals (first|assumption|wp_step))
      |_=>exact hr2.elim
  |_=>exact hr.elim
end
def rM{l:List (Int×aV3)}{ps:List (N×Addr)}(e:l=ps.map (cE w)):l.map (·.2)=ps.map λp=>Value.ref p.2:=by rw[e,aVA];rfl
section
variable {A:aV5}{E:VSP}
variable  {a:Addr}{o:Obj}{es:Array (Int×aV3)}{t:SetTable}
theorem aK8{xs:List (N×Addr)}{Q:VSP}(hh:A.handled=none)(X:cB w s.heap a xs)(q:∀(I:Addr) (h':Heap) d (fp:List Addr) (items:List aV3) (ys:List (N×Addr)) (St:Nat->Heap->Prop),Walks prog w A I fp [I] items.length (λi v=>items[i]? = some v) St->St 0 h'->items=List.map (λp:N×Addr=>Value.ref p.2) ys->ys.Perm xs->(∀b o,s.heap.get? b=some o->h'.get? b=some o)->s.heap.objs.size<=I->(∀b∈fp,b=a\/s.heap.objs.size<=b)->Q (.ref I) {s with heap:=h',drawn:=d}):wpAny (model prog w) A (pyIter (.ref a)) Q E s:=by
 obtain⟨o,es,ep,t,ho,hex,hd,he,hb,hf,hl,hp⟩:=id X;have la:=X.there;have hz:es.size=xs.length:=by rw[<- aQ2,he,aR2]
 refine aUA X.ty PySem.F.slot_set_iter (aSG PySem.F.slot_set_iter X.ty aI6 ?_ (PySem.F.args_set_iter_1 _));unfold Builtin.«frozenset.__iter__»;refine aRA (m:=Builtin.Frozenset.slot0 _ _) (aQ9 (aRA ?_));unfold Builtin.Frozenset.sizeOf;refine aRA (aUI ho hd hf (aQ9 (aRA ?_)));unfold setDrawn;refine aRA (aUL ho hd hf (aRA (iN (aQ9 ?_))));dsimp only;have sz:es.size<=sizeLine:=by rw[hz,aRH];lia
 split
 . rename_i hc;refine aRA (xK (by simp) λd l' pl=>aRA (wpAny_newTuple ?_ (by rw[aR2,pl.length_eq,aUO];exact sz)))
   have ho1:=Heap.get?_push_of_some (seqObj "tuple" (l'.map λ(i:Nat)=>rawInt i).toArray 0) ho;refine aRA (wpAny_setEpoch_of (s:={ s with heap:=s.heap.push (seqObj "tuple" (l'.map λ(i:Nat)=>rawInt i).toArray 0),drawn:=d }) ho1 hd hf (aRA (aSJ (aQ9 ⟨_,rfl,"set_iterator", _,⟨_,aQK _ rfl,rfl⟩,fM.lookup,?_⟩))))
   have ls:(s.heap.push (seqObj "tuple" (l'.map λ(i:Nat)=>rawInt i).toArray 0)).objs.size=s.heap.objs.size+1:=size_push' _ _;have pe:(l'.map λp=>es.getD p (0,.none)).Perm es.toList:=by
    refine(pl.map _).trans (.of_eq ?_);apply List.ext_getElem
    . simp
    . intro k k1 k2;simp at k1 ⊢;rw[aUM k1];rfl
   obtain⟨ys,py,ey⟩:=j3 (he ▸ pe);have W:=aJE (prog:=prog) (w:=w) (A:=A) (I:=(s.heap.push (seqObj "tuple" (l'.map λ(i:Nat)=>rawInt i).toArray 0)).objs.size) (tp:=s.heap.objs.size) hh (by rw[ls];exact aQO (aTU la)) (by rw[ls];exact aQO (aRM _)) hd hf rfl pl
   refine q _ _ d _ ((l'.map λp=>es.getD p (0,.none)).map (·.2)) ys _ (qM W (by simp[pl.length_eq]) λi v hv=>?_) ⟨⟨_,aQK _ rfl,rfl,rfl⟩,hps ho1,⟨_,hps (aQK _ rfl),rfl,_,rfl⟩⟩ (rM ey) py
    (λb o' e=>hps (hps e)) (by rw[ls];exact aTX _) λb hb=>?_
   . obtain⟨p,hx,e1,e2⟩:=hv;rw[aRZ,aRZ,e1];simp[aUV,e2]
   . simp only[aQU,aVK,aT2]at hb;rcases hb with rfl|rfl|rfl
     . right;rw[ls];exact aTX _
     . left;rfl
     . right;exact aRD _
 . rename_i hc;refine aRA (aQ9 (aRA (wpAny_setEpoch_of ho hd hf (aRA (aSJ (aQ9 ⟨_,rfl,"set_iterator", _,⟨_,aQK _ rfl,rfl⟩,fM.lookup,?_⟩))))));have fpx:∀b∈[s.heap.objs.size,a],b=a\/s.heap.objs.size<=b:=λb hb=>by
     simp only[aQU,aVK,aT2]at hb;rcases hb with rfl|rfl
     . right;exact aRD _
     . left;rfl
   cases bt:dG w with
   |true =>
    obtain⟨ys,py,ey⟩:=j3 (he ▸ nR (next:=w.params.setOrder a ep) (xs:=es));have W:=aJD (prog:=prog) (w:=w) (A:=A) (I:=s.heap.objs.size) hh (aQO la) hd hf bt;refine q _ _ s.drawn _ ((pickOrder (w.params.setOrder a ep) es).toList.map (·.2)) ys _ (qM W (by rw[aR2,nR.length_eq,aQ2]) λi v hv=>?_) ⟨⟨_,aQK _ rfl,rfl,rfl⟩,hps ho⟩ (rM ey) py (λb o' e=>hps e) (aRD _) fpx
    rw[<- hv];simp
   |false =>
    have hc':(!t.plain&&decide (es.size > 1))=false:=by have hc:¬ (!dG w&&(!t.plain&&decide (es.size > 1)))=true:=hc;rw[bt]at hc;simpa using hc
    have hzp:t.place.size=es.size:=by unfold SetTable.fits at hf;rw[aSI,aRK]at hf;exact hf.1
    have hr:dX t.place:=by
     rcases hp with hp|hp
     . rw[hp]at hc';have h1:t.place.toList.length<=1:=by rw[aQ2,hzp];simpa using hc'
       show t.place.toList.Pairwise _;generalize t.place.toList=l at h1
       match l,h1 with
       |[],_=>exact .nil
       |[x],_=>exact aU5 _ _
     . exact hp.2
    have W:=aJQ (prog:=prog) (w:=w) (A:=A) (I:=s.heap.objs.size) hh (aQO la) hd hf bt (by rw[hl,bt];rfl) hr hc'
    refine q _ _ s.drawn _ (es.toList.map (·.2)) xs _ (qM W (by simp) λi v hv=>?_) ⟨⟨_,aQK _ rfl,rfl,rfl⟩,hps ho⟩ (rM he) (.refl _) (λb o' e=>hps e) (aRD _) fpx
    rw[<- hv];simp
end
section
variable {A:aV5}{E:VSP}{a:Addr}{xs:List (N×Addr)}
theorem ext_n{R:Result->aV4->Prop}(hh:A.handled=none)(X:cB w s.heap a xs)(S:Addr)(hSa:S≠a)(res:aV3)(hS:s.heap.get? S=some { cls:=.type "list", data:=.seq #[] })(hR:∀h' d tk vs ys c,(∀b o,b≠S->s.heap.get? b=some o->h'.get? b=some o)->h'.get? S=some { cls:=.type "list", dict:=none,data:=.seq vs c,slots:=#[] } -> vs.toList=List.map (λp:N×Addr=>Value.ref p.2) ys->ys.Perm xs->R (.ok (.ret res)) {s with heap:=h',drawn:=d,toks:=tk}):wpAny (model prog w) A.in1 (Builtin.List.listExtendWith (.ref S) (.ref a) res) (λfin s'=>match fin with|.done f=>R (.ok f) s'|.again c'=>c'.quiet=true/\codeAny (model prog w) A c' R s') (λe s'=>R (.error e) s') s:=by
 have hb:xs.length<=sizeLine:=by obtain⟨o,es,ep,t,ho,hex,hd,he,hb,r⟩:=X;rw[aRH];lia
 unfold Builtin.List.listExtendWith;refine aRA (aSH X.ty ?_);have n1:Builtin.List.listSameRef (.ref S) (.ref a)=false:=by simp[Builtin.List.listSameRef,hSa]
 have n2:(Value.type "set" == Value.type "list")=false:=by decide
 have n3:(Value.type "set" == Value.type "tuple")=false:=by decide
 simp only[n1,n2,n3,Bool.or_false,aS8,↓reduceIte];refine aRA (aK8 (A:=A.in1) hh X λI h1 d fp items ys St W st sa py kp hI hfp=>?_);have lS:S<s.heap.objs.size:=aQL hS;have hSf:S∉fp:=λhm=>(hfp S hm).elim hSa λh=>absurd lS (aTV.mpr h);have hSI:S≠I:=λe=>absurd lS (aTV.mpr (e ▸ hI));have hil:items.length<=sizeLine:=by rw[sa,aR2,py.length_eq];exact hb
 have hS1 := kp S _ hS; have key : ∀ (h : Heap) (c : Nat), St 0 h → (∀ b o, b ≠ S → s.heap.get? b = some o → h.get? b = some o) → h.get? S = some { cls := .type "list", data := .seq #[] c } →
     codeAny (model prog w) A (.builtin "list.extend.loop" ⟨[.ref S,.ref I,res],[]⟩) R {s with heap:=h,drawn:=d}:=by
  intro h c st' k' hS';refine codeAny_extend_loopS W.toS hil S hSf res items.length 0 _ #[] c rfl (aRN _) st' hS' (ItemsOf.nil _) λs' acc c' hm hS2 hacc=>?_;rw[Moved.eq_with hm];refine hR s'.heap d s'.toks acc ys c' (λb o nb e=>hm.heap b o (λhx=>?_) (k' b o nb e)) hS2 (by rw[aJG hacc];exact sa) py
  rcases aQU.mp hx with e'|hx
  . exact nb e'
  . exact absurd (aQL e) (by rw[aTY.mp hx];exact aTV.mpr hI)
 refine aRA (aSD (aJF (s:={s with heap:=h1,drawn:=d}) (cB.ty (s:={s with heap:=h1,drawn:=d}) (X.kept λo e=>kp a o e)) ?_))
 refine aUS (λ_=>?_) (λ_=>aQ9 ⟨aT4 PySem.F.plain_extend_loop _,key h1 0 st (λb o _ e=>kp b o e) hS1⟩);refine aRA (wpAny_rule (aRA ?_));show wpAny _ _ (updateSeq S (·.push Value.none)>>=λ_=>updateSeq S (·.pop)) _ _ {s with heap:=h1,drawn:=d}
 refine aRA (wpAny_updateSeq (s:={s with heap:=h1,drawn:=d}) hS1 rfl ?_)
 have hS2:=aUB (Obj.mapSeq (·.push Value.none)) hS1 rfl;refine wpAny_updateSeq (hz:=by seq_fits) hS2 rfl ?_
 have hS3:=aUB (Obj.mapSeq (·.pop)) hS2 rfl;have oth:∀b,b≠S->∀o,h1.get? b=some o->((h1.update S (Obj.mapSeq (·.push Value.none))).update S (Obj.mapSeq (·.pop))).get? b=some o:=λb nb o e =>
  (aSN _ _ (Ne.symm nb)).trans ((aSN _ _ (Ne.symm nb)).trans e)
 exact aQ9 ⟨aT4 PySem.F.plain_extend_loop _,key _ _ (W.frame 0 _ _ st λb hb o e=>oth b (λh=>hSf (h ▸ hb)) o e) (λb o nb e=>oth b nb o (kp b o e)) hS3⟩
def aK9{R:List aV3->aV4->Prop}(hh:A.handled=none)(X:cB w s.heap a xs)(h:∀h' d tk vs ys,(∀b o,s.heap.get? b=some o->h'.get? b=some o)->s.heap.objs.size<h'.objs.size->vs=List.map (λp:N×Addr=>Value.ref p.2) ys->ys.Perm xs->R vs {s with heap:=h',drawn:=d,toks:=tk}):wpAny (model prog w) A (collect (.ref a)) R E s:=by
 have la:=X.there;unfold collect;refine aRA (wpAny_runValue (aT5 PySem.F.entry_proto_collect ?_));rw[aT6 PySem.F.plain_proto_collect _];show wpAny (model prog w) A.in1 (newList []>>=λl=>again (.builtin "list.__iadd__" ⟨[l,.ref a],[]⟩)) _ _ s;refine aRA (aSJ (aQ9 ⟨aT4 PySem.F.plain_list_iadd _,aT5 PySem.F.entry_list_iadd ?_⟩));rw[aT6 PySem.F.plain_list_iadd _];have g0:(s.heap.push { cls:=.type "list", data:=.seq ([]:List Value).toArray }).get? s.heap.objs.size=some { cls:=.type "list", data:=.seq #[] }:=aQK _ rfl;show wpAny (model prog w) A.in1 (Builtin.List.listExtendWith (.ref s.heap.objs.size) (.ref a) (.ref s.heap.objs.size)) _ _ _;have key:=ext_n (A:=A) (prog:=prog) (s:={ s with heap:=s.heap.push { cls:=.type "list", data:=.seq ([]:List Value).toArray } })
  (R:=λq s'=>∃h' d tk vs ys c,q=.ok (.ret (.ref s.heap.objs.size))/\s'={s with heap:=h',drawn:=d,toks:=tk}/\(∀b o,s.heap.get? b=some o->h'.get? b=some o)/\h'.get? s.heap.objs.size=some { cls:=.type "list", dict:=none,data:=.seq vs c,slots:=#[] }/\vs.toList=List.map (λp:N×Addr=>Value.ref p.2) ys/\ys.Perm xs)
  hh (X.kept λo e=>hps e) s.heap.objs.size (aQ8 la) (.ref s.heap.objs.size) g0
  λh' d tk vs ys c kp gS sa py=>⟨h',d,tk,vs,ys,c,rfl,rfl,λb o e=>kp b o (aQO (aQL e)) (hps e),gS,sa,py⟩
 refine aQ0 key (λf s' x=>?_) λe s' x=>?_
 . cases f with
   |done f=>obtain⟨h',d,tk,vs,ys,c,e,rfl,kp,gS,sa,py⟩:=x;cases e;show wpAny _ A (load s.heap.objs.size>>=_) _ _ _;exact aRA (aRB gS (aQ9 (h h' d tk vs.toList ys kp (aQL gS) sa py)))
   |again c1=>refine⟨x.1,aSX x.2 λq s2 y=>?_⟩;obtain⟨h',d,tk,vs,ys,c,rfl,rfl,kp,gS,sa,py⟩:=y;show wpAny _ A (load s.heap.objs.size>>=_) _ _ _;exact aRA (aRB gS (aQ9 (h h' d tk vs.toList ys kp (aQL gS) sa py)))
 . obtain⟨_,_,_,_,_,_,e',_⟩:=x;cases e'
end
open PySem.W
theorem zF{h:Heap}:∀{ys:List (N×Addr)},(∀p∈ys,cY h p)->eI h (ys.map λp=>Value.ref p.2) (ys.map (·.1))
 |[],_=>⟨rfl,λi hi=>by simp at hi⟩
 |p::ys,k=>by
  obtain⟨l,r⟩:=zF (ys:=ys) λq hq=>k q (mcm hq);refine⟨by simp,λi hi=>?_⟩
  cases i with
  |zero=>exact(k p mcs).1
  |succ i=>have:=r i (by simpa using hi);simpa using this
def OkP(ps:List (N×Addr)):Prop:=rF (ps.map (·.1))/\(ps.length<=1\/∀p∈ps,cO p.1=true)/\ps.length<hX
def OkP.perm{ps qs:List (N×Addr)}(h:OkP ps)(p:qs.Perm ps):OkP qs:=by have pm:=p.map (·.1);exact⟨λx hx y hy=>h.1 x (pm.mem_iff.mp hx) y (pm.mem_iff.mp hy),h.2.1.imp (λz=>by rw[p.length_eq];exact z) λz q hq=>z q (p.mem_iff.mp hq),by rw[p.length_eq];exact h.2.2⟩
section
variable {A:aV5}{E:VSP}{a:Addr}{xs:List (N×Addr)}
theorem aLA{Q:VSP}(hu:A.units+64<cLine)(hh:A.handled=none)(X:cB w s.heap a xs)(kx:∀p∈xs,cY s.heap p)(ok:OkP xs)(h:∀h' d tk D e (zs:List (N×Addr)),(∀b o,s.heap.get? b=some o->h'.get? b=some o)->s.heap.objs.size<=D->h'.get? D=some (seqObj "list" (zs.map λp=>Value.ref p.2).toArray e)->zs.Perm xs->eX (zs.map (·.1))->Q (.ref D) {s with heap:=h',drawn:=d,toks:=tk}):wpAny (model prog w) A (call (.builtin "sorted") [.ref a]) Q E s:=by
 refine aU8 kind_sorted plain_sorted entry_sorted (args_sorted1 (.ref a)) ?_;unfold Builtin.«sorted»;refine aRA (m:=checkCount "sorted" 1 1 [Value.ref a].length) (aQ9 (aRA (aK9 (A:=A.in1) hh X λh1 d tk vs ys kp lh sa py=>?_)));subst sa;have oky:=ok.perm py;have ly:ys.length<hX:=oky.2.2;have ly2:ys.length<1000000:=aQM ly lM;refine aRA (aU7 ?_ (by rw[aR2,aRH];lia))
 have g1:(h1.push (seqObj "list" (ys.map λp=>Value.ref p.2).toArray 0)).get? h1.objs.size=some (seqObj "list" (ys.map λp=>Value.ref p.2).toArray 0):=aQK _ rfl;have hv:eI (h1.push (seqObj "list" (ys.map λp=>Value.ref p.2).toArray 0)) (ys.map λp=>Value.ref p.2) (ys.map (·.1)):=zF λp hp=>(kx p (py.mem_iff.mp hp)).kept λb o e _=>hps (kp b o e);refine aRA (aSD (aSG slot_list_sort ⟨_,g1,rfl⟩ entry_list_sort (yT (A:=A.in1.in1) (s:={ s with heap:=h1.push (seqObj "list" (ys.map λp=>Value.ref p.2).toArray 0),drawn:=d,toks:=tk }) (by show A.units+1+1+13<_;lia) g1 hv (λk hk=>?_) oky.1 (oky.2.1.imp (λz=>by rw[aR2];exact z) λz k hk=>?_) (by rw[aR2];exact ly) λp wp=>⟨_,rfl,?_⟩) (args_list_sort _)))
 . obtain⟨p,hp,rfl⟩:=aVJ.mp hk;exact aQR (kx p (py.mem_iff.mp hp)).2 (by decide)
 . obtain⟨p,hp,rfl⟩:=aVJ.mp hk;exact z p hp
 . have pl:∀i∈p,i<ys.length:=λi hi=>by have:=wp.perm.mem_iff.mp hi;rw[aQP,aR2]at this;exact this
   have e1:(p.map λi=>(ys.map λp=>Value.ref p.2).getD i .none)=(p.map λi=>ys.getD i (.i 0,0)).map λp=>Value.ref p.2:=by rw[aVA];refine aVL λi hi=>?_;simp[pl i hi]
   have e2:(p.map λi=>(ys.map (·.1)).getD i (.i 0))=(p.map λi=>ys.getD i (.i 0,0)).map (·.1):=by rw[aVA];refine aVL λi hi=>?_;simp[pl i hi]
   have zp:(p.map λi=>ys.getD i (.i 0,0)).Perm ys:=by have:=wp.perm.map λi=>ys.getD i (.i 0,0);rw[aR2,nW]at this;exact this
   have up:=wp.up;rw[e2]at up;rw[e1];obtain⟨e,he⟩:=sortedHeap_at (out:=((p.map λi=>ys.getD i (.i 0,0)).map λp=>Value.ref p.2).toArray) g1;refine aQ9 ⟨_,rfl,h _ d tk _ e _ (λb o hb=>?_) (aQS lh) he (zp.trans py) up⟩;have lb:=aQL (kp b o hb);rw[sortedHeap_old (aQO lb) (by rw[size_push'];exact aTU lb)]
   exact hps (kp b o hb)
end
def sn(w:aV6)(l:Addr)(ps:List (N×Addr)):HO:=.ext λh=>cB w h l ps
def sn_ok{l:Addr}{ps:List (N×Addr)}(x:cB w h l ps):bD P w H h l (sn w l ps):=by
 refine⟨x,?_,λh1 h2 x1 k=>cB.kept (show cB w h1 l ps from x1) k⟩
 obtain⟨o,es,ep,t,ho,r⟩:=x;exact⟨o,ho⟩
def iU(K:Fg)(H:Hp)(p:N×Addr):Prop:=NAt K H p.1 (.ref p.2)/\p.1.dp<=8
def iU.at(I:L2.Inv X aA σ H s){p:N×Addr}(k:iU X.K H p):cY s.heap p:=⟨NAt.is I _ _ _ k.1 rfl,k.2⟩
def rO(X:Cx):List V->Hp->VK->Prop:=λxs H Q=>∃(p:Addr) (q1 q2:N×Addr),xs=[.ref p]/\SqL X.K H p [.ref q1.2,.ref q2.2]/\iU X.K H q1/\iU X.K H q2/\∀(l:Addr) (ps:List (N×Addr)),H l=none->Two q1.1 q2.1 q1.2 q2.2 ps->Q (.ref l) (upd H l (sn X.w l ps))
def aLB(hu:X.A.units+64<cLine)(hc:X.calm=true):cI X (.type "set") (rO X):=by
 intro aA s σ H xs us Q I r h;obtain⟨p,q1,q2,rfl,hp,h1,h2,q⟩:=h;obtain⟨u,rfl,rx⟩:=eC r;cases rx;obtain⟨its,rv,pl,_⟩:=I.list hp;have e:its=[.ref q1.2,.ref q2.2]:=by
  cases rv with
  |cons r1 t1 =>
   cases t1 with
   |cons r2 t2=>cases t2;cases r1;cases r2;rfl
 subst e;refine aK7 (k1:=q1.1) (k2:=q2.1) (b1:=q1.2) (b2:=q2.2) hu (I.ok.hd hc) pl.isList (h1.at I) (h2.at I) λh' tk ys kp SX m=>?_;exact⟨.ref s.heap.objs.size,_,I.laid (t':=tk) kp (aRD _) (sn_ok SX),rfl,q _ ys (I.hok.fresh (aRD _)) m⟩
def rP(X:Cx):List V->Hp->VK->Prop:=λxs H Q=>∃(a:Addr) (ps:List (N×Addr)),xs=[.ref a]/\H a=some (sn X.w a ps)/\(∀p∈ps,iU X.K H p)/\OkP ps/\∀(l:Addr) (zs:List (N×Addr)),H l=none->zs.Perm ps->eX (zs.map (·.1))->Q (.ref l) (upd H l (.lst (zs.map λp=>V.ref p.2)))
theorem zG:∀(zs:List (N×Addr)),aM (zs.map λp=>V.ref p.2) (zs.map λp=>Value.ref p.2)
 |[]=>.nil
 |p::zs=>.cons rfl (zG zs)
theorem aLC(hu:X.A.units+64<cLine)(hc:X.calm=true):cI X (.builtin "sorted") (rP X):=by
 intro aA s σ H xs us Q I r h;obtain⟨a,ps,rfl,ha,kh,ok,q⟩:=h;obtain⟨u,rfl,rx⟩:=eC r;cases rx;have xa:cB X.w s.heap a ps:=(I.hok a _ ha).1;refine aLA hu (I.ok.hd hc) xa (λp hp=>(kh p hp).at I) ok λh' d tk D e zs kp hD g py so=>?_;have le:(zs.map λp=>V.ref p.2).length<=sizeLine:=by rw[aR2,py.length_eq,aRH];have:=ok.2.2;have:=lM;lia
 exact⟨.ref D,_,Inv.drew (I.laid (t':=tk) kp hD (show bD X.prog X.w _ h' D (.lst (zs.map λp=>V.ref p.2))from⟨le,_,e,zG zs,g⟩)) d,rfl,q D zs (I.hok.fresh hD) py so⟩
def two(k1 k2:N):List N:=if k2=k1 then[k1]else dI [k1,k2]
def f8(ra:Res):Res:=ra.thn λ_ d=>match d with
 |.lst [d1,d2]=>(match cW d1,cW d2 with
  |some k1,some k2=>if okS [k1,k2]=true then .ok .fr (.lst (nDL (two k1 k2)))else .stuck
  |_,_=>.stuck)
 |_=>.stuck
theorem aLD{Q:VK}(hK:C.K=X.K)(q:tG C (λρ=>f8 (ga ρ)) σ H Q):tCB (rP X) (kP (tCB (rO X) (kP (tG C ga) pK)) pK) σ H Q:=by
 show tG C ga σ H λv H1=>rO X [v] H1 λsv H2=>rP X [sv] H2 Q;rw[aQ]at q ⊢;obtain⟨ρ,F,R,w⟩:=q;refine⟨ρ,F,R,?_⟩;cases e1:ga ρ with
 |stuck=>simp only[f8,e1,Res.thn_stuck]at w;exact w
 |exc c=>simp only[f8,e1,Res.thn_exc]at w;exact w
 |ok m d =>
  simp only[f8,e1,Res.thn_ok]at w;intro v F1 H1 s1 r1 _;split at w
  . rename_i d1 d2;split at w
    . rename_i k1 k2 ek1 ek2;split at w
      . rename_i hc;obtain⟨a,xs,rfl,sq,rl⟩:=r1.seqL s1.sub;simp only[aC]at rl;obtain⟨x1,ys,rfl,rd1,x2,ys2,rfl,rd2,rfl⟩:=rl;obtain⟨b1,rfl,n1,h1⟩:=n4 (H:=H1) (m:=.fz) ek1 rd1;obtain⟨b2,rfl,n2,h2⟩:=n4 (H:=H1) (m:=.fz) ek2 rd2;rw[hK]at sq n1 n2;have kh1:iU X.K H1 (k1,b1):=⟨NAt.mono s1.sub _ _ n1,h1⟩;have kh2:iU X.K H1 (k2,b2):=⟨NAt.mono s1.sub _ _ n2,h2⟩;refine⟨a,(k1,b1),(k2,b2),rfl,sq,kh1,kh2,λA1 ps hA1 tw=>?_⟩;have s2:aH F H F1 (upd H1 A1 (sn X.w A1 ps)):=s1.trans (aH.fresh _ s1.sub hA1);have mem:∀p∈ps,p=(k1,b1)\/p=(k2,b2):=λp hp=>by
          unfold Two at tw;split at tw
          . subst tw;exact .inl (aTY.mp hp)
          . simpa using tw.mem_iff.mp hp
        have nat:∀p∈ps,NAt X.K F1 p.1 (.ref p.2)/\p.1.dp<=8:=λp hp=>by
         rcases mem p hp with rfl|rfl
         . exact⟨n1,h1⟩
         . exact⟨n2,h2⟩
        unfold okS at hc;simp only[aSI,aTE,aTC,aU9]at hc;obtain⟨⟨⟨_,ft⟩,ao⟩,_⟩:=hc;have ft:∀k∈[k1,k2],cO k=true:=ft.resolve_left (λz=>by simp at z)
        have mk:∀p∈ps,p.1∈[k1,k2]:=λp hp=>by rcases mem p hp with rfl|rfl <;> simp
        have lp:ps.length<=2:=by
         unfold Two at tw;split at tw
         . subst tw;exact aTX 1
         . rw[tw.length_eq];exact aRD 2
        refine⟨A1,ps,rfl,aV,λp hp=>⟨NAt.mono s2.sub _ _ (nat p hp).1,(nat p hp).2⟩,⟨λx hx y hy=>?_,.inr λp hp=>ft _ (mk p hp),by have:=qW;lia⟩,λL zs hL pz so=>?_⟩
        . obtain⟨p,hp,rfl⟩:=aVJ.mp hx;obtain⟨p',hp',rfl⟩:=aVJ.mp hy;exact ao _ (mk p hp) _ (mk p' hp')
        . have s3:=s2.trans (aH.fresh (.lst (zs.map λp=>V.ref p.2)) s2.sub hL);have ez:zs.map (·.1)=two k1 k2:=by
            unfold Two at tw;unfold two;split at tw
            . rename_i e;rw[if_pos e];subst tw;have:zs=[(k1,b1)]:=pz.eq_singleton;rw[this];rfl
            . rename_i e;rw[if_neg e];exact rE so ((pz.trans tw).map (·.1))
          refine w (.ref L) F1 _ s3 ⟨L,rfl,s2.sub.free hL,_,aV,?_⟩ λ_ a' ea'=>?_
          . rw[hK,<- ez,gO,aVA];exact qP λp hp=>qT _ _ (nat p (pz.mem_iff.mp hp)).1
          . cases ea';cases q:H L with
            |none=>rfl
            |some o=>rw[s2.same _ _ q]at hL;cases hL
      . exact w.elim
    . exact w.elim
  . exact w.elim
def aLE(hu:X.A.units+64<cLine)(hc:X.calm=true)(gs:Gl X "sorted")(ns:X.mg "sorted" = none)(gt:Gl X "set")(nt:X.mg "set" = none)(ha:PV C X ea ga)(sa:bX ea=true):PV C X (.Call (.Name "sorted" p) [.Call (.Name "set" p1) [ea] [] q1] [] pos) (λρ=>f8 (ga ρ)):=by
 refine PE.imp (vH (aLC hu hc) gs ns xN (kR (pL (aLB hu hc) gt nt aJH (kR ha kQ (bU sa)) (by decide) (by decide) (bU sa) rfl) kQ)) λσ H Q w=>?_
 exact aLD (X:=X) rfl w
def pat(t:SetTable)(h:Int):Nat->SetTable.Probe
 |0=>t.probeStart h
 |n+1=>t.advance (pat t h n)
def Rch(t:SetTable)(h:Int)(j:Nat):Prop:=∃n,(pat t h n).j=j/\∀m<n,(pat t h m).j∈t.place.toList
structure SlN(w:aV6)(t:SetTable)(es:Array (Int×aV3))(qs:List (Nat×N×Addr)):Prop where
 mask:t.mask=7
 dum:t.dummies = #[]
 rise:dX t.place
 place:t.place.toList=qs.map (·.1)
 ents:es.toList=qs.map λq=>cE w q.2
 few:qs.length<=4
 led:t.led = !dG w
 rch:∀q∈qs,Rch t (aX w q.2.1) q.1
structure Uq(ks ps:List (N×Addr)):Prop where
 sub:∀p∈ps,p∈ks
 nd:(ps.map (·.1)).Nodup
 all:∀p∈ks,p.1∈ps.map (·.1)
open PySem.W
end D3
namespace L2
end L2
namespace D3
section
open PySem.SeqAt
open PySem.AutoSeq1 (wpAny_loadPart')
open PySem.MeetsSeq PySem.MeetsSeq2 PySem.MeetsSeq3
end
open PySem.W
theorem zH:∀{ps:List Str}{us:List aV3},ps.Nodup->us.length=ps.length->ps.filterMap (λn=>((ps.zip us).lookup n).map (n,·))=ps.zip us/\∀n∈ps,((ps.zip us).lookup n).isNone=false
 |[],us,_,_=>⟨rfl,λ_ h=>by cases h⟩
 |p::ps,[],_,h=>by cases h
 |p::ps,u::us,nd,h=>by
  obtain⟨h1,h2⟩:=aRR.mp nd;obtain⟨i1,i2⟩:=zH (us:=us) h2 (Nat.succ.inj h);have e:∀n∈ps,((p,u)::ps.zip us).lookup n=(ps.zip us).lookup n:=λn hn=>by rw[aTB];have:(n==p)=false:=aQH.mpr λz=>h1 (z ▸ hn);rw[this]
  refine⟨?_,λn hn=>?_⟩
  . rw[aT0,aQT,aTB,aTT];dsimp only[Option.map];refine congrArg _ (Eq.trans ?_ i1);have c:∀l:List Str,(∀n∈l,n∈ps)->l.filterMap (λn=>(((p,u)::ps.zip us).lookup n).map (n,·))=l.filterMap (λn=>((ps.zip us).lookup n).map (n,·)):=by
      intro l hl
      induction l with
      |nil=>rfl
      |cons a l ih=>rw[aQT,aQT,e a (hl a mcs),ih λn hn=>hl n (mcm hn)]
    exact c ps λ_ h=>h
  . rw[aT0];rcases aQU.mp hn with rfl|hn
    . rw[aTB,aTT];rfl
    . rw[e n hn];exact i2 n hn
def zI(h1:fd.params.posonlyargs=[])(h2:fd.params.args.map (·.arg)=ps)(h3:fd.params.vararg=none)(h4:fd.params.kwonlyargs=[])(h5:fd.params.kwarg=none)(hd:fd.defaults=.none)(h6:ps.Nodup)(us:List aV3)(hl:us.length=ps.length):bindArgs fd ⟨us,[]⟩=pure (ps.zip us):=by
 obtain⟨z1,z2⟩:=zH h6 hl;have z3:(ps.take (ps.length-0)).filter (λn=>((ps.zip us).lookup n).isNone)=[]:=by rw[Nat.sub_zero,List.take_length,List.filter_eq_nil_iff];intro n hn;rw[z2 n hn];decide
 unfold bindArgs;simp only[h1,h2,h3,h4,h5,hd,aST,aS9,aRQ,aTQ,aTS,hl,aQN,seqItems?];have q:(do notAStandIn Value.none;pure none:Sem (Option (Array aV3)))=pure none:=rfl
 rw[q];simp only[aTS,aSK,aSR,Nat.zero_sub,List.drop_zero,z3,decide_false,Bool.false_and,aS8,aSA,List.isEmpty_nil,aS7,List.zip_nil_right,aTQ,z1,Array.toList_empty,List.drop_nil]
def noOwn(ρ:Rho):Prop:=∀(j:Nat) d,ρ[j]?≠some (some (true,d))
abbrev JD:=List (Key×List D)
abbrev HM:=Rho->JD->Option (Rho×JD)
abbrev FZ:=List D×List Str
abbrev FMz(Z:Type):=Rho->Z->Option (Rho×Z)
abbrev FM:=FMz FZ
abbrev KD:=List (Key×D)
def TxK(kvs:KD):Prop:=∀kv∈kvs,∀x,kv.1=.inr x->x.length<=sizeLine/\PyData.strOk x=true
def hideH(H:Hp)(a:Addr):Hp:=λc=>if c=a then none else H c
def spM(K:Fg)(Ψ:D->KD->Option KD)(vs:List V)(H:Hp)(Q:VK):Prop:=∃F d v a kvs xs kvs',vs=[v,.ref a]/\aD F H/\aB K F d v/\H a=some (.dK xs)/\F a=none/\aE K F kvs xs/\TxK kvs/\Ψ d kvs=some kvs' /\
 ∀F' H' xs',aH F (hideH H a) F' H'->F' a=none->H' a=some (.dK xs')->aE K F' kvs' xs'->TxK kvs'->Q (.ref a) H'
def n9(K:Fg)(Ψ:D->KD->Option KD):Sp:=λvs H Q _=>spM K Ψ vs H Q
section
variable  {y f:Str}{q r sp:Pos}
def run_S{f:Addr}{Q:VK}{vs:List V}{E:XK}{sp:Sp}(F:bS X.prog X.w X.K X.mg X.base CX k f fd ps sp)(hr:cA k X.A)(hb:dA X.K fd ps [])(hx:∀e s',CX X.stack H s E e s'->X.xe e s')(I:Inv X aA σ H s)(r:aM vs us)(h:sp vs H Q E):wpAny (model X.prog X.w) X.A (call (.ref f) us) (EP X aA σ Q) X.xe s:=by
 have hl:(us++[]).length=ps.length:=by rw[aRQ,<- r.length];exact F.len _ _ _ _ h
 have hb':=hb s us I.kIn hl;rw[aRQ]at hb';refine aTW (aSX (F.run X.A X.stack s H ⟨us,[]⟩ us vs Q E hr I.env0 hb' r h) λr s' hq=>?_);cases r with
 |error e=>exact hx e s' hq
 |ok fl =>
  cases fl with
  |ret u=>exact I.after hq
  |next=>exact False.elim hq
  |brk=>exact False.elim hq
  |cont=>exact False.elim hq
structure FnM(P:aV7)(w:aV6)(K:Fg)(mg:SOV)(base:Heap)(CX:CXT)(k:Nat)(x:Str)(Ψ:D->KD->Option KD):Prop where
 ex:∃f fd ps,bS P w K mg base CX k f fd ps (n9 K Ψ)/\mg x=some (.ref f)/\W.keepIn K (.ref f)=true/\dA K fd ps []
end
end D3
namespace L2
section
variable {σ:St}{E:VSP}
theorem aLF(I:Inv X aA σ H s)(hcd:W.codeIn X.K X.env.code q=true)(hq:X.env.qual=q ++ ".<locals>."){name:Str}(hin:gG q=name){params:Arguments}{clos:List (Str×Addr)}(hcl:closureFor scope X.env=pure clos){Q:VSP}(h:∀f c doc pm ct s' H',Inv X aA σ H' s'->(∀b o,H b=some o->H' b=some o)->H f=none->H' c=some (.crec (X.env.qual++name))->H' f=some (eQ f (W.fnMade name (X.env.qual++name) params body scope clos doc pm c ct))->Q (.ref f) s'):wpAny (model X.prog X.w) X.A (makeFunction name (X.env.qual++name) params (.stmts body) scope X.env [] [] [] pos pos.line) Q E s:=by
 obtain⟨c,T,ps,e1,hd,hT0,htag⟩:=I.ok.tabs _ _ hcd;obtain⟨more,hT⟩:=I.base.tbls T ps hT0;obtain⟨q',m,g1,g2,g3,g4⟩:=I.hok T _ hT;obtain rfl:q'=X.env.qual++name:=by rw[Array.getElem?_append_left (aQQ.mp htag).1,htag,hin,<- hq]at g1;cases g1;rfl
 have hbk:=I.bk;obtain⟨bm,ob,b1,b2,b3,b4,b5,b6⟩:=I.mod.bmod;have gT:X.base.get? T=none:=by
  cases z:X.base.get? T with
  |none=>rfl
  |some o=>have:=(I.bs T o z).2;rw[hT]at this;cases this
 have hbT:bm≠T:=λz=>by rw[z,gT]at b3;cases b3
 have hns:=I.mod.glob;have hgT:mainGlobals≠T:=λz=>by obtain⟨o,es,ep,e,_⟩:=hns;rw[z,gT]at e;cases e
 have hbG:bm≠mainGlobals:=λz=>by obtain⟨o,es,ep,e,hd,_⟩:=hns;rw[z,e]at b3;cases b3;rw[hd]at b6;cases b6
 have hB:s.heap.BuiltinsAt X.mg T:=⟨bm,ob,b1,b2,hbG,hbT,hbk _ _ b3,b4,b5,b6⟩;have nT:∀{b:Addr}{o:HO},H b=some o->(∀ps,o ≠ .tbl ps)->b≠T:=λ{b o} e n z=>by rw[z,hT]at e;cases e;exact n _ rfl
 cases hm:codeAmong pos m.toList with
 |none =>
  refine W.makeFunction_K (mg:=X.mg) hcl I.ok.glob (hns.keeps hbk) e1 (hd.keeps hbk) g2 g3 hm hgT hB λc' ctv doc h' tk hx hge hlt hrec htb=>?_;obtain⟨c₂,oc,vs,t,e2,hoc,hd2,hv⟩:=hrec;cases e2;have cT:c'≠T:=aQ8 (aQM (aQL g2) hge);have sz:s.heap.objs.size<=h'.objs.size:=by lia
  let H1:Hp:=upd H c' (.crec (X.env.qual++name))
  let fo:Obj:=W.fnMade name (X.env.qual++name) params body scope clos doc ((X.mg "__name__").getD .none) c' ctv
  let H2:Hp:=upd H1 h'.objs.size (eQ h'.objs.size fo)
  have f0:H h'.objs.size=none:=I.hok.fresh sz;have c0:H c'=none:=I.hok.fresh hge;have s1:∀b o,H b=some o->H1 b=some o:=λb o e=>by show upd H c' _ b=_;rw[aJ (bN e c0)];exact e
  have fc:h'.objs.size≠c':=λz=>by rw[z]at hlt;exact absurd hlt (aQN _)
  have s2:∀b o,H1 b=some o->H2 b=some o:=λb o e=>by
   have hb:b≠h'.objs.size:=λz=>by subst z;have e:upd H c' _ h'.objs.size=some o:=e;rw[aJ fc,f0]at e;cases e
   show upd H1 _ _ b=_;rw[aJ hb];exact e
  have keep:∀b o,b≠T->s.heap.get? b=some o->(h'.push fo).get? b=some o:=λb o hb e=>hps (hx b o hb e);have gT':(h'.push fo).get? T=some (W.tabObj (m++#[rawInt pos.line,rawInt pos.col,.ref c'])):=hps htb;have un:Un (frs X.stack) [] H H2 s.heap (h'.push fo):=by
   refine⟨λb o e n _ _=>keep b o (λz=>by rw[z,hT]at n;cases n) e,λb o e n _ _=>⟨o.slots,keep b o (λz=>by rw[z,hT]at n;cases n) e⟩,λb o e n _=>?_,λb o e _=>?_,λb xs e=>s2 _ _ (s1 _ _ e),λb o u e=>s2 _ _ (s1 _ _ e),λb ps e=>⟨#[],by rw[s2 _ _ (s1 _ _ e)];simp⟩⟩
   . have hb:=aQL e;show upd (upd H c' _) h'.objs.size _ b=none;rw[aJ (aQO (aQM hb sz)),aJ (aQO (aQM hb hge))];exact n
   . by_cases hb:b=T
     . exact⟨_,hb ▸ gT'⟩
     . exact⟨o,keep b o hb e⟩
  have hok:HOk X.prog X.w H2 (h'.push fo):=λb u e=>by
   by_cases hb:b=h'.objs.size
   . subst hb;have e:upd H1 h'.objs.size (eQ h'.objs.size fo) h'.objs.size=some u:=e;rw[aV]at e;cases e;exact v5 (aQK _ rfl)
   have e:upd H1 h'.objs.size (eQ h'.objs.size fo) b=some u:=e;rw[aJ hb]at e;by_cases hc:b=c'
   . subst hc;have e:upd H b _ b=some u:=e;rw[aV]at e;cases e;exact⟨oc,vs,t,hps hoc,hd2,hv⟩
   have e:upd H c' _ b=some u:=e;rw[aJ hc]at e;by_cases hbT2:b=T
   . subst hbT2;rw[hT]at e;cases e;refine⟨_,_,g1,gT',?_,λz cv f=>?_⟩
     . rw[aVM];exact TriplesOk_snoc _ _ _ _ g3
     . rw[aVM]at f;rcases aFM g3 f with f|f
       . obtain⟨c3,z1,z2⟩:=g4 z cv f;exact⟨c3,z1,s2 _ _ (s1 _ _ z2)⟩
       . exact⟨c',f,s2 _ _ aV⟩
   . refine(I.hok b u e).stay (λd v hd q=>keep d v ?_ q) (λd q=>s2 _ _ (s1 _ _ q)) λd v q=>s2 _ _ (s1 _ _ q);rcases hd with rfl|hd
     . exact hbT2
     . exact nT hd λps z=>by cases z
  exact h _ c' doc _ ctv _ H2 (I.call (g':=s.gens) (d':=s.drawn) (t':=tk) (ch:=[]) un hok I.bare (λb z=>absurd z (by simp))) (λb o e=>s2 _ _ (s1 _ _ e)) f0 (s2 _ _ aV) aV
 |some cv =>
  obtain⟨c',rfl,hc'⟩:=g4 pos cv hm;refine W.makeFunction_hit (mg:=X.mg) hcl I.ok.glob (hns.keeps hbk) e1 (hd.keeps hbk) g2 g3 hm hB λctv doc h' tk hx hge=>?_
  let fo:Obj:=W.fnMade name (X.env.qual++name) params body scope clos doc ((X.mg "__name__").getD .none) c' ctv
  have f0:H h'.objs.size=none:=I.hok.fresh hge;exact h _ c' doc _ ctv _ _ (I.laid (a:=h'.objs.size) (o:=eQ h'.objs.size fo) (h':=h'.push fo) (t':=tk) (λb u e=>hps (hx b u e)) hge (v5 (aQK _ rfl))) (λb o e=>by rw[aJ (bN e f0)];exact e) f0 (by rw[aJ (bN hc' f0)];exact hc') aV
end
end L2
namespace D3
def aLG{name:Str}{params:Arguments}{clos:List (Str×Addr)}(hN:X.N.Nodup)(hi:X.N[i]? = some name)(hx:Loc X.env.scope name)(hf:X.fn name=true\/X.env.scope.names.lookup name=some .local)(hcd:W.codeIn X.K X.env.code q=true)(hq:X.env.qual=q ++ ".<locals>.")(hin:gG q=name)(hcl:closureFor scope X.env=pure clos)(hd0:params.defaults=[])(hk0:params.kw_defaults=[])(ha:PySem.annTrees params none X.env=[])(hg:(X.env.kindOf name==some .globalExplicit)=false):PS X (.FunctionDef name params body [] none [] scope none name pos) (λD σ H=>∀f c doc pm ct H',aD H H'->H f=none->H' c=some (.crec (X.env.qual++name))->H' f=some (eQ f (W.fnMade name (X.env.qual++name) params body scope clos doc pm c ct))->D.nx (σ.set i (some (.ref f))) H'):=by
 intro aA s σ H D I h;refine W.nestDef_K hd0 hk0 ha ?_;have hqn:qualnameIn X.env name name=X.env.qual++name:=by unfold qualnameIn;rw[hg];rfl
 rw[hqn];refine aLF I hcd hq hin hcl λf c doc pm ct s' H' I' hs hf0 hc hfo=>?_;exact pD I' hN hi hx (v:=.ref f) rfl (λs2 I2=>⟨_,H',I2,h f c doc pm ct H' hs hf0 hc hfo⟩) hf
def rQ{c:Addr}(e:h.IsCell c (some u))(r:aI y u):bD P w H h c (fU c y):=by obtain⟨o,e1,e2⟩:=e;refine⟨⟨u,⟨o,e1,e2⟩,r⟩,⟨o,e1⟩,λh1 h2 p k=>?_⟩;obtain⟨u',⟨o',q1,q2⟩,q3⟩:=p;exact⟨u',⟨o',k o' q1,q2⟩,q3⟩
def rDcp:List V->Hp->VK->Prop:=λys H Q=>∃a kvs,ys=[.ref a]/\Rd H a (.dK kvs)/\∀p,H p=none->Q (.ref p) (upd H p (.dK kvs))
def aLH:cI X (.type "dict") rDcp:=by intro aA s σ H xs us Q I r h;obtain⟨a,kvs,rfl,e,q⟩:=h;obtain⟨u,rfl,rx⟩:=eC r;cases rx;exact vX I e λp s' hp I'=>⟨.ref p,_,I',rfl,q p hp⟩
theorem rR:∀{names:List (Str×NameKind)}{n:Nat}{acc:List (Str×Addr)}{y:Str}{c:Addr},(cellsFrom n names acc).lookup y=some c->(y,NameKind.cell)∈names\/acc.lookup y=some c
 |[],_,_,_,_,h=>.inr h
 |(name,kind)::r,n,acc,y,c,h=>by
  unfold cellsFrom at h;split at h
  . rename_i hk;rcases rR h with q|q
    . exact .inl (mcm q)
    . rw[aTB]at q;split at q
      . rename_i hy;rw[aRK.mp hy,aRK.mp hk];exact .inl mcs
      . exact .inr q
  . rcases rR h with q|q
    . exact .inl (mcm q)
    . exact .inr q
def spC(K:Fg)(f0 a b:Str):Sp:=λvs H Q _=>∃F kd v1 p0 xs kvs,vs=[v1,.ref p0]/\aD F H/\aB K F kd v1/\Rd H p0 (.dK xs)/\aE K F kvs xs/\∀F' H' v,aH F H F' H'->aB K F' (.clo f0 [(a,kd),(b,.dct kvs)]) v->Q v H'
def aLI{f0 kn wn vn:Str}{f:Addr}{a1 a2 a3 a4 a5 b1 b2:Pos}{params:Arguments}(ns:W.nsIn K mainGlobals f0=some (some (.ref f)))(F:Fun K x qual st f fd)(S:jC [kn,wn,pn,vn] [kn,wn] (bG st))(hb0:fC st=[.Assign [.Name pn a1] (.Call (.Name "dict" a2) [.Name wn a3] [] a4) a5,.FunctionDef vn params body [] none [] scope none vn pos,.Return (some (.Name vn b1)) b2])(hin:gG qual=vn)(hd0:params.defaults=[])(hk0:params.kw_defaults=[])(ha:∀env,PySem.annTrees params none env=[])(ck:(bG st).names.lookup kn=some .cell)(cp:(bG st).names.lookup pn=some .cell)(cw:(bG st).names.lookup wn=some .local)(cv:(bG st).names.lookup vn=some .local)(cg:(bG st).names.lookup ("dict":Str)=some NameKind.globalImplicit)(hm:mg "dict" = none)(oc:∀y,(y,NameKind.cell)∈(bG st).names->y=kn\/y=pn)(fk:(kn,NameKind.free)∈scope.names)(fp:(pn,NameKind.free)∈scope.names)(ff:∀y∈scope.names,y.2=.free->y.1=kn\/y.1=pn)(hn1:∀y∈[kn,wn,pn,vn],(y==("__debug__":Str))=false/\(y==("__classdict__":Str))=false):bS P w K mg base (CX1 P w) (k+1) f fd [kn,wn] (spC K f0 kn pn):=by
 have CK:jE K f0 (qual ++ ".<locals>." ++ vn) (.FunctionDef vn params body [] none [] scope none vn pos):=⟨x,qual,st,f,fd,_,_,ns,F,hb0,rfl⟩;obtain⟨ocl,od,kV,doc0,pm0,an,cdv,ct0,osl,rfl,lk,hcd⟩:=F.ex;refine⟨λvs H Q E h=>by obtain⟨_,_,_,_,_,_,rfl,_⟩:=h;rfl,λA outer s H args us vs Q E hr e0 hb r hsp=>?_⟩
 obtain⟨F0,kd,v1,p0,xs,kvs,rfl,sF,rk,hp0,rx,w0⟩:=hsp;have KX:K.In s.heap:=e0.mod.kin.keeps λb o e=>(e0.bs b o e).1;have lim:s.heap.NoLimit:=e0.mod.nolimit.keeps λb o e=>(e0.bs b o e).1;have cZ:∀y∈[kn,wn].zip us,(bG st).names.lookup y.1=some .local\/((bG st).names.lookup y.1=some .cell/\((cellsFrom (s.heap.objs.size+1) (bG st).names []).lookup y.1).isSome=true):=λ⟨n,v⟩ hy=>by
  rcases S.par n (aRS hy).1 with q|q
  . exact .inl q
  . exact .inr ⟨q,aRT _ _ _ (.inl q)⟩
 refine aR3 hr.depth (KX _ _ lk) rfl S.co S.gen rfl (W.codeRec_of KX hcd) (hb _ _ _ _ ?_);refine wpAny_newFunctionEnv_cells S.kind cZ λenv he s1 x=>?_;subst he;refine⟨lim.keeps x.toInCall.keep,codeAny_func ?_⟩;have I:Inv (cR (CX1 P w) P w K mg base [kn,wn,pn,vn] qual (bG st) f cdv A outer s H E) [] (cD [kn,wn,pn,vn] [v1,.ref p0]) H s1:=vG S hr.hd e0 rfl r x
 let X:=cR (CX1 P w) P w K mg base [kn,wn,pn,vn] qual (bG st) f cdv A outer s H E
 have nd:X.N.Nodup:=S.nd;obtain⟨clos,hcl,cl1,cl2⟩:=wJ (scope:=scope) (env:=X.env) λy hy hf=>I.ok.has y.1 (by
  rcases ff y hy hf with e|e
  . rw[e];exact .inl ck
  . rw[e];exact .inl cp)
 have vis:∀{i:Nat}{y:Str}{p:Pos},X.N[i]? = some y->(Vis X.env.scope y)->PE X (.Name y p) (gH i):=λ{i y p} h v=>by have hm:=hn1 y (aR0 h);exact gX h v hm.1 hm.2
 have e1:PS X (.Assign [.Name pn a1] (.Call (.Name "dict" a2) [.Name wn a3] [] a4) a5) _:=uZ nd (i:=2) rfl (.inr cp) (pL aLH (show Gl X "dict" from cg) hm rfl (kR (vis (i:=1) rfl (.inl cw)) kQ)) rfl (.inl rfl)
 have e2:PS X (.FunctionDef vn params body [] none [] scope none vn pos) _:=aLG nd (i:=3) rfl (.inl cv) (.inl rfl) (q:=qual) hcd rfl hin hcl hd0 hk0 (ha _) (by show((bG st).names.lookup vn==_)=false;rw[cv];rfl)
 have e3:PE X (.Name vn b1) (gH 3):=vis (i:=3) rfl (.inl cv);have main:wpAny (model P w) X.A (execs (fC st) X.env) (λfl s'=>∃u,fl=.ret u/\L2.CE outer P w H s Q u s') X.xe s1:=by
  rw[hb0];refine aQ4 (thn (e1 [] s1 _ H {nx:=λσ' H'=>∃p,H p=none/\σ'=[some v1,some (.ref p0),some (.ref p),none]/\H'=upd H p (.dK xs),rt:=λ_ _=>False} I ⟨.ref p0,rfl,p0,xs,rfl,hp0,λp hp=>⟨p,hp,rfl,rfl⟩⟩) λfl s2 q=>?_);cases fl with
  |ret u=>obtain⟨_,_,_,_,_,q⟩:=q;exact q.elim
  |brk=>obtain⟨_,_,_,q⟩:=q;exact q.elim
  |cont=>obtain⟨_,_,_,q⟩:=q;exact q.elim
  |next =>
   obtain⟨σ2,H2,I2,p,hp,rfl,rfl⟩:=q;refine aQ4 (thn (e2 [] s2 _ _ {nx:=λσ' H'=>∃g c doc pm ct,aD (upd H p (.dK xs)) H'/\upd H p (.dK xs) g=none/\H' c=some (.crec (X.env.qual++vn))/\H' g=some (eQ g (W.fnMade vn (X.env.qual++vn) params body scope clos doc pm c ct))/\σ'=[some v1,some (.ref p0),some (.ref p),some (.ref g)],rt:=λ_ _=>False} I2 λg c doc pm ct H' h1 h2 h3 h4=>⟨g,c,doc,pm,ct,h1,h2,h3,h4,rfl⟩) λfl s3 q=>?_);cases fl with
   |ret u=>obtain⟨_,_,_,_,_,q⟩:=q;exact q.elim
   |brk=>obtain⟨_,_,_,q⟩:=q;exact q.elim
   |cont=>obtain⟨_,_,_,q⟩:=q;exact q.elim
   |next =>
    obtain⟨σ3,H3,I3,g,c,doc,pm,ct,h1,h2,h3,h4,rfl⟩:=q;refine aQ4 (aQ5 (thn (e3 [] s3 _ H3 (λv H'=>v=.ref g/\H'=H3) I3 ⟨.ref g,rfl,rfl,rfl⟩) λu s4 ⟨v,H4,I4,rv,ev,eH⟩=>?_));subst ev eH;refine⟨u,rfl,?_⟩;obtain⟨m,_,hl⟩:=id I4.loc;have getc:∀{i:Nat}{y:Str}{v:V},X.N[i]? = some y->([some v1,some (.ref p0),some (.ref p),some (.ref g)]:L2.St)[i]? = some (some v)->(bG st).names.lookup y=some .cell->(y,NameKind.free)∈scope.names->∃c u,clos.lookup y=some c/\s4.heap.IsCell c (some u)/\aI v u/\X.env.cells.lookup y=some c:=λ{i y v} a b d e=>by
     obtain⟨u,ru,lu⟩:=hl i y v a b (.inr (.inl d));rcases lu with⟨k1,_⟩|⟨_,c,k1,k2⟩
     . have k1:(bG st).names.lookup y=some .local:=k1;rw[d]at k1;cases k1
     . obtain⟨c',e'⟩:=cl2 y e;have:=cl1 y c' e';rw[k1]at this;cases this;exact⟨c,u,e',k2,ru,k1⟩
    obtain⟨c1,u1,l1,i1,r1,x1⟩:=getc (i:=0) rfl rfl ck fk;obtain⟨c2,u2,l2,i2,r2,x2⟩:=getc (i:=2) rfl rfl cp fp;have n12:c1≠c2:=λz=>by
     have:=I4.ok.inj kn pn c1 x1 (by rw[z];exact x2)
     have nd:=S.nd;simp[this]at nd
    have z1:H4 c1=none:=I4.freeC kn c1 x1;have z2:H4 c2=none:=I4.freeC pn c2 x2;have a1:s.heap.objs.size<=c1:=I4.ok.cab kn c1 rfl x1;have a2:s.heap.objs.size<=c2:=I4.ok.cab pn c2 rfl x2
    let H5:Hp:=upd (upd H4 c1 (fU c1 v1)) c2 (fU c2 (.ref p))
    have s45:aD H4 H5:=λb o e=>by show upd (upd H4 c1 _) c2 _ b=_;rw[aJ (bN e z2),aJ (bN e z1)];exact e
    have h51:H5 c1=some (fU c1 v1):=by show upd (upd H4 c1 _) c2 _ c1=_;rw[aJ n12,aV]
    have h52:H5 c2=some (fU c2 (.ref p)):=aV;have hok:HOk P w H5 s4.heap:=λb o e=>by
     have e:upd (upd H4 c1 _) c2 _ b=some o:=e;by_cases q2:b=c2
     . subst q2;rw[aV]at e;cases e;exact rQ i2 r2
     . rw[aJ q2]at e;by_cases q1:b=c1
       . subst q1;rw[aV]at e;cases e;exact rQ i1 r1
       . rw[aJ q1]at e;exact(I4.hok b o e).stay (λ_ _ _ q=>q) (λd q=>s45 _ _ q) λd y q=>s45 _ _ q
    have un:=I4.base;have hH2:aD H H4:=λb o e=>h1 b o (by rw[aJ (bN e hp)];exact e)
    refine⟨.ref g,H5,I4.os,I4.bare,⟨un.keep,un.slot,λb o q1 q2 q3=>?_,un.there,λb xs q=>s45 _ _ (un.tups b xs q),λb o u q=>s45 _ _ (un.frzs b o u q),λb ps q=>?_⟩,hok,rv,?_⟩
    . have lb:=aQL q1;show upd (upd H4 c1 _) c2 _ b=none;rw[aJ (aQO (aQM lb a2)),aJ (aQO (aQM lb a1))];exact un.free b o q1 q2 q3
    . obtain⟨more,e⟩:=un.tbls b ps q;exact⟨more,s45 _ _ e⟩
    . have hp4:H4 p=some (.dK xs):=h1 p _ aV;have new:∀b,b=g\/b=c\/b=c1\/b=c2\/b=p->iG (H b):=λb hb=>by
        rcases hb with rfl|rfl|rfl|rfl|rfl
        . refine fV ?_;by_cases q:b=p
          . rw[q];exact hp
          . rw[aJ q]at h2;exact h2
        . cases e:H b with
          |none=>exact .no
          |some o=>rw[hH2 b o e]at h3;cases h3;exact .cr
        . exact fV (e0.hok.fresh a1)
        . exact fV (e0.hok.fresh a2)
        . exact fV hp
      let F5:Hp:=λb=>if b=g\/b=c\/b=c1\/b=c2\/b=p then H5 b else F0 b
      have inF:∀{b},b=g\/b=c\/b=c1\/b=c2\/b=p->F5 b=H5 b:=λhb=>if_pos hb;have outF:∀{b},¬ (b=g\/b=c\/b=c1\/b=c2\/b=p)->F5 b=F0 b:=λhb=>if_neg hb;have H05:aD H H5:=λb o e=>s45 _ _ (hH2 _ _ e);have F05:aD F0 F5:=λb o e=>by
       by_cases hb:b=g\/b=c\/b=c1\/b=c2\/b=p
       . rw[inF hb];exact H05 _ _ (sF b o e)
       . rw[outF hb];exact e
      have st:aH F0 H F5 H5:=⟨H05,F05,λb o e=>by
       by_cases hb:b=g\/b=c\/b=c1\/b=c2\/b=p
       . rw[inF hb]at e;exact e
       . rw[outF hb]at e;exact H05 _ _ (sF b o e),λb q1 q2=>by
       by_cases hb:b=g\/b=c\/b=c1\/b=c2\/b=p
       . exact absurd (new b hb) q2
       . rw[outF hb];exact q1⟩
      refine w0 F5 H5 (.ref g) st ?_;simp only[aB,fD];refine⟨g,c,vn,_,_,doc,pm,ct,clos,CK,rfl,by rw[inF (.inl rfl)];exact s45 _ _ h4,by rw[inF (.inr (.inl rfl))];exact s45 _ _ h3,⟨λy c hy=>?_,λy z c hy hz=>I4.ok.inj y z c (cl1 y c hy) (cl1 z c hz)⟩,⟨c1,v1,l1,by rw[inF (.inr (.inr (.inl rfl)))];exact h51,aB.mono F05 _ _ rk⟩,⟨c2,.ref p,l2,by rw[inF (.inr (.inr (.inr (.inl rfl))))];exact h52,⟨p,xs,rfl,by rw[inF (.inr (.inr (.inr (.inr rfl))))];exact s45 _ _ hp4,aE.mono F05 _ _ rx⟩⟩,True.intro⟩
      rcases oc y ((rR (cl1 y c hy)).resolve_right (by simp))with e|e <;> rw[e] <;> simp
 exact aQ0 main (λfl s' ⟨u,e,c⟩=>by subst e;exact c) λe s' hs=>hs
mutual
def plD:D->Bool
 |.tup xs=>plL xs
 |.lst xs=>plL xs
 |.dct kvs=>plK kvs
 |.ins _ fs=>plF fs
 |.exn _=>false|.clo _ _=>false|.dtn _=>false|.dtf _=>false|.dcf _=>false
 |_=>true
def plL:List D->Bool
 |[]=>true
 |d::ds=>plD d&&plL ds
def plK:List (Key×D)->Bool
 |[]=>true
 |(_,d)::ds=>plD d&&plK ds
def plF:List (Str×D)->Bool
 |[]=>true
 |(_,d)::ds=>plD d&&plF ds
end
def But(H H':Hp):Prop:=∀b o,H b=some o->(∀p,o ≠ .ext p)->H' b=some o
section
variable  {F:Hp}
def But.seqT{a:Addr}(e:But F F')(h:SqT K F a xs):SqT K F' a xs:=by
 rcases h with(h|⟨o,h⟩)|h
 . exact .inl (.inl (e _ _ h nofun))
 . exact .inl (.inr ⟨o,e _ _ h nofun⟩)
 . exact .inr h
def But.seq{a:Addr}(e:But F F')(h:SqL K F a xs):SqL K F' a xs:=by
 rcases h with(h|⟨o,h⟩)|h
 . exact .inl (.inl (e _ _ h nofun))
 . exact .inl (.inr ⟨o,e _ _ h nofun⟩)
 . exact .inr h
mutual
theorem aB.but(s:But F F'):∀(d:D) (v:V),plD d=true->aB K F d v->aB K F' d v
 |.non,_,_,h=>by simpa only [aB]using h
 |.bl _,_,_,h=>by simpa only [aB]using h
 |.int _,_,_,h=>by simpa only [aB]using h
 |.str _,_,_,h=>by simpa only [aB]using h
 |.ty _,_,_,h=>by simpa only [aB]using h
 |.ob _,_,_,h=>by simpa only [aB]using h
 |.fn _,_,_,h=>by simpa only [aB]using h
 |.tup ds,v,p,h=>by simp only[plD]at p;simp only[aB]at h ⊢;obtain⟨a,xs,e,q,r⟩:=h;exact⟨a,xs,e,s.seqT q,aC.but s ds xs p r⟩
 |.lst ds,v,p,h=>by simp only[plD]at p;simp only[aB]at h ⊢;obtain⟨a,xs,e,q,r⟩:=h;exact⟨a,xs,e,s.seq q,aC.but s ds xs p r⟩
 |.dct ds,v,p,h=>by simp only[plD]at p;simp only[aB]at h ⊢;obtain⟨a,xs,e,q,r⟩:=h;exact⟨a,xs,e,s _ _ q nofun,aE.but s ds xs p r⟩
 |.set _,_,_,h=>by simp only[aB]at h ⊢;obtain⟨a,S,e,q,r⟩:=h;exact⟨a,S,e,s _ _ q nofun,r⟩
 |.ins c fs,v,p,h=>by simp only[plD]at p;simp only[aB]at h ⊢;obtain⟨a,C,dx,gs,e,n,q,r⟩:=h;exact⟨a,C,dx,gs,e,n,s _ _ q nofun,bV.but s fs gs p r⟩
 |.exn _,_,p,_=>by simp only[plD]at p;cases p
 |.clo _ _,_,p,_=>by simp only[plD]at p;cases p
 |.dtn _,_,p,_=>by simp only[plD]at p;cases p
 |.dtf _,_,p,_=>by simp only[plD]at p;cases p
 |.dcf _,_,p,_=>by simp only[plD]at p;cases p
theorem aC.but(s:But F F'):∀(ds:List D) (xs:List V),plL ds=true->aC K F ds xs->aC K F' ds xs
 |[],_,_,h=>by simpa only [aC]using h
 |d::ds,xs,p,h=>by simp only[plL,aSI]at p;simp only[aC]at h ⊢;obtain⟨y,ys,e,q,r⟩:=h;exact⟨y,ys,e,aB.but s d y p.1 q,aC.but s ds ys p.2 r⟩
theorem aE.but(s:But F F'):∀(ds:List (Key×D)) (xs:List (Key×V)),plK ds=true->aE K F ds xs->aE K F' ds xs
 |[],_,_,h=>by simpa only [aE]using h
 |(k,d)::ds,xs,p,h=>by simp only[plK,aSI]at p;simp only[aE]at h ⊢;obtain⟨y,ys,e,q,r⟩:=h;exact⟨y,ys,e,aB.but s d y p.1 q,aE.but s ds ys p.2 r⟩
theorem bV.but(s:But F F'):∀(ds:List (Str×D)) (xs:List (Str×V)),plF ds=true->bV K F ds xs->bV K F' ds xs
 |[],_,_,h=>by simpa only [bV]using h
 |(k,d)::ds,xs,p,h=>by simp only[plF,aSI]at p;simp only[bV]at h ⊢;obtain⟨y,ys,e,q,r⟩:=h;exact⟨y,ys,e,aB.but s d y p.1 q,bV.but s ds ys p.2 r⟩
end
end
def cloCx(P:aV7)(w:aV6)(K:Fg)(mg:SOV)(base:Heap)(N:List Str)(q:Str)(scope:Scope)(cl:List (Str×Addr))(f:Addr)(cd:aV3)(A:aV5)(outer:List Env)(s:aV4)(H:Hp):Cx where
 prog:=P
 w:=w
 K:=K
 mg:=mg
 base:=base
 A:=A.deeper (W.envX q scope s.heap.objs.size f cd cl)
 N:=N
 s₀:=s
 H₀:=H
 env:=W.envX q scope s.heap.objs.size f cd cl
 outer:=outer
 stack:=W.envX q scope s.heap.objs.size f cd cl::outer
 ex:=[]
 calm:=true
 fn:=λ_=>false
 pn:=[]
 xe:=λ_ _=>False
def dY(a1 a2:Addr)(H:Hp):Hp:=λb=>if b=a1\/b=a2 then none else H b
def aLJ{f c:Addr}{params:Arguments}{name g kn rn:Str}{doc pm ct:aV3}{A:aV5}{y1 y2:V}{Q:VK}{E:XK}{cl:List (Str×Addr)}{a1 a2:Addr}{d1 d2 d3 d:D}{p3 p4 p5 p6:Pos}(kd:scope.kind=.function)(co:scope.isCoroutine=false)(gen:scope.isGenerator=false)(nd:[kn,pn,rn].Nodup)(cH:∀y∈scope.names,y.2 ≠ .cell)(hfr:∀y∈scope.names,y.2=.free->y.1=kn\/y.1=pn)(ek:scope.names.lookup kn=some .free)(ep:scope.names.lookup pn=some .free)(er:scope.names.lookup rn=some .local)(eg:scope.names.lookup g=some .globalImplicit)(hm:∀y∈[kn,pn,rn,g],(y==("__debug__":Str))=false/\(y==("__classdict__":Str))=false)(hb:bindArgs (W.fnX name q params [.Return (some (.Call (.Name g p1) [.Name kn p2,.Name pn p3,.Name rn p4] [] p5)) p6] scope cl .none .none doc pm none (.ref c) ct) ⟨[u],[]⟩=pure [(rn,u)])(FG:FnV P w K mg base (CX1 P w) k g 3 Φ)(hr:cA (k+1) A)(e0:kS P w K mg base A outer s H)(hf:H f=some (eQ f (W.fnMade name q params [.Return (some (.Call (.Name g p1) [.Name kn p2,.Name pn p3,.Name rn p4] [] p5)) p6] scope cl doc pm c ct)))(hc:H c=some (.crec q))(cl1:cl.lookup kn=some a1)(cl2:cl.lookup pn=some a2)(h1:H a1=some (fU a1 y1))(h2:H a2=some (fU a2 y2))(only:∀x b,cl.lookup x=some b->b=a1\/b=a2)(inj:∀x y c,cl.lookup x=some c->cl.lookup y=some c->x=y)(r:aI v u)(t1:aB K H d1 y1)(t2:aB K H d2 y2)(t3:aB K H d3 v)(l1:plD d1=true)(l2:plD d2=true)(l3:plD d3=true)(hΦ:Φ [d1,d2,d3]=.ok .fz d)(hp:jU d=true)(hq:∀v' H',aD H H'->aB K H' d v'->Q v' H'):codeAny (model P w) A (.call (.ref f) ⟨[u],[]⟩) (CR CX outer P w H s Q E) s:=by
 have KX:K.In s.heap:=e0.mod.kin.keeps λb o e=>(e0.bs b o e).1;have lim:s.heap.NoLimit:=e0.mod.nolimit.keeps λb o e=>(e0.bs b o e).1;have mem:∀{x:Str}{c:Addr},cl.lookup x=some c->(c=a1\/c=a2):=λe=>only _ _ e;have hin:∀{b},(b=a1\/b=a2)->dY a1 a2 H b=none:=λh=>if_pos h;have hout:∀{b},¬ (b=a1\/b=a2)->dY a1 a2 H b=H b:=λh=>if_neg h;have hcl:∀b,(b=a1\/b=a2)->∃y,H b=some (fU b y):=λb hb=>by
  rcases hb with e|e
  . rw[e];exact⟨y1,h1⟩
  . rw[e];exact⟨y2,h2⟩
 have but:But H (dY a1 a2 H):=λb o e n=>by rw[hout];exact e;intro hb;obtain⟨y,z⟩:=hcl b hb;rw[e]at z;cases z;exact n _ rfl
 have none0:∀b,H b=none->dY a1 a2 H b=none:=λb e=>by
  by_cases hb:(b=a1\/b=a2)
  . exact hin hb
  . rw[hout hb];exact e
 refine aR3 (fd:=W.fnX name q params _ scope cl .none .none doc pm none (.ref c) ct) hr.depth (v6 e0.hok hf) rfl co gen rfl (aFL e0.hok hc) ?_;rw[hb];refine aQ9 (wpAny_newFunctionEnv cH (λy hy=>by rw[aTY.mp hy];exact er) (λh4 hns hsb=>?_) kd)
 have keep:∀b o,s.heap.get? b=some o->h4.get? b=some o:=λb o e=>hsb.extBut b o (aQO (aQL e)) (hps e);refine⟨lim.keeps keep,codeAny_func ?_⟩
 let X:=cloCx P w K mg base [kn,pn,rn] q scope cl f (.ref c) A outer s (dY a1 a2 H)
 have ok:X.Ok :=
  { mod:=e0.mod
    kind:=kd
    glob:=rfl
    blt:=rfl
    above:=aRD _
    inj:=inj
    has:=λx hx=>by
     have hx:scope.names.lookup x=some .cell\/scope.names.lookup x=some .free:=hx;rcases hx with hx|hx
     . exact absurd rfl (cH _ (aRV hx))
     . rcases hfr _ (aRV hx) rfl with e|e
       . exact⟨a1,by rw[show x=kn from e];exact cl1⟩
       . exact⟨a2,by rw[show x=pn from e];exact cl2⟩
    cab:=λx c z=>by cases z
    hd:=λ_=>hr.hd
    frames:=Around.frames_deeper e0.frames
    stk:=.inr ⟨rfl,rfl⟩
    exf:=λb hb=>nomatch hb
    bs:=λb o e=>⟨(e0.bs b o e).1,none0 b (e0.bs b o e).2⟩
    bsz:=e0.bsz
    noex:=λb o e hb=>nomatch hb
    exfs:=λb hb=>nomatch hb
    funs:=e0.funs
    frf:=λb hb=>none0 b (e0.frf b hb)
    tabs:=e0.tabs.mono λb ps e=>⟨#[],by rw[Array.append_empty];exact but b _ e nofun⟩ }
 have cellAt:∀{b:Addr}{y:V},H b=some (fU b y)->∃u,s.heap.IsCell b (some u)/\aI y u:=λe=>(e0.hok _ _ e).1;obtain⟨u1,i1,r1⟩:=cellAt h1;obtain⟨u2,i2,r2⟩:=cellAt h2;have I:Inv X [] (cD [kn,pn,rn] [y1,y2,v]) (dY a1 a2 H) {s with heap:=h4,toks:=s.toks+[(rn,u)].length}:=by
  refine⟨ok,rfl,e0.bare,Un.kept keep,⟨_,hns,λi y v' q1 q2 q3=>?_⟩,λx c' e=>?_,none0 _ (e0.hok.fresh (aRD _)),λx c' e=>hin (mem e),λp hp=>absurd (show p∈([]:LAO)from hp) (by simp),λb o e=>?_,rfl⟩
  . match i,q1,q2 with
    |0,q1,q2=>cases q1;cases q2;exact⟨u1,r1,.inr ⟨.inr ek,a1,cl1,i1.keeps keep⟩⟩
    |1,q1,q2=>cases q1;cases q2;exact⟨u2,r2,.inr ⟨.inr ep,a2,cl2,i2.keeps keep⟩⟩
    |2,q1,q2=>cases q1;cases q2;exact⟨u,r,.inl ⟨er,by simp⟩⟩
    |(n+3),q1,q2=>cases q1
  . obtain⟨y,z⟩:=hcl c' (mem e);obtain⟨u',iu,_⟩:=cellAt z;exact⟨_,iu.keeps keep⟩
  . have hb:¬ (b=a1\/b=a2):=λhb=>by rw[hin hb]at e;cases e
    rw[hout hb]at e;exact(e0.hok b o e).stay (λb' u' _ q'=>keep b' u' q') (λd' q'=>but _ _ q' nofun) λd' t' q'=>but _ _ q' (by cases t' <;> nofun)
 let C:Cw:=⟨K,dY a1 a2 H,dY a1 a2 H,λ_ _ _=>False⟩
 have hx:XOk (CX1 P w) (C.at X) X:=λaA σ H' s' e s'' I' h=>by obtain⟨_,_,_,_,_,_,_,_,_,_,_,_,z⟩:=h;exact z
 have nm:∀{i:Nat}{y:Str}{p:Pos},X.N[i]? = some y->Vis X.env.scope y->PV C X (.Name y p) (λρ=>cM ρ i):=λ{i y p} h v=>by
  have hm:=hm y (by
   have:=aR0 h;have:y∈[kn,pn,rn]:=this;simp only[aQU,aT1,aT2]at this ⊢;rcases this with e|e|e
   . exact .inl e
   . exact .inr (.inl e)
   . exact .inr (.inr (.inl e)))
  exact v9 i (gX h v hm.1 hm.2)
 have hcall:PV C X (.Call (.Name g p1) [.Name kn p2,.Name pn p3,.Name rn p4] [] p5) _:=wR (X:=X) (C:=C) FG (hr.deeper _) hx eg (gJ (nm (i:=0) rfl (.inr (.inr ek))) (gJ (nm (i:=1) rfl (.inr (.inr ep))) (gJ (nm (i:=2) rfl (.inl er)) kZ))) (hm g (by simp)).1
 have rl:aC K (dY a1 a2 H) [d1,d2,d3] [y1,y2,v]:=aC.cons (aB.but but _ _ l1 t1) (aC.cons (aB.but but _ _ l2 t2) (aC.cons (aB.but but _ _ l3 t3) aC.nil));have RS:aS K (dY a1 a2 H) (dY a1 a2 H) (dY a1 a2 H) (dY a1 a2 H) (cD [kn,pn,rn] [y1,y2,v]) (f6 3 [d1,d2,d3]):=wS (N:=[kn,pn,rn]) (aD.refl _) rl;refine aQ4 (aQ5 (aQ0 (hcall [] _ _ _ (λv' H'=>aD (dY a1 a2 H) H'/\aB K H' d v') I ?_) (λu' s' hs=>?_) λe s' hs=>hs.elim))
 . rw[aQ];refine⟨f6 3 [d1,d2,d3],dY a1 a2 H,RS,?_⟩;have e:aY 3 Φ (.ok [(.fz,d1),(.fz,d2),(.fz,d3)])=.ok .fz d:=by unfold aY;rw[aR.thn_ok];simp[cN,hΦ]
   show aT _ _ _ _ (aY 3 Φ (.ok [(.fz,d1),(.fz,d2),(.fz,d3)])) _;rw[e];intro v' F' H' st rp _;exact⟨st.same,aB.mono st.sub _ _ rp⟩
 . obtain⟨v',H',J,rv,sH,rd⟩:=hs
   let H5:Hp:=λb=>if(b=a1\/b=a2)then H b else H' b
   have h5i:∀{b},(b=a1\/b=a2)->H5 b=H b:=λh=>if_pos h;have h5o:∀{b},¬ (b=a1\/b=a2)->H5 b=H' b:=λh=>if_neg h;have gone:∀b,(b=a1\/b=a2)->H' b=none:=λb hb=>by
    rcases hb with e|e
    . rw[e];exact J.freeC kn a1 cl1
    . rw[e];exact J.freeC pn a2 cl2
   have up:aD H' H5:=λb o e=>by rw[h5o];exact e;intro hb;rw[gone b hb]at e;cases e
   have same:aD H H5:=λb o e=>by
    by_cases hb:(b=a1\/b=a2)
    . rw[h5i hb];exact e
    . rw[h5o hb];exact sH b o (by rw[hout hb];exact e)
   have un:=J.base;refine⟨v',H5,J.os,J.bare,⟨λb o e n hb hx=>un.keep b o e (none0 b n) hb hx,λb o e n hb hx=>un.slot b o e (none0 b n) hb hx,λb o e n hx=>?_,un.there,λb xs e=>same _ _ e,λb o u e=>same _ _ e,λb ps e=>?_⟩,λb o e=>?_,rv,hq v' H5 same (xT (F':=H5) (H:=H5) hp rd)⟩
   . rw[h5o];exact un.free b o e (none0 b n) hx;intro hb;obtain⟨y,z⟩:=hcl b hb;rw[n]at z;cases z
   . obtain⟨more,q⟩:=un.tbls b ps (but b _ e nofun);exact⟨more,up _ _ q⟩
   . by_cases hb:(b=a1\/b=a2)
     . rw[h5i hb]at e;obtain⟨y,z⟩:=hcl b hb;rw[e]at z;cases z;obtain⟨u',⟨o',q1,q2⟩,q3⟩:=cellAt e;refine rQ ⟨o',un.keep b o' q1 (hin hb) (λz=>?_) (λz=>nomatch z),q2⟩ q3;have:=e0.frf b z;rw[e]at this;cases this
     . rw[h5o hb]at e;exact(J.hok b o e).stay (λ_ _ _ q=>q) (λd' q'=>up _ _ q') λd' t' q'=>up _ _ q'
structure FnC(P:aV7)(w:aV6)(K:Fg)(mg:SOV)(base:Heap)(CX:CXT)(k:Nat)(x a b:Str):Prop where
 ex:∃f fd ps,bS P w K mg base CX k f fd ps (spC K x a b)/\mg x=some (.ref f)/\W.keepIn K (.ref f)=true/\dA K fd ps []
def iV(f a b:Str)(r:aR):Res:=r.thn λxs=>match xs with
 |[(.fz,kd),(_,.dct kvs)]=>.ok .fz (.clo f [(a,kd),(b,.dct kvs)])
 |_=>.stuck
section
variable {es:List Expr}{gs:Rho->aR}{a b:Str}
def aLK(F:FnC X.prog X.w X.K X.mg X.base CX k x a b)(hr:cA k X.A)(hx:XOk CX (C.at X) X)(hg:Gl X x)(ha:PAv C X (e::es) gs)(hdb:(x==("__debug__":Str))=false)(he:starEach (e::es) X.env=(false,eval e X.env)::starEach es X.env)(hpl:(backTo pos (starEach es X.env)).any (·.1)=false):PV C X (.Call (.Name x p) (e::es) [] pos) (λρ=>iV x a b (gs ρ)):=by
 obtain⟨f,fd,ps,FF,hm,hk,hb⟩:=F.ex;intro aA s σ H Q I h;rw[aQ]at h;obtain⟨ρ,F,R,w⟩:=h;refine aR4 (mU I hg hm ?_ hdb);refine W.callWith_K (h₀:=X.base) I.ok.mod.kin hk (thn (ha pos aA s σ H (λvs H1=>spC X.K x a b vs H1 Q λu _ H'=>∃c,X.mg c=some u/\C.EE c σ H') I ?_) λus s1 ⟨vs,H1,I1,r,q⟩=>⟨I1.kIn,run_S FF hr hb (λe s' hc=>hx aA σ H1 s1 e s' I1 hc) I1 r q⟩) he hpl;refine⟨ρ,F,R,?_⟩;cases er:gs ρ with
 |stuck=>rw[er]at w;exact w
 |exc c=>rw[er]at w;exact w
 |ok xs =>
  rw[er]at w;intro vs F1 H1 s1 r1;have w1:aT (C.at X) F1 H1 σ (iV x a b (.ok xs)) Q:=aT.step s1 w;unfold iV at w1;rw[aR.thn_ok]at w1;split at w1
  . rename_i kd m kvs;obtain⟨v1,_,rfl,q1,v2,_,rfl,q2,rfl⟩:=r1;have q1:aB X.K F1 kd v1:=q1;have q3:∃p0 ys,v2=.ref p0/\H1 p0=some (.dK ys)/\aE X.K F1 kvs ys:=by
      have key:(∃a,v2=.ref a/\F1 a=none/\Top X.K F1 H1 a (.dct kvs))->∃p0 ys,v2=.ref p0/\H1 p0=some (.dK ys)/\aE X.K F1 kvs ys:=λ⟨p0,e,_,ys,h1,h2⟩=>⟨p0,ys,e,h1,h2⟩;cases m with
      |fz=>have q2:aB X.K F1 (.dct kvs) v2:=q2;simp only[aB]at q2;obtain⟨p0,ys,e,h1,h2⟩:=q2;exact⟨p0,ys,e,s1.sub _ _ h1,h2⟩
      |fr=>exact key q2
      |bo=>exact key q2
    obtain⟨p0,ys,rfl,h1,h2⟩:=q3;exact⟨F1,kd,v1,p0,ys,kvs,rfl,s1.sub,q1,.inl h1,h2,λF' H' v st rv=>w1 v F' H' st rv (by nofun)⟩
  . exact w1.elim
end
structure rS(K:Fg)(f kn pn g:Str):Prop where
 ex:∃q rn vn params scope p1 p2 p3 p4 p5 p6 pos,jE K f q (.FunctionDef vn params [.Return (some (.Call (.Name g p1) [.Name kn p2,.Name pn p3,.Name rn p4] [] p5)) p6] [] none [] scope none vn pos) /\
  scope.kind=.function/\scope.isCoroutine=false/\scope.isGenerator=false/\[kn,pn,rn].Nodup/\(∀y∈scope.names,y.2 ≠ .cell)/\(∀y∈scope.names,y.2=.free->y.1=kn\/y.1=pn) /\
  scope.names.lookup kn=some .free/\scope.names.lookup pn=some .free/\scope.names.lookup rn=some .local/\scope.names.lookup g=some .globalImplicit/\(∀y∈[kn,pn,rn,g],(y==("__debug__":Str))=false/\(y==("__classdict__":Str))=false) /\
  ∀name q body cl doc pm c ct u,bindArgs (W.fnX name q params body scope cl .none .none doc pm none (.ref c) ct) ⟨[u],[]⟩=pure [(rn,u)]
def iW(f kn pn:Str)(Φ:List D->Res)(r:Res)(a:aR):Res:=match r with
 |.ok .fz (.clo f' [(x1,d1),(x2,d2)])=>if f'=f/\x1=kn/\x2=pn then a.thn λxs=>(match xs with
  |[(_,d3)]=>if(plD d1&&plD d2&&plD d3)=true then(match Φ [d1,d2,d3]with|.ok .fz d=>if jU d=true then .ok .fz d else .stuck|_=>.stuck)else .stuck
  |_=>.stuck)else .stuck
 |_=>.stuck
section
variable {gs:Rho->aR}{f kn g:Str}
def aLL(G:rS X.K f kn pn g)(FG:FnV X.prog X.w X.K X.mg X.base (CX1 X.prog X.w) k g 3 Φ)(hr:cA (k+1) X.A)(hv:PE X (.Name x p) (gH i))(ha:PAv C X [e] gs)(he:starEach [e] X.env=(false,eval e X.env)::starEach [] X.env):PV C X (.Call (.Name x p) [e] [] pos) (λρ=>iW f kn pn Φ (cM ρ i) (gs ρ)):=by
 intro aA s σ H Q I h;rw[aQ]at h;obtain⟨ρ,F,R,w⟩:=h;unfold iW at w;split at w;rotate_left
 . exact w.elim
 rename_i f' x1 d1 x2 d2 eg;split at w;rotate_left
 . exact w.elim
 rename_i hn;obtain⟨rfl,rfl,rfl⟩:=hn;have sl:ρ[i]? = some (some (false,.clo f' [(x1,d1),(x2,d2)])):=by
  unfold cM at eg;split at eg
  . rename_i d q;cases eg;exact q
  . cases eg
  . cases eg
 obtain⟨v,ev,rv,_⟩:=R.slot i false _ sl;have rv:aB X.K F (.clo f' [(x1,d1),(x2,d2)]) v:=rv;have rv0:=rv;simp only[aB]at rv;obtain⟨fa,c,name,q,st,doc,pm,ct,cl,ck,rfl,hf,hc,co,rc⟩:=rv;obtain⟨q',rn,vn,params,scope,p1,p2,p3,p4,p5,p6,pos',ck',g1,g2,g3,g4,g5,g6,g7,g8,g9,g10,g11,g12⟩:=G.ex;obtain⟨rfl,rfl⟩:=ck.one ck';have hf:F fa=some (eQ fa (W.fnMade name q params [.Return (some (.Call (.Name g p1) [.Name x1 p2,.Name x2 p3,.Name rn p4] [] p5)) p6] scope cl doc pm c ct)):=hf;simp only[fD]at rc;obtain⟨⟨a1,y1,l1,c1,t1⟩,⟨a2,y2,l2,c2,t2⟩,_⟩:=rc;have at':∀{s:aV4}{H:Hp},HOk X.prog X.w H s.heap->aD F H->W.FnAt fa s.heap:=λok sm=>⟨_,_,_,_,v6 ok (sm _ _ hf)⟩;refine aR4 (thn (hv aA s σ H (λv' H'=>v'=.ref fa/\H'=H) I ⟨.ref fa,ev,rfl,rfl⟩) λu s0 ⟨v',H0,I0,ru,e1,e2⟩=>?_);subst e1 e2;obtain rfl:u=Value.ref fa:=ru;refine W.callWith_F (at' I0.hok R.sub) (thn (ha pos aA s0 σ H0 (λvs H1=>aD F H1/\∃v3 d3 d,vs=[v3]/\aB X.K H1 d3 v3/\(plD d1=true/\plD d2=true/\plD d3=true)/\Φ [d1,d2,d3]=.ok .fz d/\jU d=true/\∀v' H',aD H1 H'->aB X.K H' d v'->Q v' H') I0 ?_) λus s1 ⟨vs,H1,I1,r,sF,v3,d3,d,ev3,t3,pl,hΦ,hp,hq⟩=>⟨at' I1.hok sF,?_⟩) he rfl
 . refine⟨ρ,F,R,?_⟩;cases er:gs ρ with
   |stuck=>rw[er]at w;exact w
   |exc c=>rw[er]at w;exact w
   |ok xs =>
    rw[er]at w;intro vs F1 H1 s1 r1;have w1:=aT.step s1 w;rw[aR.thn_ok]at w1;split at w1
    . rename_i m d3;obtain⟨v3,_,rfl,q1,rfl⟩:=r1;split at w1
      . rename_i hpl;simp only[aSI]at hpl;cases ep:Φ [d1,d2,d3]with
        |stuck=>rw[ep]at w1;exact w1.elim
        |exc c=>rw[ep]at w1;exact w1.elim
        |ok m' d =>
         rw[ep]at w1;cases m' with
         |fz =>
          dsimp only at w1;split at w1
          . rename_i hp;exact⟨s1.fsame.trans s1.sub,v3,d3,d,rfl,q1.inH s1.sub,⟨hpl.1.1,hpl.1.2,hpl.2⟩,ep,hp,λv' H' sm rd=>w1 v' F1 H' ⟨sm,aD.refl _,s1.sub.trans sm,λ_ h _=>h⟩ (xT hp rd) (by nofun)⟩
          . exact w1.elim
         |_=>exact w1.elim
      . exact w1.elim
    . exact w1.elim
 . subst ev3;obtain⟨u3,rfl,r3⟩:=eC r;refine aTW (aSX (aLJ (CX:=CX0) (E:=λ_ _ _=>False) g1 g2 g3 g4 g5 g6 g7 g8 g9 g10 g11 (g12 _ _ _ _ _ _ _ _ _) FG hr I1.env0 (sF _ _ hf) (sF _ _ hc) l1 l2 (sF _ _ c1) (sF _ _ c2) (λz b hz=>?_) co.2 r3 (aB.mono sF _ _ t1) (aB.mono sF _ _ t2) t3 pl.1 pl.2.1 pl.2.2 hΦ hp hq) λr s' hq=>?_)
   . have:=co.1 z b hz;simp only[aSS,aST,aQU,aT1,aT2]at this;rcases this with e|e
     . rw[e,l1]at hz;cases hz;exact .inl rfl
     . rw[e,l2]at hz;cases hz;exact .inr rfl
   . cases r with
     |error e=>exact hq.elim
     |ok fl =>
      cases fl with
      |ret u=>exact I1.after hq
      |next=>exact False.elim hq
      |brk=>exact False.elim hq
      |cont=>exact False.elim hq
end
def gQ:Expr->Option Str
 |.Name x _=>some x
 |_=>none
def hZ(h:gQ e=some x):∃p,e=.Name x p:=by
 cases e with
 |Name y p=>cases h;exact⟨p,rfl⟩
 |_=>cases h
def rT:Expr->Option (Expr×List Expr)
 |.Call f as ks _=>(match ks with|[]=>some (f,as)|_=>none)
 |_=>none
def zJ{f:Expr}{as:List Expr}(h:rT e=some (f,as)):∃p,e=.Call f as [] p:=by
 cases e with
 |Call f' as' ks p =>
  cases ks with
  |nil=>cases h;exact⟨p,rfl⟩
  |cons _ _=>cases h
 |_=>cases h
def oA:Stmt->Option Expr
 |.Return e _=>e
 |_=>none
def zK{s:Stmt}(h:oA s=some e):∃p,s=.Return (some e) p:=by
 cases s with
 |Return o p=>have h:o=some e:=h;exact⟨p,by rw[h]⟩
 |_=>cases h
def zL:Stmt->Option (Expr×Expr)
 |.Assign ts e _=>(match ts with|[t]=>some (t,e)|_=>none)
 |_=>none
def aLM{s:Stmt}{t:Expr}(h:zL s=some (t,e)):∃p,s=.Assign [t] e p:=by
 cases s with
 |Assign ts e' p =>
  cases ts with
  |nil=>cases h
  |cons t' r =>
   cases r with
   |nil=>cases h;exact⟨p,rfl⟩
   |cons _ _=>cases h
 |_=>cases h
def rV(a:Arguments):Option Str:=match a.args with
 |[x]=>if a.posonlyargs.isEmpty&&a.vararg.isNone&&a.kwonlyargs.isEmpty&&a.kw_defaults.isEmpty&&a.kwarg.isNone&&a.defaults.isEmpty&&x.annotation.isNone then some x.arg else none
 |_=>none
def aLN{a:Arguments}(h:rV a=some z):∃p,a=⟨[],[⟨z,none,p⟩],none,[],[],none,[]⟩:=by
 obtain⟨a1,a2,a3,a4,a5,a6,a7⟩:=a;unfold rV at h;dsimp only at h;cases a2 with
 |nil=>cases h
 |cons x r =>
  cases r with
  |cons _ _=>cases h
  |nil =>
   dsimp only at h;split at h
   . rename_i q;cases h;simp only[aSI,aVN,aVO]at q;obtain⟨⟨⟨⟨⟨⟨rfl,rfl⟩,rfl⟩,rfl⟩,rfl⟩,rfl⟩,q⟩:=q;obtain⟨x1,x2,x3⟩:=x;cases q;exact⟨x3,rfl⟩
   . cases h
def rW:Stmt->Option (Str×Arguments×List Stmt×Scope)
 |.FunctionDef n a b ds r ts sc ty n' _=>if ds.isEmpty&&r.isNone&&ts.isEmpty&&ty.isNone&&n'==n then some (n,a,b,sc)else none
 |_=>none
def aLO{s:Stmt}{n:Str}{a:Arguments}{b:List Stmt}(h:rW s=some (n,a,b,sc)):∃p,s=.FunctionDef n a b [] none [] sc none n p:=by
 cases s with
 |FunctionDef n1 a1 b1 ds r ts sc1 ty n' p =>
  unfold rW at h;dsimp only at h;split at h
  . rename_i q;cases h;simp only[aSI,aVN,aVO,aRK]at q;obtain⟨⟨⟨⟨rfl,rfl⟩,rfl⟩,rfl⟩,rfl⟩:=q;exact⟨p,rfl⟩
  . cases h
 |_=>cases h
def asG(e:Expr):Option (Str×Str×Str×Str):=match rT e with
 |some (f,[a,b,c])=>(match gQ f,gQ a,gQ b,gQ c with|some f,some a,some b,some c=>some (f,a,b,c)|_,_,_,_=>none)
 |_=>none
def aLP{g y:Str}(h:asG e=some (g,x,y,z)):∃p1 p2 p3 p4 p5,e=.Call (.Name g p1) [.Name x p2,.Name y p3,.Name z p4] [] p5:=by
 unfold asG at h;split at h
 . rename_i f a b c e1;split at h
   . rename_i _ _ _ _ q1 q2 q3 q4;cases h;obtain⟨p5,rfl⟩:=zJ e1;obtain⟨p1,rfl⟩:=hZ q1;obtain⟨p2,rfl⟩:=hZ q2;obtain⟨p3,rfl⟩:=hZ q3;obtain⟨p4,rfl⟩:=hZ q4;exact⟨p1,p2,p3,p4,p5,rfl⟩
   . cases h
 . cases h
def rX(sc:Scope)(kn pn rn g:Str):Bool:=sc.kind == .function&&!sc.isCoroutine&&!sc.isGenerator&&decide [kn,pn,rn].Nodup&&sc.names.all (λy=>y.2 != .cell&&(y.2 != .free||y.1==kn||y.1==pn)) &&
 sc.names.lookup kn==some .free&&sc.names.lookup pn==some .free&&sc.names.lookup rn==some .local&&sc.names.lookup g==some .globalImplicit&&[kn,pn,rn,g].all λy=>y != "__debug__" && y != "__classdict__"
def rY(kn pn g vn:Str)(s:Stmt):Bool:=match rW s with
 |some (n,a,[b],sc)=>(match rV a,oA b with
  |some rn,some e=>asG e==some (g,kn,pn,rn)&&n==vn&&rX sc kn pn rn g
  |_,_=>false)
 |_=>false
def aLQ{kn g vn:Str}{s:Stmt}(h:rY kn pn g vn s=true):∃rn ap p1 p2 p3 p4 p5 p6 sc pos,s=.FunctionDef vn ⟨[],[⟨rn,none,ap⟩],none,[],[],none,[]⟩ [.Return (some (.Call (.Name g p1) [.Name kn p2,.Name pn p3,.Name rn p4] [] p5)) p6] [] none [] sc none vn pos/\rX sc kn pn rn g=true:=by
 unfold rY at h;split at h
 . rename_i n a b sc e1;split at h
   . rename_i rn e q1 q2;simp only[aSI,aRK]at h;obtain⟨⟨q3,rfl⟩,q4⟩:=h;obtain⟨pos,rfl⟩:=aLO e1;obtain⟨ap,rfl⟩:=aLN q1;obtain⟨p6,rfl⟩:=zK q2;obtain⟨p1,p2,p3,p4,p5,rfl⟩:=aLP q3;exact⟨rn,ap,p1,p2,p3,p4,p5,p6,sc,pos,rfl,q4⟩
   . cases h
 . cases h
def cpB(pn wn:Str)(s:Stmt):Bool:=match zL s with
 |some (t,e)=>(match rT e with|some (f,[a])=>gQ t==some pn&&gQ f==some "dict" && gQ a==some wn|_=>false)
 |_=>false
def aLR{wn:Str}{s:Stmt}(h:cpB pn wn s=true):∃a1 a2 a3 a4 a5,s=.Assign [.Name pn a1] (.Call (.Name "dict" a2) [.Name wn a3] [] a4) a5:=by
 unfold cpB at h;split at h
 . rename_i t e e1;split at h
   . rename_i f a e2;simp only[aSI,aRK]at h;obtain⟨⟨q1,q2⟩,q3⟩:=h;obtain⟨a5,rfl⟩:=aLM e1;obtain⟨a4,rfl⟩:=zJ e2;obtain⟨a1,rfl⟩:=hZ q1;obtain⟨a2,rfl⟩:=hZ q2;obtain⟨a3,rfl⟩:=hZ q3;exact⟨a1,a2,a3,a4,a5,rfl⟩
   . cases h
 . cases h
def oB(N:List Str)(sc:Scope)(kn pn g:Str)(sts:List Stmt):Bool:=match N,sts with
 |[k',wn,p',vn],[s1,s2,s3]=>k'==kn&&p'==pn&&cpB pn wn s1&&rY kn pn g vn s2&&((oA s3).bind gQ==some vn) &&
  (sc.names.lookup kn==some .cell&&sc.names.lookup pn==some .cell&&sc.names.lookup wn==some .local&&sc.names.lookup vn==some .local&&sc.names.lookup ("dict":Str)==some .globalImplicit&&sc.names.all (λy=>y.2 != .cell||y.1==kn||y.1==pn)&&[kn,wn,pn,vn].all λy=>y != "__debug__" && y != "__classdict__")
 |_,_=>false
def aLS{name rn:Str}{cl:List (Str×Addr)}{doc pm c ct:aV3}:bindArgs (W.fnX name q ⟨[],[⟨rn,none,ap⟩],none,[],[],none,[]⟩ body sc cl .none .none doc pm none c ct) ⟨[u],[]⟩=pure [(rn,u)] :=
 zI (ps:=[rn]) rfl rfl rfl rfl rfl rfl (aRR.mpr ⟨aVK,aU1⟩) [u] rfl
def aLT{f0 kn g:Str}{f:Addr}{N:List Str}(ns:W.nsIn K mainGlobals f0=some (some (.ref f)))(F:Fun K x qual st f fd)(S:jC N ps (bG st))(h2:ps.length=2)(h:oB N (bG st) kn pn g (fC st)=true)(hin:N[3]? = some (gG qual))(hm:mg "dict" = none):bS P w K mg base (CX1 P w) (k+1) f fd ps (spC K f0 kn pn)/\rS K f0 kn pn g:=by
 unfold oB at h;split at h;rotate_left
 . cases h
 rename_i k' wn p' vn s1 s2 s3 eb;simp only[aSI,aRK,aU9,aTE,aVP]at h;obtain⟨⟨⟨⟨⟨rfl,rfl⟩,h1⟩,h2'⟩,h3⟩,⟨⟨⟨⟨⟨ck,cp⟩,cw⟩,cv⟩,cg⟩,oc⟩,hn⟩:=h;obtain⟨a1,a2,a3,a4,a5,rfl⟩:=aLR h1;obtain⟨rn,ap,p1,p2,p3,p4,p5,p6,sc,pos,rfl,hs⟩:=aLQ h2';have e3:∃b1 b2,s3=.Return (some (.Name vn b1)) b2:=by
  cases e:oA s3 with
  |none=>rw[e]at h3;cases h3
  |some e'=>rw[e]at h3;obtain⟨b2,rfl⟩:=zK e;obtain⟨b1,rfl⟩:=hZ h3;exact⟨b1,b2,rfl⟩
 obtain⟨b1,b2,rfl⟩:=e3;unfold rX at hs;simp only[aSI,aRK,aU9,aTE,aVP,aTC,aUU]at hs;obtain⟨⟨⟨⟨⟨⟨⟨⟨⟨s1,s2⟩,s3⟩,s4⟩,s5⟩,s6⟩,s7⟩,s8⟩,s9⟩,s10⟩:=hs;have dn:∀{l:List Str},(∀y∈l,y ≠ "__debug__" /\ y ≠ "__classdict__")->∀y∈l,(y==("__debug__":Str))=false/\(y==("__classdict__":Str))=false:=λh y hy=>⟨by simpa using(h y hy).1,by simpa using(h y hy).2⟩
 have ep:ps=[k',wn]:=by have:=S.pre;rw[h2]at this;exact this.symm
 subst ep;have ff:∀y∈sc.names,y.2=.free->y.1=k'\/y.1=p':=λy hy e=>by
  rcases(s5 y hy).2 with(q|q)|q
  . exact absurd e q
  . exact .inl q
  . exact .inr q
 have hvn:gG qual=vn:=by cases hin;rfl
 refine⟨aLI ns F S eb hvn rfl rfl (λenv=>rfl) ck cp cw cv cg hm (λy hy=>?_) (aRV s6) (aRV s7) ff (dn hn),⟨_,rn,vn,_,sc,p1,p2,p3,p4,p5,p6,pos,⟨x,qual,st,f,fd,_,_,ns,F,eb,rfl⟩,s1,s2,s3,s4,λy hy=>(s5 y hy).1,ff,s6,s7,s8,s9,dn s10,λ_ _ _ _ _ _ _ _ _=>aLS⟩⟩;rcases oc _ hy with(q|q)|q
 . exact absurd rfl q
 . exact .inl q
 . exact .inr q
end D3
set_option genSizeOfSpec false
set_option genInjectivity false
namespace D3
inductive KC where|s (y:Str)|i (n:Int)|t (tb:List (Str×Str))
 deriving DecidableEq
def KC.d:KC->D|.s y=>.str y|.i n=>.int n|.t _=>.non
inductive GV where|con (c:KC)|fn (n:Nat)|no|cls
 deriving DecidableEq
inductive Bn where|len|isinstance|min
 deriving DecidableEq
noncomputable def Bn.name:Bn->Str
 |.len => "len" |.isinstance => "isinstance" |.min => "min"
def Bn.f:Bn->List (Md×D)->Option (Md×D)
 |.len=>fE|.isinstance=>jJ|.min=>lC
def Bn.id:Bn->String
 |.len => "len" |.isinstance => "isinstance" |.min => "min"
inductive Ty where|int|bool|str|tuple|list|dict
 deriving DecidableEq
def Ty.f:Ty->List (Md×D)->Option (Md×D)
 |.tuple=>fH|.list=>jO|.int=>jQ|.str=>lB|.dict=>lG|_=>λ_=>none
def Ty.id:Ty->String
 |.int => "int" |.bool => "bool" |.str => "str" |.tuple => "tuple" |.list => "list" |.dict => "dict"
structure WD where
 Φ:Str->List D->Res
 Ψ:Str->List D->Res
 I:Str->Option (List D->Res)
 cl:List CI
 xt:List ((Str×Str)×Bool)
 xi:List ((Str×Str)×Bool)
 dp:Bool
 Ms:Str->D->KD->Option KD
def WD.xf(W:WD):Str->Str->Option Bool:=λc x=>W.xt.lookup (c,x)
def WD.xg(W:WD):Str->Str->Option Bool:=λc x=>W.xi.lookup (c,x)
inductive E where
 |var (i:Nat)|non|bl (b:Bool)|int (i:Int)|str (x:Str)
 |glob (x:Str) (c:KC)|ty (t:Ty)
 |bin (op:Operator) (a b:E)|cmp (op:CmpOp) (a b:E)
 |andL (es:List E)|orL (es:List E)|not (a:E)|neg (a:E)|tru (a:E)|frz (a:E)
 |ix (a b:E)|slice (a:E) (lo hi:Option E)
 |tup (es:List E)|lst (es:List E)
 |call (f:Str) (n:Nat) (es:List E)|bcall (b:Bn) (es:List E)
 |items (a:E)|rng1 (a:E)
 |comp (elt it:E) (ts:List E) (aF:List Nat) (t:Tg) (n:Nat)
 |tcall (t:Ty) (es:List E)
 |dnew|deq (neg:Bool) (a b:E)
 |meth (o:E) (m:Str) (es:List E)|mk0 (c:Str)
 |dget (a k d:E)|rng3 (a b c:E)|disp (ks vs:List E)|never
 |nnew|nix (a b:E)|nget (a k d:E)|nkeys (a:E)|srtw (a:E)|us2 (a:E)|mkc (f a b:Str) (es:List E)|ccl (f a b g:Str) (i:Nat) (es:List E)
def noF:Md->D->Md->D->Option (Md×D):=λ_ _ _ _=>none
def bJ:Operator->Md->D->Md->D->Option (Md×D)
 |.Add=>orO fAdd nO|.Sub=>fSub|.Mult=>orO fMul noK|.Mod=>fMod|.FloorDiv=>fDiv|.Pow=>fPow|_=>noF
def bM:CmpOp->Md->D->Md->D->Option (Md×D)
 |.Lt=>orO fLt noK|.LtE=>fLe|.Gt=>fGt|.GtE=>fGe|.Eq=>fEq|.NotEq=>fNe|.In=>orO fIn noK|.NotIn=>orO aHF noK|.Is=>fIs false|.IsNot=>fIs true
mutual
def evE(W:WD):E->Rho->Res
 |.var i,ρ=>cM ρ i
 |.non,_=>.ok .fz .non
 |.bl b,_=>.ok .fz (.bl b)
 |.int i,_=>.ok .fz (.int i)
 |.str x,_=>.ok .fz (.str x)
 |.glob _ c,_=>.ok .fz c.d
 |.ty t,_=>.ok .fz (.ty t.id)
 |.bin op a b,ρ=>op2 (bJ op) (evE W a ρ) (evE W b ρ)
 |.cmp op a b,ρ=>op2 (bM op) (evE W a ρ) (evE W b ρ)
 |.andL es,ρ=>evA W es ρ
 |.orL es,ρ=>dJ W es ρ
 |.not a,ρ=>kX (evE W a ρ)
 |.neg a,ρ=>nJ (evE W a ρ)
 |.tru a,ρ=>kW (evE W a ρ)
 |.frz a,ρ=>aW (evE W a ρ)
 |.ix a b,ρ=>op2 ixD (evE W a ρ) (evE W b ρ)
 |.slice a lo hi,ρ=>slP (evE W a ρ) (evO W lo) (evO W hi) ρ
 |.tup es,ρ=>hC (bK W es ρ)
 |.lst es,ρ=>fX (bK W es ρ)
 |.call f n es,ρ=>aY n (W.Φ f) (bK W es ρ)
 |.bcall b es,ρ=>eE b.f (bK W es ρ)
 |.items a,ρ=>eU (aW (evE W a ρ))
 |.rng1 a,ρ=>gK (bP (evE W a ρ) (.ok []))
 |.rng3 a b c,ρ=>jV (bP (evE W a ρ) (bP (evE W b ρ) (bP (evE W c ρ) (.ok []))))
 |.comp elt it ts aF t n,ρ=>dW (evE W it ρ) ρ aF n (aO t) (λρ=>evF W ts ρ) (λρ=>evE W elt ρ)
 |.disp ks vs,ρ=>dH ρ ((evL W ks).zip (evL W vs)) []
 |.tcall t es,ρ=>eE t.f (bK W es ρ)
 |.dnew,_=>.ok .fr (.dct [])
 |.dget a k d,ρ=>lI (evE W a ρ) (evE W k ρ) (evE W d ρ)
 |.deq neg a b,ρ=>op2 (eqN neg) (evE W a ρ) (evE W b ρ)
 |.meth o m es,ρ=>dD W.cl W.Φ m (evE W o ρ) (bK W es ρ)
 |.mk0 c,_=>.ok .fr (.ins c [])
 |.never,_=>.stuck
 |.nnew,_=>.ok .fr (.dtn [])
 |.nix a b,ρ=>op2 lJ (evE W a ρ) (evE W b ρ)
 |.nget a k d,ρ=>lK (evE W a ρ) (evE W k ρ) (evE W d ρ)
 |.nkeys a,ρ=>lP (evE W a ρ)
 |.srtw a,ρ=>eE gP (bP (evE W a ρ) (.ok []))
 |.us2 a,ρ=>f8 (evE W a ρ)
 |.mkc f a b es,ρ=>if W.dp=true then iV f a b (bK W es ρ)else .stuck
 |.ccl f a b g i es,ρ=>if W.dp=true then iW f a b (W.Ψ g) (cM ρ i) (bK W es ρ)else .stuck
def bK(W:WD):List E->Rho->aR
 |[],_=>.ok []
 |e::es,ρ=>bP (evE W e ρ) (bK W es ρ)
def evA(W:WD):List E->Rho->Res
 |[],_=>.stuck
 |[e],ρ=>evE W e ρ
 |e::es,ρ=>eR (evE W e ρ) (evA W es ρ)
def dJ(W:WD):List E->Rho->Res
 |[],_=>.stuck
 |[e],ρ=>evE W e ρ
 |e::es,ρ=>orR (evE W e ρ) (dJ W es ρ)
def evF(W:WD):List E->Rho->Res
 |[],_=>.ok .fz (.bl true)
 |e::es,ρ=>eR (evE W e ρ) (evF W es ρ)
def evL(W:WD):List E->List (Rho->Res)
 |[]=>[]
 |e::es=>evE W e::evL W es
def evO(W:WD):Option E->Option (Rho->Res)
 |none=>none
 |some e=>some (evE W e)
end
structure MG where
 G:List (Str×GV)
 mk0:List Str
 mki:List (Str×Str×Nat)
 iso:List Str
 xcs:List Str
 xns:List Str
 sn:List Str
 cl:List (Str×Str×Str×Str)
structure MC where
 N:List Str
 sc:Scope
 g:MG
 fn:Bool
 calm:Bool
 rz:Bool
 q:Str
noncomputable def MC.kind(m:MC)(x:Str):Option NameKind:=m.sc.names.lookup x
end D3
variable {m:D3.MC}
namespace D3
def MC.vis(m:MC)(x:Str):Bool:=(m.kind x==some .local||m.kind x==some .cell||m.kind x==some .free)&&x != "__debug__" && x != "__classdict__"
def MC.glob(m:MC)(x:Str)(v:GV):Bool:=m.kind x==some .globalImplicit&&m.g.G.lookup x==some v&&x != "__debug__" && x != "__name__"
def MC.gk(m:MC)(x:Str):Bool:=m.kind x==some .globalImplicit&&x != "__debug__"
def strK(x:Str):Bool:=decide (x.length<=sizeLine)&&PyData.strOk x
def rZ:Expr->Bool|.Slice ..=>false|_=>true
def gR:Expr->Bool|.Set ..=>false|_=>true
def zM:Expr->Bool|.UnaryOp .Not _ _=>false|.BoolOp ..=>false|.IfExp ..=>false|.Compare ..=>false|_=>true
def MC.sub(m:MC)(scope:Scope)(aL tgN:List Str):MC:={ m with N:=aL++tgN,sc:={scope with names:=k9 scope m.sc},fn:=false,rz:=false,q := "" }
def MC.loc(m:MC)(i:Nat)(x:Str):Bool:=m.N[i]?==some x&&(m.kind x==some .local||(m.fn&&m.kind x==some .cell))
mutual
def mG(m:MC):Tg->Expr->Bool
 |.nm i,e=>match e with|.Name x _=>m.loc i x|_=>false
 |.tp ts,e=>match e with|.Tuple es _ _=>m.calm&&es.all jP&&mGs m ts es|_=>false
def mGs(m:MC):List Tg->List Expr->Bool
 |[],es=>es.isEmpty
 |t::ts,l=>match l with|e::es=>mG m t e&&mGs m ts es|_=>false
end
def fN:Nat->Expr->List Str
 |_,.Name x _=>[x]
 |n+1,.Tuple es _ _=>es.flatMap (fN n)
 |_,_=>[]
def oC(scope sc:Scope)(N:List Str)(aF:List Nat)(aL tgN:List Str):Bool :=
 scope.names.all (λy=>y.2 != .cell)&&scope.kind == .function&&scope.names.all (λy=>y.2 != .local||scope.names.lookup y.1==some .local) &&
 scope.names.all (λy=>y.2 != .free||sc.names.lookup y.1==some .cell||sc.names.lookup y.1==some .free)&&(aL.map some==aF.map λi=>N[i]?)&&aL.all (λy=>scope.names.contains (y,.free)) &&
 aL.all (λy=>(k9 scope sc).lookup y==some .cell||(k9 scope sc).lookup y==some .free)&&decide (aL++tgN).Nodup
def strK':KC->Bool|.s y=>strK y|.i _=>true|.t _=>false
structure SX(k:Nat)(W:WD)(m:MC)(C:Cw)(X:Cx):Prop where
 hN:X.N=m.N
 hs:X.env.scope=m.sc
 cm:m.calm=true->X.calm=true
 rm:m.calm=true->cA k X.A
 un:X.A.units+64<cLine
 xo:m.calm=true->XOk (CX1 X.prog X.w) (C.at X) X
 xt:qG X.K X.mg W.xf
 xi:qH X.K X.mg W.xg
 xc:∀c,c∈m.g.xcs->∃Cc,X.mg c=some (.ref Cc)/\w6 X.K Cc
 xn:∀n,n∈m.g.xns->∃cv,nQ X.mg n cv
 con:∀x c,m.g.G.lookup x=some (.con c)->match c with|.s y=>∃t,X.mg x=some (.str y t)|.i n=>∃t,X.mg x=some (.int n t)|.t tb=>jR X.w X.K X.mg x tb
 no:∀x,m.g.G.lookup x=some .no->X.mg x=none
 mk0:∀c,c∈m.g.mk0->qA X.K X.mg c
 mki:∀c key n,(c,key,n)∈m.g.mki->∀Φ,W.I key=some Φ->∃j,j+1<=k/\InV X.prog X.w X.K X.mg X.base (CX1 X.prog X.w) j c n Φ
 iso:∀c,c∈m.g.iso->IsV X.K X.mg W.cl c
 fl:∀i f,i∈W.cl->f∈i.flds->FlV X.K i.name f
 mt:∀c m key n,CI.meth W.cl c m=some (key,n)->MtV X.prog X.w X.K X.mg X.base (CX1 X.prog X.w) k c m n (W.Φ key)
 fn:∀x n,m.g.G.lookup x=some (.fn n)->FnV X.prog X.w X.K X.mg X.base (CX1 X.prog X.w) k x n (W.Φ x)
 fnn:m.fn=true->∀x,X.fn x=true
 fp:W.dp=true->∃j,j+1=k/\∀x n,m.g.G.lookup x=some (.fn n)->FnV X.prog X.w X.K X.mg X.base (CX1 X.prog X.w) j x n (W.Ψ x)
 sm:∀x,x∈m.g.sn->FnM X.prog X.w X.K X.mg X.base (CX1 X.prog X.w) k x (W.Ms x)
 sc:W.dp=true->∀f a b g,(f,a,b,g)∈m.g.cl->FnC X.prog X.w X.K X.mg X.base (CX1 X.prog X.w) k f a b/\rS X.K f a b g
 cd:m.q="" \/ (PySem.W.codeIn X.K X.env.code m.q=true/\X.env.qual=m.q ++ ".<locals>.")
section
variable {W:WD}{x y:Expr}
def SX.gl(S:SX k W m C X){v:GV}(h:m.glob z v=true):Gl X z/\m.g.G.lookup z=some v/\(z==("__debug__":Str))=false/\z ≠ "__name__" := by
 unfold MC.glob MC.kind at h;simp only[aSI,aRK,aVP]at h;obtain⟨⟨⟨h1,h2⟩,h3⟩,h4⟩:=h;refine⟨?_,h2,by simpa using h3,h4⟩
 show X.env.scope.names.lookup z=_;rw[S.hs];exact h1
theorem SX.vis(S:SX k W m C X)(h:m.vis z=true):Vis X.env.scope z/\(z==("__debug__":Str))=false/\(z==("__classdict__":Str))=false:=by
 unfold MC.vis MC.kind at h;simp only[aSI,aTE,aRK,aVP]at h;obtain⟨⟨h1,h2⟩,h3⟩:=h;refine⟨?_,by simpa using h2,by simpa using h3⟩
 unfold Vis;rw[S.hs];rcases h1 with(h1|h1)|h1
 . exact .inl h1
 . exact .inr (.inl h1)
 . exact .inr (.inr h1)
def aLU(b:Bn):bootBuiltins b.name=some (.builtin b.id):=by
 cases b
 . exact aHG
 . exact aHH
 . exact aH4
def aLV(b:Bn){c:Bool}(hc:c=true->X.calm=true)(h:(c||b == .len||b == .isinstance)=true):dR X (.builtin b.id) b.f:=by
 have hc:(b == .len||b == .isinstance)=false->X.calm=true:=λz=>hc (by cases c with|true=>rfl|false=>rw[Bool.false_or]at h;rw[h]at z;cases z)
 cases b
 . exact aGL
 . exact aGN
 . exact aH1 (hc rfl)
def aLW{f:aV3}:dR X f (λ_=>none):=⟨λ_ _ _=>False,λ_ _ _ _ _ _ _ _ _ h=>h.elim,λ_ _ _ _ _ _ _ _ _ e _=>by cases e⟩
def aLX(t:Ty):dR X (.type t.id) t.f:=by
 cases t
 . exact aIM
 . exact aLW
 . exact aH3
 . exact aHY
 . exact aHZ
 . exact aIY
def zN(t:Ty):bootBuiltins (t.id:Str)=some (.type t.id):=by
 cases t
 . exact aHI
 . exact aHJ
 . exact aHK
 . exact aHL
 . exact aHM
 . exact aHN
def aLY(op:Operator):(∃φ,bJ op=φ/\OpD C X (binaryOp op) φ)\/bJ op=noF:=by
 cases op
 case Add=>exact .inl ⟨_,rfl,o_add.or aHX⟩
 case Sub=>exact .inl ⟨_,rfl,aFR⟩
 case Mult=>exact .inl ⟨_,rfl,o_mul.or iK⟩
 case Mod=>exact .inl ⟨_,rfl,aFU⟩
 case FloorDiv=>exact .inl ⟨_,rfl,aFW⟩
 case Pow=>exact .inl ⟨_,rfl,aFX⟩
 all_goals exact .inr rfl
def zO:IsB (eqN neg):=λm x n y k d e=>by
 unfold eqN at e;split at e
 . rename_i ka kb;cases eh:fL kb ka with
   |none=>rw[eh]at e;cases e
   |some r=>rw[eh]at e;cases e;exact⟨_,rfl,rfl⟩
 . cases e
def lQ:IsB noK:=λ_ _ _ _ _ _ z=>by cases z
def aLZ(op:CmpOp)(hu:X.A.units+64<cLine):(OpD C X (compareOp op) (bM op)/\IsB (bM op))\/bM op=noF:=by
 cases op
 case Lt=>exact .inl ⟨aFY.or iK,k8 nM lQ⟩
 case LtE=>exact .inl ⟨aFZ,nM⟩
 case Gt=>exact .inl ⟨aF0,nM⟩
 case GtE=>exact .inl ⟨aF1,nM⟩
 case Eq=>exact .inl ⟨o_eq hu,k8 wV lQ⟩
 case NotEq=>exact .inl ⟨o_ne hu,k8 wV lQ⟩
 case In=>exact .inl ⟨aF4.or iK,k8 wU lQ⟩
 case NotIn=>exact .inl ⟨aF5.or iK,k8 wU lQ⟩
 case Is=>exact .inl ⟨aHT,wX⟩
 case IsNot=>exact .inl ⟨aHU,wX⟩
def zP{f:aV3->aV3->Sem aV3}:OpD C X f noF:=⟨λ_ _ _ _=>False,λ_ _ _ _ _ _ _ _ _ _ _ _ h=>h.elim,λ_ _ _ _ _ _ _ _ _ _ _ _ _ _ e _=>by cases e⟩
def aL0(op:Operator):OpD C X (binaryOp op) (bJ op):=by
 rcases aLY (C:=C) (X:=X) op with⟨φ,e,h⟩|e
 . rw[e];exact h
 . rw[e];exact zP
def r6(op:CmpOp)(hu:X.A.units+64<cLine):OpD C X (compareOp op) (bM op)/\IsB (bM op):=by
 rcases aLZ (C:=C) op hu with h|e
 . exact h
 . rw[e];exact⟨zP,λ_ _ _ _ _ _ z=>by cases z⟩
def j4(op:CmpOp)(h:gR e=true):behindInMarks op e=false:=by cases e <;> first|rfl|cases h
def r8(h:gR e=true):∀v,foldedSetIterable e env v=pure v:=by intro v;cases e <;> first|rfl|cases h
def zQ(h:rZ e=true):m7 e:=by intro o i;cases e <;> first|rfl|cases h
def aL1(h:zM e=true):∀whole,isTrue e env whole=(do let v <- whole;standAt e.pos;holding [v] (truthy v)):=by
 intro whole;cases e
 case UnaryOp op _ _=>cases op <;> first|rfl|cases h
 all_goals first|rfl|cases h
theorem SX.sub(S:SX k W m C X)(cl:List (Str×Addr))(A:Addr)(fp:List Addr)(s3:aV4)(H3:Hp):SX k W (m.sub scope aL tgN) C.nox (bE X scope (aL++tgN) cl A fp s3 H3):=by
 refine⟨rfl,?_,S.cm,S.rm,S.un,λ_ aA σ H s e s' I h=>?_,S.xt,S.xi,S.xc,S.xn,S.con,S.no,S.mk0,S.mki,S.iso,S.fl,S.mt,S.fn,(λz=>by cases z),S.fp,S.sm,S.sc,.inl rfl⟩
 rotate_left
 . obtain⟨_,_,_,_,_,_,_,_,_,_,_,_,z⟩:=h;exact z.elim
 show(compEnvC scope cl A X.env).scope=_;unfold MC.sub;rw[<- S.hs];rfl
theorem SX.loc(S:SX k W m C X)(h:m.loc i z=true):X.N[i]? = some z/\L2.Loc X.env.scope z/\(X.fn z=true\/X.env.scope.names.lookup z=some .local):=by
 unfold MC.loc MC.kind at h;simp only[aSI,aTE,aRK]at h;refine⟨by rw[S.hN];exact h.1,?_,?_⟩
 . unfold L2.Loc;rw[S.hs];rcases h.2 with q|q
   . exact .inl q
   . exact .inr q.2
 . rw[S.hs];rcases h.2 with q|q
   . exact .inr q
   . exact .inl (S.fnn q.1 z)
def zR:PV C X e (λ_=>.stuck):=λaA s σ H Q I h=>by rw[aQ]at h;obtain⟨_,_,_,w⟩:=h;exact w.elim
mutual
theorem sG(S:SX k W m C X)(hN:m.N.Nodup):∀(t:Tg) {e:Expr},mG m t e=true->PGw X e t
 |.nm i,e,h=>by
  simp only[mG]at h;split at h
  . obtain⟨a,b,c⟩:=S.loc h;exact aIB (by rw[S.hN];exact hN) a b c
  . cases h
 |.tp ts,e,h=>by
  simp only[mG]at h;split at h
  . rw[aSI,aSI,aU9]at h;obtain⟨p,l⟩:=sGs S hN ts h.2 h.1.2;exact aIF (S.cm h.1.1) p h.1.2 l
  . cases h
theorem sGs(S:SX k W m C X)(hN:m.N.Nodup):∀(ts:List Tg) {es:List Expr},mGs m ts es=true->(∀e∈es,jP e=true)->iM X es ts/\es.length=ts.length
 |[],[],h,_=>⟨aIC,rfl⟩
 |[],_::_,h,_=>by simp[mGs]at h
 |t::ts,[],h,_=>by simp[mGs]at h
 |t::ts,e::es,h,hs=>by simp only[mGs,aSI]at h;obtain⟨p,l⟩:=sGs S hN ts h.2 λx hx=>hs x (mcm hx);exact⟨aID (sG S hN t h.1) p (hs e mcs),by rw[aSQ,aSQ,l]⟩
end
end
def aL2:PV C X e (λ_=>.stuck):=λaA s σ H Q I q=>by rw[aQ]at q;obtain⟨ρ,F,R,w⟩:=q;exact w.elim
abbrev PE(m:MC)(f:E)(e:Expr):Prop:=∀{k:Nat}{W:WD}{C:Cw}{X:Cx},SX k W m C X->PV C X e (evE W f)
abbrev PTE(m:MC)(f:E)(e:Expr):Prop:=∀{k:Nat}{W:WD}{C:Cw}{X:Cx},SX k W m C X->PTv C X e (evE W f)
abbrev PIE(m:MC)(tg:Expr)(f:E)(e:Expr):Prop:=∀{k:Nat}{W:WD}{C:Cw}{X:Cx},SX k W m C X->PIv C X tg e (evE W f)
inductive dL(m:MC):List E->List Expr->Prop
 |nil:dL m [] []
 |cons {f fs x xs:_}:bX x=true->PE m f x->dL m fs xs->dL m (f::fs) (x::xs)
inductive eY(m:MC):List E->List Expr->Prop
 |nil:eY m [] []
 |cons {f fs x xs:_}:PTE m f x->eY m fs xs->eY m (f::fs) (x::xs)
abbrev CkE(m:MC)(f:E)(e:Expr):Type:=Option (PLift (PE m f e))
abbrev CkT(m:MC)(f:E)(e:Expr):Type:=Option (PLift (PTE m f e))
abbrev CkI(m:MC)(tg:Expr)(f:E)(e:Expr):Type:=Option (PLift (PIE m tg f e))
abbrev dM(m:MC)(f:List E)(e:List Expr):Type:=Option (PLift (dL m f e))
abbrev CkF(m:MC)(f:List E)(e:List Expr):Type:=Option (PLift (eY m f e))
abbrev CkO(m:MC)(f:Option E)(e:Option Expr):Type:=Option (PLift (∀{k:Nat}{W:WD}{C:Cw}{X:Cx},SX k W m C X->POv C X e (evO W f)))
def got{P:Prop}:∀{o:Option (PLift P)},o.isSome=true->P
 |some p,_=>p.down
 |none,h=>nomatch h
section
variable {W:WD}
theorem dL.star:∀{fs:List E}{es:List Expr},dL m fs es->∀x∈es,bX x=true
 |_,_,.nil=>λx hx=>by cases hx
 |_,_,.cons s _ q=>λx hx=>by
  rcases aQU.mp hx with rfl|hx
  . exact s
  . exact q.star x hx
theorem dL.es(S:SX k W m C X):∀{fs:List E}{es:List Expr},dL m fs es->PAv C X es (bK W fs)
 |_,_,.nil=>by simp only[bK];exact kZ
 |_,_,.cons s p q=>by simp only[bK];exact gJ (p S) (q.es S) (bU s)
theorem dL.l(S:SX k W m C X):∀{fs:List E}{es:List Expr},dL m fs es->PVL C X es (evL W fs)
 |_,_,.nil=>by simp only[evL];exact .nil
 |_,_,.cons s p q=>by simp only[evL];exact .cons (p S) (q.l S)
theorem dL.a{pos:Pos}(S:SX k W m C X):∀{fs:List E}{es:List Expr},dL m fs es->PV C X (.BoolOp .And es pos) (evA W fs)
 |_,_,.nil=>λaA s σ H Q I q=>by rw[aQ]at q;obtain⟨ρ,F,R,w⟩:=q;exact w.elim
 |_,_,.cons s p .nil=>by simp only[evA];exact wD (p S)
 |_,_,.cons s p (.cons s' p' q)=>by simp only[evA];exact aGB (p S) (dL.a S (.cons s' p' q))
theorem dL.o{pos:Pos}(S:SX k W m C X):∀{fs:List E}{es:List Expr},dL m fs es->PV C X (.BoolOp .Or es pos) (dJ W fs)
 |_,_,.nil=>λaA s σ H Q I q=>by rw[aQ]at q;obtain⟨ρ,F,R,w⟩:=q;exact w.elim
 |_,_,.cons s p .nil=>by simp only[dJ];exact wD (p S)
 |_,_,.cons s p (.cons s' p' q)=>by simp only[dJ];exact aGC (p S) (dL.o S (.cons s' p' q))
theorem eY.a{pos:Pos}(S:SX k W m C X):∀{fs:List E}{es:List Expr},eY m fs es->PWv C X (.BoolOp .And es pos) (evA W fs)
 |_,_,.nil=>λwhole aA s σ H Q I q=>by obtain⟨ρ,F,R,w⟩:=q;exact w.elim
 |_,_,.cons p .nil=>by simp only[evA];exact wB (p S)
 |_,_,.cons p (.cons p' q)=>by simp only[evA];exact aF9 (p S) (eY.a S (.cons p' q))
theorem eY.o{pos:Pos}(S:SX k W m C X):∀{fs:List E}{es:List Expr},eY m fs es->PWv C X (.BoolOp .Or es pos) (dJ W fs)
 |_,_,.nil=>λwhole aA s σ H Q I q=>by obtain⟨ρ,F,R,w⟩:=q;exact w.elim
 |_,_,.cons p .nil=>by simp only[dJ];exact wB (p S)
 |_,_,.cons p (.cons p' q)=>by simp only[dJ];exact aGA (p S) (eY.o S (.cons p' q))
theorem eY.f(S:SX k W m C X):∀{fs:List E}{es:List Expr},eY m fs es->dU X es (tT (C.at X) (evF W fs))
 |_,_,.nil=>by
  have:evF W []=λ_=>.ok .fz (.bl true):=by funext ρ;simp only[evF]
  rw[this];exact aHA
 |f::fs,_,.cons p q=>by
  have:evF W (f::fs)=λρ=>eR (evE W f ρ) (evF W fs ρ):=by funext ρ;simp only[evF]
  rw[this];exact aHB (p S) (q.f S)
section
variable {fs:List E}{es:List Expr}{r:dM m fs es}{t:CkF m fs es}
def gSt(h:r.isSome=true):∀x∈es,bX x=true:=(got h).star
def gEs(h:r.isSome=true)(S:SX k W m C X):PAv C X es (bK W fs):=(got h).es S
def gL(h:r.isSome=true)(S:SX k W m C X):PVL C X es (evL W fs):=(got h).l S
def gA(h:r.isSome=true)(S:SX k W m C X):PV C X (.BoolOp .And es pos) (evA W fs):=(got h).a S
def gOr(h:r.isSome=true)(S:SX k W m C X):PV C X (.BoolOp .Or es pos) (dJ W fs):=(got h).o S
def gWA(h:t.isSome=true)(S:SX k W m C X):PWv C X (.BoolOp .And es pos) (evA W fs):=(got h).a S
def gWO(h:t.isSome=true)(S:SX k W m C X):PWv C X (.BoolOp .Or es pos) (dJ W fs):=(got h).o S
def gF(h:t.isSome=true)(S:SX k W m C X):dU X es (tT (C.at X) (evF W fs)):=(got h).f S
end
end
def aL3:PTv C X e (λ_=>.stuck):=by intro aA s σ H Q I q;obtain⟨ρ,F,R,w⟩:=q;exact w.elim
def aL4:PIv C X tg e (λ_=>.stuck):=by intro aA s σ H R I q;obtain⟨ρ,F,RS,w⟩:=q;exact w.elim
noncomputable def aL5{a e:_}(r1:CkE m a e):CkE m (.frz a) e:=if h:r1.isSome=true then some ⟨λS=>fW (got h S)⟩else none
noncomputable def aL6{a e:_}(r1:CkE m a e):CkT m (.tru a) e:=if h:(zM e&&r1.isSome)=true then some ⟨λS=>by
 simp only[aSI]at h;exact aF7 (got h.2 S) (aL1 h.1)⟩else none
noncomputable def aL7{tg a e:_}(r1:CkE m a e):CkI m tg (.items a) e:=if h:r1.isSome=true then some ⟨λS=>aG0 (got h S)⟩else none
noncomputable def aL8{tg a e:_}(r1:CkE m a e):CkI m tg (.nkeys a) e:=if h:r1.isSome=true then some ⟨λS=>aKZ (got h S)⟩else none
noncomputable def aL9{i:_}{x:_}{p1:_}:CkE m (.var i) (.Name x p1):=if h:(m.N[i]?==some x&&m.vis x)=true then some ⟨λS=>by
 simp only[aSI,aRK]at h;obtain⟨h1,h2,h3⟩:=S.vis h.2
 exact v9 i (gX (by rw[S.hN];exact h.1) h1 h2 h3)⟩else none
noncomputable def aMA{y:_}{c:_}{x:_}{p1:_}:CkE m (.glob y c) (.Name x p1):=if h:(x==y&&m.glob x (.con c)&&strK' c)=true then some ⟨λS=>by
 simp only[aSI,aRK]at h;obtain⟨⟨rfl,h1⟩,h2⟩:=h;obtain⟨g,l,hd,hn⟩:=S.gl h1;have:=S.con _ _ l;cases c with
 |s y=>obtain⟨t,ht⟩:=this;exact aGO g ht h2 hd
 |i n=>obtain⟨t,ht⟩:=this;exact aGP g ht hd
 |t tb=>cases h2⟩else none
noncomputable def kE_ty{t:_}{x:_}{p1:_}:CkE m (.ty t) (.Name x p1):=if h:(x==(t.id:Str)&&m.glob x .no)=true then some ⟨λS=>by
 simp only[aSI,aRK]at h;obtain⟨rfl,h1⟩:=h;obtain⟨g,l,hd,hn⟩:=S.gl h1;exact pv_ty g (S.no _ l) (zN t) hn hd⟩else none
noncomputable def aMB{p0}{p1:_}:CkE m (.non) (.Constant .none p0 p1):=if h:(true)=true then some ⟨λS=>by
 exact aFO⟩else none
noncomputable def kE_bl{c:_}{b:_}{p1:_}{p2:_}:CkE m (.bl c) (.Constant (.bool b) p1 p2):=if h:(b==c)=true then some ⟨λS=>by
 simp only[aRK]at h;subst h;exact pv_bl⟩else none
noncomputable def aMC{c:_}{b:_}{p1:_}{p2:_}:CkE m (.int c) (.Constant (.int b) p1 p2):=if h:(b==c)=true then some ⟨λS=>by
 simp only[aRK]at h;subst h;exact aFN⟩else none
noncomputable def aMD{c:_}{b:_}{p1:_}{p2:_}:CkE m (.str c) (.Constant (.str b) p1 p2):=if h:(b==c&&strK b)=true then some ⟨λS=>by
 simp only[aSI,aRK]at h;obtain⟨rfl,h⟩:=h;exact aFP h⟩else none
noncomputable def aME{op}{a}{b:_}{x:_}{o}{y:_}{p3}(r1:CkE m a x)(r2:CkE m b y):CkE m (.bin op a b) (.BinOp x o y p3):=if h:(o==op&&(r1.isSome&&r2.isSome))=true then some ⟨λS=>by
 simp only[aSI,aRK]at h;obtain⟨rfl,h1,h2⟩:=h;exact pv_op (aL0 _) (got h1 S) (got h2 S)⟩else none
noncomputable def aMF{op}{a}{b:_}{x:_}{o}{y:_}{p3}(r1:CkE m a x)(r2:CkE m b y):CkE m (.cmp op a b) (.Compare x [o] [y] p3):=if h:(o==op&&gR y&&(r1.isSome&&r2.isSome))=true then some ⟨λS=>by
 simp only[aSI,aRK]at h;obtain⟨⟨rfl,hs⟩,h1,h2⟩:=h;exact pV (r6 _ S.un).1 (got h1 S) (got h2 S) (j4 _ hs)⟩else none
noncomputable def aMG{es}{xs:_}{p1:_}(r1:dM m es xs):CkE m (.andL es) (.BoolOp .And xs p1):=if h:(r1.isSome)=true then some ⟨λS=>by
 exact gA h S⟩else none
noncomputable def aMH{es}{xs:_}{p1:_}(r1:dM m es xs):CkE m (.orL es) (.BoolOp .Or xs p1):=if h:(r1.isSome)=true then some ⟨λS=>by
 exact gOr h S⟩else none
noncomputable def aMI{a}{x:_}{p1:_}(r1:CkE m a x):CkE m (.not a) (.UnaryOp .Not x p1):=if h:(r1.isSome)=true then some ⟨λS=>by
 exact aGD (got h S)⟩else none
noncomputable def aMJ{a}{x:_}{p1:_}(r1:CkE m a x):CkE m (.neg a) (.UnaryOp .USub x p1):=if h:(r1.isSome)=true then some ⟨λS=>by
 exact aGE (got h S)⟩else none
noncomputable def aMK{a}{l}{u:_}{x:_}{lo:_}{hi:_}{p3}{p4}(r1:CkE m a x)(r2:CkO m l lo)(r3:CkO m u hi):CkE m (.slice a l u) (.Subscript x (.Slice lo hi none p3) p4):=if h:(r1.isSome&&(r2.isSome&&r3.isSome))=true then some ⟨λS=>by
 simp only[aSI]at h;obtain⟨h0,h1,h2⟩:=h;exact aIV (got h0 S) (got h1 S) (got h2 S)⟩else none
noncomputable def kE_ix{a}{b:_}{x:_}{y:_}{p2:_}(r1:CkE m a x)(r2:CkE m b y):CkE m (.ix a b) (.Subscript x y p2):=if h:(rZ y&&(r1.isSome&&r2.isSome))=true then some ⟨λS=>by
 simp only[aSI]at h;obtain⟨h0,h1,h2⟩:=h;exact pv_ix (got h1 S) (got h2 S) (zQ h0)⟩else none
noncomputable def aML{es}{es0}{p1:_}{p2:_}(r1:dM m es es0):CkE m (.tup es) (.Tuple es0 p1 p2):=if h:(r1.isSome)=true then some ⟨λS=>by
 exact aGJ (gEs h S)⟩else none
noncomputable def aMM{es}{es0}{p1:_}(r1:dM m es es0):CkE m (.lst es) (.List es0 p1):=if h:(r1.isSome)=true then some ⟨λS=>by
 exact aGK (gEs h S)⟩else none
noncomputable def aMN{g:_}{n:_}{es}{f}{p:_}{x:_}{xs:_}{cp:_}(r1:dM m es (x::xs)):CkE m (.call g n es) (.Call (.Name f p) (x::xs) [] cp):=if h:(m.calm&&f==g&&m.glob f (.fn n)&&r1.isSome)=true then some ⟨λS=>by
 simp only[aSI,aRK]at h;obtain⟨⟨⟨hq,rfl⟩,h1⟩,h2⟩:=h;obtain⟨gl,l,hd,hn⟩:=S.gl h1;have st:=gSt h2;exact wR (S.fn _ _ l) (S.rm hq) (S.xo hq) gl (gEs h2 S) hd (bU (st x mcs)) (iL _ _ λy hy=>st y (mcm hy))⟩else none
noncomputable def aMO{b:_}{es}{f}{p:_}{x:_}{xs:_}{cp:_}(r1:dM m es (x::xs)):CkE m (.bcall b es) (.Call (.Name f p) (x::xs) [] cp):=if h:((m.calm||b == .len||b == .isinstance)&&f==b.name&&m.glob f .no&&r1.isSome)=true then some ⟨λS=>by
 rw[aSI,aSI,aSI]at h;obtain⟨⟨⟨hq,hz⟩,h1⟩,h2⟩:=h;cases(aRK.mp hz);obtain⟨gl,l,hd,hn⟩:=S.gl h1;have st:=gSt h2;exact wH (aLV b S.cm hq) gl (S.no _ l) (aLU b) (gEs h2 S) hn hd (bU (st x mcs)) (iL _ _ λy hy=>st y (mcm hy))⟩else none
noncomputable def aMP{t:_}{es}{f}{p1:_}{x:_}{xs:_}{p4}(r1:dM m es (x::xs)):CkE m (.tcall t es) (.Call (.Name f p1) (x::xs) [] p4):=if h:(f==(t.id:Str)&&m.glob f .no&&r1.isSome)=true then some ⟨λS=>by
 simp only[aSI,aRK]at h;obtain⟨⟨rfl,h1⟩,h2⟩:=h;obtain⟨gl,l,hd,hn⟩:=S.gl h1;exact aH5 (aLX t) gl (S.no _ l) (zN t) (gEs h2 S) hn hd (gSt h2)⟩else none
noncomputable def aMQ{a}{f}{es}{o}{g:_}{ap:_}{xs:_}{cp:_}(r1:CkE m a o)(r2:dM m es xs):CkE m (.meth a f es) (.Call (.Attribute o g ap) xs [] cp):=if h:(m.calm&&g==f&&ap.endLine==cp.line&&decide (xs.length<30)&&jN o&&(r1.isSome&&r2.isSome))=true then some ⟨λS=>by
 simp only[aSI,aRK,aTC]at h;obtain⟨⟨⟨⟨⟨hq,rfl⟩,h1⟩,h2⟩,h3⟩,h4,h5⟩:=h;exact aHP S.mt (S.rm hq) (S.xo hq) (got h4 S) (gEs h5 S) h3 (gSt h5) h2 h1 λe0=>by
  subst e0;cases es with
  |nil=>funext ρ;simp only[bK]
  |cons _ _=>cases got h5⟩else none
noncomputable def aMR{c:_}{f}{p1:_}{p2:_}:CkE m (.mk0 c) (.Call (.Name f p1) [] [] p2):=if h:(f==c&&m.glob f .cls&&m.g.mk0.contains f)=true then some ⟨λS=>by
 simp only[aSI,aRK,aVQ]at h;obtain⟨⟨rfl,h1⟩,h2⟩:=h;obtain⟨gl,l,hd,hn⟩:=S.gl h1;exact aHS (S.mk0 _ h2) gl hd⟩else none
noncomputable def aMS{p0}:CkE m (.dnew) (.Dict [] [] p0):=if h:(true)=true then some ⟨λS=>by
 exact aIW⟩else none
noncomputable def aMT{neg:_}{a}{b:_}{x:_}{o}{y:_}{p3}(r1:CkE m a x)(r2:CkE m b y):CkE m (.deq neg a b) (.Compare x [o] [y] p3):=if h:(o==(if neg then .NotEq else .Eq)&&gR y&&(r1.isSome&&r2.isSome))=true then some ⟨λS=>by
 simp only[aSI,aRK]at h;obtain⟨⟨ho,hs⟩,h1,h2⟩:=h;cases neg with
 |false=>cases(show _=CmpOp.Eq from ho);exact pV (xC S.un) (got h1 S) (got h2 S) (j4 _ hs)
 |true=>cases(show _=CmpOp.NotEq from ho);exact pV (xD S.un) (got h1 S) (got h2 S) (j4 _ hs)⟩else none
noncomputable def aMU{el}{it:_}{ts}{aF:_}{t:_}{n:_}{elt:_}{tg:_}{aU:_}{ifs:_}{scope:_}{cp:_}(r1:CkI m tg it aU)(r2:CkE (m.sub scope (aF.filterMap λi=>m.N[i]?) (fN 4 tg)) el elt)(r3:CkF (m.sub scope (aF.filterMap λi=>m.N[i]?) (fN 4 tg)) ts ifs):CkE m (.comp el it ts aF t n) (.ListComp elt [⟨tg,aU,ifs,0⟩] scope cp):=if h:(m.calm&&oC scope m.sc m.N aF (aF.filterMap λi=>m.N[i]?) (fN 4 tg)&&gR aU&&decide ((fN 4 tg).length=n)&&(fJ t).all (λj=>decide (aF.length<=j))&&mG (m.sub scope (aF.filterMap λi=>m.N[i]?) (fN 4 tg)) t tg&&(r1.isSome&&(r2.isSome&&r3.isSome)))=true then some ⟨λ{k}{W}{C}{X} S=>by
 simp only[aSI,aTC,aU9]at h;obtain⟨⟨⟨⟨⟨⟨hq,ho⟩,hn⟩,hl⟩,hs⟩,hg⟩,h1,h2,h3⟩:=h;unfold oC at ho;simp only[aSI,aU9,aTE,aVP,aRK,aTC,aVQ]at ho;obtain⟨⟨⟨⟨⟨⟨⟨g1,g2⟩,g3⟩,g4⟩,g5⟩,g6⟩,g7⟩,g8⟩:=ho;have er:(relabel scope X.env).names=k9 scope m.sc:=by rw[<- S.hs];rfl
 have := aII (pos := cp) (tgN := fN 4 tg) (t := t) (S.cm hq) (got h1 S) g1 g2 (fun y hy e => (g3 y hy).resolve_left fun z => z e) (fun y hy e => by
     have:=g4 y hy;show X.env.scope.names.lookup y.1=_\/X.env.scope.names.lookup y.1=_;rw[S.hs];rcases this with(z|z)|z
     . exact absurd e z
     . exact .inl z
     . exact .inr z) (by rw[S.hN];exact g5) g6 (λy hy=>by rw[er];exact g7 y hy) (λj hj=>hs j hj) (λcl A fp s3 H3=>sG (S.sub cl A fp s3 H3) g8 t hg)
     (λcl A fp s3 H3=>gF h3 (S.sub cl A fp s3 H3)) (λcl A fp s3 H3=>got h2 (S.sub cl A fp s3 H3)) (r8 hn)
 rw[hl]at this;exact this⟩else none
noncomputable def aMV{p0}:CkE m (.nnew) (.Dict [] [] p0):=if h:(true)=true then some ⟨λS=>by
 exact aKB⟩else none
noncomputable def aMW{a}{b:_}{x:_}{y:_}{p2:_}(r1:CkE m a x)(r2:CkE m b y):CkE m (.nix a b) (.Subscript x y p2):=if h:(rZ y&&(r1.isSome&&r2.isSome))=true then some ⟨λS=>by
 simp only[aSI]at h;obtain⟨h0,h1,h2⟩:=h;exact aKC S.un (got h1 S) (got h2 S) (zQ h0)⟩else none
noncomputable def aMX{a}{b:_}{d}{o}{f}{ap:_}{x:_}{y:_}{cp:_}(r1:CkE m a o)(r2:CkE m b x)(r3:CkE m d y):CkE m (.nget a b d) (.Call (.Attribute o f ap) [x,y] [] cp):=if h:(f == "get" && ap.endLine==cp.line&&jN o&&bX x&&bX y&&(r1.isSome&&(r2.isSome&&r3.isSome)))=true then some ⟨λS=>by
 simp only[aSI,aRK]at h;obtain⟨⟨⟨⟨⟨rfl,hl⟩,hc⟩,hs⟩,hs2⟩,h1,h2,h3⟩:=h;exact aKE S.un (got h1 S) (got h2 S) (got h3 S) ⟨nN hc,by
  rw[lA _ _ (λz hz=>by
   simp only[aQU,aT1,aT2]at hz;rcases hz with rfl|rfl
   . exact hs
   . exact hs2)];rfl,aRK.mpr hl,by rw[bU hs,bU hs2];rfl⟩⟩else none
noncomputable def aMY{a}{f}{p1:_}{x:_}{p3}(r1:CkE m a x):CkE m (.srtw a) (.Call (.Name f p1) [x] [] p3):=if h:(f == "sorted" && m.glob f .no&&bX x&&r1.isSome)=true then some ⟨λS=>by
 simp only[aSI,aRK]at h;obtain⟨⟨⟨rfl,h1⟩,hs⟩,h2⟩:=h;obtain⟨gl,l,hd,hn⟩:=S.gl h1;exact wH (aKT S.un) gl (S.no _ l) xN (gJ (got h2 S) kZ (bU hs)) hn hd (bU hs) rfl⟩else none
noncomputable def aMZ{a}{f}{p1:_}{g:_}{p3}{x:_}{p5}{p6}(r1:CkE m a x):CkE m (.us2 a) (.Call (.Name f p1) [.Call (.Name g p3) [x] [] p5] [] p6):=if h:(m.calm&&f == "sorted" && g == "set" && m.glob f .no&&m.glob g .no&&bX x&&r1.isSome)=true then some ⟨λS=>by
 simp only[aSI,aRK]at h;obtain⟨⟨⟨⟨⟨⟨hq,rfl⟩,rfl⟩,h1⟩,h2⟩,s1⟩,h3⟩:=h;obtain⟨gl,l,hd,hn⟩:=S.gl h1;obtain⟨gl',l',hd',hn'⟩:=S.gl h2;exact aLE S.un (S.cm hq) gl (S.no _ l) gl' (S.no _ l') (got h3 S) s1⟩else none
noncomputable def aM0{f a b:_}{es}{f' p x xs cp:_}(r1:dM m es (x::xs)):CkE m (.mkc f a b es) (.Call (.Name f' p) (x::xs) [] cp):=if h:(m.calm&&f'==f&&m.glob f' (.fn 2)&&m.g.cl.any (λz=>z.1==f&&z.2.1==a&&z.2.2.1==b)&&r1.isSome)=true then some ⟨λ{k}{W}{C}{X} S=>by
 simp only[aSI,aRK]at h;obtain⟨⟨⟨⟨hq,rfl⟩,h1⟩,hs⟩,h2⟩:=h;obtain⟨gl,l,hd,_⟩:=S.gl h1;have st:=gSt h2;obtain⟨⟨f1,a1,b1,g1⟩,hz,he⟩:=aVR.mp hs;simp only[aSI,aRK]at he;obtain⟨⟨rfl,rfl⟩,rfl⟩:=he;cases hdp:W.dp with
 |false=>rw[show evE W (.mkc f1 a1 b1 es)=λ_=>.stuck by funext ρ;show(if W.dp=true then _ else _)=_;rw[hdp];rfl];exact zR
 |true =>
  rw[show evE W (.mkc f1 a1 b1 es)=λρ=>iV f1 a1 b1 (bK W es ρ) by funext ρ;show(if W.dp=true then _ else _)=_;rw[hdp];rfl]
  exact aLK (S.sc hdp _ _ _ _ hz).1 (S.rm hq) (S.xo hq) gl (gEs h2 S) hd (bU (st x mcs)) (iL _ _ λy hy=>st y (mcm hy))⟩else none
noncomputable def aM1{f a b g i:_}{es}{f' p x cp:_}(r1:dM m es [x]):CkE m (.ccl f a b g i es) (.Call (.Name f' p) [x] [] cp):=if h:(m.calm&&m.N[i]?==some f'&&m.vis f'&&m.g.cl.contains (f,a,b,g)&&m.g.G.lookup g==some (.fn 3)&&r1.isSome)=true then some ⟨λ{k}{W}{C}{X} S=>by
 simp only[aSI,aRK]at h;obtain⟨⟨⟨⟨⟨hq,h1⟩,hv⟩,hs⟩,hg⟩,h2⟩:=h;obtain⟨v1,v2,v3⟩:=S.vis hv;have st:=gSt h2;cases hdp:W.dp with
 |false=>rw[show evE W (.ccl f a b g i es)=λ_=>.stuck by funext ρ;show(if W.dp=true then _ else _)=_;rw[hdp];rfl];exact zR
 |true =>
  rw[show evE W (.ccl f a b g i es)=λρ=>iW f a b (W.Ψ g) (cM ρ i) (bK W es ρ) by funext ρ;show(if W.dp=true then _ else _)=_;rw[hdp];rfl]
  obtain⟨j,hj,fp⟩:=S.fp hdp
  exact aLL (S.sc hdp _ _ _ _ (aVQ.mp hs)).2 (fp g 3 hg) (by rw[hj];exact S.rm hq) (gX (by rw[S.hN];exact h1) v1 v2 v3) (gEs h2 S) (bU (st x mcs))⟩else none
noncomputable def r9(N ps:List Str)(sc:Scope):Bool:=sc.kind == .function&&!sc.isCoroutine&&!sc.isGenerator&&decide N.Nodup&&(N.take ps.length==ps)&&ps.all (λx=>sc.names.lookup x==some .local||sc.names.lookup x==some .cell)&&sc.names.all (λy=>y.2 != .free)
def zS{N:List Str}(h:r9 N ps sc=true):jC N ps sc:=by unfold r9 at h;simp only[aSI,aU9,aTE,aVP,aRK,aTC,aUU]at h;obtain⟨⟨⟨⟨⟨⟨h1,h2⟩,h3⟩,h4⟩,h5⟩,h6⟩,h7⟩:=h;exact⟨h1,h2,h3,h4,h5,h6,h7⟩
noncomputable def aM2{a}{b:_}{d}{o}{f}{ap:_}{x:_}{y:_}{cp:_}(r1:CkE m a o)(r2:CkE m b x)(r3:CkE m d y):CkE m (.dget a b d) (.Call (.Attribute o f ap) [x,y] [] cp):=if h:(f == "get" && ap.endLine==cp.line&&jN o&&bX x&&bX y&&(r1.isSome&&(r2.isSome&&r3.isSome)))=true then some ⟨λS=>by
 simp only[aSI,aRK]at h;obtain⟨⟨⟨⟨⟨rfl,hl⟩,hc⟩,hs⟩,hs2⟩,h1,h2,h3⟩:=h
 exact aJR (aVS (Nat.add_le_add_left (by decide:1<=64) _) S.un) (got h1 S) (got h2 S) (got h3 S) ⟨nN hc,by
  rw[lA _ _ (λz hz=>by
   simp only[aQU,aT1,aT2]at hz;rcases hz with rfl|rfl
   . exact hs
   . exact hs2)];rfl,aRK.mpr hl,by rw[bU hs,bU hs2];rfl⟩⟩else none
noncomputable def aM3{ks vs:_}{keys:List (Option Expr)}{p3}(r1:dM m ks (keys.filterMap id))(r2:dM m vs values):CkE m (.disp ks vs) (.Dict keys values p3):=if h:(keys.all (·.isSome)&&decide (keys.length=values.length)&&!keys.isEmpty&&decide (keys.length<=15)&&(r1.isSome&&r2.isSome))=true then some ⟨λS=>by
 simp only[aSI,aTC]at h;obtain⟨⟨⟨⟨h1,h2⟩,h3⟩,h4⟩,h5,h6⟩:=h;exact aJ4 (gL h5 S) (gL h6 S) h1 h2 (λz=>by rw[z]at h3;cases h3) h4⟩else none
noncomputable def aM4{neg:_}{a}{b:_}{x:_}{o}{y:_}{p3}(r1:CkE m a x)(r2:CkE m b y):CkT m (.deq neg a b) (.Compare x [o] [y] p3):=if h:(o==(if neg then .NotEq else .Eq)&&gR y&&(r1.isSome&&r2.isSome))=true then some ⟨λS=>by
 simp only[aSI,aRK]at h;obtain⟨⟨ho,hs⟩,h1,h2⟩:=h;cases neg with
 |false=>cases(show _=CmpOp.Eq from ho);exact pW (xC S.un) zO (got h1 S) (got h2 S) (j4 _ hs)
 |true=>cases(show _=CmpOp.NotEq from ho);exact pW (xD S.un) zO (got h1 S) (got h2 S) (j4 _ hs)⟩else none
noncomputable def aM5{op}{a}{b:_}{x:_}{o}{y:_}{p3}(r1:CkE m a x)(r2:CkE m b y):CkT m (.cmp op a b) (.Compare x [o] [y] p3):=if h:(o==op&&gR y&&(r1.isSome&&r2.isSome))=true then some ⟨λ{k}{W}{C}{X} S=>by
 simp only[aSI,aRK]at h;obtain⟨⟨rfl,hs⟩,h1,h2⟩:=h;exact pW (r6 _ S.un).1 (r6 (C:=C) _ S.un).2 (got h1 S) (got h2 S) (j4 _ hs)⟩else none
noncomputable def aM6{es}{xs:_}{p1:_}(r1:CkF m es xs):CkT m (.andL es) (.BoolOp .And xs p1):=if h:(r1.isSome)=true then some ⟨λS=>by
 exact pt_w (gWA h S)⟩else none
noncomputable def aM7{es}{xs:_}{p1:_}(r1:CkF m es xs):CkT m (.orL es) (.BoolOp .Or xs p1):=if h:(r1.isSome)=true then some ⟨λS=>by
 exact pt_w (gWO h S)⟩else none
noncomputable def aM8{a}{x:_}{p1:_}(r1:CkT m a x):CkT m (.not a) (.UnaryOp .Not x p1):=if h:(r1.isSome)=true then some ⟨λS=>by
 exact aF8 (got h S)⟩else none
noncomputable def aM9{tg0}{a}{f}{p1:_}{x:_}{p3}(r1:CkE m a x):CkI m tg0 (.rng1 a) (.Call (.Name f p1) [x] [] p3):=if h:(f == "range" && m.glob f .no&&bX x&&r1.isSome)=true then some ⟨λS=>by
 simp only[aSI,aRK]at h;obtain⟨⟨⟨rfl,h1⟩,h2⟩,h3⟩:=h;obtain⟨gl,l,hd,hn⟩:=S.gl h1;exact aG2 gl (S.no _ l) (gJ (got h3 S) kZ (bU h2)) (bU h2)⟩else none
noncomputable def aNA{tg0}{a}{b:_}{c:_}{f}{p1:_}{x:_}{y:_}{z:_}{p4}(r1:CkE m a x)(r2:CkE m b y)(r3:CkE m c z):CkI m tg0 (.rng3 a b c) (.Call (.Name f p1) [x,y,z] [] p4):=if h:(f == "range" && m.glob f .no&&bX x&&bX y&&bX z&&(r1.isSome&&(r2.isSome&&r3.isSome)))=true then some ⟨λS=>by
 simp only[aSI,aRK]at h;obtain⟨⟨⟨⟨⟨rfl,h1⟩,h2⟩,h2'⟩,h2''⟩,h3,h4,h5⟩:=h;obtain⟨gl,l,hd,hn⟩:=S.gl h1;exact aJ2 gl (S.no _ l) (gJ (got h3 S) (gJ (got h4 S) (gJ (got h5 S) kZ (bU h2'')) (bU h2')) (bU h2)) (bU h2) (iL _ _ λw hw=>by
  simp only[aQU,aT1,aT2]at hw;rcases hw with rfl|rfl
  . exact h2'
  . exact h2'')⟩else none
noncomputable def kEs{f fs x xs:_}(r1:CkE m f x)(r2:dM m fs xs):dM m (f::fs) (x::xs):=if h:(bX x&&r1.isSome&&r2.isSome)=true then some ⟨by
 simp only[aSI]at h;exact .cons h.1.1 (@got _ r1 h.1.2) (got h.2)⟩else none
noncomputable def kO{f x:_}(r1:CkE m f x):CkO m (some f) (some x):=if h:r1.isSome=true then some ⟨λS=>by simp only[evO];exact got h S⟩else none
noncomputable def kF{f fs x xs:_}(r1:CkT m f x)(r2:CkF m fs xs):CkF m (f::fs) (x::xs):=if h:(r1.isSome&&r2.isSome)=true then some ⟨by
 simp only[aSI]at h;exact .cons (@got _ r1 h.1) (got h.2)⟩else none
set_option maxHeartbeats 4000000 in
mutual
noncomputable def ckE:(m:MC)->(f:E)->(e:Expr)->CkE m f e
 |m,.frz a,e=>aL5 (ckE m a e)
 |m,.never,e=>some ⟨λ_=>aL2⟩
 |m,.var i,e=>match e with|.Name x p1=>aL9|_=>none
 |m,.glob y c,e=>match e with|.Name x p1=>aMA|_=>none
 |m,.ty t,e=>match e with|.Name x p1=>kE_ty|_=>none
 |m,.non,e=>match e with|.Constant .none p0 p1=>aMB|_=>none
 |m,.bl c,e=>match e with|.Constant (.bool b) p1 p2=>kE_bl|_=>none
 |m,.int c,e=>match e with|.Constant (.int b) p1 p2=>aMC|_=>none
 |m,.str c,e=>match e with|.Constant (.str b) p1 p2=>aMD|_=>none
 |m,.bin op a b,e=>match e with|.BinOp x o y p3=>aME (ckE m a x) (ckE m b y)|_=>none
 |m,.cmp op a b,e=>match e with|.Compare x [o] [y] p3=>aMF (ckE m a x) (ckE m b y)|_=>none
 |m,.andL es,e=>match e with|.BoolOp .And xs p1=>aMG (eN m es xs)|_=>none
 |m,.orL es,e=>match e with|.BoolOp .Or xs p1=>aMH (eN m es xs)|_=>none
 |m,.not a,e=>match e with|.UnaryOp .Not x p1=>aMI (ckE m a x)|_=>none
 |m,.neg a,e=>match e with|.UnaryOp .USub x p1=>aMJ (ckE m a x)|_=>none
 |m,.slice a l u,e=>match e with|.Subscript x (.Slice lo hi none p3) p4=>aMK (ckE m a x) (ckO m l lo) (ckO m u hi)|_=>none
 |m,.ix a b,e=>match e with|.Subscript x y p2=>kE_ix (ckE m a x) (ckE m b y)|_=>none
 |m,.tup es,e=>match e with|.Tuple es0 p1 p2=>aML (eN m es es0)|_=>none
 |m,.lst es,e=>match e with|.List es0 p1=>aMM (eN m es es0)|_=>none
 |m,.call g n es,e=>match e with|.Call (.Name f p) (x::xs) [] cp=>aMN (eN m es (x::xs))|_=>none
 |m,.bcall b es,e=>match e with|.Call (.Name f p) (x::xs) [] cp=>aMO (eN m es (x::xs))|_=>none
 |m,.tcall t es,e=>match e with|.Call (.Name f p1) (x::xs) [] p4=>aMP (eN m es (x::xs))|_=>none
 |m,.meth a f es,e=>match e with|.Call (.Attribute o g ap) xs [] cp=>aMQ (ckE m a o) (eN m es xs)|_=>none
 |m,.mk0 c,e=>match e with|.Call (.Name f p1) [] [] p2=>aMR|_=>none
 |m,.dnew,e=>match e with|.Dict [] [] p0=>aMS|_=>none
 |m,.nnew,e=>match e with|.Dict [] [] p0=>aMV|_=>none
 |m,.us2 a,e=>match e with|.Call (.Name f p1) [.Call (.Name g p3) [x] [] p5] [] p6=>aMZ (ckE m a x)|_=>none
 |m,.mkc f a b es,e=>match e with|.Call (.Name f' p) (x::xs) [] cp=>aM0 (eN m es (x::xs))|_=>none
 |m,.ccl f a b g i es,e=>match e with|.Call (.Name f' p) [x] [] cp=>aM1 (eN m es [x])|_=>none
 |m,.srtw a,e=>match e with|.Call (.Name f p1) [x] [] p3=>aMY (ckE m a x)|_=>none
 |m,.deq neg a b,e=>match e with|.Compare x [o] [y] p3=>aMT (ckE m a x) (ckE m b y)|_=>none
 |m,.nix a b,e=>match e with|.Subscript x y p2=>aMW (ckE m a x) (ckE m b y)|_=>none
 |m,.comp el it ts aF t n,e=>match e with|.ListComp elt [⟨tg,aU,ifs,0⟩] scope cp=>aMU (ckI m tg it aU) (ckE (m.sub scope (aF.filterMap λi=>m.N[i]?) (fN 4 tg)) el elt) (ckF (m.sub scope (aF.filterMap λi=>m.N[i]?) (fN 4 tg)) ts ifs)|_=>none
 |m,.dget a b d,e=>match e with|.Call (.Attribute o f ap) [x,y] [] cp=>aM2 (ckE m a o) (ckE m b x) (ckE m d y)|_=>none
 |m,.nget a b d,e=>match e with|.Call (.Attribute o f ap) [x,y] [] cp=>aMX (ckE m a o) (ckE m b x) (ckE m d y)|_=>none
 |m,.disp ks vs,e=>match e with|.Dict keys values p3=>aM3 (eN m ks (keys.filterMap id)) (eN m vs values)|_=>none
 |_,.tru _,_=>none
 |_,.items _,_=>none
 |_,.nkeys _,_=>none
 |_,.rng1 _,_=>none
 |_,.rng3 _ _ _,_=>none
noncomputable def ckT:(m:MC)->(f:E)->(e:Expr)->CkT m f e
 |m,.tru a,e=>aL6 (ckE m a e)
 |m,.never,e=>some ⟨λ_=>aL3⟩
 |m,.deq neg a b,e=>match e with|.Compare x [o] [y] p3=>aM4 (ckE m a x) (ckE m b y)|_=>none
 |m,.cmp op a b,e=>match e with|.Compare x [o] [y] p3=>aM5 (ckE m a x) (ckE m b y)|_=>none
 |m,.andL es,e=>match e with|.BoolOp .And xs p1=>aM6 (ckF m es xs)|_=>none
 |m,.orL es,e=>match e with|.BoolOp .Or xs p1=>aM7 (ckF m es xs)|_=>none
 |m,.not a,e=>match e with|.UnaryOp .Not x p1=>aM8 (ckT m a x)|_=>none
 |_,_,_=>none
noncomputable def ckI:(m:MC)->(tg:Expr)->(f:E)->(e:Expr)->CkI m tg f e
 |m,tg,.items a,e=>aL7 (ckE m a e)
 |m,tg,.nkeys a,e=>aL8 (ckE m a e)
 |m,tg,.never,e=>some ⟨λ_=>aL4⟩
 |m,tg0,.rng1 a,e=>match e with|.Call (.Name f p1) [x] [] p3=>aM9 (ckE m a x)|_=>none
 |m,tg0,.rng3 a b c,e=>match e with|.Call (.Name f p1) [x,y,z] [] p4=>aNA (ckE m a x) (ckE m b y) (ckE m c z)|_=>none
 |_,_,_,_=>none
noncomputable def eN:(m:MC)->(fs:List E)->(es:List Expr)->dM m fs es
 |m,[],es=>match es with|[]=>some ⟨.nil⟩|_=>none
 |m,f::fs,l=>match l with|x::xs=>kEs (ckE m f x) (eN m fs xs)|_=>none
noncomputable def ckO:(m:MC)->(f:Option E)->(e:Option Expr)->CkO m f e
 |m,none,e=>match e with|none=>some ⟨λ_=>True.intro⟩|_=>none
 |m,some f,l=>match l with|some x=>kO (ckE m f x)|_=>none
noncomputable def ckF:(m:MC)->(fs:List E)->(es:List Expr)->CkF m fs es
 |m,[],es=>match es with|[]=>some ⟨.nil⟩|_=>none
 |m,f::fs,l=>match l with|x::xs=>kF (ckT m f x) (ckF m fs xs)|_=>none
end
noncomputable def mE(m:MC)(f:E)(e:Expr):Bool:=(ckE m f e).isSome
noncomputable def mT(m:MC)(f:E)(e:Expr):Bool:=(ckT m f e).isSome
noncomputable def mI(m:MC)(tg:Expr)(f:E)(e:Expr):Bool:=(ckI m tg f e).isSome
noncomputable def mF(m:MC)(f:List E)(e:List Expr):Bool:=(ckF m f e).isSome
section
variable {W:WD}
def sE(f:E)(S:SX k W m C X)(h:mE m f e=true):PV C X e (evE W f):=got h S
def sT(f:E)(S:SX k W m C X)(h:mT m f e=true):PTv C X e (evE W f):=got h S
def sI(f:E)(S:SX k W m C X)(h:mI m tg f e=true):PIv C X tg e (evE W f):=got h S
def sF(fs:List E){es:List Expr}(S:SX k W m C X)(h:mF m fs es=true):dU X es (tT (C.at X) (evF W fs)):=gF h S
end
inductive G where|app (k v:E)|for (it:E) (t:Tg) (g:G)
inductive S where
 |ret (e:E)|retV (i:Nat)|set (i:Nat) (e:E)|ite (c:E) (a b:List S)|for (it:E) (t:Tg) (body:List S)
 |never|whl (n:Nat) (c:E) (body:List S)
 |app (i:Nat) (e:E)|setC (i:Nat) (fz:Bool) (e:E)|dput (i:Nat) (k e:E)|nput (i:Nat) (k e:E)|frzV (i:Nat)|nfrz (i:Nat)|clo (a b g:Str)
mutual
noncomputable def evS(W:WD):S->Rho->aG
 |.ret e,ρ=>jK (evE W e ρ) ρ
 |.retV i,ρ=>fF ρ i
 |.set i e,ρ=>eT ρ i (evE W e ρ)
 |.ite c a b,ρ=>ifS (evE W c ρ) ρ (evB W a ρ) (evB W b ρ)
 |.for it t body,ρ=>dS (evE W it ρ) ρ (aO t) (evB W body)
 |.whl n c body,ρ=>cV (evE W c) (evB W body) n ρ
 |.app i e,ρ=>fK ρ i (evE W e ρ)
 |.frzV i,ρ=>jS ρ i
 |.nfrz i,ρ=>j0 ρ i
 |.clo _ _ _,_=>.stuck
 |.dput i k e,ρ=>f7 ρ i (evE W k ρ) (evE W e ρ)
 |.nput i k e,ρ=>lL ρ i (evE W k ρ) (evE W e ρ)
 |.setC i fz e,ρ=>eT ρ i (if fz=true then aW (evE W e ρ)else evE W e ρ)
 |.never,_=>.stuck
noncomputable def evB(W:WD):List S->Rho->aG
 |[],ρ=>.nx ρ
 |s::r,ρ=>(evS W s ρ).thn (evB W r)
end
noncomputable def lR:Expr->Bool|.ListComp ..=>false|.SetComp ..=>false|.DictComp ..=>false|_=>true
noncomputable def mC(m:MC)(elt:Expr)(scope:Scope):E->List Comprehension->Bool
 |.comp el it ts aF t n,gens=>match gens with
  |[⟨tg,aU,ifs,0⟩] =>
   let aL:=aF.filterMap λi=>m.N[i]?
   let tgN:=fN 4 tg
   m.calm&&oC scope m.sc m.N aF aL tgN&&gR aU&&decide (tgN.length=n)&&(fJ t).all (λj=>decide (aF.length<=j))&&mG (m.sub scope aL tgN) t tg&&(mI m tg it aU&&(mE (m.sub scope aL tgN) el elt&&mF (m.sub scope aL tgN) ts ifs))
  |_=>false
 |_,_=>false
def sC{t:Option Expr}(h:lR e=true):swapsWith e t n env=pure false:=by cases e <;> first|rfl|cases h
def aNB(hs:env.scope=m.sc)(h:(lR e||m.kind x==some .cell)=true):swapsWith e (some (.Name x p)) n env=pure false:=by
 rw[aTE,aRK]at h;rcases h with h|h
 . exact sC h
 . have hk:env.kindOf x=some .cell:=by show env.scope.names.lookup x=_;rw[hs];exact h
   unfold swapsWith;have kc:(NameKind.cell==NameKind.local)=false:=by decide
   cases e <;> first|rfl|(simp[hk,kc])
def aNC:PSv C X st (λ_=>.stuck):=λaA s σ H En I q=>by obtain⟨ρ,F,R,w⟩:=q;exact w.elim
section
variable {W:WD}
structure SB(k:Nat)(W:WD)(m:MC)(C:Cw)(X:Cx):Prop extends SX k W m C X where
 nd:m.N.Nodup
 hp:PassesOwn (model X.prog X.w) X.A X.env X.xe
 ro:m.rz=true->RzOk (C.at X) X/\FnCx X/\XOk (HX1 X.prog X.w) (C.at X) X
end
def aND{W:WD}(S:SB k W m C X)(fz:Bool){el it:E}{ts:List E}{px sp:Pos}{gens:List Comprehension}(h1:m.N[i]? = some x)(h2:m.kind x=some .local)(h3:m.sc.kind=.function)(h4:px.line=cp.line)(h5:(scope.names.any λy=>y.1==x&&(y.2 == .local||y.2 == .cell))=false)(h:mC m elt scope (.comp el it ts aF t n) gens=true):PSv C X (.Assign [.Name x px] (.ListComp elt gens scope cp) sp) (λρ=>eT ρ i (if fz=true then aW (evE W (.comp el it ts aF t n) ρ)else evE W (.comp el it ts aF t n) ρ)):=by
 have hk:X.env.scope.names.lookup x=some .local:=by rw[S.hs];exact h2
 conv at h=>lhs;whnf
 split at h
 . rename_i tg aU ifs;simp only[aSI,aTC,aU9]at h;obtain⟨⟨⟨⟨⟨⟨hq,ho⟩,hn⟩,hl⟩,hs⟩,hg⟩,k1,k2,k3⟩:=h;unfold oC at ho;simp only[aSI,aU9,aTE,aVP,aRK,aTC,aVQ]at ho;obtain⟨⟨⟨⟨⟨⟨⟨g1,g2⟩,g3⟩,g4⟩,g5⟩,g6⟩,g7⟩,g8⟩:=ho;have er:(relabel scope X.env).names=k9 scope m.sc:=by rw[<- S.hs];rfl
   have bk:X.env.blockKind=.function:=by unfold Env.blockKind;rw[S.hs,h3];rfl
   have hsw:swapsWith (.ListComp elt [⟨tg,aU,ifs,0⟩] scope cp) (some (.Name x px)) sp.line X.env=pure true:=by
    have kx:X.env.kindOf x=some .local:=hk;unfold swapsWith;have k1:(ScopeKind.function==ScopeKind.function)=true:=by decide
    have k2:(some NameKind.local==some NameKind.local)=true:=by decide
    simp only[bk,kx,Expr.pos,h4,h5,k1,k2,aTT];rfl
   have := aIJ fz (pos := cp) (pos' := px) (spos := sp) (i := i) (x := x) (tgN := fN 4 tg) (t := t) (S.cm hq) (sI it S.toSX k1) g1 g2 (fun y hy e => (g3 y hy).resolve_left fun z => z e) (fun y hy e => by
       have:=g4 y hy;show X.env.scope.names.lookup y.1=_\/X.env.scope.names.lookup y.1=_;rw[S.hs];rcases this with(z|z)|z
       . exact absurd e z
       . exact .inl z
       . exact .inr z) (by rw[S.hN];exact g5) g6 (λy hy=>by rw[er];exact g7 y hy) (λj hj=>hs j hj) (λcl A fp s3 H3=>sG (S.toSX.sub cl A fp s3 H3) g8 t hg)
       (λcl A fp s3 H3=>sF ts (S.toSX.sub cl A fp s3 H3) k3) (λcl A fp s3 H3=>sE el (S.toSX.sub cl A fp s3 H3) k2) (by rw[S.hN];exact S.nd) (by rw[S.hN];exact h1) hk hsw (r8 hn)
   rw[hl]at this;exact this
 . cases h
abbrev CkS(m:MC)(f:D3.S)(st:Stmt):Type:=Option (PLift (∀{k:Nat}{W:WD}{C:Cw}{X:Cx},SB k W m C X->PSv C X st (evS W f)))
abbrev CkB(m:MC)(f:List D3.S)(sts:List Stmt):Type:=Option (PLift (∀{k:Nat}{W:WD}{C:Cw}{X:Cx},SB k W m C X->PBv C X sts (evB W f)))
noncomputable def aNE{f}{e:_}{p1:_}:CkS m (.ret f) (.Return (some e) p1):=if h:(mE m f e)=true then some ⟨λS=>by
 exact aGT (sE f S.toSX h)⟩else none
noncomputable def aNF{i:_}{x:_}{p1:_}{p2:_}:CkS m (.retV i) (.Return (some (.Name x p1)) p2):=if h:(m.N[i]?==some x&&m.vis x)=true then some ⟨λS=>by
 simp only[aSI,aRK]at h;obtain⟨h1,h2,h3⟩:=S.toSX.vis h.2
 exact aGU i (gX (by rw[S.hN];exact h.1) h1 h2 h3)⟩else none
noncomputable def aNG{i:_}{f}{x:_}{p1:_}{e:_}{p3}:CkS m (.set i f) (.Assign [.Name x p1] e p3):=if h:(m.loc i x&&(lR e||m.kind x==some .cell)&&mE m f e)=true then some ⟨λS=>by
 simp only[aSI]at h;obtain⟨⟨h1,h2⟩,h3⟩:=h;obtain⟨b,c,d⟩:=S.toSX.loc h1
 exact aGW (by rw[S.hN];exact S.nd) b c (sE f S.toSX h3) (aNB S.hs h2) d⟩else none
noncomputable def aNH{i:_}{f}{g:_}{x:_}{p1:_}{k:_}{p3}{e:_}{p5}:CkS m (.dput i f g) (.Assign [.Subscript (.Name x p1) k p3] e p5):=if h:(m.N[i]?==some x&&m.vis x&&lR e&&mE m f k&&mE m g e)=true then some ⟨λS=>by
 simp only[aSI,aRK]at h;obtain⟨⟨⟨⟨h1,h2⟩,h3⟩,h4⟩,h5⟩:=h;obtain⟨v1,v2,v3⟩:=S.toSX.vis h2
 exact aIZ i (aVS (Nat.add_le_add_left (by decide:1<=64) _) S.un) (gX (by rw[S.hN];exact h1) v1 v2 v3) (sE f S.toSX h4) (sE g S.toSX h5) (sC h3)⟩else none
noncomputable def aNI{i:_}{f}{g:_}{x:_}{p1:_}{k:_}{p3}{e:_}{p5}:CkS m (.nput i f g) (.Assign [.Subscript (.Name x p1) k p3] e p5):=if h:(m.N[i]?==some x&&m.vis x&&lR e&&mE m f k&&mE m g e)=true then some ⟨λS=>by
 simp only[aSI,aRK]at h;obtain⟨⟨⟨⟨h1,h2⟩,h3⟩,h4⟩,h5⟩:=h;obtain⟨v1,v2,v3⟩:=S.toSX.vis h2
 exact aKG i S.un (gX (by rw[S.hN];exact h1) v1 v2 v3) (sE f S.toSX h4) (sE g S.toSX h5) (sC h3)⟩else none
noncomputable def aNJ{i:_}{fz}{f}{x:_}{px}{elt:_}{gens}{scope:_}{cp:_}{p6}:CkS m (.setC i fz f) (.Assign [.Name x px] (.ListComp elt gens scope cp) p6):=if h:(m.N[i]?==some x&&m.kind x==some .local&&m.sc.kind == .function&&px.line==cp.line&&!(scope.names.any λy=>y.1==x&&(y.2 == .local||y.2 == .cell))&&mC m elt scope f gens)=true then some ⟨λS=>by
 simp only[aSI,aRK,aUU]at h;obtain⟨⟨⟨⟨⟨h1,h2⟩,h3⟩,h4⟩,h5⟩,h7⟩:=h;cases f with
 |comp el it ts aF t n=>exact aND S fz h1 h2 h3 h4 h5 h7
 |_=>cases h7⟩else none
noncomputable def aNK{f}{a}{b:_}{c:_}{x:_}{y:_}{p3}(r1:CkB m a x)(r2:CkB m b y):CkS m (.ite f a b) (.If c x y p3):=if h:(mT m f c&&(r1.isSome&&r2.isSome))=true then some ⟨λS=>by
 simp only[aSI]at h;obtain⟨h1,h2,h3⟩:=h;exact aGV (sT f S.toSX h1) (got h2 S) (got h3 S)⟩else none
noncomputable def aNL{f}{t:_}{b:_}{tg:_}{e:_}{body:_}{p3}(r1:CkB m b body):CkS m (.for f t b) (.For tg e body [] p3):=if h:(m.calm&&mG m t tg&&gR e&&(mI m tg f e&&r1.isSome))=true then some ⟨λS=>by
 simp only[aSI]at h;obtain⟨⟨⟨hq,h1⟩,h2⟩,h3,h4⟩:=h;exact aG3 S.hp (S.cm hq) (sI f S.toSX h3) (aIG (sG S.toSX S.nd t h1)) (got h4 S) (r8 h2)⟩else none
noncomputable def aNM{n:_}{f}{b:_}{c:_}{body:_}{p2:_}(r1:CkB m b body):CkS m (.whl n f b) (.While c body [] p2):=if h:(mT m f c&&r1.isSome)=true then some ⟨λ{k}{W}{C}{X} S=>by
 simp only[aSI]at h;have:evS W (.whl n f b)=cV (evE W f) (evB W b) n:=by funext ρ;rfl
 rw[this];exact aIH n S.hp (sT f S.toSX h.1) (got h.2 S)⟩else none
noncomputable def aNN{i:_}{f}{x:_}{p1:_}{a}{ap:_}{e:_}{cp:_}{p6}:CkS m (.app i f) (.Expr (.Call (.Attribute (.Name x p1) a ap) [e] [] cp) p6):=if h:(m.N[i]?==some x&&m.vis x&&a == "append" && ap.endLine==cp.line&&bX e&&mE m f e)=true then some ⟨λS=>by
 simp only[aSI,aRK]at h;obtain⟨⟨⟨⟨⟨h1,h2⟩,rfl⟩,h3⟩,h4⟩,h5⟩:=h;obtain⟨v1,v2,v3⟩:=S.toSX.vis h2
 exact aIR i (gX (by rw[S.hN];exact h1) v1 v2 v3) (sE f S.toSX h5) h4 h3⟩else none
def aNO{W:WD}(S:SB k W m C X):PBv C X [] (evB W []):=by
 have:evB W []=λρ=>.nx ρ:=by funext ρ;simp only[evB]
 rw[this];exact aGQ
noncomputable def aNP{i fs sts:_}(r:CkB m fs sts):CkB m (.frzV i::fs) sts:=if h:r.isSome=true then some ⟨λ{k}{W}{C}{X} S=>by
 have:evB W (.frzV i::fs)=λρ=>(jS ρ i).thn (evB W fs):=by funext ρ;rfl
 rw[this];exact aI0 (got h S)⟩else none
noncomputable def aNQ{i fs sts:_}(r:CkB m fs sts):CkB m (.nfrz i::fs) sts:=if h:r.isSome=true then some ⟨λ{k}{W}{C}{X} S=>by
 have:evB W (.nfrz i::fs)=λρ=>(j0 ρ i).thn (evB W fs):=by funext ρ;rfl
 rw[this];exact aK0 (got h S)⟩else none
def aNR{g:Rho->aG}(h:∀ρ,g ρ=.stuck):PBv C X sts g:=λaA s σ H E I q=>by obtain⟨ρ,F,R,w⟩:=q;rw[h]at w;exact w.elim
noncomputable def sD{a b g sts:_}:CkB m [.clo a b g] sts:=if h:oB m.N m.sc a b g sts=true then some ⟨λ{k}{W}{C}{X} S=>aNR λρ=>rfl⟩else none
noncomputable def aNS{f fs st sts:_}(r:CkS m f st)(r2:CkB m fs sts):CkB m (f::fs) (st::sts):=if h:(r.isSome&&r2.isSome)=true then some ⟨λ{k}{W}{C}{X} S=>by
 rw[aSI]at h;have:evB W (f::fs)=λρ=>(evS W f ρ).thn (evB W fs):=by funext ρ;simp only[evB]
 rw[this];exact aGS (got h.1 S) (got h.2 S)⟩else none
set_option maxHeartbeats 4000000 in
mutual
noncomputable def ckS:(m:MC)->(f:D3.S)->(st:Stmt)->CkS m f st
 |m,.never,st=>some ⟨λ_=>aNC⟩
 |_,.frzV _,_=>none
 |_,.nfrz _,_=>none
 |_,.clo _ _ _,_=>none
 |m,.ret f,st=>match st with|.Return (some e) p1=>aNE|_=>none
 |m,.retV i,st=>match st with|.Return (some (.Name x p1)) p2=>aNF|_=>none
 |m,.set i f,st=>match st with|.Assign [.Name x p1] e p3=>aNG|_=>none
 |m,.dput i f g,st=>match st with|.Assign [.Subscript (.Name x p1) k p3] e p5=>aNH|_=>none
 |m,.nput i f g,st=>match st with|.Assign [.Subscript (.Name x p1) k p3] e p5=>aNI|_=>none
 |m,.setC i fz f,st=>match st with|.Assign [.Name x px] (.ListComp elt gens scope cp) p6=>aNJ|_=>none
 |m,.ite f a b,st=>match st with|.If c x y p3=>aNK (ckB m a x) (ckB m b y)|_=>none
 |m,.for f t b,st=>match st with|.For tg e body [] p3=>aNL (ckB m b body)|_=>none
 |m,.whl n f b,st=>match st with|.While c body [] p2=>aNM (ckB m b body)|_=>none
 |m,.app i f,st=>match st with|.Expr (.Call (.Attribute (.Name x p1) a ap) [e] [] cp) p6=>aNN|_=>none
noncomputable def ckB:(m:MC)->(f:List D3.S)->(sts:List Stmt)->CkB m f sts
 |m,[],sts=>match sts with|[]=>some ⟨λS=>aNO S⟩|_=>none
 |m,.frzV i::fs,sts=>aNP (ckB m fs sts)
 |m,.nfrz i::fs,sts=>aNQ (ckB m fs sts)
 |m,[.clo a b g],sts=>sD
 |m,f::fs,sts=>match sts with|st::sts=>aNS (ckS m f st) (ckB m fs sts)|_=>none
end
noncomputable def mB(m:MC)(f:List D3.S)(sts:List Stmt):Bool:=(ckB m f sts).isSome
def sB{W:WD}(S:SB k W m C X)(f:List D3.S)(h:mB m f sts=true):PBv C X sts (evB W f):=got h S
abbrev IB:=Unit
structure FD where
 ps:List Str
 N:List Str
 b:List D3.S
structure ID where
 c:Str
 ps:List Str
 N:List Str
 ib:IB
structure TB where
 T:List (Str×FD)
 I:List (Str×ID)
 cl:List CI
 xt:List ((Str×Str)×Bool)
 xi:List ((Str×Str)×Bool)
noncomputable def sJ(W:WD)(i:ID):List D->Res:=λ_=>.stuck
noncomputable def lT(t:TB)(W:WD)(f:Str):List D->Res:=match t.T.lookup f with
 |some d=>phi d.ps.length d.N.length (evB W d.b)
 |none=>λ_=>.stuck
noncomputable def MsF(t:TB)(W:WD)(x:Str):D->KD->Option KD:=match t.T.lookup x with
 |some d=>λ_ _=>none
 |none=>λ_ _=>none
noncomputable def WT(t:TB):Nat->WD
 |0=>⟨λ_ _=>.stuck,λ_ _=>.stuck,λ_=>none,t.cl,t.xt,t.xi,false,λ_ _ _=>none⟩
 |1=>⟨λf=>lT t ⟨λ_ _=>.stuck,λ_ _=>.stuck,λ_=>none,t.cl,t.xt,t.xi,false,λ_ _ _=>none⟩ f,λ_ _=>.stuck,λ_=>none,t.cl,t.xt,t.xi,true,MsF t ⟨λ_ _=>.stuck,λ_ _=>.stuck,λ_=>none,t.cl,t.xt,t.xi,false,λ_ _ _=>none⟩⟩
 |k+2=>⟨λf=>lT t (WT t (k+1)) f,(WT t (k+1)).Φ,λkey=>match t.I.lookup key with|some i=>some (sJ (WT t k) i)|none=>none,t.cl,t.xt,t.xi,true,MsF t (WT t (k+1))⟩
def oD(t:TB):∀k,(WT t k).cl=t.cl
 |0=>rfl
 |1=>rfl
 |k+2=>rfl
def zT(t:TB):∀k,(WT t k).xt=t.xt
 |0=>rfl
 |1=>rfl
 |k+2=>rfl
def zU(t:TB):∀k,(WT t k).xi=t.xi
 |0=>rfl
 |1=>rfl
 |k+2=>rfl
def WT_Φ(t:TB):∀k f,(WT t (k+1)).Φ f=lT t (WT t k) f
 |0,f=>rfl
 |k+1,f=>rfl
noncomputable def iA(g:MG)(key:Str)(st:Stmt)(d:FD):Bool:=r9 d.N d.ps (bG st)&&mB ⟨d.N,bG st,g,true,true,true,key⟩ d.b (fC st)
noncomputable def idOk(g:MG)(st:Stmt)(d:ID):Bool:=false
noncomputable def zV(K:Fg)(g:MG)(fa:Str->Addr)(key:Str)(d:FD):Prop :=
 ∃name st fd,Fun K name key st (fa key) fd/\dA K fd d.ps []/\iA g key st d=true
noncomputable def lU(K:Fg)(g:MG)(fa:Str->Addr):List (Str×FD)->Prop
 |[]=>True
 |(x,d)::r=>zV K g fa x d/\lU K g fa r
theorem lU.at{g:MG}:∀{T:List (Str×FD)}{x:Str}{d:FD},lU K g fa T->T.lookup x=some d->zV K g fa x d
 |[],_,_,_,e=>by cases e
 |(y,d')::r,x,d,h,e=>by
  rw[aTB]at e;split at e
  . rename_i hb;cases e;rw[aRK]at hb;subst hb;exact h.1
  . exact h.2.at e
noncomputable def zW(K:Fg)(mg:SOV)(g:MG)(key:Str)(d:ID):Prop :=
 ∃name st C f fd,W.nsIn K mainGlobals d.c=some (some (.ref C))/\mg d.c=some (.ref C)/\Mk K C f/\Fun K name key st f fd/\dA K fd d.ps []/\idOk g st d=true
noncomputable def lV(K:Fg)(mg:SOV)(g:MG):List (Str×ID)->Prop
 |[]=>True
 |(x,d)::r=>zW K mg g x d/\lV K mg g r
theorem lV.at{g:MG}:∀{T:List (Str×ID)}{x:Str}{d:ID},lV K mg g T->T.lookup x=some d->zW K mg g x d
 |[],_,_,_,e=>by cases e
 |(y,d')::r,x,d,h,e=>by
  rw[aTB]at e;split at e
  . rename_i hb;cases e;rw[aRK]at hb;subst hb;exact h.1
  . exact h.2.at e
noncomputable def GVOk(w:aV6)(K:Fg)(mg:SOV)(fa:Str->Addr)(x:Str):GV->Prop
 |.con (.s y)=>∃t,mg x=some (.str y t)
 |.con (.i n)=>∃t,mg x=some (.int n t)
 |.con (.t tb)=>jR w K mg x tb
 |.no=>mg x=none
 |.fn _=>mg x=some (.ref (fa x))
 |.cls=>True
noncomputable def lW(w:aV6)(K:Fg)(mg:SOV)(fa:Str->Addr):List (Str×GV)->Prop
 |[]=>True
 |(x,v)::r=>GVOk w K mg fa x v/\lW w K mg fa r
theorem lW.at:∀{G:List (Str×GV)}{x:Str}{v:GV},lW w K mg fa G->G.lookup x=some v->GVOk w K mg fa x v
 |[],_,_,_,e=>by cases e
 |(y,v')::r,x,v,h,e=>by
  rw[aTB]at e;split at e
  . rename_i hb;cases e;rw[aRK]at hb;subst hb;exact h.1
  . exact h.2.at e
noncomputable def gOk(G:List (Str×GV))(T:List (Str×FD)):Bool:=G.all λ(x,v)=>match v with|.fn n=>(match T.lookup x with|some d=>d.ps.length==n|none=>false)|_=>true
theorem sK{T:List (Str×FD)}:∀{G:List (Str×GV)}{x:Str}{n:Nat},gOk G T=true->G.lookup x=some (.fn n)->∃d,T.lookup x=some d/\d.ps.length=n
 |[],_,_,_,e=>by cases e
 |(y,v')::r,x,n,h,e=>by
  unfold gOk at h;rw[aVT,aSI]at h;rw[aTB]at e;split at e
  . rename_i hb;cases e;rw[aRK]at hb;subst hb;have h1:=h.1;dsimp only at h1;cases q:T.lookup x with
    |none=>rw[q]at h1;cases h1
    |some d=>rw[q]at h1;exact⟨d,rfl,by simpa using h1⟩
  . exact sK (G:=r) h.2 e
noncomputable def mtOk(cl:List CI)(T:List (Str×FD)):Bool:=cl.all λi=>i.meths.all λ(_,key,n)=>match T.lookup key with|some d=>d.ps.length==n|none=>false
noncomputable def zX(mki:List (Str×Str×Nat))(I:List (Str×ID)):Bool:=mki.all λ(c,key,n)=>match I.lookup key with|some d=>d.c==c&&d.ps.length==n+1|none=>false
noncomputable def j5(K:Fg)(fa:Str->Addr)(C:Addr):List (Str×Str×Nat)->Prop
 |[]=>True
 |(m,key,_)::r=>kN K C m (fa key)/\j5 K fa C r
noncomputable def j6(K:Fg)(C:Addr):List Str->Prop
 |[]=>True
 |f::r=>pJ K C f/\j6 K C r
noncomputable def lX(K:Fg)(fa:Str->Addr):List CI->Prop
 |[]=>True
 |i::r=>(∃C,W.nsIn K mainGlobals i.name=some (some (.ref C))/\Cls K C/\j5 K fa C i.meths/\j6 K C i.flds)/\lX K fa r
theorem lX.at:∀{cl:List CI}{i:CI},lX K fa cl->i∈cl->∃C,W.nsIn K mainGlobals i.name=some (some (.ref C))/\Cls K C/\j5 K fa C i.meths/\j6 K C i.flds
 |[],_,_,h=>by cases h
 |j::r,i,h,hi=>by
  rcases aQU.mp hi with rfl|hi
  . exact h.1
  . exact h.2.at hi
theorem j6.at{C:Addr}:∀{l:List Str}{f:Str},j6 K C l->f∈l->pJ K C f
 |[],_,_,h=>by cases h
 |j::r,i,h,hi=>by
  rcases aQU.mp hi with rfl|hi
  . exact h.1
  . exact h.2.at hi
theorem j5.at{C:Addr}:∀{l:List (Str×Str×Nat)}{m key:Str}{n:Nat},j5 K fa C l->l.lookup m=some (key,n)->kN K C m (fa key)
 |[],_,_,_,_,e=>by cases e
 |(m',key',n')::r,m,key,n,h,e=>by
  rw[aTB]at e;split at e
  . rename_i hb;cases e;rw[aRK]at hb;subst hb;exact h.1
  . exact h.2.at e
noncomputable def sL(g:MG)(T:List (Str×FD)):Bool:=g.sn.isEmpty
def zY{g:MG}{T:List (Str×FD)}(h:sL g T=true)(hx:x∈g.sn):∃d:FD,T.lookup x=some d/\True/\True/\True/\g.G.lookup x=some (.fn 2):=by rw[aVN.mp h]at hx;cases hx
def aNT{a b g:Str}(h:mB m [.clo a b g] sts=true):oB m.N m.sc a b g sts=true:=by
 have h:(sD (m:=m) (a:=a) (b:=b) (g:=g) (sts:=sts)).isSome=true:=h;unfold sD at h;split at h
 . assumption
 . cases h
noncomputable def sM(g:MG)(T:List (Str×FD)):Bool:=g.cl.all λz=>(match T.lookup z.1 with
 |some d=>(match d.b with|[.clo a b h]=>a==z.2.1&&b==z.2.2.1&&h==z.2.2.2&&d.ps.length==2&&d.N[3]?==some (gG z.1)&&g.G.lookup ("dict":Str)==some .no&&g.G.lookup z.1==some (.fn 2)|_=>false)
 |none=>false)
def zZ{g:MG}{T:List (Str×FD)}(h:sM g T=true){f a b h':Str}(hx:(f,a,b,h')∈g.cl):∃d,T.lookup f=some d/\d.b=[.clo a b h']/\d.ps.length=2/\d.N[3]? = some (gG f)/\g.G.lookup ("dict":Str)=some .no/\g.G.lookup f=some (.fn 2):=by
 have h:=aU9.mp h _ hx;dsimp only at h;split at h
 . rename_i d e;split at h
   . rename_i a1 b1 g1 eb;simp only[aSI,aRK]at h;obtain⟨⟨⟨⟨⟨⟨rfl,rfl⟩,rfl⟩,h2⟩,h3⟩,h4⟩,h5⟩:=h;exact⟨d,e,eb,h2,h3,h4,h5⟩
   . cases h
 . cases h
structure GF(w:aV6)(K:Fg)(mg:SOV)(g:MG)(t:TB)(fa:Str->Addr):Prop where
 con:lW w K mg fa g.G
 gok:gOk g.G t.T=true
 all:lU K g fa t.T
 alli:lV K mg g t.I
 mk0:∀c,c∈g.mk0->qA K mg c
 mkok:zX g.mki t.I=true
 iso:∀c,c∈g.iso->IsV K mg t.cl c
 cls:lX K fa t.cl
 mtok:mtOk t.cl t.T=true
 xtok:qG K mg (λc x=>t.xt.lookup (c,x))
 xiok:qH K mg (λc x=>t.xi.lookup (c,x))
 xcok:∀c,c∈g.xcs->∃Cc,mg c=some (.ref Cc)/\w6 K Cc
 xnok:∀n,n∈g.xns->∃cv,nQ mg n cv
 snok:sL g t.T=true
 clok:sM g t.T=true
 clns:∀f a b h,(f,a,b,h)∈g.cl->W.nsIn K mainGlobals f=some (some (.ref (fa f)))
def aAA{vs:List V}{Q:VK}{E:XK}(hz:∀ds,Φ ds=.stuck)(h:spV K mg n Φ vs H Q E):False:=by obtain⟨_,F,ds,_,_,h⟩:=h;rw[hz]at h;exact h
section
variable {g:MG}{t:TB}
structure iX(P:aV7)(w:aV6)(K:Fg)(mg:SOV)(base:Heap)(g:MG)(t:TB)(fa:Str->Addr)(k:Nat):Prop where
 fn:∀key d,t.T.lookup key=some d->∃fd,bS P w K mg base (CX1 P w) k (fa key) fd d.ps (spV K mg d.ps.length ((WT t k).Φ key))/\dA K fd d.ps []/\W.keepIn K (.ref (fa key))=true
 fp:(WT t k).dp=true->∃j,j+1=k/\∀key d,t.T.lookup key=some d->∃fd,bS P w K mg base (CX1 P w) j (fa key) fd d.ps (spV K mg d.ps.length ((WT t k).Ψ key))/\dA K fd d.ps []/\W.keepIn K (.ref (fa key))=true
 ini:∀key d Φ,t.I.lookup key=some d->(WT t k).I key=some Φ->∃j,j+1<=k/\InV P w K mg base (CX1 P w) j d.c (d.ps.length-1) Φ
 mu:∀x,x∈g.sn->∃fd ps,bS P w K mg base (CX1 P w) k (fa x) fd ps (n9 K ((WT t k).Ms x))/\dA K fd ps []/\W.keepIn K (.ref (fa x))=true
def sx_of(f:GF w K mg g t fa)(A:iX P w K mg base g t fa k){N:List Str}(hP:X.prog=P)(hw:X.w=w)(hK:X.K=K)(hmg:X.mg=mg)(hb:X.base=base)(hN:X.N=N)(hs:X.env.scope=sc)(cm:X.calm=true)(rm:cA k X.A)(hfn:∀x,X.fn x=true)(cd:q="" \/ (W.codeIn X.K X.env.code q=true/\X.env.qual=q ++ ".<locals>."))(xo:XOk (CX1 X.prog X.w) (C.at X) X):SX k (WT t k) ⟨N,sc,g,true,true,true,q⟩ C X:=by
 subst hP hw hK hmg hb;refine⟨hN,hs,λ_=>cm,λ_=>rm,rm.units,λ_=>xo,?_,?_,f.xcok,f.xnok,λy c l=>?_,λy l=>f.con.at l,λc hc=>f.mk0 c hc,λc key n hm Φ e=>?_,λc hc=>by rw[oD];exact f.iso c hc,λi f' hi hf=>?_,λc m key n e=>?_,λy n l=>?_,λ_=>hfn,λhd=>?_,λy hy=>?_,λhd f1 a1 b1 g1 hz=>?_,cd⟩
 . unfold WD.xf;rw[zT];exact f.xtok
 . unfold WD.xg;rw[zU];exact f.xiok
 . have:=f.con.at l;cases c <;> exact this
 . have h1:=aU9.mp f.mkok (c,key,n) hm;dsimp only at h1;cases q:t.I.lookup key with
   |none=>rw[q]at h1;cases h1
   |some d=>rw[q]at h1;simp only[aSI,aRK]at h1;obtain⟨j,hj,M⟩:=A.ini key d Φ q e;rw[h1.1,h1.2]at M;exact⟨j,hj,M⟩
 . rw[oD]at hi;obtain⟨C',h1,h2,_,h4⟩:=f.cls.at hi;exact⟨C',h1,h2,h4.at hf⟩
 . rw[oD]at e;unfold CI.meth at e;split at e
   . rename_i i ei;have hi:=List.mem_of_find?_eq_some ei;have hn:i.name=c:=by simpa using List.find?_some ei
     obtain⟨C',h1,h2,h3,_⟩:=f.cls.at hi;have hmo:=aU9.mp (aU9.mp f.mtok i hi) (m,key,n) (aRV e);dsimp only at hmo;cases q:t.T.lookup key with
     |none=>rw[q]at hmo;cases hmo
     |some d=>rw[q]at hmo;rw[aRK]at hmo;obtain⟨fd,FO,hb,_⟩:=A.fn key d q;rw[hmo]at FO;exact⟨C',fa key,fd,d.ps,by rw[<- hn];exact h1,h2,h3.at e,FO,hb⟩
   . cases e
 . obtain⟨d,e,rfl⟩:=sK f.gok l;obtain⟨fd,FO,hb,hk⟩:=A.fn y d e;exact⟨fa y,fd,d.ps,FO,f.con.at l,hk,hb⟩
 . obtain⟨j,hj,fp⟩:=A.fp hd;refine⟨j,hj,λy n l=>?_⟩;obtain⟨d,e,rfl⟩:=sK f.gok l;obtain⟨fd,FO,hb,hk⟩:=fp y d e;exact⟨fa y,fd,d.ps,FO,f.con.at l,hk,hb⟩
 . obtain⟨d,e,_,_,_,l⟩:=zY f.snok hy;obtain⟨fd,ps,FO,hb,hk⟩:=A.mu y hy;exact⟨fa y,fd,ps,FO,f.con.at l,hk,hb⟩
 . obtain⟨j,hj,_⟩:=A.fp hd;obtain⟨d,e,eb,h2,h3,h4,l⟩:=zZ f.clok hz;obtain⟨name,st,fd,F,hb,ok⟩:=f.all.at e;unfold iA at ok;rw[aSI,eb]at ok;obtain⟨c1,c2⟩:=aLT (P:=X.prog) (w:=X.w) (base:=X.base) (k:=j) (f.clns _ _ _ _ hz) F (zS ok.1) h2 (aNT ok.2) h3 (f.con.at h4);rw[hj]at c1;exact⟨⟨fa f1,fd,d.ps,c1,f.con.at l,F.kp,hb⟩,c2⟩
def sN(f:GF w K mg g t fa)(A:iX P w K mg base g t fa k){d:FD}{name:Str}{a:Addr}(F:Fun K name key st a fd)(e:t.T.lookup key=some d)(ok:iA g key st d=true):bS P w K mg base (CX1 P w) (k+1) a fd d.ps (spV K mg d.ps.length ((WT t (k+1)).Φ key)):=by
 unfold iA at ok;rw[aSI]at ok;have sc:=zS ok.1;have:(WT t (k+1)).Φ key=phi d.ps.length d.N.length (evB (WT t k) d.b):=by rw[WT_Φ];unfold lT;rw[e]
 rw[this];exact aIQ (k:=k) F sc λC cdv hcd A' outer s H En hE hr=>sB (m:=⟨d.N,bG st,g,true,true,true,key⟩) (X:=cR (CX1 P w) P w K mg base d.N key (bG st) a cdv A' outer s H En) ⟨sx_of f A rfl rfl rfl rfl rfl rfl rfl rfl hr (λ_=>rfl) (.inr ⟨hcd,rfl⟩) (aIO (K:=K) (H:=H) (outer:=outer) hE),sc.nd,PassesOwn.leaving,λ_=>⟨aIP (K:=K) (H:=H) (outer:=outer) hE,fnCx,aIU (K:=K) (H:=H) (outer:=outer) hE⟩⟩ d.b ok.2
def aAB(f:GF w K mg g t fa)(A:iX P w K mg base g t fa k)(hx:x∈g.sn):∃fd ps,bS P w K mg base (CX1 P w) (k+1) (fa x) fd ps (n9 K ((WT t (k+1)).Ms x))/\dA K fd ps []/\W.keepIn K (.ref (fa x))=true:=by rw[aVN.mp f.snok]at hx;cases hx
def mu_0{f:Addr}:bS P w K mg base (CX1 P w) k f fd ps (n9 K λ_ _=>none) :=
 ⟨λvs H Q En h=>(by obtain⟨_,_,_,_,_,_,_,_,_,_,_,_,_,_,e,_⟩:=h;cases e),λA outer s H args us vs Q En _ _ _ _ h=>(by obtain⟨_,_,_,_,_,_,_,_,_,_,_,_,_,_,e,_⟩:=h;cases e)⟩
def aNU(f:GF w K mg g t fa)(A:iX P w K mg base g t fa k){d:ID}(e:t.I.lookup key=some d):InV P w K mg base (CX1 P w) (k+1) d.c (d.ps.length-1) (sJ (WT t k) d):=by obtain⟨name,st,C2,a,fd,ns,hm,M,F,hb,ok⟩:=f.alli.at e;cases ok
theorem aAC(f:GF w K mg g t fa):∀k,iX P w K mg base g t fa k/\iX P w K mg base g t fa (k+1)
 |0=>by
  have A0:iX P w K mg base g t fa 0:=⟨λkey d e=>by
   obtain⟨name,st,fd,F,hb,_⟩:=f.all.at e;exact⟨fd,⟨λvs H Q En h=>(aAA (λ_=>rfl) h).elim,λA outer s H args us vs Q En _ _ _ _ h=>(aAA (λ_=>rfl) h).elim⟩,hb,F.kp⟩,(λz=>by cases z),(λkey d Φ _ e=>by cases e),λx hx=>by
   obtain⟨d,e,_⟩:=zY f.snok hx;obtain⟨name,st,fd,F,hb,_⟩:=f.all.at e;exact⟨fd,d.ps,mu_0,hb,F.kp⟩⟩
  refine⟨A0,λkey d e=>?_,λ_=>⟨0,rfl,A0.fn⟩,(λkey d Φ _ e=>by cases e),λx hx=>aAB f A0 hx⟩
  obtain⟨name,st,fd,F,hb,ok⟩:=f.all.at e;exact⟨fd,sN f A0 F e ok,hb,F.kp⟩
 |k+1=>by
  obtain⟨A0,A1⟩:=aAC f k;refine⟨A1,λkey d e=>?_,λ_=>⟨k+1,rfl,A1.fn⟩,λkey d Φ e ei=>?_,λx hx=>aAB f A1 hx⟩
  . obtain⟨name,st,fd,F,hb,ok⟩:=f.all.at e;exact⟨fd,sN f A1 F e ok,hb,F.kp⟩
  . have ei:(match t.I.lookup key with|some i=>some (sJ (WT t k) i)|none=>none)=some Φ:=ei
    rw[e]at ei;cases ei;exact⟨k+1,aRD _,aNU f A0 e⟩
end
noncomputable def sO(K:Fg)(Φ:List D->Res):Sp:=λvs H Q E=>∃a ns,vs=[.ref a]/\SqL K H a (ns.map V.int)/\Φ (k7 ns)=.ok .fz (.bl true)/\∀H',Q (.bl true) H'
def aNV{f:Addr}(h:bS P w K mg base CX k f fd ps (spV K mg 1 Φ)):bS P w K mg base CX k f fd ps (sO K Φ) :=
 h.imp λvs H Q E ⟨a,ns,e,hq,hp,q⟩=>by
  subst e;refine⟨rfl,H,k7 ns,aD.refl _,aC.cons ?_ aC.nil,?_⟩
  . simp only[aB];exact⟨a,_,rfl,hq,wT ns⟩
  . rw[hp];exact⟨by decide,λv F' H' s rp _=>by rw[rp.bl];exact q H'⟩
def aNW{g:MG}{t:TB}(f:GF w K mg g t fa)(k:Nat){a:Addr}{d:FD}(F:Fun K "law" "law" st a fd)(e:t.T.lookup ("law":Str)=some d)(ok:iA g "law" st d=true)(hl:d.ps.length=1):bS P w K mg base (CX1 P w) (k+1) a fd d.ps (sO K ((WT t (k+1)).Φ ("law":Str))):=by have:=sN (P:=P) (w:=w) (base:=base) f (aAC f k).1 F e ok;rw[hl]at this;exact aNV this
section
variable {W:WD}{a b c:E}{es:List E}
@[simp] theorem e_var{i:_}:evE W (.var i) ρ=cM ρ i:=Eq.trans rfl rfl
@[simp] theorem e_non:evE W .non ρ=.ok .fz .non:=Eq.trans rfl rfl
@[simp] theorem e_bl{b:_}:evE W (.bl b) ρ=.ok .fz (.bl b):=Eq.trans rfl rfl
@[simp] theorem e_int{i:_}:evE W (.int i) ρ=.ok .fz (.int i):=Eq.trans rfl rfl
@[simp] theorem e_str{x:_}:evE W (.str x) ρ=.ok .fz (.str x):=Eq.trans rfl rfl
@[simp] theorem e_globS{x y:_}:evE W (.glob x (.s y)) ρ=.ok .fz (.str y):=Eq.trans rfl rfl
@[simp] theorem e_globI{x y:_}:evE W (.glob x (.i y)) ρ=.ok .fz (.int y):=Eq.trans rfl rfl
@[simp] theorem e_ty{t:Ty}:evE W (.ty t) ρ=.ok .fz (.ty t.id):=Eq.trans rfl rfl
@[simp] theorem e_bin{op}:evE W (.bin op a b) ρ=op2 (bJ op) (evE W a ρ) (evE W b ρ):=Eq.trans rfl rfl
@[simp] theorem e_cmp{op}:evE W (.cmp op a b) ρ=op2 (bM op) (evE W a ρ) (evE W b ρ):=Eq.trans rfl rfl
@[simp] theorem e_andL:evE W (.andL es) ρ=evA W es ρ:=Eq.trans rfl rfl
@[simp] theorem e_orL:evE W (.orL es) ρ=dJ W es ρ:=Eq.trans rfl rfl
@[simp] theorem e_not:evE W (.not a) ρ=kX (evE W a ρ):=Eq.trans rfl rfl
@[simp] theorem e_neg:evE W (.neg a) ρ=nJ (evE W a ρ):=Eq.trans rfl rfl
@[simp] theorem e_tru:evE W (.tru a) ρ=kW (evE W a ρ):=Eq.trans rfl rfl
@[simp] theorem e_frz:evE W (.frz a) ρ=aW (evE W a ρ):=Eq.trans rfl rfl
@[simp] theorem e_ix:evE W (.ix a b) ρ=op2 ixD (evE W a ρ) (evE W b ρ):=Eq.trans rfl rfl
@[simp] theorem e_slice{l h:_}:evE W (.slice a l h) ρ=slP (evE W a ρ) (evO W l) (evO W h) ρ:=Eq.trans rfl rfl
@[simp] theorem e_tup:evE W (.tup es) ρ=hC (bK W es ρ):=Eq.trans rfl rfl
@[simp] theorem e_lst:evE W (.lst es) ρ=fX (bK W es ρ):=Eq.trans rfl rfl
@[simp] theorem e_call{f n:_}:evE W (.call f n es) ρ=aY n (W.Φ f) (bK W es ρ):=Eq.trans rfl rfl
@[simp] theorem e_bcall{f:Bn}:evE W (.bcall f es) ρ=eE f.f (bK W es ρ):=Eq.trans rfl rfl
@[simp] theorem e_items:evE W (.items a) ρ=eU (aW (evE W a ρ)):=Eq.trans rfl rfl
@[simp] theorem e_rng1:evE W (.rng1 a) ρ=gK (bP (evE W a ρ) (.ok [])):=Eq.trans rfl rfl
@[simp] theorem e_dnew:evE W .dnew ρ=.ok .fr (.dct []):=Eq.trans rfl rfl
@[simp] theorem e_nnew:evE W .nnew ρ=.ok .fr (.dtn []):=Eq.trans rfl rfl
@[simp] theorem e_nix:evE W (.nix a b) ρ=op2 lJ (evE W a ρ) (evE W b ρ):=Eq.trans rfl rfl
@[simp] theorem e_nget{k d:E}:evE W (.nget a k d) ρ=lK (evE W a ρ) (evE W k ρ) (evE W d ρ):=Eq.trans rfl rfl
@[simp] theorem e_nkeys:evE W (.nkeys a) ρ=lP (evE W a ρ):=Eq.trans rfl rfl
@[simp] theorem e_srtw:evE W (.srtw a) ρ=eE gP (bP (evE W a ρ) (.ok [])):=Eq.trans rfl rfl
@[simp] theorem e_us2:evE W (.us2 a) ρ=f8 (evE W a ρ):=Eq.trans rfl rfl
@[simp] theorem e_mkc{f a b:_}(h:W.dp=true):evE W (.mkc f a b es) ρ=iV f a b (bK W es ρ):=if_pos h
@[simp] theorem e_ccl{f a b g i:_}(h:W.dp=true):evE W (.ccl f a b g i es) ρ=iW f a b (W.Ψ g) (cM ρ i) (bK W es ρ):=if_pos h
@[simp] theorem e_dget{k d:E}:evE W (.dget a k d) ρ=lI (evE W a ρ) (evE W k ρ) (evE W d ρ):=Eq.trans rfl rfl
@[simp] theorem e_deq{neg:_}:evE W (.deq neg a b) ρ=op2 (eqN neg) (evE W a ρ) (evE W b ρ):=Eq.trans rfl rfl
@[simp] theorem e_rng3{c:E}:evE W (.rng3 a b c) ρ=jV (bP (evE W a ρ) (bP (evE W b ρ) (bP (evE W c ρ) (.ok [])))):=Eq.trans rfl rfl
@[simp] theorem aNX{ts:List E}{aF t n:_}:evE W (.comp a b ts aF t n) ρ=dW (evE W b ρ) ρ aF n (aO t) (λρ=>evF W ts ρ) (λρ=>evE W a ρ):=Eq.trans rfl rfl
@[simp] theorem e_disp{ks vs:List E}:evE W (.disp ks vs) ρ=dH ρ ((evL W ks).zip (evL W vs)) []:=Eq.trans rfl rfl
@[simp] theorem el_nil:evL W []=[]:=by simp only[evL]
@[simp] theorem el_cons:evL W (a::es)=evE W a::evL W es:=by simp only[evL]
@[simp] theorem sg_nm{d:D}:aO (.nm i) d ρ=some (ρ.set i (some (false,d))):=by simp only[aO]
@[simp] theorem sg_tp{ts:List Tg}:aO (.tp ts) (.tup ds) ρ=dE ts ds ρ:=by simp only[aO]
@[simp] theorem sg_tpl{ts:List Tg}:aO (.tp ts) (.lst ds) ρ=dE ts ds ρ:=by simp only[aO]
@[simp] theorem sgs_nil:dE [] [] ρ=some ρ:=by simp[dE]
@[simp] theorem sgs_cons{ts:List Tg}{d:D}:dE (t::ts) (d::ds) ρ=(aO t d ρ).bind (dE ts ds):=by simp only[dE];cases aO t d ρ <;> rfl
@[simp] theorem e_tcall{t:Ty}:evE W (.tcall t es) ρ=eE t.f (bK W es ρ):=Eq.trans rfl rfl
@[simp] theorem e_meth{x:_}:evE W (.meth a x es) ρ=dD W.cl W.Φ x (evE W a ρ) (bK W es ρ):=Eq.trans rfl rfl
@[simp] theorem e_mk0{x:_}:evE W (.mk0 x) ρ=.ok .fr (.ins x []):=Eq.trans rfl rfl
@[simp] theorem es_nil:bK W [] ρ=.ok []:=by simp only[bK]
@[simp] theorem es_cons:bK W (a::es) ρ=bP (evE W a ρ) (bK W es ρ):=by simp only[bK]
@[simp] theorem ea_one:evA W [a] ρ=evE W a ρ:=by simp only[evA]
@[simp] theorem ea_cons:evA W (a::b::es) ρ=eR (evE W a ρ) (evA W (b::es) ρ):=by simp only[evA]
@[simp] theorem eo_one:dJ W [a] ρ=evE W a ρ:=by simp only[dJ]
@[simp] theorem eo_cons:dJ W (a::b::es) ρ=orR (evE W a ρ) (dJ W (b::es) ρ):=by simp only[dJ]
@[simp] theorem aNY:evF W [] ρ=.ok .fz (.bl true):=by simp only[evF]
@[simp] theorem ef_cons:evF W (a::es) ρ=eR (evE W a ρ) (evF W es ρ):=by simp only[evF]
@[simp] theorem eo_none:evO W none=none:=by simp only[evO]
@[simp] theorem eo_some:evO W (some a)=some (evE W a):=by simp only[evO]
@[simp] theorem s_ret:evS W (.ret a) ρ=jK (evE W a ρ) ρ:=Eq.trans rfl rfl
@[simp] theorem s_retV{i:_}:evS W (.retV i) ρ=fF ρ i:=Eq.trans rfl rfl
@[simp] theorem s_set{i:_}:evS W (.set i a) ρ=eT ρ i (evE W a ρ):=Eq.trans rfl rfl
@[simp] theorem sP{x y:List S}:evS W (.ite a x y) ρ=ifS (evE W a ρ) ρ (evB W x ρ) (evB W y ρ):=Eq.trans rfl rfl
@[simp] theorem s_for{y:List S}:evS W (.for a t y) ρ=dS (evE W a ρ) ρ (aO t) (evB W y):=Eq.trans rfl rfl
@[simp] theorem s_whl{n:_}{y:List S}:evS W (.whl n a y) ρ=cV (evE W a) (evB W y) n ρ:=Eq.trans rfl rfl
@[simp] theorem s_app{i:_}:evS W (.app i a) ρ=fK ρ i (evE W a ρ):=Eq.trans rfl rfl
@[simp] theorem s_frzV{i:_}:evS W (.frzV i) ρ=jS ρ i:=Eq.trans rfl rfl
@[simp] theorem s_nfrz{i:_}:evS W (.nfrz i) ρ=j0 ρ i:=Eq.trans rfl rfl
@[simp] theorem s_nput{i:_}:evS W (.nput i a b) ρ=lL ρ i (evE W a ρ) (evE W b ρ):=Eq.trans rfl rfl
@[simp] theorem s_dput{i:_}:evS W (.dput i a b) ρ=f7 ρ i (evE W a ρ) (evE W b ρ):=Eq.trans rfl rfl
@[simp] theorem aNZ{i:_}:evS W (.setC i false a) ρ=eT ρ i (evE W a ρ):=Eq.trans rfl rfl
@[simp] theorem s_setCf{i:_}:evS W (.setC i true a) ρ=eT ρ i (aW (evE W a ρ)):=Eq.trans rfl rfl
@[simp] theorem aAD:evB W [] ρ=.nx ρ:=by simp only[evB]
@[simp] theorem iY{s:S}{r:List S}:evB W (s::r) ρ=(evS W s ρ).thn (evB W r):=by simp only[evB]
end
section
variable {m n:Md}{i j:Int}{d:D}
@[simp] theorem x_add:op2 (bJ .Add) (.ok m (.int i)) (.ok n (.int j))=.ok .fz (.int (i+j)):=rfl
@[simp] theorem x_sub:op2 (bJ .Sub) (.ok m (.int i)) (.ok n (.int j))=.ok .fz (.int (i-j)):=rfl
@[simp] theorem x_lt:op2 (bM .Lt) (.ok m (.int i)) (.ok n (.int j))=.ok .fz (.bl (decide (i<j))):=rfl
@[simp] theorem x_le:op2 (bM .LtE) (.ok m (.int i)) (.ok n (.int j))=.ok .fz (.bl (decide (i<=j))):=rfl
@[simp] theorem x_gt:op2 (bM .Gt) (.ok m (.int i)) (.ok n (.int j))=.ok .fz (.bl (decide (j<i))):=rfl
@[simp] theorem x_ge:op2 (bM .GtE) (.ok m (.int i)) (.ok n (.int j))=.ok .fz (.bl (decide (j<=i))):=rfl
@[simp] theorem aAE(h:0<j):op2 (bJ .Mod) (.ok m (.int i)) (.ok n (.int j))=.ok .fz (.int (i % j)):=by show Res.of (if decide (0<j)=true then _ else _)=_;rw[if_pos (aSP h)];rfl
def x_div(h:0<j)(hb:bits j=true):op2 (bJ .FloorDiv) (.ok m (.int i)) (.ok n (.int j))=.ok .fz (.int (i / j)):=by show Res.of (if(decide (0<j)&&bits j)=true then _ else _)=_;rw[if_pos (by rw[hb,aSP h];rfl)];rfl
def aN0(h:i.natAbs<10 ^ 2000):bits i=true:=by
 unfold bits;refine aSP ?_;by_cases h0:i.natAbs=0
 . rw[h0];decide
 . refine(Nat.log2_lt h0).mpr (Nat.lt_trans h ?_);decide +kernel
def sQ{N:Nat}(h:i.natAbs<=N)(hN:N<10 ^ 2000:=by decide +kernel):bits i=true:=aN0 (aVS h hN)
@[simp] theorem aAF(h:0<j)(hb:j.natAbs<=1000000000):op2 (bJ .FloorDiv) (.ok m (.int i)) (.ok n (.int j))=.ok .fz (.int (i / j)):=x_div h (sQ hb)
def aAG(h:((bits i&&bits j)||(w64 i||w64 j))=true):op2 (bJ .Mult) (.ok m (.int i)) (.ok n (.int j))=.ok .fz (.int (i * j)):=by show Res.of (((if((bits i&&bits j)||(w64 i||w64 j))=true then _ else _:Option (Md×D)).orElse _).orElse _)=_;rw[if_pos h];rfl
def x_mul(h1:bits i=true)(h2:bits j=true):op2 (bJ .Mult) (.ok m (.int i)) (.ok n (.int j))=.ok .fz (.int (i * j)):=aAG (by rw[h1,h2];rfl)
theorem aAH(h:i.natAbs<9000000000000000000):op2 (bJ .Mult) (.ok m (.int i)) (.ok n (.int j))=.ok .fz (.int (i * j)):=aAG (by
 have:w64 i=true:=aSP (by lia)
 rw[this];simp)
def cP{φ:Md->D->Md->D->Option (Md×D)}{x y d:D}{k:Md}(h:φ m x n y=some (k,d)):op2 φ (.ok m x) (.ok n y)=.ok k d:=by show Res.of (φ m x n y)=_;rw[h];rfl
@[simp] theorem aAI:op2 (bM .Eq) (.ok m (.int i)) (.ok n (.int j))=.ok .fz (.bl (i==j)):=cP rfl
@[simp] theorem x_neI:op2 (bM .NotEq) (.ok m (.int i)) (.ok n (.int j))=.ok .fz (.bl (i != j)):=cP rfl
@[simp] theorem x_eqB{a b:Bool}:op2 (bM .Eq) (.ok m (.bl a)) (.ok n (.bl b))=.ok .fz (.bl (a==b)):=cP rfl
@[simp] theorem x_neB{a b:Bool}:op2 (bM .NotEq) (.ok m (.bl a)) (.ok n (.bl b))=.ok .fz (.bl (a != b)):=cP rfl
@[simp] theorem x_eqS{a b:Str}:op2 (bM .Eq) (.ok m (.str a)) (.ok n (.str b))=.ok .fz (.bl (a==b)):=cP (by rfl)
@[simp] theorem x_neS{a b:Str}:op2 (bM .NotEq) (.ok m (.str a)) (.ok n (.str b))=.ok .fz (.bl (a != b)):=cP (by rfl)
@[simp] theorem x_inS{a b:Str}:op2 (bM .In) (.ok m (.str a)) (.ok n (.str b))=.ok .fz (.bl (jH a b)):=cP rfl
@[simp] theorem x_notinS{a b:Str}:op2 (bM .NotIn) (.ok m (.str a)) (.ok n (.str b))=.ok .fz (.bl (!jH a b)):=cP rfl
@[simp] theorem oE{a b:Str}(h:a.length+b.length<=sizeLine):op2 (bJ .Add) (.ok m (.str a)) (.ok n (.str b))=.ok .fz (.str (a++b)) :=
 cP (by
  have:fS (λi j=>decide (i.length+j.length<=sizeLine)) (λi j=>D.str (i++j)) m (.str a) n (.str b)=some (Md.fz,D.str (a++b)):=by show(if decide (a.length+b.length<=sizeLine)=true then some (Md.fz,D.str (a++b))else none)=_;rw[if_pos (aSP h)]
  show orO (orO (fI (λ_ _=>true) λi j=>.int (i+j)) (fS (λi j=>decide (i.length+j.length<=sizeLine)) λi j=>.str (i++j))) nO m (.str a) n (.str b)=_;simp only[orO,this];rfl)
@[simp] theorem x_isN{d:D}:op2 (bM .Is) (.ok m d) (.ok n .non)=.ok .fz (.bl (cJ d)):=cP rfl
@[simp] theorem x_isnotN{d:D}:op2 (bM .IsNot) (.ok m d) (.ok n .non)=.ok .fz (.bl (!cJ d)):=cP rfl
@[simp] theorem x_catL{x y:List D}(h:x.length+y.length<=sizeLine):op2 (bJ .Add) (.ok m (.lst x)) (.ok n (.lst y))=.ok .fr (.lst (x++y)):=cP (by
 show(if x.length+y.length<=sizeLine then some (Md.fr,D.lst (x++y))else none)=_;rw[if_pos h])
@[simp] theorem x_catT{x y:List D}(h:x.length+y.length<=sizeLine):op2 (bJ .Add) (.ok m (.tup x)) (.ok n (.tup y))=.ok .fz (.tup (x++y)):=cP (by
 show(if x.length+y.length<=sizeLine then some (Md.fz,D.tup (x++y))else none)=_;rw[if_pos h])
@[simp] theorem isn_n:cJ .non=true:=rfl
@[simp] theorem isn_i{i:Int}:cJ (.int i)=false:=rfl
@[simp] theorem isn_b{i:Bool}:cJ (.bl i)=false:=rfl
@[simp] theorem isn_s{i:Str}:cJ (.str i)=false:=rfl
@[simp] theorem isn_t{i:List D}:cJ (.tup i)=false:=rfl
@[simp] theorem isn_l{i:List D}:cJ (.lst i)=false:=rfl
@[simp] theorem x_andT{y:Res}:eR (.ok m (.bl true)) y=y:=rfl
@[simp] theorem x_andF{y:Res}:eR (.ok m (.bl false)) y=.ok .fz (.bl false):=rfl
@[simp] theorem x_orT{y:Res}:orR (.ok m (.bl true)) y=.ok .fz (.bl true):=rfl
@[simp] theorem x_orF{y:Res}:orR (.ok m (.bl false)) y=y:=rfl
@[simp] theorem x_and{a b:Bool}:eR (.ok m (.bl a)) (.ok .fz (.bl b))=.ok .fz (.bl (a&&b)):=by cases a <;> rfl
@[simp] theorem x_or{a b:Bool}:orR (.ok m (.bl a)) (.ok .fz (.bl b))=.ok .fz (.bl (a||b)):=by cases a <;> rfl
@[simp] theorem x_not{a:Bool}:kX (.ok m (.bl a))=.ok .fz (.bl (!a)):=rfl
@[simp] theorem x_tru{a:Bool}:kW (.ok m (.bl a))=.ok .fz (.bl a):=rfl
@[simp] theorem x_truI:kW (.ok m (.int i))=.ok .fz (.bl (i != 0)):=rfl
@[simp] theorem x_neg:nJ (.ok m (.int i))=.ok .fz (.int (-i)):=rfl
@[simp] theorem x_ifT{x y:aG}:ifS (.ok m (.bl true)) ρ x y=x:=rfl
@[simp] theorem aAJ{x y:aG}:ifS (.ok m (.bl false)) ρ x y=y:=rfl
@[simp] theorem x_frz:aW (.ok .fz d)=.ok .fz d:=rfl
@[simp] theorem x_frr:aW (.ok .fr d)=.ok .fz d:=rfl
@[simp] theorem x_set:eT ρ k (.ok .fz d)=.nx (ρ.set k (some (false,d))):=rfl
@[simp] theorem x_setr:eT ρ k (.ok .fr d)=.nx (ρ.set k (some (true,d))):=rfl
@[simp] theorem x_ret:jK (.ok .fz d) ρ=.rt .fz d:=rfl
@[simp] theorem x_retr:jK (.ok .fr d) ρ=.rt .fr d:=rfl
@[simp] theorem g_0{r:Rho}:cM (some (false,d)::r) 0=.ok .fz d:=rfl
@[simp] theorem g_0b{r:Rho}:cM (some (true,d)::r) 0=.ok .bo d:=rfl
@[simp] theorem g_s{x:Option (Bool×D)}{r:Rho}{i:Nat}:cM (x::r) (i+1)=cM r i:=rfl
@[simp] theorem g_1{x:Option (Bool×D)}{r:Rho}:cM (x::r) 1=cM r 0:=rfl
@[simp] theorem rs_0{r:Rho}:fF (some (false,d)::r) 0=.rt .fz d:=rfl
@[simp] theorem rs_0b{r:Rho}:fF (some (true,d)::r) 0=.rt .fr d:=rfl
@[simp] theorem rs_1{x:Option (Bool×D)}{r:Rho}:fF (x::r) 1=fF r 0:=rfl
@[simp] theorem rs_s{x:Option (Bool×D)}{r:Rho}{i:Nat}:fF (x::r) (i+1)=fF r i:=rfl
@[simp] theorem r_set0{x y:Option (Bool×D)}{r:Rho}:(x::r).set 0 y=y::r:=rfl
@[simp] theorem x_callR{f:List (Md×D)->Option (Md×D)}{xs:List (Md×D)}:eE f (.ok xs)=Res.of (f xs):=rfl
@[simp] theorem bn_len:Bn.f .len=fE:=rfl
@[simp] theorem bn_isi:Bn.f .isinstance=jJ:=rfl
@[simp] theorem bn_min:Bn.f .min=lC:=rfl
@[simp] theorem min_i{i j:Int}:lC [(m,.int i),(n,.int j)]=some (.fz,.int (if j<i then j else i)):=rfl
@[simp] theorem ty_int:Ty.f .int=jQ:=rfl
@[simp] theorem ty_str:Ty.f .str=lB:=rfl
@[simp] theorem ty_tuple:Ty.f .tuple=fH:=rfl
@[simp] theorem ty_dict:Ty.f .dict=lG:=rfl
@[simp] theorem ty_list:Ty.f .list=jO:=rfl
@[simp] theorem tci_i{i:Int}:jQ [(m,.int i)]=some (.fz,.int i):=rfl
@[simp] theorem tci_b{i:Bool}:jQ [(m,.bl i)]=some (.fz,.int (if i then 1 else 0)):=rfl
@[simp] theorem tct_l{i:List D}:fH [(m,.lst i)]=some (.fz,.tup i):=rfl
@[simp] theorem tct_t{i:List D}:fH [(.fz,.tup i)]=some (.fz,.tup i):=rfl
@[simp] theorem tcl_l{i:List D}:jO [(m,.lst i)]=some (.fr,.lst i):=rfl
@[simp] theorem tcl_t{i:List D}:jO [(m,.tup i)]=some (.fr,.lst i):=rfl
@[simp] theorem tcs_i{i:Int}(h:small i=true):lB [(m,.int i)]=some (.fz,.str (qC i)):=by show(if small i=true then _ else _)=_;rw[if_pos h]
@[simp] theorem len_s:fE [(m,.str z)]=some (.fz,.int z.length):=rfl
@[simp] theorem len_l{z:List D}:fE [(m,.lst z)]=some (.fz,.int z.length):=rfl
@[simp] theorem len_t{z:List D}:fE [(m,.tup z)]=some (.fz,.int z.length):=rfl
@[simp] theorem itm_l{z:List D}:eU (.ok m (.lst z))=.ok .fz (.lst z):=rfl
@[simp] theorem itm_t{z:List D}:eU (.ok m (.tup z))=.ok .fz (.lst z):=rfl
@[simp] theorem itm_s:eU (.ok m (.str z))=.ok .fz (.lst (jM z)):=rfl
end
@[simp] theorem WT_xf{t:TB}:(WT t k).xf=λc x=>t.xt.lookup (c,x):=by unfold WD.xf;rw[zT]
@[simp] theorem WT_xg{t:TB}:(WT t k).xg=λc x=>t.xi.lookup (c,x):=by unfold WD.xg;rw[zU]
section
variable  {c:Str}{ρ':Rho}{m:Md}{d:D}{xt:Str->Str->Option Bool}{hs:List HX}{g:Rho->aG}
@[simp] theorem x_frx:aW (.exc c)=.exc c:=rfl
@[simp] theorem x_setx:eT ρ k (.exc c)=.exc c ρ:=rfl
@[simp] theorem x_retx:jK (.exc c) ρ=.exc c ρ:=rfl
end
def dO{N:Nat}{g:Rho->aG}{m:Md}{d:D}(hl:ds.length=n)(h:g (f6 N ds)=.rt m d):phi n N g ds=.ok m d:=by unfold phi;rw[if_pos hl,h];rfl
def oF{xs:List (Md×D)}{d:D}(hl:ds.length=n)(ha:cN xs=some ds)(h:Φ ds=.ok .fz d):aY n Φ (.ok xs)=.ok .fz d:=by
 show(match cN xs with|some ds=>if ds.length=n then(match Φ ds with|.ok .bo _=>Res.stuck|r=>r)else .stuck|none=>.stuck)=_
 rw[ha];show(if ds.length=n then _ else _)=_;rw[if_pos hl,h]
@[simp] theorem sR{a d:D}(h:Φ [a]=.ok .fz d):aY 1 Φ (.ok [(.fz,a)])=.ok .fz d:=oF (ds:=[a]) rfl rfl h
@[simp] theorem cF{a b d:D}(h:Φ [a,b]=.ok .fz d):aY 2 Φ (.ok [(.fz,a),(.fz,b)])=.ok .fz d:=oF (ds:=[a,b]) rfl rfl h
@[simp] theorem aAK{a b c d:D}(h:Φ [a,b,c]=.ok .fz d):aY 3 Φ (.ok [(.fz,a),(.fz,b),(.fz,c)])=.ok .fz d:=oF (ds:=[a,b,c]) rfl rfl h
@[simp] theorem x_meth{Φ:Str->List D->Res}{c m:Str}{fs:List (Str×D)}{as:aR}(h:CI.meth cl c m=some (key,n))(hl:fs.lookup m=none):dD cl Φ m (.ok .fz (.ins c fs)) as=aY n (Φ key) (bP (.ok .fz (.ins c fs)) as):=by
 show(match CI.meth cl c m with|some (key,n)=>if fs.lookup m=none then aY n (Φ key) (bP (.ok .fz (.ins c fs)) as)else .stuck|none=>.stuck)=_
 rw[h];show(if fs.lookup m=none then _ else _)=_;rw[if_pos hl]
@[simp] theorem wt_cl{t:TB}:(WT t k).cl=t.cl:=oD t k
def bY{t:TB}{f:Str}{d:FD}(h:t.T.lookup f=some d):(WT t (k+1)).Φ f=phi d.ps.length d.N.length (evB (WT t k) d.b):=by rw[WT_Φ];unfold lT;rw[h]
@[simp] theorem call4{a b c e d:D}(h:Φ [a,b,c,e]=.ok .fz d):aY 4 Φ (.ok [(.fz,a),(.fz,b),(.fz,c),(.fz,e)])=.ok .fz d:=oF (ds:=[a,b,c,e]) rfl rfl h
theorem oG{W:WD}:∀{x y:List D3.S}{ρ:Rho},evB W (x++y) ρ=(evB W x ρ).thn (evB W y)
 |[],y,ρ=>by simp
 |s::x,y,ρ=>by
  show evB W (s::(x++y)) ρ=_;rw[iY,iY];cases evS W s ρ with
  |nx ρ'=>exact oG
  |_=>rfl
def bL{W:WD}{s:D3.S}{r:List D3.S}{ρ':Rho}(h:evS W s ρ=.nx ρ'):evB W (s::r) ρ=evB W r ρ':=by rw[iY,h];rfl
def gm(x y:Nat):Nat:=2 * (x.log2+y.log2)+(if x<y then 1 else 0)+(if y=0 then 0 else 2)
end D3
namespace Tp
open PySem.W PySem.Calls
structure S where
 t:BT
 n:Nat
 k:Nat
 nm:aV3
 g:List DictEntry
 tb:List aV3
def tupO(vs:List aV3):Obj:=⟨.type "tuple", none,.seq vs.toArray 0,#[]⟩
def fldO(c:aV3)(vs:List aV3):Obj:=⟨c,none,.fields vs.toArray,#[]⟩
def dicO(es:List DictEntry)(e:Nat):Obj:=⟨.type "dict", none,.dict es.toArray e,#[]⟩
def en(P:Params)(x:Str)(k:Nat)(v:aV3):DictEntry:=⟨PyData.keyHash P x,.str x k,v⟩
def texts:List Str->Nat->List aV3
 |[],_=>[]
 |x::xs,k=>.str x k::texts xs (k+1)
def fileS:Str := "/claim/cut.py"
noncomputable def codeO(name qual:Str)(k line argc fl:Nat)(isF:Bool)(a:Nat)(ls cs tm:aV3)(j:Nat):Obj :=
 fldO (.type "code") [.str name k,.str qual (k+1),.str fileS (k+2),.int line 0,.int argc 0,.int 0 0,.int 0 0,.int fl 0,.ref a,.bool isF,.int 181 0,.ref (a+1),.none,ls,cs,tm,.int j 0,.int line 0,.str fileS (j+1)]
noncomputable def frmO(code ns:Nat)(nm:aV3):Obj:=⟨.type "frame", none,.plain,#[some (.ref code),some (.ref 3),some (.ref ns),none,some nm,none,some (.ref 0)]⟩
def fnD(name qual:Str)(args:Arguments)(body:List Stmt)(sc:Scope)(gl:Nat)(nm cd:aV3):FuncData:=⟨name,qual,args,.stmts body,sc,gl,[],.none,.none,.none,nm,none,cd,.none,0⟩
def insL:List Obj->BT->Nat->BT
 |[],t,_=>t
 |o::os,t,n=>insL os (t.ins n o) (n+1)
def layF(name qual:Str)(args:Arguments)(body:List Stmt)(sc:Scope)(line n k:Nat)(nm:aV3):List Obj×Nat×Nat :=
 match localNames args sc (.stmts body)with
 |some (ls,cs) =>
  let a:=ls.length
  let b:=cs.length
  ([tupO [],fldO .none [],tupO (texts ls (k+3)),tupO (texts cs (k+3+a)),⟨.none,none,.func (fnD name qual args body sc 0 .none .none),#[]⟩,
   codeO name qual k line args.args.length 3 true n (.ref (n+2)) (.ref (n+3)) (.ref (n+4)) (k+3+a+b),⟨.type "function", none,.func (fnD name qual args body sc 3 nm (.ref (n+5))),#[]⟩],n+5,k+5+a+b)
 |none =>
  ([tupO [],fldO .none [],⟨.none,none,.func (fnD name qual args body sc 0 .none .none),#[]⟩,
   codeO name qual k line args.args.length 3 true n .none .none (.ref (n+2)) (k+3),⟨.type "function", none,.func (fnD name qual args body sc 3 nm (.ref (n+3))),#[]⟩],n+3,k+5)
def look(x:Str):List DictEntry->Option aV3
 |[]=>none
 |⟨_,.str y _,v⟩::es=>match decide (x=y)with|true=>some v|false=>look x es
 |_::es=>look x es
structure B where
 t:BT
 n:Nat
 k:Nat
 es:List DictEntry
 tb:List aV3
def layB(P:Params)(cn:Str)(nm:aV3):List Stmt->B->B
 |.FunctionDef name args body _ _ _ sc _ _ pos::r,⟨t,n,k,es,tb⟩ =>
  match layF name (cn ++ "." ++ name) args body sc pos.line n k nm with
  |(os,c,j)=>layB P cn nm r ⟨insL os t n,n+os.length,j+1,en P name j (.ref (c+1))::es,.ref c :: .int pos.col 0 :: .int pos.line 0::tb⟩
 |_::r,b=>layB P cn nm r b
 |[],b=>b
def mroOf(t:BT)(a:Nat):List aV3×aV3:=match t.get a with
 |some ⟨_,_,.cls c,sl⟩=>(c.mro,(sl.getD 4 none).getD .none)
 |_=>([],.none)
def subTo(a:Nat):Obj->Obj
 |⟨c,d,.cls k,sl⟩=>⟨c,d,.cls {k with subclasses:=k.subclasses++[.ref a]},sl⟩
 |o=>o
noncomputable def layC(P:Params)(name:Str)(bases:List PySem.Expr)(body:List Stmt)(st:List Str)(line:Nat):S->S
 |⟨t,n,k,nm,g,tb⟩ =>
  let bs:List aV3:=match bases with
   |.Name b _::_=>(match look b g with|some v=>[v]|none=>[.type "ValueError"])
   |_=>[]
  let n2:=n+2
  let t1:=insL [tupO bs,fldO (.type "builtin_function_or_method") [.builtin "type.__prepare__", .type "type"],dicO [] 0,tupO [],fldO .none [],codeO name name (k+2) line 0 0 false (n+3) .none .none .none (k+5),frmO (n+5) n2 nm] t n
  match layB P name nm body ⟨t1,n+7,k+12,[en P "__firstlineno__" (k+11) (.int line (k+10)),en P "__qualname__" (k+9) (.str name (k+8)),en P "__module__" (k+7) nm],[]⟩with
  |⟨t2,m,j,es,ct⟩ =>
   let es1:=en P "__static_attributes__" (j+st.length) (.ref m)::es
   let j1:=j+st.length+1
   let t3:=(t2.set n2 λ_=>dicO es1.reverse es1.length).set (n+4) λ_=>fldO .none ct.reverse
   let cl:=m+2
   let cp:=(es1.reverse.take 1)++(es1.reverse.drop 2)
   let fin (mro:List aV3) (nw:aV3) (bv:List aV3) (sl0:Option aV3) (xs:List DictEntry) (gs:List Obj) (t:BT) (j:Nat):S :=
    let os:=[tupO (texts st (m-m+(j1-1-st.length))),dicO (cp++xs++[en P "__doc__" j .none]) (2+xs.length),⟨.type "type", none,.cls ⟨name,bv,.ref cl::mro,m+1,name,true,[],[],false,none,false⟩,#[sl0,none,some (.str name k),some (.str name (k+8)),some nw,some (.bool true)]⟩]
     ++ gs++[fldO (.type "super") [.ref cl,.ref cl,.ref cl],fldO (.type "builtin_function_or_method") [.builtin "object.__init_subclass__", .ref cl]]
    ⟨insL os t m,m+os.length,j+3,nm,en P name (j+2) (.ref cl)::g,.ref (n+5) :: .int 0 0 :: .int line 0::tb⟩
   let gw (j a:Nat):=fldO (.type "getset_descriptor") [.str "__weakref__" j,.ref cl,.builtin "ExceptionGroup.__weakref__", .none]
   match bs with
   | [] => fin [.type "object"] (.builtin "object.__new__") [.type "object"] none [en P "__dict__" (j1 + 1) (.ref (m + 3)), en P "__weakref__" (j1 + 3) (.ref (m + 4))]
       [fldO (.type "getset_descriptor") [.str "__dict__" j1,.ref cl,.builtin "function.__dict__", .builtin "function.__dict__#set"],gw (j1+2) 0] t3 (j1+4)
   |.ref a::_=>match mroOf t3 a with
    |(mro,nw)=>fin mro nw bs (some (.ref n)) [] [] (t3.set a (subTo cl)) j1
   |_=>fin [.type "ValueError", .type "Exception", .type "BaseException", .type "object"] (.builtin "ValueError.__new__") bs (some (.ref n)) [en P "__weakref__" (j1+1) (.ref (m+3))] [gw j1 0] t3 (j1+2)
def keysD(P:Params)(g:List DictEntry):List (Option PySem.Expr)->List PySem.Expr->Nat->List DictEntry
 |some (.Constant (.str x) _ _)::ks,.Name y _::vs,k=>en P x k ((look y g).getD .none)::keysD P g ks vs (k+1)
 |_,_,_=>[]
def put(P:Params)(x:Str)(v:aV3)(t:BT)(n k:Nat)(nm:aV3)(g:List DictEntry)(tb:List aV3):S:=match decide (x="__name__")with
 |true=>⟨t,n,k+1,v,g,tb⟩
 |false=>⟨t,n,k+1,nm,en P x k v::g,tb⟩
def lay1(P:Params):Stmt->S->S
 |.FunctionDef name args body _ _ _ sc _ _ pos,⟨t,n,k,nm,g,tb⟩=>match layF name name args body sc pos.line n k nm with
  |(os,c,j)=>⟨insL os t n,n+os.length,j+1,nm,en P name j (.ref (c+1))::g,.ref c :: .int pos.col 0 :: .int pos.line 0::tb⟩
 |.ClassDef name bases _ body _ _ _ _ _ st pos,s=>layC P name bases body st pos.line s
 |.Assign [.Name x _] (.Constant (.str v) _ _) _,⟨t,n,k,nm,g,tb⟩=>put P x (.str v k) t n (k+1) nm g tb
 |.Assign [.Name x _] (.Constant (.int v) _ _) _,⟨t,n,k,nm,g,tb⟩=>put P x (.int v k) t n (k+1) nm g tb
 |.Assign [.Name x _] (.Dict ks vs _) _,⟨t,n,k,nm,g,tb⟩=>put P x (.ref n) (t.ins n (dicO (keysD P g ks vs k) vs.length)) (n+1) (k+2 * vs.length) nm g tb
 |_,s=>s
def lay(P:Params):List Stmt->S->S
 |[],s=>s
 |st::r,s=>lay P r (lay1 P st s)
noncomputable def s0(os:List Obj):S :=
 ⟨insL [tupO [],fldO .none [],codeO "<module>" "<module>" 182 1 0 0 false 11 .none .none .none 185,frmO 13 3 (.str "__main__" 164)] (insL os .nil 0) 11,15,187,.str "__main__" 164,[],[]⟩
def nameTo(nm:aV3):List DictEntry->List DictEntry
 |e::es=>{e with val:=nm}::es
 |[]=>[]
def mainTo(nm:aV3)(g:List DictEntry):Obj->Obj
 |⟨c,d,.dict es e,sl⟩=>⟨c,d,.dict (nameTo nm es.toList++g.reverse).toArray (e+g.length),sl⟩
 |o=>o
noncomputable def S.bt(s:S):BT:=(s.t.set 3 (mainTo s.nm s.g)).set 12 λ_=>fldO .none s.tb.reverse
def z0:Pos:=⟨0,0,0,0⟩
def an:Option aV3:=some (.ref 6)
def ev(p:aV7):Env:={scope:=p.main.scope,locals:=mainNs,globals:=mainNs,cells:=[],code:=.ref 13,frame:=some 14}
noncomputable def cd(p:aV7):Code:=.body (behindTheImports p) (ev p)
noncomputable def go(tb:String->Option Builtin)(p:aV7)(w:aV6)(F:Nat):List Stmt->SharedT->Code->Pos->Option (SharedT×Code×Pos)
 |[],s,c,q=>some (s,c,q)
 |st::l,s,c,q=>match segRunT tb p w 11 an 1 F s (pieceOf st (ev p) c q [topFrame z0])with
  |some (.next,s',c',q')=>go tb p w F l s' c' q'
  |_=>none
def ns(F N:Nat):List Stmt->Nat
 |[]=>N
 |_::l=>F+ns F N l
section
variable {tb:String->Option Builtin}{p:aV7}
def one{N:Nat}{r:aV4}{rest:List Stmt}{c c':Code}{e:Env}{q:Pos}(h:segRun tb p w 11 an 1 n s (pieceOf st e c q [topFrame z0])=some (.next,s',c',q'))(k:topRun tb p w 11 an N s' (restOf rest e c' q' [topFrame z0])=some r):topRun tb p w 11 an (n+N) s (restOf (st::rest) e c q [topFrame z0])=some r:=by
 obtain⟨a,ha,hN⟩:=seg_top (B:=[topFrame z0]) (res:=id)
  (K':=λf=>match f with
   |.next=>(execs rest e).wrap doneF (leaveH e) id id
   |f=>doneF f)
  (H':=leaveH e) rfl n s (pieceOf st e c q [topFrame z0])
  ⟨(exec st e).wrap (λf=>match f with
   |.next=>(execs rest e).wrap doneF (leaveH e) id id
   |f=>doneF f) (leaveH e) id id,c,q,[topFrame z0]⟩ _ _ _ _ ⟨rfl,rfl,.inl ⟨rfl,rfl,_,rfl,rfl⟩⟩ h
 cases ha;unfold restOf;rw[execs_cons_wrap];exact hN N r k
theorem go_top'{F:Nat}:∀(l:List Stmt) {s s':SharedT}{c c':Code}{q q':Pos},go tb p w F l s c q=some (s',c',q')->∀{N:Nat}{r:aV4}{rest:List Stmt},topRun tb p w 11 an N s'.abs (restOf rest (ev p) c' q' [topFrame z0])=some r->topRun tb p w 11 an (ns F N l) s.abs (restOf (l++rest) (ev p) c q [topFrame z0])=some r
 |[],_,_,_,_,_,_,h,_,_,_,k=>by cases h;exact k
 |st::l,s,s',c,c',q,q',h,N,r,rest,k=>by
  unfold go at h;split at h
  . rename_i x e;exact one (segRun_of e) (go_top' l h k)
  . cases h
def fin2(s:aV4)(c:Code)(q:Pos):topRun tb p w 11 an 2 s (restOf [] (ev p) c q [topFrame z0])=some s:=by obtain⟨h,g,d,k,o⟩:=s;rfl
noncomputable def sh(P:Params)(S:S)(n k:Nat)(os:OsState):SharedT:=⟨S.bt,n,(boot_heap P).life,#[],boot_drawn,k,os⟩
noncomputable def sA(P:Params):S:=s0 (boot_heap P).objs.toList
def run_of{l:List Stmt}{c':Code}(hl:behindTheImports p=l)(pre:∀(w:aV6) (os:OsState),topGo treeTable p w 11 an 12 ⟨boot_heap w.params,#[],boot_drawn,boot_toks,os⟩ (topStub p)=some ((sh w.params (sA w.params) 15 187 os).abs,⟨denote treeTable (cd p),cd p,z0,[topFrame z0]⟩))(blk:∀(w:aV6) (s:aV4),segRun treeTable p w 11 an 1 1 s (blockOf l (ev p) (cd p) z0 [topFrame z0])=some (.next,s,cd p,z0))(run:∀(w:aV6) (os:OsState),go treeTable p w 1000 l (sh w.params (sA w.params) 15 187 os) (cd p) z0=some (sh w.params (lay w.params l (sA w.params)) n k os,c',q')):∀(w:aV6) (os:OsState),topRun treeTable p w 11 an (12+(1+ns 1000 2 l)) ⟨boot_heap w.params,#[],boot_drawn,boot_toks,os⟩ (topStub p)=some (sh w.params (lay w.params l (sA w.params)) n k os).abs:=by
 intro w os;refine go_top (pre w os) ?_;unfold cd;rw[hl];refine piece_block (n:=1) (by have:=blk w (sh w.params (sA w.params) 15 187 os).abs;unfold cd at this;rw[hl]at this;exact this) ?_
 have:=go_top' l (run w os) (rest:=[]) (fin2 _ _ _);rw[aRQ]at this;unfold cd at this;rw[hl]at this;exact this
end
noncomputable def KK(l:List Stmt)(as:List Addr)(P:Params):Frag:=as.map λa=>(a,((lay P l (sA P)).bt.get a).getD default)
def KK_e(l:List Stmt)(as:List Addr)(P:Params):as=(KK l as P).map (·.1):=by unfold KK;rw[aVA];exact(List.map_id as).symm
noncomputable def hk(l:List Stmt)(as:List Addr):Hook:=kHook (KK l as) as (KK_e l as)
noncomputable def H1(l:List Stmt)(n:Nat)(P:Params):Heap:=absHeap (lay P l (sA P)).bt n (boot_heap P).life
noncomputable def S1(l:List Stmt)(n k:Nat)(P:Params)(os:OsState):aV4:=⟨H1 l n P,#[],boot_drawn,k,os⟩
def bnd(n:Str):Stmt->List Str
 |.FunctionDef x ..=>if x==n then[]else[x]
 |.ClassDef x ..=>[x]
 |.Assign [.Name x _] _ _=>if x == "__name__" then[]else[x]
 |_=>[]
def los(l:List Stmt):List Str:=l.flatMap (bnd "law")
def vw(p:aV7):aV7:={ p with main:={ p.main with body:=p.main.body.filter λst=>match st with|.FunctionDef x ..=>x == "law" |_=>false } }
def xt(r:OpenRow)(s:aV4):Bool:=xlAt (vw r.prog) [] s&&recOk r.toRowW.records s
def size1(w:aV6):((boot_heap w.params).isNs mainGlobals&&(#[]:Array GenState).size==0,(boot_heap w.params).objs.size,(boot_heap w.params).nsMap mainGlobals "__annotations__")=(true,11,an):=by kernel_rfl
end Tp
def Tp.twA:Prod.fst (true,(@Tp.go,@Tp.lay,@Tp.sh,@Tp.sA,@Tp.cd,@Tp.ev,@Tp.S.bt,@Tp.KK,@Tp.hk,@Tp.H1,@Tp.S1,@Tp.los,@Tp.vw,@Tp.xt))=true:=by k_qdec
namespace D3
open PySem.Calls
def sS(q:Str):Str:=q ++ ".<locals>." ++ gG q
def cdT:aV3->aV3->aV3->aV3->aV3->aV3->Option Addr
 |.type "code", .ref T,.str _ _,.int _ _,.bool _,.int _ _=>some T
 |_,_,_,_,_,_=>none
def iB:Obj->Option (Str×Option Addr)
 |⟨cl,_,.fields vs,_⟩=>match vs.toList with
  |_ :: .str q _::_=>some (q,cdT cl (vs.getD 11 .none) (vs.getD 18 .none) (vs.getD 7 .none) (vs.getD 9 .none) (vs.getD 10 .none))
  |_=>none
 |_=>none
def tq(b:Addr):Fg->Option Str
 |[]=>none
 |(_,o)::r=>match iB o with
  |some (q,some T)=>if T=b then some q else tq b r
  |_=>tq b r
def sU:Option Obj->Bool
 |some ⟨.none,none,.fields vs,sl⟩=>vs.size==0&&sl.size==0
 |_=>false
noncomputable def oH(K Kf:Fg):Bool:=K.all λ(c,o)=>match iB o with
 |none=>true
 |some (q,some T)=>tq T K==some q&&(K.lookup T).isNone&&sU (Kf.lookup T)&&c != T
 |some (_,none)=>false
def aN1{o:Option Obj}(h:sU o=true):o=some ⟨.none,none,.fields #[],#[]⟩:=by
 unfold sU at h;split at h
 . rename_i vs sl;simp only[aSI,aRK]at h;obtain rfl:vs = #[]:=aVU h.1;obtain rfl:sl = #[]:=aVU h.2;rfl
 . cases h
def aAL{o:Obj}{T:Addr}(h:iB o=some (q,some T)){c:Addr}(e:hp.get? c=some o)(ne:c≠T):W.CodeHd hp c T:=by
 obtain⟨cl,od,dt,sl⟩:=o;unfold iB at h;split at h
 . rename_i cl' od' vs sl' he;cases he;split at h
   . rename_i a q' t r hv;have h1:=aQJ h;have h2:cdT cl (vs.getD 11 .none) (vs.getD 18 .none) (vs.getD 7 .none) (vs.getD 9 .none) (vs.getD 10 .none)=some T:=congrArg Prod.snd h1;unfold cdT at h2;split at h2
     . rename_i e1 e2 e3 e4 e5;cases h2;refine⟨_,vs,_,_,_,_,_,_,_,e,rfl,rfl,?_,e1,e2,e3,e4,e5,ne⟩;rw[aUV]at e1;cases q:vs[11]? with
       |none=>rw[q]at e1;cases e1
       |some v=>rw[q]at e1;exact congrArg some e1
     . cases h2
   . cases h
 . cases h
def aN2{cd:aV3}(h:W.codeIn K cd q=true):∃c o,cd=.ref c/\K.lookup c=some o/\∃x,iB o=some (q,x):=by
 unfold W.codeIn at h;split at h
 . rename_i c;split at h
   . rename_i e;split at h
     . rename_i a n t r hv;refine⟨c,_,rfl,e,?_⟩;rw[aRK]at h;subst h;unfold iB;dsimp only;rw[hv];exact⟨_,rfl⟩
     . cases h
   . cases h
 . cases h
theorem aAM{c:Addr}{o:Obj}:∀{K:Fg},K.lookup c=some o->(c,o)∈K
 |[],h=>by cases h
 |(b,u)::r,h=>by
  rw[aTB]at h;split at h
  . rename_i hb;cases h;have hb:=aRK.mp hb;subst hb;exact mcs
  . exact mcm (aAM h)
theorem sV{b:Addr}{q:Str}:∀{K:Fg},tq b K=some q->∃c o,(c,o)∈K/\iB o=some (q,some b)
 |[],h=>by cases h
 |(c,o)::r,h=>by
  unfold tq at h;split at h
  . rename_i q' T e;split at h
    . rename_i ht;cases h;subst ht;exact⟨c,o,mcs,e⟩
    . obtain⟨c',o',m,x⟩:=sV h;exact⟨c',o',mcm m,x⟩
  . obtain⟨c',o',m,x⟩:=sV h;exact⟨c',o',mcm m,x⟩
structure TabF(K Kf:Fg):Prop where
 all:∀c o,(c,o)∈K->∀q x,iB o=some (q,x)->∃T,x=some T/\tq T K=some q/\K.lookup T=none/\Kf.lookup T=some ⟨.none,none,.fields #[],#[]⟩/\c≠T
def aN3{Kf:Fg}(h:oH K Kf=true):TabF K Kf:=⟨λc o m q x e=>by
 have h1:=aU9.mp h (c,o) m;dsimp only at h1;rw[e]at h1;cases x with
 |none=>cases h1
 |some T =>
  dsimp only at h1;simp only[aSI,aRK,aVP,aVO]at h1;exact⟨T,rfl,h1.1.1.1,h1.1.1.2,aN1 h1.1.2,h1.2⟩⟩
def aN4{Kf:Fg}{mb:SOV}{fa a:Addr}{s₁:aV4}{ns:List Int}(KX:Kf.In s₁.heap)(sub:∀b o,K.lookup b=some o->Kf.lookup b=some o)(tb:TabF K Kf)(nd:∀b o,(b,o)∈K->K.lookup b=some o)(hns:s₁.heap.Ns mainGlobals mg)(hb:s₁.heap.Ns builtinsNs mb)(hbb:∀x:Str,x ≠ "__name__" -> mb x=bootBuiltins x)(hlim:s₁.heap.NoLimit)(hbm:∃bm ob,mg "__builtins__" = some (.ref bm)/\bm≠builtinsNs/\s₁.heap.get? bm=some ob/\ob.cls=.type "module" /\ ob.dict=some builtinsNs/\ob.data=.plain)(hg:s₁.gens = #[])(ha:s₁.heap.get? a=some { cls:=.type "list", data:=.seq vs.toArray })(hi:IntsAre vs ns)(hl:ns.length<=sizeLine)(hr:cA k callerA)(F:∀base:Heap,K.In base->base.Ns mainGlobals mg->bS P w K mg base CX k fa fd [x] sp)(hbind:∀(s:aV4) (u:aV3),BindsTo s fd ⟨[u],[]⟩ [(x,u)])(hsp:∀H:Hp,SqL K H a (ns.map V.int)->sp [.ref a] H (λv _=>v=.bl true) λ_ _ _=>False)(hCX:∀H e s',CX [] H s₁ (λ_ _ _=>False) e s'->False):codeAny (model P w) callerA (.call (.ref fa) ⟨[.ref a],[]⟩) (λr s'=>r=.ok (.ret (.bool true))/\OldK s₁.heap s'.heap/\s'.os=s₁.os/\AllBare s'.gens) s₁:=by
 have KX':K.In s₁.heap:=λb o e=>KX b o (sub b o e);have rv:=vY hi;have lenV:=hi.length
 let sob:Obj:={ cls:=.type "list", data:=.seq vs.toArray }
 let H:Hp:=λb=>match tq b K with
  |some q=>some (.tbl #[.str (sS q) 0])
  |none=>if b=a/\K.lookup a=none then some (.frz sob (.lst (ns.map V.int)))else none
 have tabAt:∀{b:Addr}{q:Str},tq b K=some q->K.lookup b=none/\s₁.heap.get? b=some ⟨.none,none,.fields #[],#[]⟩/\isCodeTable s₁.heap b:=λ{b q} e=>by obtain⟨c,o,m,x⟩:=sV e;obtain⟨T,e1,_,e3,e4,e5⟩:=tb.all c o m q _ x;cases e1;obtain⟨o',vs',_,_,_,_,_,_,_,g1,g2,g3,g4,_⟩:=aAL x (KX' c o (nd c o m)) e5;exact⟨e3,KX _ _ e4,c,o',vs',g1,g2,g3,g4⟩
 have nota:tq a K=none:=by
  cases e:tq a K with
  |none=>rfl
  |some q=>have:=(tabAt e).2.1;rw[ha]at this;cases this
 have Htab:∀{b:Addr}{q:Str},tq b K=some q->H b=some (.tbl #[.str (sS q) 0]):=λ{b q} e=>by
  show(match tq b K with|some q=>_|none=>_)=_
  rw[e]
 have Hno:∀{b:Addr},tq b K=none->H b=if b=a/\K.lookup a=none then some (.frz sob (.lst (ns.map V.int)))else none:=λ{b} e=>by
  show(match tq b K with|some q=>_|none=>_)=_
  rw[e]
 have HK:∀{b:Addr}{o:Obj},K.lookup b=some o->H b=none:=λ{b o} e=>by
  cases q:tq b K with
  |some x=>have:=(tabAt q).1;rw[e]at this;cases this
  |none=>rw[Hno q,if_neg];rintro⟨rfl,z⟩;rw[e]at z;cases z
 have noD:∀{b:Addr}{o:Obj}{es:Array DictEntry}{ep:Nat},s₁.heap.get? b=some o->o.data=.dict es ep->H b=none:=λ{b o es ep} e d=>by
  cases q:tq b K with
  |some x=>have:=(tabAt q).2.1;rw[e]at this;cases this;cases d
  |none=>rw[Hno q,if_neg];rintro⟨rfl,z⟩;rw[ha]at e;cases e;cases d
 have noM:∀{b:Addr}{o:Obj},s₁.heap.get? b=some o->o.cls=.type "module" -> H b=none:=λ{b o} e d=>by
  cases q:tq b K with
  |some x=>have:=(tabAt q).2.1;rw[e]at this;cases this;cases d
  |none=>rw[Hno q,if_neg];rintro⟨rfl,z⟩;rw[ha]at e;cases e;injection d with d;exact absurd d (by decide)
 have hok:HOk P w H s₁.heap:=λb u e=>by
  cases q:tq b K with
  |some x=>rw[Htab q]at e;cases e;refine⟨sS x,#[],rfl,(tabAt q).2.1,trivial,λz cv f=>?_⟩;cases f
  |none =>
   rw[Hno q]at e;split at e
   . rename_i hc;cases e;obtain⟨rfl,_⟩:=hc;exact⟨ha,by rw[aR2];exact hl,vs,_,rv,ha⟩
   . cases e
 have hS:SqL K H a (ns.map V.int):=by
  cases hk:K.lookup a with
  |some o=>have e:=KX' a o hk;rw[ha]at e;cases e;exact .inr ⟨_,vs.toArray,_,hk,rfl,rfl,rfl,by rw[aRI,lenV];exact hl,by simpa using rv⟩
  |none=>exact .inl (.inr ⟨sob,by rw[Hno nota,if_pos ⟨rfl,hk⟩]⟩)
 have nsK:∀{b:Addr}{m:SOV},s₁.heap.Ns b m->(gE s₁.heap H).Ns b m:=λ{b m} ⟨o,es,ep,e,d,r⟩=>⟨o,es,ep,pC e (noD e d),d,r⟩;have hKb:K.In (gE s₁.heap H):=λb o e=>pC (KX' b o e) (HK e);have hM:Mod K mg (gE s₁.heap H):=⟨hKb,nsK hns,⟨mb,nsK hb,hbb⟩,let⟨mc,h1,h2⟩:=hlim;⟨mc,nsK h1,h2⟩,let⟨bm,ob,b1,b2,b3,b4,b5,b6⟩:=hbm;⟨bm,ob,b1,b2,pC b3 (noM b3 b4),b4,b5,b6⟩⟩
 have hT:jA K (gE s₁.heap H) H:=λcd q e=>by obtain⟨c,o,rfl,lk,y,hy⟩:=aN2 e;obtain⟨T,rfl,e2,_,_,e5⟩:=tb.all c o (aAM lk) q y hy;exact⟨c,T,_,rfl,aAL hy (hKb c o lk) e5,Htab e2,rfl⟩
 have e0:kS P w K mg (gE s₁.heap H) callerA [] s₁ H:=⟨rfl,hM,λb o e=>aCY e,Nat.le_of_eq (aCX _ _),trivial,λb hb=>absurd (show b∈([]:List Addr)from hb) (by simp),hok,.of_eq hg,hT⟩
 refine aSX ((F _ hKb (nsK hns)).run callerA [] s₁ H ⟨[.ref a],[]⟩ [.ref a] [.ref a] _ _ hr e0 (hbind s₁ (.ref a)) (.cons rfl .nil) (hsp H hS)) λr s' h=>?_;cases r with
 |error e=>exact(hCX H e s' h).elim
 |ok fl =>
  cases fl with
  |next=>exact False.elim h
  |brk=>exact False.elim h
  |cont=>exact False.elim h
  |ret u =>
   obtain⟨v,H',os,bare,un,hok',r',q⟩:=h;have q':v=.bl true:=q;subst q';obtain rfl:u=Value.bool true:=r';have was:∀b o,s₁.heap.get? b=some o->asItWas s₁.heap s'.heap b o/\∃o',s'.heap.get? b=some o':=λb o e=>by
    cases q:tq b K with
    |some x=>obtain⟨more,z⟩:=un.tbls b _ (Htab q);obtain⟨_,m,_,g,_⟩:=hok' b _ z;obtain⟨_,t2,t3⟩:=tabAt q;rw[e]at t2;cases t2;exact⟨.inr (.inl ⟨t3,rfl,#[],m,rfl,by rw[g];simp⟩),_,g⟩
    |none =>
     have hn:=Hno q;split at hn
     . rename_i hc;obtain⟨rfl,_⟩:=hc;have z2:=un.frzs _ _ _ hn;obtain⟨e2,_⟩:=hok' _ _ z2;rw[ha]at e;cases e;exact⟨.inl e2,_,e2⟩
     . have:=un.keep b o e hn (by intro z;exact absurd (show b∈([]:List Addr)from z) (by simp)) (by simp)
       exact⟨.inl this,o,this⟩
   exact⟨rfl,⟨λb o e=>(was b o e).1,λb o e=>(was b o e).2⟩,os,bare⟩
def aN5{l:W.OpenLaw}{q:aV7}{d:DefRec}{K Kf:Params->Fg}{CX:aV6->CXT}{sp:aV6->Sp}(hn:l.most=some n)(hn2:n<=sizeLine)(hdf:d.params.defaults=[])(hr:cA k callerA)(hY:∀(w:aV6) (h:Heap),YP w h->(Kf w.params).In h)(sub:∀P b o,(K P).lookup b=some o->(Kf P).lookup b=some o)(nd:∀P b o,(b,o)∈K P->(K P).lookup b=some o)(tb:∀P,oH (K P) (Kf P)=true)(F:∀(w:aV6) (mg:SOV) (fa:Addr) (h:Heap),(K w.params).In h->h.Ns mainGlobals mg->mg d.name=some (.ref fa)->∃fd:FuncData,(∀(s:aV4) (u:aV3),BindsTo s fd ⟨[u],[]⟩ [(x,u)])/\∀base:Heap,(K w.params).In base->base.Ns mainGlobals mg->bS l.prog w (K w.params) mg base (CX w) k fa fd [x] (sp w))(hsp:∀(w:aV6) (H:Hp) (a:Addr) (ns:List Int),ns.length<=n->SqL (K w.params) H a (ns.map V.int)->sp w [.ref a] H (λv _=>v=.bl true) λ_ _ _=>False)(hCX:∀(w:aV6) (H:Hp) (s:aV4) (e:aV3) (s':aV4),CX w [] H s (λ_ _ _=>False) e s'->False):W.WalkO q loose XP YP l.row.toRowW d [] (λf vs=>PySem.call f vs):=by refine Att.aFJ hn hdf λw s₀ s₁ mg mb fa o pm cd doc a vs ns G Y ho hd hcd hmg hobj hints hlen hg=>?_;have KX:=hY w _ Y;obtain⟨fd,hb,hF⟩:=F w mg fa _ (λb o e=>KX b o (sub _ b o e)) G.T.g hmg;exact aN4 KX (sub w.params) (aN3 (tb w.params)) (nd w.params) G.T.g G.T.b G.T.builtins G.T.nolimit G.T.bmain hg hobj hints (aQR hlen hn2) hr hF hb (λH hS=>hsp w H a ns hlen hS) λH e s'=>hCX w H s₁ e s'
noncomputable def adB(K:Fg)(x:Str):Option Addr:=match W.nsIn K mainGlobals x with|some (some (.ref a))=>some a|_=>none
def eZ{a:Addr}(h:adB K x=some a):W.nsIn K mainGlobals x=some (some (.ref a)):=by
 unfold adB at h;split at h
 . rename_i b e;cases h;exact e
 . cases h
noncomputable def isKey(key:Str):Addr×Obj->Bool
 |(_,⟨.type t,_,.func fd,_⟩)=>t == "function" && fd.qualname==key
 |_=>false
noncomputable def faK(K:Fg)(key:Str):Addr:=match K.find? (isKey key)with|some p=>p.1|none=>0
noncomputable def stOf(fd:FuncData)(b:List Stmt):Stmt:=.FunctionDef fd.name fd.params b [] none [] fd.scope none fd.name ⟨0,0,0,0⟩
noncomputable def parB(p:Arguments)(ps:List Str):Bool:=p.posonlyargs.isEmpty&&(p.args.map (·.arg)==ps)&&p.vararg.isNone&&p.kwonlyargs.isEmpty&&p.kwarg.isNone&&decide ps.Nodup
noncomputable def fdB(K:Fg)(nm:Option Str)(key:Str)(a:Addr)(ps:List Str)(f:Stmt->Bool)(fd:FuncData)(b:List Stmt):Bool :=
 (nm.getD fd.name==fd.name)&&((fd.qualname==key)&&(fd.globals==mainGlobals&&(fd.closure.isEmpty&&((fd.defaults == .none)&&(fd.builtins==builtinsNs&&(W.codeIn K fd.code key&&(W.keepIn K (.ref a)&&(parB fd.params ps&&f (stOf fd b)))))))))
noncomputable def j7(K:Fg)(nm:Option Str)(key:Str)(a:Addr)(ps:List Str)(f:Stmt->Bool):Bool:=match K.lookup a with
 |some ⟨_,_,.func fd,_⟩=>(match fd.body with
  |.stmts b=>fdB K nm key a ps f fd b
  |_=>false)
 |_=>false
def sW{nm:Option Str}{a:Addr}{f:Stmt->Bool}(h:j7 K nm key a ps f=true):∃name st fd,Fun K name key st a fd/\dA K fd ps []/\f st=true/\nm.getD name=name/\∀us:List aV3,us.length=ps.length->bindArgs fd ⟨us,[]⟩=pure (ps.zip us):=by
 unfold j7 at h;split at h
 . rename_i oc od fd sl el;split at h
   . rename_i b eb;unfold fdB at h;simp only[aSI]at h;obtain⟨h1,h2,h3,h4,h5,h6,h7,h8,h9,h10⟩:=h;obtain⟨name,qualname,params,body,scope,globals,closure,defaults,kwdefaults,doc,pm,an,code,ct,bl⟩:=fd;dsimp only at *;obtain rfl:=eb;obtain rfl:=aRK.mp h2;obtain rfl:=aRK.mp h3;obtain rfl:=aVN.mp h4;obtain rfl:=aRK.mp h5;obtain rfl:=aRK.mp h6;unfold parB at h9;simp only[aSI,aVN,aRK,aVO,aTC]at h9;obtain⟨⟨⟨⟨⟨p1,p2⟩,p3⟩,p4⟩,p5⟩,p6⟩:=h9;have bp:=zI (fd:=W.fnOf name qualname params b scope .none kwdefaults doc pm an code ct) p1 p2 p3 p4 p5 rfl p6;exact⟨name,_,_,aFK (st:=stOf ⟨name,qualname,params,.stmts b,scope,mainGlobals,[],.none,kwdefaults,doc,pm,an,code,ct,builtinsNs⟩ b) el h7 h8,.all bp,h10,aRK.mp h1,bp⟩
   . cases h
 . cases h
noncomputable def gvB(K:Fg)(x:Str):GV->Bool
 |.con (.s y)=>(match W.nsIn K mainGlobals x with|some (some (.str z _))=>z==y|_=>false)
 |.con (.i n)=>(match W.nsIn K mainGlobals x with|some (some (.int z _))=>z==n|_=>false)
 |.con (.t _)=>true
 |.no=>W.nsIn K mainGlobals x==some none
 |.fn _=>W.nsIn K mainGlobals x==some (some (.ref (faK K x)))
 |.cls=>true
noncomputable def oJ(K:Fg)(C:Addr):Bool:=W.plainGet K C Str.empty&&(W.hasDictIn K C&&(W.plainOver K C&&W.findIn K (.ref C) "__setattr__" == some (some (.builtin "object.__setattr__"))))
def aAN{C:Addr}(h:oJ K C=true):Cls K C:=by unfold oJ at h;simp only[aSI,aRK]at h;exact⟨h.1,h.2.1,h.2.2.1,h.2.2.2⟩
noncomputable def sX(K:Fg)(C:Addr)(x:Str×Str×Nat):Bool:=W.findIn K (.ref C) x.1==some (some (.ref (faK K x.2.1)))&&(W.isFn K (.ref (faK K x.2.1))&&W.keepIn K (.ref (faK K x.2.1)))
noncomputable def ciB(K:Fg)(i:CI):Bool:=match adB K i.name with
 |some C=>oJ K C&&(i.meths.all (sX K C)&&i.flds.all λf=>W.findIn K (.ref C) f==some none)
 |none=>false
noncomputable def mk0B(K:Fg)(c:Str):Bool:=match adB K c with
 |some C=>W.makesIn K C&&(W.findIn K (.ref C) "__init__" == some (some (.builtin "object.__init__"))&&W.keepIn K (.ref C))
 |none=>false
noncomputable def clB(K:Fg)(C:Addr):Bool:=W.findIn K (.ref C) "__class__" == some (some (.builtin "object.__class__"))&&(W.specialIn K (.builtin "object.__class__") "__get__" == some (some (.builtin "getset_descriptor.__get__"))&&(W.takesIn K (.builtin "object.__class__")==some true&&W.mroIn K C (.type "object")==some true))
noncomputable def isoB(K:Fg)(cl:List CI)(c:Str):Bool:=match adB K c with
 |some C=>["NoneType", "bool", "int", "str", "tuple", "list", "dict"].all (λt=>W.kitOne K (.type t) (.ref C)==some false)&&cl.all λi=>match adB K i.name with
  |some C'=>oJ K C'&&(clB K C'&&W.kitOne K (.ref C') (.ref C)==some (i.ups.contains c))
  |none=>false
 |none=>false
noncomputable def inB(K:Fg)(g:MG)(x:Str×ID):Bool:=match adB K x.2.c with
 |some C=>W.makesIn K C&&(W.findIn K (.ref C) "__init__" == some (some (.ref (faK K x.1)))&&(W.isFn K (.ref (faK K x.1))&&(W.keepIn K (.ref C)&&j7 K none x.1 (faK K x.1) x.2.ps (λst=>idOk g st x.2))))
 |none=>false
noncomputable def xtB(K:Fg)(x:(Str×Str)×Bool):Bool:=match adB K x.1.1,adB K x.1.2 with
 |some C,some C2=>W.mroIn K C2 (.type "BaseException")==some true&&(W.typeIn K (.ref C2)==some (.type "type")&&W.mroIn K C (.ref C2)==some x.2)
 |_,_=>false
noncomputable def xcB(K:Fg)(C:Addr):Bool:=W.findIn K (.ref C) "__getattribute__" == some (some (.builtin "BaseException.__getattribute__"))&&(W.findIn K (.ref C) "__getattr__" == some none&&(W.mroIn K C (.type "BaseException")==some true&&clB K C))
noncomputable def cvB(K:Fg)(n:Str):Option V:=match W.nsIn K mainGlobals n with
 |some (some (.ref C))=>some (.ref C)
 |some none=>if n == "__name__" then none else(match bootBuiltins n with|some (.type T)=>some (.ty T)|_=>none)
 |_=>none
noncomputable def xiB(K:Fg)(x:(Str×Str)×Bool):Bool:=match adB K x.1.1,cvB K x.1.2 with
 |some C,some cv=>xcB K C&&W.kitOne K (.ref C) (w8 cv)==some x.2
 |_,_=>false
noncomputable def rzB(K:Fg)(c:Str):Bool:=match adB K c with
 |some C=>W.excIn K C vErr "ValueError.__new__"
 |none=>false
noncomputable def gfB(K:Fg)(g:MG)(t:TB):Bool :=
 g.G.all (λx=>gvB K x.1 x.2)&&(gOk g.G t.T&&(t.T.all (λx=>j7 K (if x.1 == "law" then some "law" else none) x.1 (faK K x.1) x.2.ps (λst=>iA g x.1 st x.2))&&(t.I.all (inB K g)&&(g.mk0.all (mk0B K)&&(zX g.mki t.I&&(g.iso.all (isoB K t.cl)&&(t.cl.all (ciB K)&&(mtOk t.cl t.T&&(t.xt.all (xtB K)&&(t.xi.all (xiB K)&&(g.xcs.all (rzB K)&&(g.xns.all (λn=>(cvB K n).isSome)&&(sL g t.T&&sM g t.T)))))))))))))
section
variable (Xi:K.In h)(G:h.Ns mainGlobals mg)
include Xi G
theorem aAO:∀{l:List (Str×GV)},(∀x tb,(x,GV.con (.t tb))∈l->jR w K mg x tb)->l.all (λx=>gvB K x.1 x.2)=true->lW w K mg (faK K) l
 |[],_,_=>trivial
 |(x,v)::l,ht,b=>by
  rw[aVT,aSI]at b;refine⟨?_,aAO (λx tb hx=>ht x tb (mcm hx)) b.2⟩;have b:=b.1;dsimp only at b;cases v with
  |con c =>
   cases c with
   |s y =>
    have b:(match W.nsIn K mainGlobals x with|some (some (.str z _))=>z==y|_=>false)=true:=b
    split at b
    . rename_i z t e;cases aRK.mp b;exact⟨t,aVV Xi G e⟩
    . cases b
   |i y =>
    have b:(match W.nsIn K mainGlobals x with|some (some (.int z _))=>z==y|_=>false)=true:=b
    split at b
    . rename_i z t e;cases aRK.mp b;exact⟨t,aVV Xi G e⟩
    . cases b
   |t tb=>exact ht x tb mcs
  |fn n=>exact aVV Xi G (aRK.mp b)
  |no=>exact W.mg_none_of Xi G (aRK.mp b)
  |cls=>trivial
def aAP{n:Str}{cv:V}(e:cvB K n=some cv):nQ mg n cv:=by
 unfold cvB at e;split at e
 . rename_i C q;cases e;exact .inl ⟨C,aVV Xi G q,rfl⟩
 . rename_i q;split at e
   . cases e
   . rename_i hn;split at e
     . rename_i T hb;cases e;exact .inr ⟨W.mg_none_of Xi G q,by simpa using hn,T,hb,rfl⟩
     . cases e
 . cases e
end
theorem aAQ{K:Fg}{g:MG}:∀{l:List (Str×FD)},l.all (λx=>j7 K (if x.1 == "law" then some "law" else none) x.1 (faK K x.1) x.2.ps (λst=>iA g x.1 st x.2))=true->lU K g (faK K) l
 |[],_=>trivial
 |(x,d)::l,b=>by rw[aVT,aSI]at b;obtain⟨name,st,fd,F,hb,ok,_,_⟩:=sW b.1;exact⟨⟨name,st,fd,F,hb,ok⟩,aAQ b.2⟩
theorem aAR{K:Fg}{C:Addr}:∀{l:List (Str×Str×Nat)},l.all (sX K C)=true->j5 K (faK K) C l
 |[],_=>trivial
 |(m,key,n)::l,b=>by rw[aVT,aSI]at b;have b1:=b.1;unfold sX at b1;simp only[aSI,aRK]at b1;exact⟨⟨b1.1,b1.2.1,b1.2.2⟩,aAR b.2⟩
theorem aAS{K:Fg}{C:Addr}:∀{l:List Str},l.all (λf=>W.findIn K (.ref C) f==some none)=true->j6 K C l
 |[],_=>trivial
 |f::l,b=>by rw[aVT,aSI]at b;exact⟨aRK.mp b.1,aAS b.2⟩
theorem aAT{K:Fg}:∀{l:List CI},l.all (ciB K)=true->lX K (faK K) l
 |[],_=>trivial
 |i::l,b=>by
  rw[aVT,aSI]at b;refine⟨?_,aAT b.2⟩;have b:=b.1;unfold ciB at b;split at b
  . rename_i C e;simp only[aSI]at b;exact⟨C,eZ e,aAN b.1,aAR b.2.1,aAS b.2.2⟩
  . cases b
section
variable (Xi:K.In h)(G:h.Ns mainGlobals mg)
include Xi G
theorem aAU{g:MG}:∀{l:List (Str×ID)},l.all (inB K g)=true->lV K mg g l
 |[],_=>trivial
 |(x,d)::l,b=>by
  rw[aVT,aSI]at b;refine⟨?_,aAU b.2⟩;have b:=b.1;unfold inB at b;split at b
  . rename_i C e;simp only[aSI,aRK]at b;obtain⟨b1,b2,b3,b4,b5⟩:=b;obtain⟨name,st,fd,F,hb,ok,_,_⟩:=sW b5;exact⟨name,st,C,_,fd,eZ e,aVV Xi G (eZ e),⟨b1,b2,b3,b4⟩,F,hb,ok⟩
  . cases b
omit Xi G in
theorem sY{c x:Str}{v:Bool}:∀{l:List ((Str×Str)×Bool)},l.lookup (c,x)=some v->((c,x),v)∈l
 |[],e=>by cases e
 |(y,b)::l,e=>by
  rw[aTB]at e;split at e
  . rename_i hb;cases e;rw[<- aRK.mp hb];exact mcs
  . exact mcm (sY e)
def xt_of{l:List ((Str×Str)×Bool)}(b:l.all (xtB K)=true):qG K mg (λc x=>l.lookup (c,x)):=λc x v e=>by
 have b:=aU9.mp b ((c,x),v) (sY e);unfold xtB at b;split at b
 . rename_i C C2 e1 e2;simp only[aSI,aRK]at b;exact⟨C,C2,eZ e1,aVV Xi G (eZ e1),aVV Xi G (eZ e2),b.1,b.2.1,b.2.2⟩
 . cases b
def xi_of{l:List ((Str×Str)×Bool)}(b:l.all (xiB K)=true):qH K mg (λc x=>l.lookup (c,x)):=λc x v e=>by
 have b:=aU9.mp b ((c,x),v) (sY e);unfold xiB at b;split at b
 . rename_i C cv e1 e2;unfold xcB clB at b;simp only[aSI,aRK]at b;obtain⟨⟨b1,b2,b3,b4,b5,b6,b7⟩,b8⟩:=b;exact⟨C,cv,eZ e1,⟨b1,b2,b4,b3,b7,b5,b6⟩,aAP Xi G e2,b8⟩
 . cases b
def gf_of{g:MG}{t:TB}(b:gfB K g t=true)(ht:∀x tb,(x,GV.con (.t tb))∈g.G->jR w K mg x tb):GF w K mg g t (faK K):=by
 unfold gfB at b;simp only[aSI]at b;obtain⟨b1,b2,b3,b4,b5,b6,b7,b8,b9,b10,b11,b12,b13,b14,b15⟩:=b;refine⟨aAO Xi G ht b1,b2,aAQ b3,aAU Xi G b4,λc hc=>?_,b6,λc hc=>?_,aAT b8,b9,xt_of Xi G b10,xi_of Xi G b11,λc hc=>?_,λn hn=>?_,b14,b15,λf a b h hz=>?_⟩
 . have b:=aU9.mp b5 c hc;unfold mk0B at b;split at b
   . rename_i C e;simp only[aSI,aRK]at b;exact⟨C,eZ e,aVV Xi G (eZ e),b.1,b.2.1,b.2.2⟩
   . cases b
 . have b:=aU9.mp b7 c hc;unfold isoB at b;split at b
   . rename_i C e;rw[aSI]at b;refine⟨C,aVV Xi G (eZ e),λt ht=>aRK.mp (aU9.mp b.1 t ht),λi hi=>?_⟩;have b:=aU9.mp b.2 i hi;split at b
     . rename_i C' e';unfold clB at b;simp only[aSI,aRK]at b;obtain⟨c1,⟨c2,c3,c4,c5⟩,c6⟩:=b;exact⟨C',eZ e',aAN c1,c2,c3,c4,c5,c6⟩
     . cases b
   . cases b
 . have b:=aU9.mp b12 c hc;unfold rzB at b;split at b
   . rename_i C e;exact⟨C,aVV Xi G (eZ e),b⟩
   . cases b
 . have b:=aU9.mp b13 n hn;cases e:cvB K n with
   |none=>rw[e]at b;cases b
   |some cv=>exact⟨cv,aAP Xi G e⟩
 . obtain⟨d,_,_,_,_,_,l⟩:=zZ b15 hz;have b:=aU9.mp b1 _ (aRV l);have b:(W.nsIn K mainGlobals f==some (some (.ref (faK K f))))=true:=b;exact aRK.mp b
end
noncomputable def sZ(K:Fg)(g:MG)(t:TB):Bool:=gfB K g t&&W.nsIn K mainGlobals "law" == some (some (.ref (faK K "law")))
theorem aAV{x:Str}{d:FD}:∀{l:List (Str×FD)},l.lookup x=some d->(x,d)∈l
 |[],e=>by cases e
 |(y,b)::l,e=>by
  rw[aTB]at e;split at e
  . rename_i hb;cases e;rw[<- aRK.mp hb];exact mcs
  . exact mcm (aAV e)
noncomputable def noT(g:MG):Bool:=g.G.all λx=>match x.2 with|.con (.t _)=>false|_=>true
def aN6{g:MG}{K:Params->Fg}(b:noT g=true)(w:aV6)(mg:SOV)(h:Heap)(_:(K w.params).In h)(_:h.Ns mainGlobals mg)(x:Str)(tb:List (Str×Str))(hm:(x,GV.con (.t tb))∈g.G):jR w (K w.params) mg x tb:=by have:=aU9.mp b _ hm;cases this
def walkG{l:W.OpenLaw}{q:aV7}{d:DefRec}{K Kf:Params->Fg}{g:MG}{t:TB}{kk:Nat}{e:FD}(hn:l.most=some 63)(hdf:d.params.defaults=[])(hdn:d.name="law")(hY:∀(w:World) (h:Heap),YP w h->(Kf w.params).In h)(sub:∀P b o,(K P).lookup b=some o->(Kf P).lookup b=some o)(nd:∀P b o,(b,o)∈K P->(K P).lookup b=some o)(tb:∀P,oH (K P) (Kf P)=true)(b:∀P,sZ (K P) g t=true)(ht:∀(w:World) (mg:SOV) (h:Heap),(K w.params).In h->h.Ns mainGlobals mg->∀x tb,(x,GV.con (.t tb))∈g.G->jR w (K w.params) mg x tb)(hT:t.T.lookup ("law":Str)=some e)(hps:e.ps=[x])(hr:cA (kk+1) callerA)(main:∀ns:List Int,ns.length<=63->(WT t (kk+1)).Φ "law" (k7 ns)=.ok .fz (.bl true)):W.WalkO q loose XP YP l.row.toRowW d [] (λf vs=>PySem.call f vs):=by
 refine aN5 (K:=K) (Kf:=Kf) (n:=63) (k:=kk+1) (x:=x) (CX:=λw=>CX1 l.prog w) (sp:=λw=>sO (K w.params) ((WT t (kk+1)).Φ ("law":Str))) hn (by decide) hdf hr hY sub nd tb (λw mg fa h KX G hmg=>?_)
  (λ_ _ a ns hl hS=>⟨a,ns,rfl,hS,main ns hl,λ_=>rfl⟩) λ_ _ _ _ _ z=>by obtain⟨_,_,_,_,_,_,_,_,_,_,z⟩:=z;exact z
 have b:=b w.params;unfold sZ at b;rw[aSI,aRK]at b;have f:=gf_of (w:=w) KX G b.1 (ht w mg h KX G);have e1:=aVV KX G b.2;rw[hdn,e1]at hmg;cases hmg;have b3:t.T.all (λx=>j7 (K w.params) (if x.1 == "law" then some "law" else none) x.1 (faK (K w.params) x.1) x.2.ps (λst=>iA g x.1 st x.2))=true:=by have:=b.1;unfold gfB at this;simp only[aSI]at this;exact this.2.2.1
 obtain⟨name,st,fd,F,hb,ok,hnm,bp⟩:=sW (aU9.mp b3 (("law":Str),e) (aAV hT));have hnm:name="law" := hnm.symm;subst hnm;refine⟨fd,λs u=>.of_eq ?_,λbase _ _=>?_⟩
 . have:=bp [u] (by rw[hps];rfl)
   rw[hps]at this;exact this
 . have:=aNW (P:=l.prog) (base:=base) f kk F hT ok (by rw[hps];rfl)
   rw[hps]at this;exact this
end D3
namespace Tp
open PySem.W PySem.Calls
theorem KK_look(l:List Stmt)(P:Params)(b:Addr):∀as:List Addr,(KK l as P).lookup b=if b∈as then some (((lay P l (sA P)).bt.get b).getD default)else none
 |[]=>rfl
 |a::as=>by
  show((a,((lay P l (sA P)).bt.get a).getD default)::KK l as P).lookup b=_;rw[aTB,KK_look l P b as];by_cases h:b=a
  . subst h;simp
  . have:(b==a)=false:=aQH.mpr h;rw[this];simp[h]
def KK_sub(l:List Stmt)(as ts:List Addr)(P:Params)(b:Addr)(o:Obj)(h:(KK l as P).lookup b=some o):(KK l (as++ts) P).lookup b=some o:=by
 rw[KK_look]at h ⊢;split at h
 . rename_i hb;rw[if_pos (aQW _ hb)];exact h
 . cases h
def KK_nd(l:List Stmt)(as:List Addr)(P:Params)(b:Addr)(o:Obj)(h:(b,o)∈KK l as P):(KK l as P).lookup b=some o:=by rw[KK_look];unfold KK at h;obtain⟨a,ha,e⟩:=aVJ.mp h;cases e;rw[if_pos ha]
def left{p:aV7}{r:OpenRow}{l:List Stmt}{as:List Addr}{c':Code}(hl:behindTheImports p=l)(pre:∀(w:aV6) (os:OsState),topGo treeTable p w 11 an 12 ⟨boot_heap w.params,#[],boot_drawn,boot_toks,os⟩ (topStub p)=some ((sh w.params (sA w.params) 15 187 os).abs,⟨denote treeTable (cd p),cd p,z0,[topFrame z0]⟩))(blk:∀(w:aV6) (s:aV4),segRun treeTable p w 11 an 1 1 s (blockOf l (ev p) (cd p) z0 [topFrame z0])=some (.next,s,cd p,z0))(run:∀(w:aV6) (os:OsState),go treeTable p w 1000 l (sh w.params (sA w.params) 15 187 os) (cd p) z0=some (sh w.params (lay w.params l (sA w.params)) n k os,c',q'))(le:Nat.ble (12+(1+ns 1000 2 l)) 1000000=true)(e1:opening p=plainProg p.main.scope.names)(e2:∀s,fenceModules? p s=some s)(uO:∀w:aV6,(λos=>((staticsOk (importedModules p.main.body) (boot_heap w.params) (H1 l n w.params)&&namesBound p (H1 l n w.params)&&gensDone (S1 l n k w.params os)&&laidKept (boot_heap w.params) (H1 l n w.params)),openSeen (vw p) (los l) (importedModules p.main.body) (xt r) true (S1 l n k w.params os),(hk l as).obs (S1 l n k w.params os)))=λ_=>(true,openGood (vw p) (los l),(hk l as).val w)):LeftO p (vw p) (los l) (xt r) (hk l as).obs (hk l as).val 1000000 :=
 LeftO.of_pieces (H₀:=boot_heap) (H₁:=H1 l n) (m₀:=11) (ann:=an) (boot_open e1 rfl e2) size1 (run_of hl pre blk run) le uO
def head{p:OpenLaw}{l:List Stmt}{as:List Addr}{d:DefRec}(left:LeftO p.prog (vw p.prog) (los l) (xt p.row) (hk l as).obs (hk l as).val 1000000)(said:p.row.wellSaid=true)(h1:defOf (vw p.prog) p.name=some (d,[]))(h2:p.prog.theDef p.name=some (d.params,d.body,d.scope))(h3:kwWritten? d.params.kwonlyargs d.params.kw_defaults=some [])(h4:(!p.row.writes||p.row.records.isEmpty)=true)(ok:(chainsOk (vw p.prog)&&opensWell p.prog&&(frees p.row.toRowW&&p.row.within.isEmpty))=true)(hb:p.prog.bare)(hw:p.row.toRowW.promised)(call:WalkO (vw p.prog) (los l) (XL (vw p.prog) []) (hk l as).says p.row.toRowW d [] λf vs=>PySem.call f vs):p.row.Holds :=
 holds_open (r:=p.row) (XP:=XL (vw p.prog) []) (YP:=(hk l as).says) left (hk l as).of (hk l as).keeps (λs e=>xl_of s (Bool.and_eq_true_iff.mp e).1) XL.keeps h1 h2 h3
  (λs e=>recFacts_of (Bool.and_eq_true_iff.mp e).2) h4 said ok hb hw call
end Tp
namespace D3
open PySem.Calls
end D3
namespace K25
open D3
def oK:List D3.S:=[.setC 3 false (.comp (.meth (.var 0) "plus" [(.ix (.var 1) (.var 2)),(.ix (.var 1) (.bin .Add (.var 2) (.int 1)))]) (.rng3 (.int 0) (.bin .Sub (.bcall .len [(.var 2)]) (.int 1)) (.int 2)) [] [0,2] (.nm 2) 1),.ite (.cmp .Eq (.bin .Mod (.bcall .len [(.var 2)]) (.int 2)) (.int 1)) [.app 3 (.ix (.var 2) (.neg (.int 1)))] [],.frzV 3,.set 2 (.var 3)]
def lY:List D3.S:=[.set 7 (.frz (.meth (.var 0) "times" [(.var 7),(.frz (.dget (.var 1) (.var 8) (.meth (.var 0) "nought" [])))]))]
def lZ:List D3.S:=[.set 7 (.frz (.meth (.var 0) "times" [(.var 7),(.frz (.meth (.var 0) "lack" [(.frz (.call "worth_of" 3 [(.var 0),(.var 1),(.var 9)]))]))]))]
def l5:List D3.S:=[.set 7 (.frz (.meth (.var 0) "one" [])),.for (.items (.var 4)) (.nm 8) lY,.for (.items (.var 5)) (.nm 9) lZ,.app 3 (.meth (.var 0) "many" [(.var 6),(.var 7)])]
def eJ:List D3.S:=[.set 10 (.frz (.bin .Add (.bin .FloorDiv (.var 0) (.bin .Add (.int 7) (.bin .Mult (.int 6) (.var 9)))) (.bin .Mult (.int 11) (.var 9)))),.ite (.cmp .Eq (.var 9) (.var 5)) [.set 10 (.frz (.bin .Add (.bin .FloorDiv (.var 0) (.int 25)) (.var 7)))] [],.ite (.cmp .Eq (.var 9) (.int 0)) [.set 8 (.frz (.bin .Add (.var 8) (.ix (.var 2) (.bin .Mod (.var 10) (.int 26)))))] [.set 8 (.frz (.bin .Add (.var 8) (.ix (.var 3) (.bin .Mod (.var 10) (.int 36)))))]]
def iC:List D3.S:=[.set 8 (.str ""),.for (.rng1 (.var 4)) (.nm 9) eJ,.app 6 (.bin .Add (.var 8) (.slice (.str "a9z") none (some (.bin .Mod (.bin .FloorDiv (.var 0) (.bin .Add (.int 5) (.var 7))) (.int 4)))))]
def j8:List D3.S:=[.set 5 (.tup [(.frz (.tcall .tuple [(.srtw (.var 2))])),(.var 3)]),.nput 1 (.var 5) (.bin .Add (.nget (.var 1) (.var 5) (.int 0)) (.var 4))]
def aN7:List D3.S:=[.ite (.not (.tru (.call "_law_alike" 2 [(.ix (.var 0) (.var 2)),(.ix (.var 1) (.var 2))]))) [.ret (.bl false)] []]
def l6:List D3.S:=[.set 6 (.frz (.bin .Mult (.var 6) (.dget (.var 1) (.var 7) (.int 0))))]
def j9:List D3.S:=[.ite (.cmp .NotEq (.call "_law_count" 2 [(.var 8),(.var 1)]) (.int 0)) [.set 6 (.int 0)] []]
def l7:List D3.S:=[.set 6 (.var 5),.for (.items (.var 3)) (.nm 7) l6,.for (.items (.var 4)) (.nm 8) j9,.set 2 (.frz (.bin .Add (.var 2) (.var 6)))]
def iZ:List D3.S:=[.ite (.cmp .IsNot (.var 6) .non) [.set 8 (.frz (.dget (.var 1) (.var 7) .non)),.ite (.cmp .Is (.var 8) .non) [.set 6 .non] [.set 6 (.frz (.bin .Add (.var 6) (.var 8)))]] []]
def kA:List D3.S:=[.ite (.cmp .IsNot (.call "_law_cost" 2 [(.var 9),(.var 1)]) .non) [.set 6 .non] []]
def l8:List D3.S:=[.set 6 (.int 0),.for (.items (.var 3)) (.nm 7) iZ,.for (.items (.var 4)) (.nm 9) kA,.ite (.andL [(.cmp .IsNot (.var 6) .non),(.orL [(.cmp .Is (.var 2) .non),(.cmp .Lt (.var 6) (.var 2))])]) [.set 2 (.var 6)] []]
def i4:List D3.S:=[.set 6 (.frz (.call "_law_cell_at" 2 [(.var 0),(.frz (.bin .Add (.int 1) (.var 5)))])),.ite (.cmp .NotEq (.bin .Mod (.var 6) (.int 5)) (.int 1)) [.dput 3 (.ix (.var 1) (.var 5)) (.ix (.lst [(.frz (.bin .Mod (.bin .FloorDiv (.var 6) (.int 5)) (.int 4))),(.frz (.bin .Mod (.bin .FloorDiv (.var 6) (.int 20)) (.bin .Pow (.int 10) (.int 30))))]) (.bin .Mod (.var 6) (.int 2)))] [],.ite (.cmp .NotEq (.bin .Mod (.bin .FloorDiv (.var 6) (.int 3)) (.int 5)) (.int 1)) [.dput 4 (.ix (.var 1) (.var 5)) (.ix (.lst [.non,(.frz (.bin .Mod (.bin .FloorDiv (.var 6) (.int 20)) (.bin .Pow (.int 10) (.int 30)))),(.frz (.bin .Sub (.int 0) (.bin .Mod (.bin .FloorDiv (.var 6) (.int 20)) (.bin .Pow (.int 10) (.int 30))))),(.frz (.bin .Sub (.bin .Mod (.bin .FloorDiv (.var 6) (.int 20)) (.int 7)) (.int 3)))]) (.bin .Mod (.var 6) (.int 4)))] []]
def aN8:List D3.S:=[.never]
def kB:List D3.S:=[.ite (.cmp .Eq (.bcall .len [(.var 1)]) (.int 0)) [.ret (.meth (.var 0) "nought" [])] [],.set 2 (.frz (.tcall .list [(.var 1)])),.whl 1000000 (.cmp .Gt (.bcall .len [(.var 2)]) (.int 1)) oK,.ret (.ix (.var 2) (.int 0))]
def aN9:List D3.S:=[.clo "kind" "kept" "worth_of"]
def oM:List D3.S:=[.set 3 (.lst []),.for (.items (.var 2)) (.tp [(.nm 4),(.nm 5),(.nm 6)]) l5,.frzV 3,.ret (.call "poured" 2 [(.var 0),(.var 3)])]
def l9:List D3.S:=[.ite (.cmp .Lt (.var 1) (.bcall .len [(.var 0)])) [.ret (.ix (.var 0) (.var 1))] [],.ret (.int 0)]
def oN:List D3.S:=[.set 2 (.str "abcdefghijklmnopqrstuvwxyz"),.set 3 (.frz (.bin .Add (.var 2) (.str "0123456789"))),.set 4 (.frz (.bin .Add (.int 1) (.bin .Mod (.var 0) (.int 5)))),.set 5 (.frz (.bin .Mod (.bin .FloorDiv (.var 0) (.int 5)) (.var 4))),.set 6 (.lst []),.for (.rng1 (.var 1)) (.nm 7) iC,.retV 6]
def oO:List D3.S:=[.set 1 .nnew,.for (.items (.var 0)) (.tp [(.nm 2),(.nm 3),(.nm 4)]) j8,.nfrz 1,.ret (.tcall .tuple [(.srtw (.comp (.tup [(.ix (.var 1) (.int 0)),(.ix (.var 1) (.int 1)),(.nix (.var 0) (.var 1))]) (.nkeys (.var 1)) [] [1] (.nm 1) 1))])]
def i5:List D3.S:=[.set 2 (.tup [(.tup [(.ix (.var 1) (.bin .Mod (.var 0) (.int 4)))]),(.tup []),(.frz (.bin .Add (.int 1) (.bin .Mod (.bin .FloorDiv (.var 0) (.int 4)) (.int 3))))]),.ite (.cmp .Eq (.bin .Mod (.bin .FloorDiv (.var 0) (.int 12)) (.int 4)) (.int 0)) [.ret (.tup [(.var 2)])] [],.ite (.cmp .Eq (.bin .Mod (.bin .FloorDiv (.var 0) (.int 12)) (.int 4)) (.int 1)) [.ret (.call "_law_normal" 1 [(.frz (.lst [(.var 2),(.tup [(.tup [(.ix (.var 1) (.bin .Mod (.bin .FloorDiv (.var 0) (.int 48)) (.int 4))),(.ix (.var 1) (.bin .Mod (.bin .FloorDiv (.var 0) (.int 192)) (.int 4)))]),(.tup []),(.int 1)])]))])] [],.ite (.cmp .Eq (.bin .Mod (.bin .FloorDiv (.var 0) (.int 12)) (.int 4)) (.int 2)) [.ret (.tup [(.tup [(.tup []),(.tup []),(.frz (.bin .Add (.int 1) (.bin .Mod (.bin .FloorDiv (.var 0) (.int 48)) (.int 3))))])])] [],.ret (.tup [(.tup [(.ix (.var 2) (.int 0)),(.tup [(.tup [(.tup [(.tup [(.ix (.var 1) (.bin .Mod (.bin .FloorDiv (.var 0) (.int 48)) (.int 4)))]),(.tup []),(.int 1)])])]),(.ix (.var 2) (.int 2))])])]
def dP:List D3.S:=[.setC 2 true (.comp (.ix (.var 0) (.bin .Mod (.bin .FloorDiv (.var 1) (.ix (.lst [(.int 1),(.int 4),(.int 16)]) (.var 2))) (.int 4))) (.rng1 (.bin .Mod (.bin .FloorDiv (.var 0) (.int 64)) (.int 4))) [] [1,0] (.nm 2) 1),.set 3 (.tup []),.ite (.cmp .Eq (.bin .Mod (.bin .FloorDiv (.var 0) (.int 256)) (.int 3)) (.int 1)) [.set 3 (.tup [(.frz (.call "_law_bar" 2 [(.frz (.bin .FloorDiv (.var 0) (.int 768))),(.var 1)]))])] [],.ite (.cmp .Eq (.bin .Mod (.bin .FloorDiv (.var 0) (.int 256)) (.int 3)) (.int 2)) [.set 3 (.frz (.tcall .tuple [(.us2 (.lst [(.frz (.call "_law_bar" 2 [(.frz (.bin .FloorDiv (.var 0) (.int 768))),(.var 1)])),(.frz (.call "_law_bar" 2 [(.frz (.bin .FloorDiv (.var 0) (.int 9216))),(.var 1)]))]))]))] [],.set 4 (.frz (.bin .Add (.int 1) (.bin .Mod (.bin .FloorDiv (.var 0) (.int 768)) (.int 3)))),.ite (.cmp .Eq (.bin .Mod (.var 0) (.int 5)) (.int 2)) [.set 4 (.frz (.bin .Add (.int 1) (.bin .Mod (.bin .FloorDiv (.var 0) (.int 7)) (.bin .Pow (.int 10) (.int 40)))))] [],.ret (.tup [(.frz (.tcall .tuple [(.srtw (.var 2))])),(.var 3),(.var 4)])]
def oP:List D3.S:=[.ret (.call "_law_normal" 1 [(.frz (.comp (.call "_law_term" 2 [(.var 1),(.var 0)]) (.items (.var 0)) [] [1] (.nm 1) 1))])]
def mD:List D3.S:=[.ite (.cmp .Is (.var 1) .non) [.ret (.cmp .Is (.var 0) .non)] [],.ite (.tru (.bcall .isinstance [(.var 1),(.ty .bool)])) [.ret (.andL [(.bcall .isinstance [(.var 0),(.ty .bool)]),(.cmp .Eq (.var 0) (.var 1))])] [],.ite (.tru (.bcall .isinstance [(.var 1),(.ty .int)])) [.ret (.andL [(.bcall .isinstance [(.var 0),(.ty .int)]),(.not (.bcall .isinstance [(.var 0),(.ty .bool)])),(.cmp .Eq (.var 0) (.var 1))])] [],.ite (.tru (.bcall .isinstance [(.var 1),(.ty .str)])) [.ret (.andL [(.bcall .isinstance [(.var 0),(.ty .str)]),(.cmp .Eq (.var 0) (.var 1))])] [],.ite (.tru (.bcall .isinstance [(.var 1),(.ty .tuple)])) [.ite (.orL [(.not (.tru (.bcall .isinstance [(.var 0),(.ty .tuple)]))),(.cmp .NotEq (.bcall .len [(.var 0)]) (.bcall .len [(.var 1)]))]) [.ret (.bl false)] []] [.ite (.orL [(.not (.tru (.bcall .isinstance [(.var 0),(.ty .list)]))),(.cmp .NotEq (.bcall .len [(.var 0)]) (.bcall .len [(.var 1)]))]) [.ret (.bl false)] []],.for (.rng1 (.bcall .len [(.var 1)])) (.nm 2) aN7,.ret (.bl true)]
def oQ:List D3.S:=[.set 2 (.int 0),.for (.items (.var 0)) (.tp [(.nm 3),(.nm 4),(.nm 5)]) l7,.retV 2]
def oR:List D3.S:=[.set 2 .non,.for (.items (.var 0)) (.tp [(.nm 3),(.nm 4),(.nm 5)]) l8,.retV 2]
def tB:List D3.S:=[.set 1 (.frz (.call "_law_names" 2 [(.frz (.call "_law_cell_at" 2 [(.var 0),(.int 0)])),(.int 4)])),.set 2 (.frz (.call "_law_reason" 2 [(.frz (.slice (.var 0) (some (.int 5)) (some (.int 45)))),(.var 1)])),.set 3 .dnew,.set 4 .dnew,.for (.rng1 (.int 4)) (.nm 5) i4,.frzV 3,.frzV 4,.set 7 (.frz (.call "_law_count" 2 [(.var 2),(.var 3)])),.set 8 (.frz (.call "_law_cost" 2 [(.var 2),(.var 4)])),.set 9 (.tcall .dict [(.var 3)]),.set 10 (.frz (.mk0 "Counts")),.set 11 (.frz (.mk0 "Costs")),.set 12 (.frz (.mkc "valued" "kind" "kept" [(.frz (.var 10)),(.var 9)])),.set 13 (.frz (.mkc "valued" "kind" "kept" [(.frz (.var 11)),(.var 4)])),.set 14 (.frz (.mkc "valued" "kind" "kept" [(.frz (.mk0 "Counts")),(.var 9)])),.set 15 (.frz (.disp [(.ix (.var 1) (.int 3)),(.ix (.var 1) (.int 0))] [(.int 2),(.bin .Add (.int 1) (.dget (.var 3) (.ix (.var 1) (.int 0)) (.int 0)))])),.set 16 (.frz (.mkc "valued" "kind" "kept" [(.frz (.var 10)),(.var 15)])),.set 17 (.frz (.mkc "valued" "kind" "kept" [(.frz (.var 11)),(.disp [(.ix (.var 1) (.int 2)),(.ix (.var 1) (.int 1))] [(.int 0),(.int 1)])])),.ite (.not (.tru (.call "_law_alike" 2 [(.frz (.ccl "valued" "kind" "kept" "worth_of" 16 [(.var 2)])),(.frz (.call "_law_count" 2 [(.var 2),(.var 15)]))]))) [.ret (.bl false)] [],.ite (.not (.tru (.call "_law_alike" 2 [(.frz (.ccl "valued" "kind" "kept" "worth_of" 17 [(.var 2)])),(.frz (.call "_law_cost" 2 [(.var 2),(.frz (.disp [(.ix (.var 1) (.int 2)),(.ix (.var 1) (.int 1))] [(.int 0),(.int 1)]))]))]))) [.ret (.bl false)] [],.ite (.orL [(.not (.tru (.call "_law_alike" 2 [(.frz (.ccl "valued" "kind" "kept" "worth_of" 12 [(.var 2)])),(.var 7)]))),(.not (.tru (.call "_law_alike" 2 [(.frz (.ccl "valued" "kind" "kept" "worth_of" 13 [(.var 2)])),(.var 8)]))),(.deq true (.var 9) (.var 3))]) [.ret (.bl false)] [],.dput 9 (.ix (.var 1) (.int 0)) (.bin .Add (.int 5) (.dget (.var 3) (.ix (.var 1) (.int 0)) (.int 0))),.ite (.orL [(.not (.tru (.call "_law_alike" 2 [(.frz (.ccl "valued" "kind" "kept" "worth_of" 12 [(.var 2)])),(.var 7)]))),(.not (.tru (.call "_law_alike" 2 [(.frz (.ccl "valued" "kind" "kept" "worth_of" 13 [(.var 2)])),(.var 8)])))]) [.ret (.bl false)] [],.ite (.not (.tru (.call "_law_alike" 2 [(.frz (.ccl "valued" "kind" "kept" "worth_of" 16 [(.var 2)])),(.frz (.call "_law_count" 2 [(.var 2),(.var 15)]))]))) [.ret (.bl false)] [],.ret (.andL [(.call "_law_alike" 2 [(.frz (.ccl "valued" "kind" "kept" "worth_of" 14 [(.var 2)])),(.var 7)]),(.call "_law_alike" 2 [(.frz (.ccl "valued" "kind" "kept" "worth_of" 12 [(.tup [])])),(.int 0)]),(.cmp .Is (.ccl "valued" "kind" "kept" "worth_of" 13 [(.tup [])]) .non)])]
def kC:List D3.S:=[.ite (.cmp .Eq (.var 1) (.meth (.var 0) "nought" [])) [.ret (.meth (.var 0) "one" [])] [],.ret (.meth (.var 0) "nought" [])]
def tE:List D3.S:=[.ite (.cmp .Eq (.var 1) (.int 0)) [.ret (.meth (.var 0) "nought" [])] [],.retV 2]
def tF:List D3.S:=[.ret (.int 0)]
def tI:List D3.S:=[.ret (.int 1)]
def tJ:List D3.S:=[.ret (.bin .Add (.var 1) (.var 2))]
def tK:List D3.S:=[.ret (.bin .Mult (.var 1) (.var 2))]
def tL:List D3.S:=[.ret (.bin .Mult (.var 1) (.var 2))]
def tM:List D3.S:=[.ret .non]
def tN:List D3.S:=[.ret (.int 0)]
def mH:List D3.S:=[.ite (.cmp .Is (.var 1) .non) [.retV 2] [],.ite (.cmp .Is (.var 2) .non) [.retV 1] [],.ret (.bcall .min [(.var 1),(.var 2)])]
def mJ:List D3.S:=[.ite (.orL [(.cmp .Is (.var 1) .non),(.cmp .Is (.var 2) .non)]) [.ret .non] [],.ret (.bin .Add (.var 1) (.var 2))]
def aOA:FD:=⟨["thing"],["thing"],aN8⟩
def aAW:FD:=⟨["kind", "notes"],["kind", "notes", "sums", "halves"],kB⟩
def aOB:FD:=⟨["kind", "worths"],["kind", "worths", "kept", "worth"],aN9⟩
def aAX:FD:=⟨["kind", "worths", "reason"],["kind", "worths", "reason", "notes", "facts", "bars", "times", "note", "name", "bar"],oM⟩
def aAY:FD:=⟨["_law_script", "_law_k"],["_law_script", "_law_k"],l9⟩
def aAZ:FD:=⟨["_law_cell", "_law_many"],["_law_cell", "_law_many", "_law_letters", "_law_signs", "_law_size", "_law_at", "_law_names_here", "_law_k", "_law_name", "_law_j", "_law_drift"],oN⟩
def aA0:FD:=⟨["_law_terms"],["_law_terms", "_law_known", "_law_facts", "_law_bars", "_law_times", "_law_key"],oO⟩
def aA1:FD:=⟨["_law_cell", "_law_names_here"],["_law_cell", "_law_names_here", "_law_one"],i5⟩
def aA2:FD:=⟨["_law_cell", "_law_names_here"],["_law_cell", "_law_names_here", "_law_facts", "_law_bars", "_law_times"],dP⟩
def aA3:FD:=⟨["_law_cells", "_law_names_here"],["_law_cells", "_law_names_here"],oP⟩
def aA4:FD:=⟨["_law_found", "_law_due"],["_law_found", "_law_due", "_law_k"],mD⟩
def aA5:FD:=⟨["_law_reason_here", "_law_worths"],["_law_reason_here", "_law_worths", "_law_total", "_law_facts", "_law_bars", "_law_times", "_law_part", "_law_name", "_law_bar_here"],oQ⟩
def aA6:FD:=⟨["_law_reason_here", "_law_worths"],["_law_reason_here", "_law_worths", "_law_best", "_law_facts", "_law_bars", "_law_times", "_law_part", "_law_name", "_law_more", "_law_bar_here"],oR⟩
def tO:FD:=⟨["_law_script"],["_law_script", "_law_names_here", "_law_reason_here", "_law_counts", "_law_costs", "_law_k", "_law_cell", "_law_due", "_law_least", "_law_handed", "_law_numbers", "_law_prices", "_law_count_here", "_law_cost_here", "_law_late", "_law_others", "_law_more", "_law_free"],tB⟩
def aA7:FD:=⟨["self", "a"],["self", "a"],kC⟩
def aA8:FD:=⟨["self", "n", "a"],["self", "n", "a"],tE⟩
def aA9:FD:=⟨["self"],["self"],tF⟩
def aBA:FD:=⟨["self"],["self"],tI⟩
def aBB:FD:=⟨["self", "a", "b"],["self", "a", "b"],tJ⟩
def aBC:FD:=⟨["self", "a", "b"],["self", "a", "b"],tK⟩
def aBD:FD:=⟨["self", "n", "a"],["self", "n", "a"],tL⟩
def aBE:FD:=⟨["self"],["self"],tM⟩
def aBF:FD:=⟨["self"],["self"],tN⟩
def aBG:FD:=⟨["self", "a", "b"],["self", "a", "b"],mH⟩
def aBH:FD:=⟨["self", "a", "b"],["self", "a", "b"],mJ⟩
def aOC:CI:=⟨"Kind", ["Kind"],[],[("lack", "Kind.lack", 2)]⟩
def aOD:CI:=⟨"Single", ["Single", "Kind"],[],[("many", "Single.many", 3),("lack", "Kind.lack", 2)]⟩
def aOE:CI:=⟨"Counts", ["Counts", "Kind"],[],[("nought", "Counts.nought", 1),("one", "Counts.one", 1),("plus", "Counts.plus", 3),("times", "Counts.times", 3),("many", "Counts.many", 3),("lack", "Kind.lack", 2)]⟩
def aOF:CI:=⟨"Costs", ["Costs", "Single", "Kind"],[],[("nought", "Costs.nought", 1),("one", "Costs.one", 1),("plus", "Costs.plus", 3),("times", "Costs.times", 3),("many", "Single.many", 3),("lack", "Kind.lack", 2)]⟩
abbrev pFD(s:Str)(d:FD):Str×FD:=(s,d)
abbrev pGV(s:Str)(d:GV):Str×GV:=(s,d)
def T:List (Str×FD):=[pFD "is_whole" aOA,pFD "poured" aAW,pFD "valued" aOB,pFD "worth_of" aAX,pFD "_law_cell_at" aAY,pFD "_law_names" aAZ,pFD "_law_normal" aA0,pFD "_law_bar" aA1,pFD "_law_term" aA2,pFD "_law_reason" aA3,pFD "_law_alike" aA4,pFD "_law_count" aA5,pFD "_law_cost" aA6,pFD "law" tO,pFD "Kind.lack" aA7,pFD "Single.many" aA8,pFD "Counts.nought" aA9,pFD "Counts.one" aBA,pFD "Counts.plus" aBB,pFD "Counts.times" aBC,pFD "Counts.many" aBD,pFD "Costs.nought" aBE,pFD "Costs.one" aBF,pFD "Costs.plus" aBG,pFD "Costs.times" aBH]
def TT:TB:=⟨T,[],[aOC,aOD,aOE,aOF],[],[]⟩
noncomputable def GG:MG:=⟨[pGV "Costs" .cls,pGV "Counts" .cls,pGV "_law_alike" (.fn 2),pGV "_law_bar" (.fn 2),pGV "_law_cell_at" (.fn 2),pGV "_law_cost" (.fn 2),pGV "_law_count" (.fn 2),pGV "_law_names" (.fn 2),pGV "_law_normal" (.fn 1),pGV "_law_reason" (.fn 2),pGV "_law_term" (.fn 2),pGV "bool" .no,pGV "dict" .no,pGV "int" .no,pGV "isinstance" .no,pGV "len" .no,pGV "list" .no,pGV "min" .no,pGV "poured" (.fn 2),pGV "range" .no,pGV "set" .no,pGV "sorted" .no,pGV "str" .no,pGV "tuple" .no,pGV "valued" (.fn 2),pGV "worth_of" (.fn 3)],["Counts", "Costs"],[],[],[],[],[],[("valued", "kind", "kept", "worth_of")]⟩
def top(i:Nat):Stmt:=aV8.main.body.getD i (.Pass ⟨0,0,0,0⟩)
abbrev tP:Stmt:=top 21
def aBI(k:Nat):(WT TT (k+1)).Φ "poured" = phi 2 4 (evB (WT TT k) kB):=bY (d:=aAW) rfl
def aOG(k:Nat):(WT TT (k+1)).Φ "worth_of" = phi 3 10 (evB (WT TT k) oM):=bY (d:=aAX) rfl
def aOH(k:Nat):(WT TT (k+1)).Φ "_law_cell_at" = phi 2 2 (evB (WT TT k) l9):=bY (d:=aAY) rfl
def aOI(k:Nat):(WT TT (k+1)).Φ "_law_names" = phi 2 11 (evB (WT TT k) oN):=bY (d:=aAZ) rfl
def aOJ(k:Nat):(WT TT (k+1)).Φ "_law_normal" = phi 1 6 (evB (WT TT k) oO):=bY (d:=aA0) rfl
def aOK(k:Nat):(WT TT (k+1)).Φ "_law_bar" = phi 2 3 (evB (WT TT k) i5):=bY (d:=aA1) rfl
def aOL(k:Nat):(WT TT (k+1)).Φ "_law_term" = phi 2 5 (evB (WT TT k) dP):=bY (d:=aA2) rfl
def aOM(k:Nat):(WT TT (k+1)).Φ "_law_reason" = phi 2 2 (evB (WT TT k) oP):=bY (d:=aA3) rfl
def aBJ(k:Nat):(WT TT (k+1)).Φ "_law_alike" = phi 2 3 (evB (WT TT k) mD):=bY (d:=aA4) rfl
def aON(k:Nat):(WT TT (k+1)).Φ "_law_count" = phi 2 9 (evB (WT TT k) oQ):=bY (d:=aA5) rfl
def aOO(k:Nat):(WT TT (k+1)).Φ "_law_cost" = phi 2 10 (evB (WT TT k) oR):=bY (d:=aA6) rfl
def u_law(k:Nat):(WT TT (k+1)).Φ "law" = phi 1 18 (evB (WT TT k) tB):=bY (d:=tO) rfl
def aBK(k:Nat):(WT TT (k+1)).Φ "Kind.lack" = phi 2 2 (evB (WT TT k) kC):=bY (d:=aA7) rfl
def aOP(k:Nat):(WT TT (k+1)).Φ "Single.many" = phi 3 3 (evB (WT TT k) tE):=bY (d:=aA8) rfl
def aOQ(k:Nat):(WT TT (k+1)).Φ "Counts.nought" = phi 1 1 (evB (WT TT k) tF):=bY (d:=aA9) rfl
def aOR(k:Nat):(WT TT (k+1)).Φ "Counts.one" = phi 1 1 (evB (WT TT k) tI):=bY (d:=aBA) rfl
def aOS(k:Nat):(WT TT (k+1)).Φ "Counts.plus" = phi 3 3 (evB (WT TT k) tJ):=bY (d:=aBB) rfl
def aOT(k:Nat):(WT TT (k+1)).Φ "Counts.times" = phi 3 3 (evB (WT TT k) tK):=bY (d:=aBC) rfl
def aOU(k:Nat):(WT TT (k+1)).Φ "Counts.many" = phi 3 3 (evB (WT TT k) tL):=bY (d:=aBD) rfl
def aOV(k:Nat):(WT TT (k+1)).Φ "Costs.nought" = phi 1 1 (evB (WT TT k) tM):=bY (d:=aBE) rfl
def aOW(k:Nat):(WT TT (k+1)).Φ "Costs.one" = phi 1 1 (evB (WT TT k) tN):=bY (d:=aBF) rfl
def aOX(k:Nat):(WT TT (k+1)).Φ "Costs.plus" = phi 3 3 (evB (WT TT k) mH):=bY (d:=aBG) rfl
def aOY(k:Nat):(WT TT (k+1)).Φ "Costs.times" = phi 3 3 (evB (WT TT k) mJ):=bY (d:=aBH) rfl
abbrev Ky:=N×N
abbrev Tr:=Ky×Int
def kyN(k:Ky):N:=.t [k.1,k.2]
end K25
variable {acc:List K25.Tr}{tss:List (List K25.Tr)}
namespace K25
open D3
def tmN(t:Tr):N:=.t [t.1.1,t.1.2,.i t.2]
def kl(a b:Ky):Bool:=ltN (kyN a) (kyN b)
def tQ{a b:Ky}(h:kyN a=kyN b):a=b:=by unfold kyN at h;simp only[N.t.injEq,aSY,and_true]at h;exact Prod.ext h.1 h.2
def aOZ{a b:Tr}(h:tmN a=tmN b):a=b:=by unfold tmN at h;simp only[N.t.injEq,aSY,and_true,N.i.injEq]at h;exact Prod.ext (Prod.ext h.1 h.2.1) h.2.2
def tR(a:Ky):kl a a=false:=lN _
def aO0{a b:Ky}(h1:kl a b=false)(h2:kl b a=false):a=b:=tQ (qX _ _ h1 h2)
def aBL{a b:Tr}(h:a.1≠b.1):ltN (tmN a) (tmN b)=kl a.1 b.1:=by
 unfold kl kyN tmN;simp only[ltN,bF];by_cases e1:a.1.1=b.1.1
 . rw[if_pos e1,if_pos e1];by_cases e2:a.1.2=b.1.2
   . exact absurd (Prod.ext e1 e2) h
   . rw[if_neg e2,if_neg e2]
 . rw[if_neg e1,if_neg e1]
def bZ(p:List Tr)(k:Ky):Int:=match p with
 |[]=>0
 |t::r=>(if t.1=k then t.2 else 0)+bZ r k
def Has(p:List Tr)(k:Ky):Prop:=∃t∈p,t.1=k
theorem kD:∀(p:List Tr) (t:Tr) (k:Ky),bZ (p++[t]) k=bZ p k+if t.1=k then t.2 else 0
 |[],t,k=>by simp[bZ]
 |a::p,t,k=>by show(if a.1=k then a.2 else 0)+bZ (p++[t]) k=(if a.1=k then a.2 else 0)+bZ p k+_;rw[kD p t k,Int.add_assoc]
theorem aO1{p q:List Tr}(h:p.Perm q)(k:Ky):bZ p k=bZ q k:=by
 induction h with
 |nil=>rfl
 |cons x _ ih=>show _+bZ _ k=_+bZ _ k;rw[ih]
 |swap x y l=>show _+(_+bZ l k)=_+(_+bZ l k);lia
 |trans _ _ ih1 ih2=>rw[ih1,ih2]
def aO2{p q:List Tr}(h:p.Perm q)(k:Ky):Has p k↔Has q k:=⟨λ⟨t,m,e⟩=>⟨t,h.mem_iff.mp m,e⟩,λ⟨t,m,e⟩=>⟨t,h.mem_iff.mpr m,e⟩⟩
theorem oS:∀{p:List Tr}{k:Ky},¬ Has p k->bZ p k=0
 |[],k,_=>rfl
 |t::p,k,h=>by have h1:¬ t.1=k:=λe=>h ⟨t,mcs,e⟩;have h2:¬ Has p k:=λ⟨u,m,e⟩=>h ⟨u,mcm m,e⟩;show(if t.1=k then t.2 else 0)+bZ p k=0;rw[if_neg h1,oS h2];rfl
def mK{p:List Tr}{t:Tr}{k:Ky}:Has (p++[t]) k↔Has p k\/t.1=k:=by
 constructor
 . rintro⟨u,m,e⟩;rcases aQV.mp m with m|m
   . exact .inl ⟨u,m,e⟩
   . cases aTY.mp m;exact .inr e
 . rintro(⟨u,m,e⟩|e)
   . exact⟨u,aQW _ m,e⟩
   . exact⟨t,aRG _ (aTY.mpr rfl),e⟩
def fO(p L:List Tr):Prop:=∀k n,(k,n)∈L↔Has p k/\n=bZ p k
def cG(acc:List Tr)(t:Tr):List Tr:=if(acc.any λa=>decide (a.1=t.1))=true then acc.map (λa=>if a.1=t.1 then(a.1,a.2+t.2)else a)else acc++[t]
def kE{k:Ky}:(acc.any λa=>decide (a.1=k))=true↔Has acc k:=by
 rw[aVR];constructor
 . rintro⟨a,m,e⟩;exact⟨a,m,aTD e⟩
 . rintro⟨a,m,e⟩;exact⟨a,m,aSP e⟩
def tU{p L:List Tr}(h:fO p L)(k:Ky):Has L k↔Has p k:=by
 constructor
 . rintro⟨⟨k',n⟩,m,rfl⟩;exact((h k' n).mp m).1
 . intro q;exact⟨(k,bZ p k),(h k _).mpr ⟨q,rfl⟩,rfl⟩
def aBM(acc:List Tr)(t:Tr):(cG acc t).map (·.1)=if(acc.any λa=>decide (a.1=t.1))=true then acc.map (·.1)else acc.map (·.1)++[t.1]:=by
 unfold cG;split
 . rw[aVA];refine aVL λa _=>?_;show(if a.1=t.1 then(a.1,a.2+t.2)else a).1=a.1;split <;> rfl
 . rw[aU0];rfl
theorem aO3{p:List Tr}(t:Tr)(h:fO p acc)(nd:(acc.map (·.1)).Nodup):fO (p++[t]) (cG acc t)/\((cG acc t).map (·.1)).Nodup:=by
 refine⟨λk n=>?_,?_⟩
 . unfold cG;by_cases q:(acc.any λa=>decide (a.1=t.1))=true
   . rw[if_pos q];have hp:Has p t.1:=(tU h _).mp (kE.mp q);rw[mK,kD];constructor
     . intro m;obtain⟨⟨k',n'⟩,m',e⟩:=aVJ.mp m;have hh:=(h k' n').mp m';dsimp only at e;split at e
       . rename_i ek;cases e;rw[if_pos ek.symm];exact⟨.inl hh.1,by rw[hh.2]⟩
       . rename_i ek;cases e;rw[if_neg (λz=>ek z.symm)];exact⟨.inl hh.1,by rw[hh.2];lia⟩
     . rintro⟨m,rfl⟩;have hk:Has p k:=by
         rcases m with m|m
         . exact m
         . rw[<- m];exact hp
       have m':=(h k _).mpr ⟨hk,rfl⟩;refine aVJ.mpr ⟨(k,bZ p k),m',?_⟩;dsimp only;by_cases ek:k=t.1
       . rw[if_pos ek,if_pos ek.symm]
       . rw[if_neg ek,if_neg (λz=>ek z.symm),aVW]
   . rw[if_neg q];have hp:¬ Has p t.1:=λz=>q (kE.mpr ((tU h _).mpr z));rw[mK,kD,aQV,aTY,h k n];by_cases ek:t.1=k
     . subst ek;rw[if_pos rfl,oS hp,aVX];constructor
       . rintro(z|z)
         . exact absurd z.1 hp
         . exact⟨.inr rfl,by rw[<- z]⟩
       . rintro⟨_,rfl⟩;exact .inr rfl
     . rw[if_neg ek,aVW];constructor
       . rintro(z|z)
         . exact⟨.inl z.1,z.2⟩
         . exact absurd (by rw[<- z]) ek
       . rintro⟨z|z,e⟩
         . exact .inl ⟨z,e⟩
         . exact absurd z ek
 . rw[aBM];split
   . exact nd
   . rename_i q;refine aVY.mpr ⟨nd,aU5 _ _,λa ha b hb e=>?_⟩;cases aTY.mp hb;obtain⟨u,mu,rfl⟩:=aVJ.mp ha;exact q (kE.mpr ⟨u,mu,e⟩)
theorem aBN:∀(r p acc:List Tr),fO p acc->(acc.map (·.1)).Nodup->fO (p++r) (r.foldl cG acc)/\((r.foldl cG acc).map (·.1)).Nodup
 |[],p,acc,h,nd=>by rw[aRQ];exact⟨h,nd⟩
 |t::r,p,acc,h,nd=>by obtain⟨h1,n1⟩:=aO3 t h nd;have:=aBN r (p++[t]) _ h1 n1;rw[aT8]at this;exact this
def bA(ts:List Tr):List Tr:=ts.foldl cG []
def aBO:fO [] []:=λk n=>Iff.intro (λh=>by cases h) (λh=>by obtain⟨⟨t,m,_⟩,_⟩:=h;cases m)
def mL(ts:List Tr):fO ts (bA ts)/\((bA ts).map (·.1)).Nodup:=by have:=aBN ts [] [] aBO aU1;rw[aS9]at this;exact this
def iD(rf:List Tr)(t:Tr):List Tr:=match rf with
 |[]=>[t]
 |l::r=>if l.1=t.1 then(t.1,l.2+t.2)::r else t::l::r
def oU(rf:List Tr):Prop:=rf.Pairwise λa b=>kl b.1 a.1=true
def aO4{p rf:List Tr}(t:Tr)(h:fO p rf)(d:oU rf)(le:∀x∈p,ltN (tmN t) (tmN x)=false):fO (p++[t]) (iD rf t)/\oU (iD rf t):=by
 cases rf with
 |nil =>
  have hp:∀k,¬ Has p k:=λk z=>nomatch (h k _).mpr ⟨z,rfl⟩;refine⟨λk n=>?_,aU5 _ _⟩;rw[mK,kD,oS (hp k),aVX];show(k,n)∈[t]↔_;rw[aTY];constructor
  . intro e;rw[<- e];exact⟨.inr rfl,by rw[if_pos rfl]⟩
  . rintro⟨z|z,e⟩
    . exact absurd z (hp k)
    . rw[if_pos z]at e;rw[e,<- z]
 |cons l r =>
  have hl:(l.1,l.2)∈l::r:=mcs;have hl:=(h l.1 l.2).mp hl;have dl:=(aUZ.mp d).1;have nr:∀n,(l.1,n)∉r:=λn m=>by have:=dl _ m;rw[tR]at this;cases this
  unfold iD;dsimp only;by_cases e:l.1=t.1
  . rw[if_pos e];refine⟨λk n=>?_,aUZ.mpr ⟨λa ha=>by rw[<- e];exact dl a ha,(aUZ.mp d).2⟩⟩
    rw[mK,kD,aQU];by_cases ek:t.1=k
    . subst ek;rw[if_pos rfl];constructor
      . rintro(z|z)
        . rw[Prod.mk.injEq]at z;exact⟨.inr rfl,by rw[z.2,hl.2,e]⟩
        . exact absurd z (by rw[<- e];exact nr n)
      . rintro⟨_,z⟩;left;rw[z,hl.2,e]
    . rw[if_neg ek,aVW];constructor
      . rintro(z|z)
        . exact absurd (Prod.mk.injEq .. ▸ z).1.symm ek
        . have:=(h k n).mp (mcm z);exact⟨.inl this.1,this.2⟩
      . rintro⟨z|z,e'⟩
        . have:=(h k n).mpr ⟨z,e'⟩;rcases aQU.mp this with m|m
          . exact absurd (by rw[<- m]at e;exact e.symm) ek
          . exact .inr m
        . exact absurd z ek
  . rw[if_neg e];obtain⟨x,mx,ex⟩:=hl.1;have k1:kl t.1 l.1=false:=by
      have:=le x mx;rw[aBL (by rw[ex];exact λz=>e z.symm),ex]at this
      exact this
    have k2:kl l.1 t.1=true:=by
     cases q:kl l.1 t.1 with
     |true=>rfl
     |false=>exact absurd (aO0 q k1) e
    have hp:¬ Has p t.1:=λz=>by
     have:=(h t.1 _).mpr ⟨z,rfl⟩;rcases aQU.mp this with m|m
     . exact e (by rw[<- m])
     . have:=dl _ m;rw[k1]at this;cases this
    refine⟨λk n=>?_,aUZ.mpr ⟨λa ha=>?_,d⟩⟩
    . rw[mK,kD,aQU,h k n];by_cases ek:t.1=k
      . subst ek;rw[if_pos rfl,oS hp,aVX];constructor
        . rintro(z|z)
          . exact⟨.inr rfl,by rw[<- z]⟩
          . exact absurd z.1 hp
        . rintro⟨_,rfl⟩;exact .inl rfl
      . rw[if_neg ek,aVW];constructor
        . rintro(z|z)
          . exact absurd (by rw[<- z]) ek
          . exact⟨.inl z.1,z.2⟩
        . rintro⟨z|z,e'⟩
          . exact .inr ⟨z,e'⟩
          . exact absurd z ek
    . rcases aQU.mp ha with rfl|ha
      . exact k2
      . exact qY _ _ _ (dl a ha) k2
theorem aBP:∀(r p rf:List Tr),fO p rf->oU rf->eX ((p++r).map tmN)->fO (p++r) (r.foldl iD rf)/\oU (r.foldl iD rf)
 |[],p,rf,h,d,_=>by rw[aRQ];exact⟨h,d⟩
 |t::r,p,rf,h,d,so=>by
  have le:∀x∈p,ltN (tmN t) (tmN x)=false:=λx hx=>by rw[aU0]at so;exact(aUY.mp so).2.2 _ (List.mem_map_of_mem hx) _ (List.mem_map_of_mem mcs)
  obtain⟨h1,d1⟩:=aO4 t h d le;have:=aBP r (p++[t]) _ h1 d1 (by rw[aT8];exact so)
  rw[aT8]at this;exact this
theorem aBQ:∀{a b:List Tr},a.map tmN=b.map tmN->a=b
 |[],[],_=>rfl
 |[],_::_,h=>by cases h
 |_::_,[],h=>by cases h
 |x::a,y::b,h=>by rw[aSS,aSS,aSY]at h;rw[aOZ h.1,aBQ h.2]
def both{ts S:List Tr}(hs:S.map tmN=dI (ts.map tmN)):(S.foldl iD []).reverse.map tmN=dI ((bA ts).map tmN):=by
 have pm:S.Perm ts:=by
  have h0:(S.map tmN).Perm (ts.map tmN):=by rw[hs];exact lO _
  obtain⟨qs,q1,q2⟩:=j3 h0;have:S=qs:=by exact aBQ q2
  rw[this];exact q1
 obtain⟨h1,d1⟩:=aBP S [] [] aBO .nil (by rw[aS9,hs];exact rC _)
 rw[aS9]at h1;obtain⟨h2,n2⟩:=mL ts;have nd1:(S.foldl iD []).Nodup:=d1.imp λ{a b} h e=>by subst e;rw[tR]at h;cases h
 have nd2:(bA ts).Nodup:=by have:=aU6.mp n2;exact this.imp λ{a b} h e=>h (by rw[e])
 have pe:(S.foldl iD []).Perm (bA ts):=(List.perm_ext_iff_of_nodup nd1 nd2).mpr λ⟨k,n⟩=>by rw[h1 k n,h2 k n,aO2 pm k,aO1 pm k]
 refine rE ?_ (((List.reverse_perm _).trans pe).map tmN);unfold eX;rw[aU6,List.pairwise_reverse];refine d1.imp λ{a b} h=>?_;have ne:a.1≠b.1:=λe=>by rw[e,tR]at h;cases h
 rw[aBL ne];exact qZ h
theorem tV:∀{ks:List N},(∀k∈ks,bR (nD k)=some k)->eM (nDL ks)=some ks
 |[],_=>by simp[nDL,eM]
 |k::ks,h=>by simp only[nDL,eM];rw[h k mcs,tV λx hx=>h x (mcm hx)]
def aO5(k:N):bR (nD k)=some k:=by
 induction k using N.ind with
 |hi n=>simp[nD,bR]
 |hs x=>simp[nD,bR]
 |ht xs ih=>simp only[nD,bR];rw[tV ih];rfl
def aBR(ks:List N):eM (nDL ks)=some ks:=tV λk _=>aO5 k
def tW(h:(N.t ks).dp<=8):cW (nD (.t ks))=some (.t ks):=by
 rw[nD];show(match eM (nDL ks)with|some ks=>if(N.t ks).dp<=8 then some (N.t ks)else none|none=>none)=_
 rw[aBR];dsimp only;rw[if_pos h]
def aO6(h:∀k∈ks,cO k=true)(h0:ks≠[]):txD (nDL ks)=none:=by
 cases ks with
 |nil=>exact absurd rfl h0
 |cons k ks =>
  have:=h k mcs;unfold cO at this;split at this
  . simp only[nDL,nD];rfl
  . cases this
def aO7{m:Md}{d:D}(hd:seqD d=some (nDL ks))(h:∀k∈ks,cO k=true)(ok:okS ks=true):gP [(m,d)]=some (.fr,.lst (nDL (dI ks))):=by
 show(match seqD d with|some ds=>_|none=>none)=_
 rw[hd];dsimp only;by_cases h0:ks=[]
 . subst h0;rfl
 . rw[aO6 h h0,aBR];dsimp only;rw[if_pos ok]
def isF(f:N):Prop:=∃xs:List Str,f=.t (xs.map .s)/\xs.length<64
def isBs:Nat->N->Prop
 |0,b=>b=.t []
 |j+1,b=>∃rs:List N,b=.t rs/\rs.length<64/\∀r∈rs,∃ts:List Tr,r=.t (ts.map tmN)/\ts.length<64/\∀t∈ts,isF t.1.1/\isBs j t.1.2
def isK(j:Nat)(k:Ky):Prop:=isF k.1/\isBs j k.2
theorem mM:∀{xs ys:List N},(∀x∈xs,∀y∈ys,okN x y=true)->eW xs ys=true
 |[],_,_=>by simp[eW]
 |_::_,[],_=>by simp[eW]
 |x::xs,y::ys,h=>by
  rw[eW];split
  . exact mM λa ha b hb=>h a (mcm ha) b (mcm hb)
  . exact h x mcs y mcs
def tX{f g:N}(hf:isF f)(hg:isF g):okN f g=true:=by obtain⟨xs,rfl,_⟩:=hf;obtain⟨ys,rfl,_⟩:=hg;rw[okN];refine mM λx hx y hy=>?_;obtain⟨a,_,rfl⟩:=aVJ.mp hx;obtain⟨b,_,rfl⟩:=aVJ.mp hy;rw[okN]
def tY{s t:Tr}(h1:okN s.1.1 t.1.1=true)(h2:okN s.1.2 t.1.2=true):okN (tmN s) (tmN t)=true:=by
 unfold tmN;simp only[okN,eW];split
 . split
   . split <;> rfl
   . exact h2
 . exact h1
theorem tZ:∀{j:Nat}{b c:N},isBs j b->isBs j c->okN b c=true
 |0,b,c,h1,h2=>by cases h1;cases h2;simp[okN,eW]
 |j+1,b,c,h1,h2=>by obtain⟨rs,rfl,_,h1⟩:=h1;obtain⟨qs,rfl,_,h2⟩:=h2;rw[okN];refine mM λx hx y hy=>?_;obtain⟨ts,rfl,_,h1⟩:=h1 x hx;obtain⟨us,rfl,_,h2⟩:=h2 y hy;rw[okN];refine mM λa ha b hb=>?_;obtain⟨s,hs,rfl⟩:=aVJ.mp ha;obtain⟨t,ht,rfl⟩:=aVJ.mp hb;exact tY (tX (h1 s hs).1 (h2 t ht).1) (tZ (h1 s hs).2 (h2 t ht).2)
def ok_K{s t:Tr}(h1:isK j s.1)(h2:isK j t.1):okN (tmN s) (tmN t)=true:=tY (tX h1.1 h2.1) (tZ h1.2 h2.2)
theorem mN:∀{xs:List N}{n:Nat},(∀x∈xs,x.dp<=n)->N.dpL xs<=n
 |[],n,_=>by simp[N.dpL]
 |x::xs,n,h=>by rw[N.dpL];have:=h x mcs;have:=mN λy hy=>h y (mcm hy);lia
theorem t0{f:N}(h:isF f):f.dp<=1:=by
 obtain⟨xs,rfl,_⟩:=h;rw[N.dp];have:N.dpL (xs.map N.s)<=0:=mN λx hx=>by obtain⟨a,_,rfl⟩:=aVJ.mp hx;rw[N.dp];exact aRD 0
 lia
theorem t4:∀{j:Nat}{b:N},isBs j b->b.dp<=3 * j+1
 |0,b,h=>by cases h;simp[N.dp,N.dpL]
 |j+1,b,h=>by
  obtain⟨rs,rfl,_,h⟩:=h;rw[N.dp];have:N.dpL rs<=3 * j+3:=mN λr hr=>by
   obtain⟨ts,rfl,_,h⟩:=h r hr;rw[N.dp];have:N.dpL (ts.map tmN)<=3 * j+2:=mN λx hx=>by obtain⟨t,ht,rfl⟩:=aVJ.mp hx;have a1:=t0 (h t ht).1;have a2:=t4 (h t ht).2;simp only[tmN,N.dp,N.dpL];lia
   lia
  lia
theorem t5{k:Ky}(h:isK j k)(hj:j<=2):k.1.dp<=1/\k.2.dp<=7/\(kyN k).dp<=8/\∀n,(tmN (k,n)).dp<=8:=by
 have a1:=t0 h.1;have a2:=t4 h.2;refine⟨a1,by lia,?_,λn=>?_⟩
 . simp only[kyN,N.dp,N.dpL];lia
 . simp only[tmN,N.dp,N.dpL];lia
theorem t7:∀{j:Nat}{b:N},isBs j b->isBs (j+1) b
 |0,b,h=>by cases h;exact⟨[],rfl,by decide,λr hr=>nomatch hr⟩
 |j+1,b,h=>by obtain⟨rs,rfl,l,h⟩:=h;refine⟨rs,rfl,l,λr hr=>?_⟩;obtain⟨ts,rfl,l2,h⟩:=h r hr;exact⟨ts,rfl,l2,λt ht=>⟨(h t ht).1,t7 (h t ht).2⟩⟩
def aO8{t:Tr}(h:isF t.1.1):cO (tmN t)=true:=by obtain⟨xs,e,_⟩:=h;unfold tmN;rw[e];rfl
def okS_T{ts:List Tr}(h:∀t∈ts,isK 2 t.1)(hl:ts.length<64):okS (ts.map tmN)=true/\∀k∈ts.map tmN,cO k=true:=by
 have tf:∀k∈ts.map tmN,cO k=true:=λk hk=>by obtain⟨t,ht,rfl⟩:=aVJ.mp hk;exact aO8 (h t ht).1
 refine⟨?_,tf⟩;unfold okS;simp only[aSI,aTE,aTC,aU9];refine⟨⟨⟨λk hk=>?_,.inr tf⟩,λx hx y hy=>?_⟩,by rw[aR2];exact aQM hl qW⟩
 . obtain⟨t,ht,rfl⟩:=aVJ.mp hk;exact aQR ((t5 (h t ht) (aRD 2)).2.2.2 t.2) (by decide)
 . obtain⟨t,ht,rfl⟩:=aVJ.mp hx;obtain⟨u,hu,rfl⟩:=aVJ.mp hy;exact ok_K (h t ht) (h u hu)
def f9{m:Md}{i:Int}{d:D}(h:atI ds i=some d):op2 ixD (.ok m (.lst ds)) (.ok m' (.int i))=.ok .fz d:=cP (by show(atI ds i).map _=_;rw[h];rfl)
def oV{m:Md}{i:Int}{d:D}(h:atI ds i=some d):op2 ixD (.ok m (.tup ds)) (.ok m' (.int i))=.ok .fz d:=cP (by show(atI ds i).map _=_;rw[h];rfl)
def ix2_0{m:Md}{x y:D}:op2 ixD (.ok m (.tup [x,y])) (.ok m' (.int 0))=.ok .fz x:=oV rfl
def ix2_1{m:Md}{x y:D}:op2 ixD (.ok m (.tup [x,y])) (.ok m' (.int 1))=.ok .fz y:=oV rfl
def ix3_0{m:Md}{x y z:D}:op2 ixD (.ok m (.tup [x,y,z])) (.ok m' (.int 0))=.ok .fz x:=oV rfl
def ix3_2{m:Md}{x y z:D}:op2 ixD (.ok m (.tup [x,y,z])) (.ok m' (.int 2))=.ok .fz z:=oV rfl
def i6:hC (.ok [])=.ok .fz (.tup []):=rfl
def mO{x:D}:hC (.ok [(.fz,x)])=.ok .fz (.tup [x]):=rfl
def tup2{x y:D}:hC (.ok [(.fz,x),(.fz,y)])=.ok .fz (.tup [x,y]):=rfl
def i7{x y z:D}:hC (.ok [(.fz,x),(.fz,y),(.fz,z)])=.ok .fz (.tup [x,y,z]):=rfl
def T_eq(t:Tr):nD (tmN t)=.tup [nD t.1.1,nD t.1.2,.int t.2]:=by simp[tmN,nD,nDL]
def K_eq(k:Ky):nD (kyN k)=.tup [nD k.1,nD k.2]:=by simp[kyN,nD,nDL]
abbrev tD(t:Tr):D:=nD (tmN t)
def lst0:fX (.ok [])=.ok .fr (.lst []):=rfl
def T_eq'(t:Tr):tD t=.tup [nD t.1.1,nD t.1.2,.int t.2]:=T_eq t
def aBS(ts:List Tr):nDL (ts.map tmN)=ts.map tD:=by rw[gO,aVA];rfl
theorem aBT{α:Type}{enc:α->D}{p:α->Bool}{g:α->D}{k:D->Rho->Option Rho}{t e:Rho->Res}{ρ0:Rho}:∀{xs:List α},(∀x∈xs,∃ρ1 m,k (enc x) ρ0=some ρ1/\t ρ1=.ok m (.bl (p x))/\(p x=true->∃m',aW (e ρ1)=.ok m' (g x)))->fG k t e ρ0 (xs.map enc)=some ((xs.filter p).map g)
 |[],_=>rfl
 |x::xs,h=>by
  obtain⟨ρ1,m,e1,e2,e3⟩:=h x mcs;have ih:=aBT λy hy=>h y (mcm hy);rw[aSS];unfold fG;rw[e1];dsimp only;rw[e2];cases q:p x with
  |true=>obtain⟨m',e3⟩:=e3 q;simp[e3,ih,List.filter_cons,q]
  |false=>simp[ih,List.filter_cons,q]
def aO9{enc:α->D}(p:α->Bool)(g:α->D){k:D->Rho->Option Rho}{t e:Rho->Res}{m:Md}{xs:List α}(hl:xs.length<sizeLine)(h:∀x∈xs,∃ρ1 m,k (enc x) (dC aF ρ++List.replicate n none)=some ρ1/\t ρ1=.ok m (.bl (p x))/\(p x=true->∃m',aW (e ρ1)=.ok m' (g x))):dW (.ok m (.lst (xs.map enc))) ρ aF n k t e=.ok .fr (.lst ((xs.filter p).map g)):=by unfold dW;rw[Res.thn_ok];dsimp only;rw[if_pos (by simpa using hl),aBT h]
def aBU{enc:α->D}(g:α->D){k:D->Rho->Option Rho}{t e:Rho->Res}{m:Md}{xs:List α}(hl:xs.length<sizeLine)(h:∀x∈xs,∃ρ1 m,k (enc x) (dC aF ρ++List.replicate n none)=some ρ1/\t ρ1=.ok m (.bl true)/\∃m',aW (e ρ1)=.ok m' (g x)):dW (.ok m (.lst (xs.map enc))) ρ aF n k t e=.ok .fr (.lst (xs.map g)):=by
 have:=aO9 (enc:=enc) (λ_=>true) g (ρ:=ρ) (aF:=aF) (n:=n) (k:=k) (t:=t) (e:=e) (m:=m) hl λx hx=>by obtain⟨ρ1,m,e1,e2,e3⟩:=h x hx;exact⟨ρ1,m,e1,e2,λ_=>e3⟩
 rw[this,List.filter_eq_self.mpr λ_ _=>rfl]
def F(ys:List Str):N:=.t (ys.map .s)
def oW(ys:List Str):nD (F ys)=.tup (ys.map .str):=by unfold F;rw[nD,gO,aVA];congr 1
abbrev Rw:=List Str×N×Int
def enc(r:Rw):D:=.tup [.tup (r.1.map .str),nD r.2.1,.int r.2.2]
def tr(r:Rw):Tr:=((F (bI r.1),r.2.1),r.2.2)
def kv(a:Tr):N×D:=(kyN a.1,.int a.2)
theorem aBV:∀(xs:List Str),txD (xs.map .str)=some xs
 |[]=>rfl
 |x::xs=>by rw[aSS];unfold txD;rw[aBV xs];rfl
def aBW{xs:List Str}{m:Md}{d:D}(hd:seqD d=some (xs.map .str))(h:xs.length<64):gP [(m,d)]=some (.fr,.lst ((bI xs).map .str)):=by
 show(match seqD d with|some ds=>_|none=>none)=_
 rw[hd];dsimp only;rw[aBV];dsimp only;rw[if_pos h]
theorem oX:∀(acc:List Tr) (k:Ky),cX (acc.map kv) (kyN k)=(acc.find? λa=>decide (a.1=k)).map λa=>.int a.2
 |[],k=>rfl
 |a::acc,k=>by
  rw[aSS];by_cases e:a.1=k
  . rw[yC (p:=kv a) (by show kyN a.1=_;rw[e]),List.find?_cons_of_pos (by simpa using e)]
    rfl
  . rw[yD (p:=kv a) (λz=>e (tQ z)),oX acc k,List.find?_cons_of_neg (by simpa using e)]
def t8{k:Ky}{n:Int}(nd:(acc.map (·.1)).Nodup)(h:(k,n)∈acc):acc.find? (λa=>decide (a.1=k))=some (k,n):=by
 induction acc with
 |nil=>cases h
 |cons a acc ih =>
  rw[aSS,aRR]at nd;rcases aQU.mp h with e|h
  . subst e;rw[List.find?_cons_of_pos (by simp)]
  . have:¬ a.1=k:=λe=>nd.1 (by rw[e];exact aVJ.mpr ⟨_,h,rfl⟩)
    rw[List.find?_cons_of_neg (by simpa using this)]
    exact ih nd.2 h
def aPA{t:Tr}(nd:(acc.map (·.1)).Nodup):((cG acc t).map (·.1)).Nodup:=by
 rw[aBM];split
 . exact nd
 . rename_i q;refine aVY.mpr ⟨nd,aU5 _ _,λa ha b hb e=>?_⟩;cases aTY.mp hb;obtain⟨u,mu,rfl⟩:=aVJ.mp ha;exact q (kE.mpr ⟨u,mu,e⟩)
theorem aBX(acc:List Tr)(t:Tr):(cG acc t).length<=acc.length+1:=by
 unfold cG;split
 . rw[aR2];lia
 . rw[aR1];exact aRD _
def gB(acc:List Tr)(k:Ky):Int:=((acc.find? λa=>decide (a.1=k)).map (·.2)).getD 0
def aPB(acc:List Tr)(k:Ky):(cX (acc.map kv) (kyN k)).getD (.int 0)=.int (gB acc k):=by rw[oX];unfold gB;cases acc.find? λa=>decide (a.1=k) <;> rfl
def aPC{t:Tr}(nd:(acc.map (·.1)).Nodup):jX (acc.map kv) (kyN t.1) (.int (gB acc t.1+t.2))=(cG acc t).map kv:=by
 unfold jX cG;rw[oX];by_cases q:(acc.any λa=>decide (a.1=t.1))=true
 . rw[if_pos q];obtain⟨⟨k,n⟩,m,e⟩:=kE.mp q;dsimp only at e;subst e;have hf:=t8 nd m;have hv:gB acc t.1=n:=by unfold gB;rw[hf];rfl
   rw[if_pos (by rw[hf];rfl),hv,aVA,aVA]
   refine aVL λa ha=>?_;show(if kyN a.1=kyN t.1 then(kyN a.1,D.int (n+t.2))else kv a)=kv (if a.1=t.1 then(a.1,a.2+t.2)else a);by_cases e:a.1=t.1
   . rw[if_pos e,if_pos (by rw[e])]
     have:a=(t.1,n):=by
      have:=t8 nd (k:=t.1) (n:=a.2) (by rw[<- e];exact ha)
      rw[hf]at this;injection this with this
      rw[this,<- e]
     rw[this];rfl
   . rw[if_neg e,if_neg (λz=>e (tQ z))]
 . rw[if_neg q];have:(acc.find? λa=>decide (a.1=t.1))=none:=by rw[List.find?_eq_none];intro a ha z;exact q (kE.mpr ⟨a,ha,aTD z⟩)
   have hv:gB acc t.1=0:=by unfold gB;rw[this];rfl
   rw[if_neg (by rw[this];decide),hv,aVX,aU0]
   rfl
def t9{k:Ky}(h:(kyN k).dp<=8):cW (.tup [nD k.1,nD k.2])=some (kyN k):=by rw[<- K_eq];exact tW h
theorem nbody{W:WD}{A:Option (Bool×D)}{r:Rw}(nd:(acc.map (·.1)).Nodup)(hx:r.1.length<64)(h8:(kyN (tr r).1).dp<=8)(hl:acc.length<1000):evB W j8 [A,some (true,.dtn (acc.map kv)),some (false,.tup (r.1.map .str)),some (false,nD r.2.1),some (false,.int r.2.2),x5]=.nx [A,some (true,.dtn ((cG acc (tr r)).map kv)),some (false,.tup (r.1.map .str)),some (false,nD r.2.1),some (false,.int r.2.2),some (false,.tup [nD (tr r).1.1,nD (tr r).1.2])]:=by
 have e1:gP [(.fz,.tup (r.1.map .str))]=some (.fr,.lst ((bI r.1).map .str)):=aBW rfl hx;have e2:fH [(.fr,.lst ((bI r.1).map D.str))]=some (.fz,nD (tr r).1.1):=by show some (Md.fz,D.tup ((bI r.1).map D.str))=_;rw[show(tr r).1.1=F (bI r.1)from rfl,oW]
 have e0:nD r.2.1=nD (tr r).1.2:=rfl;have e3:lK (.ok .bo (.dtn (acc.map kv))) (.ok .fz (.tup [nD (tr r).1.1,nD (tr r).1.2])) (.ok .fz (.int 0))=.ok .fz (.int (gB acc (tr r).1)):=by
  show(match Md.fz,cW (.tup [nD (tr r).1.1,nD (tr r).1.2])with|.fz,some k=>Res.ok .fz ((cX (acc.map kv) k).getD (.int 0))|_,_=>.stuck)=_
  rw[t9 h8];dsimp only;rw[aPB]
 have e4 : lL [A, some (true, .dtn (acc.map kv)), some (false, .tup (r.1.map .str)), some (false, nD (tr r).1.2), some (false, .int r.2.2), some (false, .tup [nD (tr r).1.1, nD (tr r).1.2])] 1 (.ok .fz (.tup [nD (tr r).1.1, nD (tr r).1.2])) (.ok .fz (.int (gB acc (tr r).1 + r.2.2))) =
     .nx [A,some (true,.dtn ((cG acc (tr r)).map kv)),some (false,.tup (r.1.map .str)),some (false,nD (tr r).1.2),some (false,.int r.2.2),some (false,.tup [nD (tr r).1.1,nD (tr r).1.2])]:=by
  show(match cW (.tup [nD (tr r).1.1,nD (tr r).1.2])with|some k=>if(acc.map kv).length<sizeLine then aG.nx (List.set [A,some (true,D.dtn (acc.map kv)),some (false,D.tup (r.1.map .str)),some (false,nD (tr r).1.2),some (false,.int r.2.2),some (false,.tup [nD (tr r).1.1,nD (tr r).1.2])] 1 (some (true,D.dtn (jX (acc.map kv) k (.int (gB acc (tr r).1+r.2.2))))))else .stuck|none=>.stuck)=_
  rw[t9 h8];dsimp only;rw[if_pos (by rw[aR2,aRH];lia)]
  have:=aPC (t:=tr r) nd;rw[show(tr r).2=r.2.2 from rfl]at this
  rw[this];rfl
 rw[e0];generalize nD (tr r).1.1=Fd at *;generalize nD (tr r).1.2=Bd at *;generalize D.dtn (acc.map kv)=L at *;generalize D.tup (r.1.map .str)=X at *;generalize D.dtn ((cG acc (tr r)).map kv)=L' at *;generalize (bI r.1).map D.str=Y at *;simp[j8,Ty.f,e1,e2,tup2,e3,e4]
theorem aBY{W:WD}{A:Option (Bool×D)}:∀(rs:List Rw) (acc:List Tr) (x2 x3 x4 x5:Option (Bool×D)),(acc.map (·.1)).Nodup->(∀r∈rs,r.1.length<64/\(kyN (tr r).1).dp<=8)->acc.length+rs.length<1000->∃y2 y3 y4 y5,bQ (aO (.tp [.nm 2,.nm 3,.nm 4])) (evB W j8) (rs.map enc) [A,some (true,.dtn (acc.map kv)),x2,x3,x4,x5]=.nx [A,some (true,.dtn (((rs.map tr).foldl cG acc).map kv)),y2,y3,y4,y5]
 |[],acc,x2,x3,x4,x5,_,_,_=>⟨x2,x3,x4,x5,rfl⟩
 |r::rs,acc,x2,x3,x4,x5,nd,h,hl=>by
  obtain⟨h1,h2⟩:=h r mcs;rw[aSQ]at hl;obtain⟨y2,y3,y4,y5,e⟩:=aBY (W:=W) (A:=A) rs (cG acc (tr r)) (some (false,.tup (r.1.map .str))) (some (false,nD r.2.1)) (some (false,.int r.2.2)) (some (false,.tup [nD (tr r).1.1,nD (tr r).1.2])) (aPA nd) (λx hx=>h x (mcm hx)) (by have:=aBX acc (tr r);lia)
  refine⟨y2,y3,y4,y5,?_⟩;rw[aSS];unfold bQ;rw[show aO (.tp [.nm 2,.nm 3,.nm 4]) (enc r) [A,some (true,.dtn (acc.map kv)),x2,x3,x4,x5]=some [A,some (true,.dtn (acc.map kv)),some (false,.tup (r.1.map .str)),some (false,nD r.2.1),some (false,.int r.2.2),x5]from by simp[enc]]
  dsimp only;rw[nbody nd h1 h2 (by lia)]
  exact e
def aPD{ts:List Tr}(h:∀t∈ts,isK 2 t.1):∀t∈bA ts,isK 2 t.1:=λt ht=>by obtain⟨u,hu,e⟩:=(((mL ts).1 t.1 t.2).mp ht).1;rw[<- e];exact h u hu
theorem aBZ:∀(r acc:List Tr),(r.foldl cG acc).length<=acc.length+r.length
 |[],acc=>aRD _
 |t::r,acc=>by have h1:=aBZ r (cG acc t);have h2:=aBX acc t;rw[List.foldl_cons,aSQ];lia
def uA(ts:List Tr):(bA ts).length<=ts.length:=by unfold bA;have:=aBZ ts [];simpa using this
def nf(ts:List Tr):D:=.tup (nDL (dI ((bA ts).map tmN)))
theorem aB0{rs:List Rw}(h:∀r∈rs,r.1.length<64/\isK 2 (tr r).1)(hl:rs.length<64):(WT TT (k+1)).Φ "_law_normal" [.lst (rs.map enc)]=.ok .fz (nf (rs.map tr)):=by
 have hK:∀t∈rs.map tr,isK 2 t.1:=λt ht=>by obtain⟨r,hr,rfl⟩:=aVJ.mp ht;exact(h r hr).2
 obtain⟨tl,nd⟩:=mL (rs.map tr);have aK:=aPD hK;have al:(bA (rs.map tr)).length<64:=by have:=uA (rs.map tr);rw[aR2]at this;lia
 obtain⟨y2,y3,y4,y5,e2⟩:=aBY (W:=WT TT k) (A:=some (false,.lst (rs.map enc))) rs [] none none none none aU1 (λr hr=>⟨(h r hr).1,(t5 (h r hr).2 (aRD 2)).2.2.1⟩) (by simp;lia)
 have e2:bQ (aO (.tp [.nm 2,.nm 3,.nm 4])) (evB (WT TT k) j8) (rs.map enc) [some (false,.lst (rs.map enc)),some (true,.dtn []),none,none,none,none]=.nx [some (false,.lst (rs.map enc)),some (true,.dtn ((bA (rs.map tr)).map kv)),y2,y3,y4,y5]:=e2;have e4:j0 [some (false,.lst (rs.map enc)),some (true,.dtn ((bA (rs.map tr)).map kv)),y2,y3,y4,y5] 1=.nx [some (false,.lst (rs.map enc)),some (false,.dtf ((bA (rs.map tr)).map kv)),y2,y3,y4,y5]:=rfl;have e5:lP (.ok .fz (.dtf ((bA (rs.map tr)).map kv)))=.ok .fz (.lst ((bA (rs.map tr)).map λa=>nD (kyN a.1))):=by show Res.ok .fz (.lst (((bA (rs.map tr)).map kv).map λkv=>nD kv.1))=_;rw[aVA];rfl
 have e6:dW (.ok .fz (.lst ((bA (rs.map tr)).map λa=>nD (kyN a.1)))) [some (false,.lst (rs.map enc)),some (false,.dtf ((bA (rs.map tr)).map kv)),y2,y3,y4,y5] [1] 1 (aO (.nm 1)) (λρ=>evF (WT TT k) [] ρ) (λρ=>evE (WT TT k) (.tup [(.ix (.var 1) (.int 0)),(.ix (.var 1) (.int 1)),(.nix (.var 0) (.var 1))]) ρ)=.ok .fr (.lst ((bA (rs.map tr)).map tD)):=by
  refine aBU (enc:=λa:Tr=>nD (kyN a.1)) tD (by rw[aRH];lia) λa ha=>?_
  refine⟨[some (false,.dtf ((bA (rs.map tr)).map kv)),some (false,nD (kyN a.1))],.fz,rfl,by simp,.fz,?_⟩
  have g:op2 lJ (.ok .fz (.dtf ((bA (rs.map tr)).map kv))) (.ok .fz (.tup [nD a.1.1,nD a.1.2]))=.ok .fz (.int a.2):=cP (by
   show(match some ((bA (rs.map tr)).map kv),cW (.tup [nD a.1.1,nD a.1.2])with|some kvs,some k=>(cX kvs k).map λd=>(Md.fz,d)|_,_=>none)=_
   rw[t9 (t5 (aK a ha) (aRD 2)).2.2.1];dsimp only;rw[oX,t8 nd (k:=a.1) (n:=a.2) ha];rfl)
  rw[T_eq' a,K_eq];generalize D.dtf ((bA (rs.map tr)).map kv)=L at *;simp[ix2_0,ix2_1,g,i7]
 have e7:gP [(.fr,.lst ((bA (rs.map tr)).map tD))]=some (.fr,.lst (nDL (dI ((bA (rs.map tr)).map tmN)))):=by obtain⟨ok,ft⟩:=okS_T aK al;exact aO7 (by rw[aBS];rfl) ft ok
 have e8:fH [(.fr,.lst (nDL (dI ((bA (rs.map tr)).map tmN))))]=some (.fz,nf (rs.map tr)):=rfl;rw[aOJ];refine dO rfl ?_;show evB _ oO [some (false,.lst (rs.map enc)),none,none,none,none,none]=_;unfold oO;generalize j8=B at *;generalize D.dtf ((bA (rs.map tr)).map kv)=L1 at *;generalize D.dtn ((bA (rs.map tr)).map kv)=L2 at *;generalize ((bA (rs.map tr)).map λa=>nD (kyN a.1))=L3 at *;generalize (bA (rs.map tr)).map tD=L4 at *;generalize nDL (dI ((bA (rs.map tr)).map tmN))=L5 at *;generalize nf (rs.map tr)=L6 at *;generalize E.tup [(E.ix (.var 1) (.int 0)),(.ix (.var 1) (.int 1)),(.nix (.var 0) (.var 1))]=EE at *;generalize rs.map enc=A at *;simp only[aNY]at e6;simp[dS,e2,e4,e5,e6,e7,Ty.f,e8]
theorem aPE(xs:List α)(v:Int)(n:Int)(hn:n=xs.length)(h:0<n):∃c,c∈xs/\atI xs (v % n)=some c:=by
 have h0:=aVZ v (show n≠0 by lia)
 have h1:=aV0 v h;obtain⟨j,hj⟩:=aV1 h0;have hl:j<xs.length:=by lia
 exact⟨xs[j],aUP hl,by rw[hj];exact jD (aTP hl)⟩
abbrev NM(nms:List Str):D:=.lst (nms.map .str)
def isRs(ts:List Tr):Prop:=(ts≠[]/\ts.length<64)/\∀t∈ts,isF t.1.1/\isBs 1 t.1.2
def isF_F{ys:List Str}(h:ys.length<64):isF (F ys):=⟨ys,rfl,h⟩
def bs0:isBs 1 (.t []):=⟨[],rfl,by decide,λr hr=>nomatch hr⟩
def mP:nD (.t [])=.tup []:=by simp[nD,nDL]
def oY(t:Tr):nD (.t ([t].map tmN))=.tup [.tup [nD t.1.1,nD t.1.2,.int t.2]]:=by rw[nD,gO];show D.tup [nD (tmN t)]=_;rw[T_eq]
def F_nil:nD (F [])=.tup []:=oW []
def uB(s:Str):nD (F [s])=.tup [.str s]:=oW [s]
def uC{r:Rw}(hx:r.1.length<64)(hb:isBs 2 r.2.1):isK 2 (tr r).1:=⟨isF_F (by rw[(iR r.1).length_eq];exact hx),hb⟩
def aB1{ts:List Tr}:∃S:List Tr,S.Perm ts/\S.map tmN=dI (ts.map tmN):=by obtain⟨S,p,e⟩:=j3 (lO (ts.map tmN));exact⟨S,p,e.symm⟩
theorem aB2{α:Type}(P:α->Prop)(g:α->D){k:D->Rho->Option Rho}{t e:Rho->Res}{ρ0:Rho}:∀{ds:List D},(∀d∈ds,∃ρ1 m x m',k d ρ0=some ρ1/\t ρ1=.ok m (.bl true)/\aW (e ρ1)=.ok m' (g x)/\P x)->∃xs:List α,fG k t e ρ0 ds=some (xs.map g)/\xs.length=ds.length/\∀x∈xs,P x
 |[],_=>⟨[],rfl,rfl,λx hx=>nomatch hx⟩
 |d::ds,h=>by
  obtain⟨ρ1,m,x,m',e1,e2,e3,px⟩:=h d mcs;obtain⟨xs,f1,f2,f3⟩:=aB2 P g λy hy=>h y (mcm hy);refine⟨x::xs,?_,by simp[f2],λy hy=>?_⟩
  . unfold fG;rw[e1];dsimp only;rw[e2];simp[e3,f1]
  . rcases aQU.mp hy with rfl|hy
    . exact px
    . exact f3 y hy
def aB3(P:α->Prop)(g:α->D){k:D->Rho->Option Rho}{t e:Rho->Res}{m:Md}(hl:ds.length<sizeLine)(h:∀d∈ds,∃ρ1 m x m',k d (dC aF ρ++List.replicate n none)=some ρ1/\t ρ1=.ok m (.bl true)/\aW (e ρ1)=.ok m' (g x)/\P x):∃xs:List α,dW (.ok m (.lst ds)) ρ aF n k t e=.ok .fr (.lst (xs.map g))/\xs.length=ds.length/\∀x∈xs,P x:=by obtain⟨xs,f1,f2,f3⟩:=aB2 P g h;refine⟨xs,?_,f2,f3⟩;unfold dW;rw[Res.thn_ok];dsimp only;rw[if_pos hl,f1]
def e9:Int:=10000000000000000000000000000000000000000
def pow40:op2 (bJ .Pow) (.ok .fz (.int 10)) (.ok .fz (.int 40))=.ok .fz (.int e9):=by rfl
def z40:(0:Int)<e9:=by decide
theorem uD{ts:List Tr}(h:∀t∈ts,isF t.1.1/\isBs 1 t.1.2):(N.t (ts.map tmN)).dp<=8:=by
 rw[N.dp];have:N.dpL (ts.map tmN)<=5:=mN λx hx=>by obtain⟨t,ht,rfl⟩:=aVJ.mp hx;have a1:=t0 (h t ht).1;have a2:=t4 (h t ht).2;simp only[tmN,N.dp,N.dpL];lia
 lia
def aPF{ts:List Tr}(h:isRs ts):cO (.t (ts.map tmN))=true:=by
 obtain⟨h0,_⟩:=h;cases ts with
 |nil=>exact absurd rfl h0.1
 |cons t ts=>rfl
def ok_R{ts us:List Tr}(h1:isRs ts)(h2:isRs us):okN (.t (ts.map tmN)) (.t (us.map tmN))=true:=by rw[okN];refine mM λa ha b hb=>?_;obtain⟨s,hs,rfl⟩:=aVJ.mp ha;obtain⟨t,ht,rfl⟩:=aVJ.mp hb;exact tY (tX (h1.2 s hs).1 (h2.2 t ht).1) (tZ (h1.2 s hs).2 (h2.2 t ht).2)
def aPG(xs:List Str):bI (bI xs)=bI xs:=(yY (rH xs) (aU4 _)).symm
def aB4(xs:List Str):(bI xs).length=xs.length:=(iR xs).length_eq
def ix_s{m:Md}{i:Int}{c:Nat}(h:atI z.cps.toList i=some c):op2 ixD (.ok m (.str z)) (.ok m' (.int i))=.ok .fz (.str ⟨#[c]⟩):=cP (by show(atI z.cps.toList i).map _=_;rw[h];rfl)
def bB:Str := "abcdefghijklmnopqrstuvwxyz"
def bC:Str:=bB++("0123456789":Str)
def i8:List Nat:=bB.cps.toList
def gU:List Nat:=bC.cps.toList
def oZ:i8.length=26:=by decide +kernel
def o3:gU.length=36:=by decide +kernel
def iE(v:Int):Nat:=i8.getD (v % 26).toNat 0
def sgn(v:Int):Nat:=gU.getD (v % 36).toNat 0
theorem o4{l:List Nat}(hn:l.length=n)(h0:0<n)(v:Int):atI l (v % (n:Int))=some (l.getD (v % (n:Int)).toNat 0)/\l.getD (v % (n:Int)).toNat 0∈l:=by
 have h0':=aVZ v (show(n:Int)≠0 by lia)
 have h1:=aV0 v (show(0:Int)<n by lia)
 obtain⟨j,hj⟩:=aV1 h0';rw[hj];have h2:j<l.length:=by lia
 rw[aUK,aV2,aTP h2];exact⟨jD (aTP h2),aUP h2⟩
def aPH(v:Int)(m m':Md):op2 ixD (.ok m (.str bB)) (.ok m' (.int (v % 26)))=.ok .fz (.str ⟨#[iE v]⟩):=ix_s (o4 oZ (by decide) v).1
def aPI(v:Int)(m m':Md):op2 ixD (.ok m (.str bC)) (.ok m' (.int (v % 36)))=.ok .fz (.str ⟨#[sgn v]⟩):=ix_s (o4 o3 (by decide) v).1
def aB5(v:Int):iE v∈i8:=(o4 oZ (by decide) v).2
def aPJ(v:Int):sgn v∈gU:=(o4 o3 (by decide) v).2
def aPK:∀c∈i8,c∈gU:=by decide +kernel
def nd26:i8.Nodup:=by decide +kernel
def nd36:gU.Nodup:=by decide +kernel
def aB6{l:List Nat}(nd:l.Nodup)(hi:i<l.length)(hj:j<l.length)(e:l.getD i 0=l.getD j 0):i=j:=by rw[aV2,aV2,aTP hi,aTP hj]at e;exact(List.getElem_inj nd).mp (by simpa using e)
theorem aPL{v:Int}(hi:i<4)(hj:j<4)(e:iE (v+(i:Int))=iE (v+(j:Int))):i=j:=by
 have:=aB6 nd26 (by rw[oZ];lia) (by rw[oZ];lia) e
 lia
theorem aPM{v:Int}(hi:i<4)(hj:j<4)(e:sgn (v+(i:Int))=sgn (v+(j:Int))):i=j:=by
 have:=aB6 nd36 (by rw[o3];lia) (by rw[o3];lia) e
 lia
def vj(c k at' j:Int):Int:=if j=at' then c / 25+k else c / (7+6 * j)+11 * j
def chr(c k at' j:Int):Nat:=if j=0 then iE (vj c k at' j)else sgn (vj c k at' j)
def ap1(z:Str)(c:Nat):Str:=z++(⟨#[c]⟩:Str)
def aPN(a b:Str):(a++b).length=a.length+b.length:=by show(a.cps++b.cps).size=_;rw[Array.size_append];rfl
def aB7(a b:Str):(a++b).cps.toList=a.cps.toList++b.cps.toList:=by show(a.cps++b.cps).toList=_;rw[aVM]
theorem aPO{W:WD}{c k at' j:Int}{x1 x10:Option (Bool×D)}(hj:0<=j)(hj5:j<=4)(hz:z.length<=50):evB W eJ [some (false,.int c),x1,some (false,.str bB),some (false,.str bC),x4,some (false,.int at'),x6,some (false,.int k),some (false,.str z),some (false,.int j),x10]=.nx [some (false,.int c),x1,some (false,.str bB),some (false,.str bC),x4,some (false,.int at'),x6,some (false,.int k),some (false,.str (ap1 z (chr c k at' j))),some (false,.int j),some (false,.int (vj c k at' j))]:=by
 have m6:op2 (bJ .Mult) (.ok .fz (.int 6)) (.ok .fz (.int j))=.ok .fz (.int (6 * j)):=aAH (by decide)
 have m11:op2 (bJ .Mult) (.ok .fz (.int 11)) (.ok .fz (.int j))=.ok .fz (.int (11 * j)):=aAH (by decide)
 have d7:op2 (bJ .FloorDiv) (.ok .fz (.int c)) (.ok .fz (.int (7+6 * j)))=.ok .fz (.int (c / (7+6 * j))):=aAF (by lia) (by lia)
 have st : ∀ v : Int, evB W [eJ.getD 2 .never] [some (false, .int c), x1, some (false, .str bB), some (false, .str bC), x4, some (false, .int at'), x6, some (false, .int k), some (false, .str z), some (false, .int j), some (false, .int v)] =
     .nx [some (false,.int c),x1,some (false,.str bB),some (false,.str bC),x4,some (false,.int at'),x6,some (false,.int k),some (false,.str (ap1 z (if j=0 then iE v else sgn v))),some (false,.int j),some (false,.int v)]:=λv=>by
  have e1:=aPH v .fz .fz;have e2:=aPI v .fz .fz;have a1:op2 (bJ .Add) (.ok .fz (.str z)) (.ok .fz (.str ⟨#[iE v]⟩))=.ok .fz (.str (ap1 z (iE v))):=oE (by rw[aRH];show z.length+1<=_;lia)
  have a2:op2 (bJ .Add) (.ok .fz (.str z)) (.ok .fz (.str ⟨#[sgn v]⟩))=.ok .fz (.str (ap1 z (sgn v))):=oE (by rw[aRH];show z.length+1<=_;lia)
  generalize bB=LL at *;generalize bC=SS at *;by_cases w:j=0
  . rw[if_pos w];simp[eJ,w,e1,a1]
  . rw[if_neg w];have w:(j==0)=false:=by simpa using w
    simp[eJ,w,e2,a2]
 have fst : evB W (eJ.take 2) [some (false, .int c), x1, some (false, .str bB), some (false, .str bC), x4, some (false, .int at'), x6, some (false, .int k), some (false, .str z), some (false, .int j), x10] =
     .nx [some (false,.int c),x1,some (false,.str bB),some (false,.str bC),x4,some (false,.int at'),x6,some (false,.int k),some (false,.str z),some (false,.int j),some (false,.int (vj c k at' j))]:=by
  unfold vj;generalize bB=LL at *;generalize bC=SS at *;by_cases w:j=at'
  . subst w;rw[if_pos rfl];simp[eJ,m6,m11,d7]
  . rw[if_neg w];have w:(j==at')=false:=by simpa using w
    simp[eJ,m6,m11,d7,w]
 have split:eJ=eJ.take 2++[eJ.getD 2 .never]:=rfl;rw[split,oG,fst,aG.thn_nx];exact st _
def cQ{k:D->Rho->Option Rho}{body:Rho->aG}{d:D}{ρ1 ρ2:Rho}(h1:k d ρ=some ρ1)(h2:body ρ1=.nx ρ2):bQ k body (d::ds) ρ=bQ k body ds ρ2:=by
 conv=>lhs;unfold bQ
 rw[h1];dsimp only;rw[h2]
def aPP(z:Str)(c:Nat):(ap1 z c).length=z.length+1:=aPN _ _
theorem aB8{W:WD}{c k at':Int}{x1 x4 x6:Option (Bool×D)}:∀(js:List Int) (z:Str) (x9 x10:Option (Bool×D)),(∀j∈js,0<=j/\j<=4)->z.length+js.length<=50->∃(z':Str) (y9 y10:Option (Bool×D)),z'.cps.toList=z.cps.toList++js.map (chr c k at')/\bQ (aO (.nm 9)) (evB W eJ) (js.map .int) [some (false,.int c),x1,some (false,.str bB),some (false,.str bC),x4,some (false,.int at'),x6,some (false,.int k),some (false,.str z),x9,x10]=.nx [some (false,.int c),x1,some (false,.str bB),some (false,.str bC),x4,some (false,.int at'),x6,some (false,.int k),some (false,.str z'),y9,y10]
 |[],z,x9,x10,_,_=>⟨z,x9,x10,by simp,rfl⟩
 |j::js,z,x9,x10,h,hz=>by
  rw[aSQ]at hz;have e1:=aPO (W:=W) (c:=c) (k:=k) (at':=at') (x1:=x1) (x4:=x4) (x6:=x6) (x10:=x10) (z:=z) (h j mcs).1 (h j mcs).2 (by lia)
  obtain⟨z2,y9,y10,l2,e2⟩:=aB8 (W:=W) (c:=c) (k:=k) (at':=at') (x1:=x1) (x4:=x4) (x6:=x6) js (ap1 z (chr c k at' j)) (some (false,.int j)) (some (false,.int (vj c k at' j))) (λi hi=>h i (mcm hi)) (by rw[aPP];lia)
  refine⟨z2,y9,y10,?_,?_⟩
  . rw[l2];unfold ap1;rw[aB7,aSS,aT8];rfl
  . rw[aSS,cQ (show aO (.nm 9) (.int j) [some (false,.int c),x1,some (false,.str bB),some (false,.str bC),x4,some (false,.int at'),x6,some (false,.int k),some (false,.str z),x9,x10]=some [some (false,.int c),x1,some (false,.str bB),some (false,.str bC),x4,some (false,.int at'),x6,some (false,.int k),some (false,.str z),some (false,.int j),x10]from by simp) e1]
    exact e2
def Nm(z:Str):Prop:=(∃c l,z.cps.toList=c::l/\c∈i8)/\(∀c∈z.cps.toList,c∈gU)/\z.length<=40
theorem aPQ{t:Int}(h0:0<=t)(h4:t<4):∀c∈(Txt.slice "a9z" none (some t)).cps.toList,c∈gU:=by
 have:t=0\/t=1\/t=2\/t=3:=by lia
 rcases this with rfl|rfl|rfl|rfl <;> decide +kernel
def aPR(c k at' j:Int):chr c k at' j∈gU:=by
 unfold chr;split
 . exact aPK _ (aB5 _)
 . exact aPJ _
def chr0(c k at':Int):chr c k at' 0∈i8:=by unfold chr;rw[if_pos rfl];exact aB5 _
def aPS{m:Md}{i:Int}(h:g ρ=.ok m' (.int i)):slP (.ok m (.str z)) none (some g) ρ=.ok .fz (.str (Txt.slice z none (some i))):=by unfold slP;rw[Res.thn_ok];show cU none ρ _=_;unfold cU;show(g ρ).thn _=_;rw[h];rfl
def eO(n:Int):List Int:=(List.range n.toNat).map λi:Nat=>(i:Int)
theorem rng5(n:Int)(h0:0<=n)(h5:n<=5):(eO n).length=n.toNat/\(∀j∈eO n,0<=j/\j<=4)/\gK (.ok [(.fz,.int n)])=.ok .fz (.lst ((eO n).map .int)):=by
 unfold eO;refine⟨by simp,λj hj=>?_,?_⟩
 . obtain⟨i,hi,rfl⟩:=aVJ.mp hj;rw[aQP]at hi;lia
 . show(if(decide (-(2 ^ 62)<=n)&&decide (n<2 ^ 62))=true then Res.ok .fz (.lst (eF 0 n))else .stuck)=_;rw[if_pos (by rw[aSI,aTC,aTC];lia)]
   unfold eF;rw[aVA,Int.sub_zero];congr 3;funext i;show D.int (0+(i:Int))=D.int i;rw[aVX]
def eK(c n at':Int)(k:Int)(s:Str):Prop:=∃z:Str,s.cps.toList=(eO n).map (chr c k at')++z.cps.toList/\(∀x∈z.cps.toList,x∈gU)/\z.length<=3
theorem eK.nm{c n at' k:Int}{s:Str}(h:eK c n at' k s)(h1:1<=n)(h5:n<=5):Nm s:=by
 obtain⟨z,e,hz,lz⟩:=h;have hj:∃r,eO n=0::r:=by
  unfold eO;obtain⟨m,hm⟩:∃m,n.toNat=m+1:=⟨n.toNat-1,by lia⟩
  rw[hm,List.range_succ_eq_map];exact⟨_,rfl⟩
 have lj:(eO n).length<=5:=by rw[(rng5 n (by lia) h5).1];lia
 obtain⟨r,hr⟩:=hj;refine⟨⟨chr c k at' 0,r.map (chr c k at')++z.cps.toList,by rw[e,hr];rfl,chr0 c k at'⟩,λx hx=>?_,?_⟩
 . rw[e]at hx;rcases aQV.mp hx with hx|hx
   . obtain⟨j,_,rfl⟩:=aVJ.mp hx;exact aPR c k at' j
   . exact hz x hx
 . have:=congrArg List.length e;rw[aR1,aR2]at this;show s.cps.size<=40;rw[<- aQ2,this];have lz:z.cps.toList.length<=3:=by rw[aQ2];exact lz
   lia
theorem eK.apart{c n at':Int}{s:Str}(h0:0<=at')(hn:at'<n)(hi:i<4)(hj:j<4)(h1:eK c n at' i s)(h2:eK c n at' j s):i=j:=by
 obtain⟨z1,e1,_⟩:=h1;obtain⟨z2,e2,_⟩:=h2;rw[e1]at e2;have e3:=(List.append_inj e2 (by simp)).1
 have hm:at'∈eO n:=by unfold eO;exact aVJ.mpr ⟨at'.toNat,aQP.mpr (by lia),by lia⟩
 have e4:chr c i at' at'=chr c j at' at':=List.map_inj_left.mp e3 at' hm;unfold chr vj at e4;rw[if_pos rfl,if_pos rfl]at e4;split at e4
 . exact aPL hi hj e4
 . exact aPM hi hj e4
theorem aPT{W:WD}{c k at' n:Int}{x1 x8 x9 x10:Option (Bool×D)}{ns:List Str}(h0:0<=n)(h5:n<=5)(hk:0<=k)(hk3:k<=3)(hl:ns.length<=10):∃(s:Str) (y8 y9 y10:Option (Bool×D)),eK c n at' k s/\evB W iC [some (false,.int c),x1,some (false,.str bB),some (false,.str bC),some (false,.int n),some (false,.int at'),some (true,.lst (ns.map .str)),some (false,.int k),x8,x9,x10]=.nx [some (false,.int c),x1,some (false,.str bB),some (false,.str bC),some (false,.int n),some (false,.int at'),some (true,.lst ((ns++[s]).map .str)),some (false,.int k),y8,y9,y10]:=by
 obtain⟨lj,hj,er⟩:=rng5 n h0 h5;obtain⟨z,y9,y10,lz,ez⟩:=aB8 (W:=W) (c:=c) (k:=k) (at':=at') (x1:=x1) (x4:=some (false,.int n)) (x6:=some (true,.lst (ns.map .str))) (eO n) Str.empty x9 x10 hj (by show 0+_<=_;lia)
 have lz:z.cps.toList=(eO n).map (chr c k at'):=lz;have ll:z.length<=5:=by show z.cps.size<=5;rw[<- aQ2,lz,aR2];lia
 have d5:op2 (bJ .FloorDiv) (.ok .fz (.int c)) (.ok .fz (.int (5+k)))=.ok .fz (.int (c / (5+k))):=aAF (by lia) (by lia)
 have l3:(Txt.slice "a9z" none (some (c / (5+k) % 4))).length<=3:=aTI _ _ _;refine⟨z++Txt.slice "a9z" none (some (c / (5+k) % 4)),some (false,.str z),y9,y10,⟨_,by rw[aB7,lz],aPQ (by lia) (by lia),l3⟩,?_⟩
 have sl:slP (.ok .fz (.str "a9z")) none (some (evE W (.bin .Mod (.bin .FloorDiv (.var 0) (.bin .Add (.int 5) (.var 7))) (.int 4)))) [some (false,.int c),x1,some (false,.str bB),some (false,.str bC),some (false,.int n),some (false,.int at'),some (true,.lst (ns.map .str)),some (false,.int k),some (false,.str z),y9,y10]=.ok .fz (.str (Txt.slice "a9z" none (some (c / (5+k) % 4)))):=aPS (m':=.fz) (by
  generalize bB=LL at *;generalize bC=SS at *;simp[d5])
 have a1:op2 (bJ .Add) (.ok .fz (.str z)) (.ok .fz (.str (Txt.slice "a9z" none (some (c / (5+k) % 4)))))=.ok .fz (.str (z++Txt.slice "a9z" none (some (c / (5+k) % 4)))):=oE (by rw[aRH];lia)
 have ap:∀s:Str,fK [some (false,.int c),x1,some (false,.str bB),some (false,.str bC),some (false,.int n),some (false,.int at'),some (true,.lst (ns.map .str)),some (false,.int k),some (false,.str z),y9,y10] 6 (.ok .fz (.str s))=.nx [some (false,.int c),x1,some (false,.str bB),some (false,.str bC),some (false,.int n),some (false,.int at'),some (true,.lst ((ns++[s]).map .str)),some (false,.int k),some (false,.str z),y9,y10]:=λs=>by
  show(if(ns.map D.str).length<sizeLine then _ else _)=_;rw[if_pos (by rw[aR2,aRH];lia),aU0]
  rfl
 have ap:=ap (z++Txt.slice "a9z" none (some (c / (5+k) % 4)));have ez:bQ (aO (.nm 9)) (evB W eJ) ((eO n).map .int) [some (false,.int c),x1,some (false,.str bB),some (false,.str bC),some (false,.int n),some (false,.int at'),some (true,.lst (ns.map .str)),some (false,.int k),some (false,.str (Str.ofString "")),x9,x10]=_:=ez;unfold iC;generalize eJ=B at *;generalize bB=LL at *;generalize bC=SS at *;generalize (z++Txt.slice "a9z" none (some (c / (5+k) % 4)))=ZZ at *;generalize (Txt.slice "a9z" none (some (c / (5+k) % 4)))=Z3 at *;generalize E.bin .Mod (.bin .FloorDiv (.var 0) (.bin .Add (.int 5) (.var 7))) (.int 4)=EE at *;generalize ns.map D.str=X at *;generalize (ns++[ZZ]).map D.str=Y at *;simp[er,dS,ez,sl,a1,ap]
theorem names(c:Int):∃ns:List Str,ns.length=4/\(∀s∈ns,Nm s)/\ns.Nodup/\(WT TT (k+1)).Φ "_law_names" [.int c,.int 4]=.ok .fr (NM ns):=by
 have n0:0<=1+c % 5:=by lia
 have n5:1+c % 5<=5:=by lia
 have st:∀(ns:List Str) (i:Int) (x8 x9 x10:Option (Bool×D)),0<=i->i<=3->ns.length<=10->∃(s:Str) (y8 y9 y10:Option (Bool×D)),eK c (1+c % 5) (c / 5 % (1+c % 5)) i s/\evB (WT TT k) iC [some (false,.int c),some (false,.int 4),some (false,.str bB),some (false,.str bC),some (false,.int (1+c % 5)),some (false,.int (c / 5 % (1+c % 5))),some (true,.lst (ns.map .str)),some (false,.int i),x8,x9,x10]=.nx [some (false,.int c),some (false,.int 4),some (false,.str bB),some (false,.str bC),some (false,.int (1+c % 5)),some (false,.int (c / 5 % (1+c % 5))),some (true,.lst ((ns++[s]).map .str)),some (false,.int i),y8,y9,y10]:=λns i x8 x9 x10 hi hi3 hl=>aPT n0 n5 hi hi3 hl;obtain⟨s0,a8,a9,a10,q0,e0⟩:=st [] 0 none none none (by decide) (by decide) (by simp)
 obtain⟨s1,b8,b9,b10,q1,e1⟩:=st ([]++[s0]) 1 a8 a9 a10 (by decide) (by decide) (by simp)
 obtain⟨s2,c8,c9,c10,q2,e2⟩:=st ([]++[s0]++[s1]) 2 b8 b9 b10 (by decide) (by decide) (by simp)
 obtain⟨s3,d8,d9,d10,q3,e3⟩:=st ([]++[s0]++[s1]++[s2]) 3 c8 c9 c10 (by decide) (by decide) (by simp)
 have a0':0<=c / 5 % (1+c % 5):=aVZ _ (by lia)
 have a1':c / 5 % (1+c % 5)<1+c % 5:=aV0 _ (by lia)
 have ap:∀{i j:Nat}{x y:Str},i<4->j<4->i≠j->eK c (1+c % 5) (c / 5 % (1+c % 5)) (i:Int) x->eK c (1+c % 5) (c / 5 % (1+c % 5)) (j:Int) y->x≠y:=λhi hj ne h1 h2 e=>by subst e;exact ne (eK.apart a0' a1' hi hj h1 h2)
 have q0:eK c (1+c % 5) (c / 5 % (1+c % 5)) ((0:Nat):Int) s0:=q0;have q1:eK c (1+c % 5) (c / 5 % (1+c % 5)) ((1:Nat):Int) s1:=q1;have q2:eK c (1+c % 5) (c / 5 % (1+c % 5)) ((2:Nat):Int) s2:=q2;have q3:eK c (1+c % 5) (c / 5 % (1+c % 5)) ((3:Nat):Int) s3:=q3;have n1':1<=1+c % 5:=by lia
 refine⟨[s0,s1,s2,s3],rfl,λs hs=>?_,?_,?_⟩
 . simp only[aQU,aVK,aT2]at hs;rcases hs with rfl|rfl|rfl|rfl
   . exact q0.nm n1' n5
   . exact q1.nm n1' n5
   . exact q2.nm n1' n5
   . exact q3.nm n1' n5
 . have d01:=ap (by decide) (by decide) (by decide) q0 q1
   have d02:=ap (by decide) (by decide) (by decide) q0 q2
   have d03:=ap (by decide) (by decide) (by decide) q0 q3
   have d12:=ap (by decide) (by decide) (by decide) q1 q2
   have d13:=ap (by decide) (by decide) (by decide) q1 q3
   have d23:=ap (by decide) (by decide) (by decide) q2 q3
   simp[d01,d02,d03,d12,d13,d23]
 have rg:gK (.ok [(.fz,.int 4)])=.ok .fz (.lst [.int 0,.int 1,.int 2,.int 3]):=rfl;have sg:∀(d:D) (L:List D) (x7 x8 x9 x10:Option (Bool×D)),aO (.nm 7) d [some (false,.int c),some (false,.int 4),some (false,.str bB),some (false,.str bC),some (false,.int (1+c % 5)),some (false,.int (c / 5 % (1+c % 5))),some (true,.lst L),x7,x8,x9,x10]=some [some (false,.int c),some (false,.int 4),some (false,.str bB),some (false,.str bC),some (false,.int (1+c % 5)),some (false,.int (c / 5 % (1+c % 5))),some (true,.lst L),some (false,d),x8,x9,x10]:=λd L x7 x8 x9 x10=>rfl;have lp:bQ (aO (.nm 7)) (evB (WT TT k) iC) [.int 0,.int 1,.int 2,.int 3] [some (false,.int c),some (false,.int 4),some (false,.str bB),some (false,.str bC),some (false,.int (1+c % 5)),some (false,.int (c / 5 % (1+c % 5))),some (true,.lst []),none,none,none,none]=.nx [some (false,.int c),some (false,.int 4),some (false,.str bB),some (false,.str bC),some (false,.int (1+c % 5)),some (false,.int (c / 5 % (1+c % 5))),some (true,NM [s0,s1,s2,s3]),some (false,.int 3),d8,d9,d10]:=by have e0:evB (WT TT k) iC [some (false,.int c),some (false,.int 4),some (false,.str bB),some (false,.str bC),some (false,.int (1+c % 5)),some (false,.int (c / 5 % (1+c % 5))),some (true,.lst []),some (false,.int 0),none,none,none]=_:=e0;rw[cQ (sg _ _ _ _ _ _) e0,cQ (sg _ _ _ _ _ _) e1,cQ (sg _ _ _ _ _ _) e2,cQ (sg _ _ _ _ _ _) e3];rfl
 have a0:op2 (bJ .Add) (.ok .fz (.str bB)) (.ok .fz (.str "0123456789"))=.ok .fz (.str bC):=oE (by decide +kernel)
 have md:op2 (bJ .Mod) (.ok .fz (.int (c / 5))) (.ok .fz (.int (1+c % 5)))=.ok .fz (.int (c / 5 % (1+c % 5))):=aAE (by lia)
 have rt:∀{L:D}{x7 x8 x9 x10:Option (Bool×D)},fF [some (false,.int c),some (false,.int 4),some (false,.str bB),some (false,.str bC),some (false,.int (1+c % 5)),some (false,.int (c / 5 % (1+c % 5))),some (true,L),x7,x8,x9,x10] 6=.rt .fr L:=rfl;rw[aOI];refine dO rfl ?_;show evB _ oN [some (false,.int c),some (false,.int 4),none,none,none,none,none,none,none,none,none]=_;have bd:oN=[.set 2 (.str bB),.set 3 (.frz (.bin .Add (.var 2) (.str "0123456789"))),.set 4 (.frz (.bin .Add (.int 1) (.bin .Mod (.var 0) (.int 5)))),.set 5 (.frz (.bin .Mod (.bin .FloorDiv (.var 0) (.int 5)) (.var 4))),.set 6 (.lst []),.for (.rng1 (.var 1)) (.nm 7) iC,.retV 6]:=rfl;rw[bd];generalize iC=B at *;generalize bB=LL at *;generalize bC=SS at *;generalize NM [s0,s1,s2,s3]=OUT at *;simp[a0,md,lst0,rg,dS,lp,rt]
def aPU{n:Int}{m:Nat}:(WT TT (m+1)).Φ "_law_alike" [.int n,.int n]=.ok .fz (.bl true):=by rw[aBJ];refine dO rfl ?_;show evB _ mD [some (false,.int n),some (false,.int n),none]=_;have i2:jJ [(.fz,.int n),(.fz,.ty "bool")]=some (.fz,.bl false):=rfl;have i3:jJ [(.fz,.int n),(.fz,.ty "int")]=some (.fz,.bl true):=rfl;have nn:cJ (.int n)=false:=rfl;simp[mD,i2,i3,Ty.id,nn]
def aPV{m:Nat}:(WT TT (m+1)).Φ "_law_alike" [.non,.non]=.ok .fz (.bl true):=by rw[aBJ];unfold phi mD;rfl
def ce(ns:List Int)(i:Int):Int:=if 0<=i then(ns[i.toNat]?).getD 0 else 0
theorem cell(k:Nat)(ns:List Int){i:Int}(h0:0<=i):(WT TT (k+1)).Φ "_law_cell_at" [.lst (ns.map .int),.int i]=.ok .fz (.int (ce ns i)):=by
 rw[aOH];refine dO rfl ?_;show evB _ l9 [some (false,.lst (ns.map .int)),some (false,.int i)]=_;obtain⟨j,rfl⟩:=aV1 h0;unfold ce;rw[if_pos h0];by_cases h:j<ns.length
 . have hx:op2 ixD (.ok .fz (.lst (ns.map .int))) (.ok .fz (.int j))=.ok .fz (.int ns[j]):=f9 (jD (by rw[aRZ,aTP h];rfl))
   have h':((j:Int)<(ns.length:Int)):=by lia
   simp[l9,h',hx,h]
 . have h':¬ ((j:Int)<(ns.length:Int)):=by lia
   simp[l9,h',aUR (Nat.le_of_not_lt h)]
def aB9(k:Nat)(ns:List Int){i:Int}(h0:0<=i):aY 2 ((WT TT (k+1)).Φ "_law_cell_at") (.ok [(.fz,.lst (ns.map .int)),(.fz,.int i)])=.ok .fz (.int (ce ns i)):=cF (cell k ns h0)
theorem aPW{ns:List Int}:∃cs:List Int,cs.length<=ns.length/\D3.eV (ns.map .int) lo hi=cs.map .int:=by unfold D3.eV;rw[<- List.map_drop,<- List.map_take];exact⟨_,by rw[aRU,aSC];lia,rfl⟩
def aPX{m m1 m2:Md}{g1 g2:Rho->Res}{i j:Int}(h1:g1 ρ=.ok m1 (.int i))(h2:g2 ρ=.ok m2 (.int j)):slP (.ok m (.lst ds)) (some g1) (some g2) ρ=.ok .fr (.lst (D3.eV ds (some i) (some j))):=by unfold slP;rw[Res.thn_ok];show cU (some g1) ρ _=_;unfold cU;show(g1 ρ).thn _=_;rw[h1];show(g2 ρ).thn _=_;rw[h2];rfl
def aPY{xs:List (Md×D)}{d:D}(hl:ds.length=n)(ha:cN xs=some ds)(h:Φ ds=.ok .fr d):aY n Φ (.ok xs)=.ok .fr d:=by
 show(match cN xs with|some ds=>if ds.length=n then(match Φ ds with|.ok .bo _=>Res.stuck|r=>r)else .stuck|none=>.stuck)=_
 rw[ha];show(if ds.length=n then _ else _)=_;rw[if_pos hl,h]
def aPZ{a b d:D}(h:Φ [a,b]=.ok .fr d):aY 2 Φ (.ok [(.fz,a),(.fz,b)])=.ok .fr d:=aPY (ds:=[a,b]) rfl rfl h
abbrev rN(ts:List Tr):N:=.t (ts.map tmN)
def big:Int:=100000000000000000000000000000000000000000000000000
def VF(nms:List Str)(f:N):Prop:=∃xs:List Str,f=F xs/\(∀x∈xs,x∈nms)/\xs.length<=3
def VB(nms:List Str):Nat->N->Prop
 |0,b=>b=.t []
 |j+1,b=>∃tss:List (List Tr),b=.t (tss.map rN)/\tss.length<=2/\∀ts∈tss,ts≠[]/\ts.length<=2/\∀t∈ts,VF nms t.1.1/\VB nms j t.1.2/\1<=t.2/\t.2<big
def VT(nms:List Str)(j:Nat)(t:Tr):Prop:=VF nms t.1.1/\VB nms j t.1.2/\1<=t.2/\t.2<big
def VR(nms:List Str)(j:Nat)(ts:List Tr):Prop:=ts.length<=2/\∀t∈ts,VT nms j t
def RV(nms:List Str)(j:Nat)(r:Rw):Prop:=r.1.length<=3/\(∀x∈r.1,x∈nms)/\VB nms j r.2.1/\1<=r.2.2/\r.2.2<=e9
theorem sml{i:Int}(h:i<=10):i<big:=by
 have:(10:Int)<big:=by decide
 lia
theorem uE{i:Int}(h:i<=10):i<=e9:=by
 have:(10:Int)<e9:=by decide
 lia
theorem VF.isF{f:N}(h:VF nms f):isF f:=by obtain⟨xs,rfl,_,l⟩:=h;exact⟨xs,rfl,by lia⟩
theorem VB.isBs{nms:List Str}:∀{j:Nat}{b:N},VB nms j b->isBs j b
 |0,b,h=>h
 |j+1,b,h=>by
  obtain⟨tss,rfl,l,h⟩:=h;refine⟨_,rfl,by rw[aR2];lia,λr hr=>?_⟩
  obtain⟨ts,hts,rfl⟩:=aVJ.mp hr;obtain⟨_,l2,q⟩:=h ts hts;exact⟨ts,rfl,by lia,λt ht=>⟨(q t ht).1.isF,VB.isBs (q t ht).2.1⟩⟩
theorem aCA:∀{p:List Tr}{k:Ky}{M:Int},0<=M->(∀t∈p,1<=t.2/\t.2<=M)->0<=bZ p k/\bZ p k<=p.length * M/\(Has p k->1<=bZ p k)
 |[],k,M,_,_=>⟨Int.le_refl 0,by simp[bZ],λh=>by obtain⟨t,m,_⟩:=h;cases m⟩
 |t::p,k,M,hM,h=>by
  obtain⟨a,b,c⟩:=aCA (p:=p) (k:=k) hM λx hx=>h x (mcm hx);have ht:=h t mcs;have e:bZ (t::p) k=(if t.1=k then t.2 else 0)+bZ p k:=rfl;have l:(((t::p).length:Nat):Int) * M=(p.length:Int) * M+M:=by rw[aSQ,Int.natCast_add,Int.add_mul];simp
  rw[e,l];by_cases q:t.1=k
  . rw[if_pos q];exact⟨by lia,by lia,λ_=>by lia⟩
  . rw[if_neg q];refine⟨by lia,by lia,λhk=>?_⟩
    have:Has p k:=by
     obtain⟨u,m,eu⟩:=hk;rcases aQU.mp m with rfl|m
     . exact absurd eu q
     . exact⟨u,m,eu⟩
    have:=c this;lia
def RV.vf{r:Rw}(h:RV nms j r):VF nms (tr r).1.1:=⟨bI r.1,rfl,λx hx=>h.2.1 x ((iR r.1).mem_iff.mp hx),by rw[aB4];exact h.1⟩
theorem aCB{rs:List Rw}(h:∀r∈rs,RV nms j r)(hl:rs.length<64):∀t∈bA (rs.map tr),VT nms j t:=λt ht=>by
 have hh:=((mL (rs.map tr)).1 t.1 t.2).mp ht;obtain⟨_,b,c⟩:=aCA (p:=rs.map tr) (k:=t.1) (M:=e9) (by decide) λu hu=>by obtain⟨r,hr,rfl⟩:=aVJ.mp hu;exact(h r hr).2.2.2
 obtain⟨u,hu,eu⟩:=hh.1;obtain⟨r,hr,rfl⟩:=aVJ.mp hu;refine⟨by rw[<- eu];exact(h r hr).vf,by rw[<- eu];exact(h r hr).2.2.1,by rw[hh.2];exact c hh.1,?_⟩
 rw[hh.2];rw[aR2]at b;have h1:(rs.length:Int) * e9<=63 * e9:=Int.mul_le_mul_of_nonneg_right (by lia) (by decide)
 have h2:63 * e9<big:=by decide
 exact Int.lt_of_le_of_lt (Int.le_trans b h1) h2
def VR.one{t:Tr}(h:VT nms j t):VR nms j [t]:=⟨by simp,λu hu=>by cases aTY.mp hu;exact h⟩
theorem VR.isRs{ts:List Tr}(h:VR nms 1 ts)(h0:ts≠[]):isRs ts:=⟨⟨h0,aVS h.1 (by decide)⟩,λt ht=>⟨(h.2 t ht).1.isF,VB.isBs (h.2 t ht).2.1⟩⟩
def kG:∀(j:Nat),VB nms j (.t [])
 |0=>rfl
 |j+1=>⟨[],rfl,by simp,λts hts=>nomatch hts⟩
def aCC{ts:List Tr}(h:VR nms j ts)(h0:ts≠[]):VB nms (j+1) (.t [rN ts]):=⟨[ts],rfl,by simp,λus hus=>by cases aTY.mp hus;exact⟨h0,h.1,h.2⟩⟩
def kH(hn:nms.length=4)(v:Int):∃s:Str,s∈nms/\∀m m':Md,op2 ixD (.ok m (NM nms)) (.ok m' (.int (v % 4)))=.ok .fz (.str s):=by
 obtain⟨d,hd,e⟩:=aPE (nms.map D.str) v 4 (by simp[hn]) (by decide)
 obtain⟨s,hs,rfl⟩:=aVJ.mp hd;exact⟨s,hs,λm m'=>f9 e⟩
def F1{s:Str}(h:s∈nms):VF nms (F [s]):=⟨[s],rfl,by simpa using h,by simp⟩
theorem barV(hn:nms.length=4)(c:Int):∃ts:List Tr,(VR nms 1 ts/\ts≠[])/\(WT TT (k+2)).Φ "_law_bar" [.int c,NM nms]=.ok .fz (nD (.t (ts.map tmN))):=by
 obtain⟨s,ns,hs⟩:=kH hn c;obtain⟨s1,ns1,h1⟩:=kH hn (c / 48);obtain⟨s2,ns2,h2⟩:=kH hn (c / 192);have one:∀(b:N),VB nms 1 b->∀n,1<=n->n<big->VR nms 1 [((F [s],b),n)]/\[((F [s],b),n)]≠([]:List Tr):=λb hb n hn hb2=>⟨VR.one ⟨F1 ns,hb,hn,hb2⟩,by simp⟩
 have cD:∀{d:D},evB (WT TT (k+1)) i5 [some (false,.int c),some (false,NM nms),none]=.rt .fz d->(WT TT (k+2)).Φ "_law_bar" [.int c,NM nms]=.ok .fz d:=λ{d} h=>by rw[aOK];exact dO rfl h
 have way:c / 12 % 4=0\/c / 12 % 4=1\/c / 12 % 4=2\/c / 12 % 4=3:=by lia
 rcases way with w|w|w|w
 . refine⟨_,one (.t []) (kG 1) (1+c / 4 % 3) (by lia) (sml (by lia)),cD ?_⟩
   rw[oY];dsimp only;rw[uB,mP];generalize NM nms=M at *;simp[i5,hs,i6,mO,i7,w]
 . have rs:∀r∈([([s],.t [],1+c / 4 % 3),([s1,s2],.t [],1)]:List Rw),r.1.length<64/\isK 2 (tr r).1:=λr hr=>by
     simp only[aQU,aVK,aT2]at hr;rcases hr with rfl|rfl
     . exact⟨by simp,uC (by simp) (t7 bs0)⟩
     . exact⟨by simp,uC (by simp) (t7 bs0)⟩
   have nr:=sR (aB0 (k:=k) rs (by simp))
   obtain⟨S,p,e⟩:=aB1 (ts:=bA (([([s],.t [],1+c / 4 % 3),([s1,s2],.t [],1)]:List Rw).map tr));have rv:∀r∈([([s],.t [],1+c / 4 % 3),([s1,s2],.t [],1)]:List Rw),RV nms 1 r:=λr hr=>by
    simp only[aQU,aVK,aT2]at hr;rcases hr with rfl|rfl
    . exact⟨by simp,by simpa using ns,kG 1,by show(1:Int)<=1+c / 4 % 3;lia,uE (by show 1+c / 4 % 3<=10;lia)⟩
    . exact⟨by simp,by simpa using⟨ns1,ns2⟩,kG 1,Int.le_refl 1,uE (by show(1:Int)<=10;decide)⟩
   refine⟨S,⟨⟨?_,λt ht=>aCB rv (by simp) t (p.mem_iff.mp ht)⟩,λz=>?_⟩,cD ?_⟩
   . have:=uA (([([s],.t [],1+c / 4 % 3),([s1,s2],.t [],1)]:List Rw).map tr);rw[p.length_eq];rw[aR2]at this;exact this
   . subst z;have hh:=(tU (mL (([([s],.t [],1+c / 4 % 3),([s1,s2],.t [],1)]:List Rw).map tr)).1 (tr ([s],.t [],1+c / 4 % 3)).1).mpr ⟨_,mcs,rfl⟩;obtain⟨u,hu,_⟩:=hh;exact nomatch p.mem_iff.mpr hu
   . have eS:nf (([([s],.t [],1+c / 4 % 3),([s1,s2],.t [],1)]:List Rw).map tr)=nD (.t (S.map tmN)):=by unfold nf;rw[<- e,nD]
     rw[eS]at nr;have l2:fX (.ok [(.fz,.tup [.tup [.str s],.tup [],.int (1+c / 4 % 3)]),(.fz,.tup [.tup [.str s1,.str s2],.tup [],.int 1])])=.ok .fr (.lst (([([s],.t [],1+c / 4 % 3),([s1,s2],.t [],1)]:List Rw).map enc)):=by show Res.ok .fr (.lst [_,_])=.ok .fr (.lst [enc _,enc _]);simp only[enc,mP];rfl
     generalize (([([s],.t [],1+c / 4 % 3),([s1,s2],.t [],1)]:List Rw).map enc)=LL at *;generalize NM nms=M at *;generalize nD (.t (S.map tmN))=RR at *;simp[i5,hs,h1,h2,i6,mO,tup2,i7,w,l2,nr]
 . refine⟨[((F [],.t []),1+c / 48 % 3)],⟨VR.one ⟨⟨[],rfl,(λx hx=>nomatch hx),by simp⟩,kG 1,by show(1:Int)<=1+c / 48 % 3;lia,sml (by show 1+c / 48 % 3<=10;lia)⟩,by simp⟩,cD ?_⟩
   rw[oY];dsimp only;rw[F_nil,mP];generalize NM nms=M at *;simp[i5,hs,i6,mO,i7,w]
 . refine⟨_,one (.t [.t (([((F [s1],.t []),1)]:List Tr).map tmN)]) (aCC (j:=0) (ts:=([((F [s1],.t []),1)]:List Tr)) (VR.one ⟨F1 ns1,kG 0,Int.le_refl 1,sml (by show(1:Int)<=10;decide)⟩) (by simp)) (1+c / 4 % 3) (by lia) (sml (by lia)),cD ?_⟩
   rw[oY];dsimp only;have e2:nD (.t [.t ([((F [s1],.t []),(1:Int))].map tmN)])=.tup [.tup [.tup [.tup [.str s1],.tup [],.int 1]]]:=by rw[nD,nDL,oY,nDL];dsimp only;rw[uB,mP]
   rw[uB,e2];generalize NM nms=M at *;simp[i5,hs,h1,i6,mO,i7,w,ix3_0,ix3_2]
theorem aP0(hn:nms.length=4)(c:Int)(ρ:Rho)(h0:ρ[0]? = some (some (false,.int c)))(h1:ρ[1]? = some (some (false,NM nms))):∃xs:List Str,xs.length<=3/\(∀x∈xs,x∈nms)/\dW (gK (.ok [(.fz,.int (c / 64 % 4))])) ρ [1,0] 1 (aO (.nm 2)) (λρ=>evF (WT TT k) [] ρ) (λρ=>evE (WT TT k) (.ix (.var 0) (.bin .Mod (.bin .FloorDiv (.var 1) (.ix (.lst [(.int 1),(.int 4),(.int 16)]) (.var 2))) (.int 4))) ρ)=.ok .fr (.lst (xs.map .str)):=by
 have hr:gK (.ok [(.fz,.int (c / 64 % 4))])=.ok .fz (.lst (eF 0 (c / 64 % 4))):=by show(if(decide (-(2 ^ 62)<=c / 64 % 4)&&decide (c / 64 % 4<2 ^ 62))=true then Res.ok .fz (.lst (eF 0 (c / 64 % 4)))else .stuck)=_;rw[if_pos (by rw[aSI,aTC,aTC];lia)]
 have hsub:dC [1,0] ρ=[some (false,NM nms),some (false,.int c)]:=by simp[dC,h0,h1]
 rw[hr];have len:(eF 0 (c / 64 % 4)).length<=3:=by simp[eF];lia
 obtain⟨xs,e,l,hx⟩:=aB3 (ρ:=ρ) (aF:=[1,0]) (n:=1) (k:=aO (.nm 2)) (t:=λρ=>evF (WT TT k) [] ρ) (e:=λρ=>evE (WT TT k) (.ix (.var 0) (.bin .Mod (.bin .FloorDiv (.var 1) (.ix (.lst [(.int 1),(.int 4),(.int 16)]) (.var 2))) (.int 4))) ρ) (m:=.fz) (ds:=eF 0 (c / 64 % 4)) (λs:Str=>s∈nms) D.str (by rw[aRH];lia) (λd hd=>by
  unfold eF at hd;obtain⟨j,hj,rfl⟩:=aVJ.mp hd;rw[aQP]at hj;have hj3:j=0\/j=1\/j=2:=by lia
  have l3:∀{m:Md},fX (.ok [(.fz,.int 1),(.fz,.int 4),(.fz,.int 16)])=.ok .fr (.lst [.int 1,.int 4,.int 16]):=λ{m}=>rfl;rw[hsub];have i0:op2 ixD (.ok .fr (.lst [.int 1,.int 4,.int 16])) (.ok .fz (.int 0))=.ok .fz (.int 1):=f9 rfl;have i1:op2 ixD (.ok .fr (.lst [.int 1,.int 4,.int 16])) (.ok .fz (.int 1))=.ok .fz (.int 4):=f9 rfl;have i2:op2 ixD (.ok .fr (.lst [.int 1,.int 4,.int 16])) (.ok .fz (.int 2))=.ok .fz (.int 16):=f9 rfl;rcases hj3 with rfl|rfl|rfl
  . obtain⟨s,qs,hs⟩:=kH hn (c / 1);have hs:=hs .fz .fz;refine⟨[some (false,NM nms),some (false,.int c),some (false,.int 0)],.fz,s,.fz,by simp,by simp,?_,qs⟩
    generalize NM nms=M at *;simp at hs;simp[l3 (m:=.fz),i0,hs]
  . obtain⟨s,qs,hs⟩:=kH hn (c / 4);have hs:=hs .fz .fz;refine⟨[some (false,NM nms),some (false,.int c),some (false,.int 1)],.fz,s,.fz,by simp,by simp,?_,qs⟩
    generalize NM nms=M at *;simp[l3 (m:=.fz),i1,hs]
  . obtain⟨s,qs,hs⟩:=kH hn (c / 16);have hs:=hs .fz .fz;refine⟨[some (false,NM nms),some (false,.int c),some (false,.int 2)],.fz,s,.fz,by simp,by simp,?_,qs⟩
    generalize NM nms=M at *;simp[l3 (m:=.fz),i2,hs])
 exact⟨xs,by lia,hx,e⟩
def aP1{ts us:List Tr}{m:Md}(h1:VR nms 1 ts)(z1:ts≠[])(h2:VR nms 1 us)(z2:us≠[]):∃b:N,VB nms 2 b/\eE fH (bP (f8 (.ok m (.lst [nD (.t (ts.map tmN)),nD (.t (us.map tmN))]))) (.ok []))=.ok .fz (nD b):=by
 have r1:=h1.isRs z1;have r2:=h2.isRs z2;have two:∀{r},r∈[N.t (ts.map tmN),.t (us.map tmN)]->∃vs:List Tr,isRs vs/\r=.t (vs.map tmN):=λ{r} hr=>by
  simp only[aQU,aVK,aT2]at hr;rcases hr with rfl|rfl
  . exact⟨ts,r1,rfl⟩
  . exact⟨us,r2,rfl⟩
 have ok:okS [.t (ts.map tmN),.t (us.map tmN)]=true:=by
  unfold okS;simp only[aSI,aTE,aTC];rw[aU9,aU9,aU9];refine⟨⟨⟨λk hk=>?_,.inr λr hr=>?_⟩,λx hx=>aU9.mpr λy hy=>?_⟩,aQM (by decide:2<64) qW⟩
  . obtain⟨vs,h,rfl⟩:=two hk;exact aSP (aQR (uD h.2) (by decide))
  . obtain⟨vs,h,rfl⟩:=two hr;exact aPF h
  . obtain⟨vs,h,rfl⟩:=two hx;obtain⟨ws,h',rfl⟩:=two hy;exact ok_R h h'
 have e:f8 (.ok m (.lst [nD (.t (ts.map tmN)),nD (.t (us.map tmN))]))=.ok .fr (.lst (nDL (D3.two (.t (ts.map tmN)) (.t (us.map tmN))))):=by
  show(match cW (nD (.t (ts.map tmN))),cW (nD (.t (us.map tmN)))with|some k1,some k2=>if okS [k1,k2]=true then Res.ok .fr (.lst (nDL (D3.two k1 k2)))else .stuck|_,_=>.stuck)=_
  rw[tW (uD r1.2),tW (uD r2.2)];dsimp only;rw[if_pos ok]
 have fin:∀rs:List (List Tr),rs.map rN=D3.two (.t (ts.map tmN)) (.t (us.map tmN))->rs.length<=2->(∀x∈rs,x=ts\/x=us)->∃b:N,VB nms 2 b/\eE fH (bP (f8 (.ok m (.lst [nD (.t (ts.map tmN)),nD (.t (us.map tmN))]))) (.ok []))=.ok .fz (nD b):=λrs er l hm=>by
  refine⟨.t (rs.map rN),⟨rs,rfl,l,λx hx=>?_⟩,?_⟩
  . rcases hm x hx with rfl|rfl
    . exact⟨z1,h1.1,h1.2⟩
    . exact⟨z2,h2.1,h2.2⟩
  . rw[e,nD,er];rfl
 by_cases c:N.t (us.map tmN)=.t (ts.map tmN)
 . exact fin [ts] (by unfold D3.two;rw[if_pos c];rfl) (by simp) (λx hx=>.inl (aTY.mp hx))
 . have st:D3.two (.t (ts.map tmN)) (.t (us.map tmN))=dI [.t (ts.map tmN),.t (us.map tmN)]:=by unfold D3.two;rw[if_neg c]
   obtain⟨rs,p,er⟩:=j3 (lO ([ts,us].map rN));exact fin rs (by rw[st];exact er.symm) (by rw[p.length_eq];simp) λx hx=>by simpa using p.mem_iff.mp hx
theorem termV(hn:nms.length=4)(c:Int):∃r:Rw,(RV nms 2 r/\bI r.1=r.1)/\(WT TT (k+3)).Φ "_law_term" [.int c,NM nms]=.ok .fz (enc r):=by
 obtain⟨xs,lx,nx,hx⟩:=aP0 (k:=k+2) hn c [some (false,.int c),some (false,NM nms),none,none,none] rfl rfl;obtain⟨ts,⟨v1,z1⟩,b1⟩:=barV (k:=k) hn (c / 768);have h1:=v1.isRs z1;obtain⟨us,⟨v2,z2⟩,b2⟩:=barV (k:=k) hn (c / 9216);have h2:=v2.isRs z2;obtain⟨b,hb,eb⟩:=aP1 (m:=.fr) v1 z1 v2 z2;have b1:=cF b1;have b2:=cF b2;have s1:gP [(.fz,.lst (xs.map D.str))]=some (.fr,.lst ((bI xs).map .str)):=aBW rfl (by lia)
 have s2:fH [(.fr,.lst ((bI xs).map D.str))]=some (.fz,.tup ((bI xs).map .str)):=rfl;have cD:∀{d:D},evB (WT TT (k+2)) dP [some (false,.int c),some (false,NM nms),none,none,none]=.rt .fz d->(WT TT (k+3)).Φ "_law_term" [.int c,NM nms]=.ok .fz d:=λ{d} h=>by rw[aOL];exact dO rfl h
 have l2:∀{x y:D},fX (.ok [(.fz,x),(.fz,y)])=.ok .fr (.lst [x,y]):=rfl;have bars:∃b:N,VB nms 2 b/\evB (WT TT (k+2)) (dP.drop 1 |>.take 3) [some (false,.int c),some (false,NM nms),some (false,.lst (xs.map .str)),none,none]=.nx [some (false,.int c),some (false,NM nms),some (false,.lst (xs.map .str)),some (false,nD b),none]:=by
  have way:c / 256 % 3=0\/c / 256 % 3=1\/c / 256 % 3=2:=by lia
  have bn:VB nms 2 (.t []):=kG 2;generalize xs.map D.str=X at *;generalize NM nms=M at *;rcases way with w|w|w
  . refine⟨.t [],bn,?_⟩;rw[mP];simp[dP,i6,w]
  . refine⟨.t [.t (ts.map tmN)],aCC v1 z1,?_⟩;have e:nD (.t [.t (ts.map tmN)])=.tup [nD (.t (ts.map tmN))]:=by rw[nD,nDL,nDL]
    rw[e];generalize nD (.t (ts.map tmN))=R1 at *;simp[dP,i6,mO,w,b1]
  . refine⟨b,hb,?_⟩;generalize nD (.t (ts.map tmN))=R1 at *;generalize nD (.t (us.map tmN))=R2 at *;generalize nD b=BB at *;simp[dP,i6,w,b1,b2,l2,Ty.f,eb]
 obtain⟨b',hb',eb'⟩:=bars;have times:∃n:Int,(1<=n/\n<=e9)/\evB (WT TT (k+2)) (dP.drop 4) [some (false,.int c),some (false,NM nms),some (false,.lst (xs.map .str)),some (false,nD b'),none]=.rt .fz (.tup [.tup ((bI xs).map .str),nD b',.int n]):=by
  generalize xs.map D.str=X at *;generalize (bI xs).map D.str=Y at *;generalize NM nms=M at *;generalize nD b'=BB at *;by_cases w:c % 5=2
  . refine⟨1+c / 7 % e9,⟨by have:=aVZ (c / 7) (show e9≠0 by decide);lia,by have:=aV0 (c / 7) z40;lia⟩,?_⟩
    simp[dP,w,pow40,z40,s1,s2,Ty.f,i7]
  . refine⟨1+c / 768 % 3,⟨by lia,uE (by lia)⟩,?_⟩
    have w:(c % 5==2)=false:=by simpa using w
    simp[dP,w,s1,s2,Ty.f,i7]
 obtain⟨n,n1,en⟩:=times;refine⟨(bI xs,b',n),⟨⟨by rw[aB4];exact lx,λx hx=>nx x ((iR xs).mem_iff.mp hx),hb',n1⟩,aPG xs⟩,cD ?_⟩
 have split:dP=dP.take 1++((dP.drop 1).take 3++dP.drop 4):=rfl;rw[split,oG];have first:evB (WT TT (k+2)) (dP.take 1) [some (false,.int c),some (false,NM nms),none,none,none]=.nx [some (false,.int c),some (false,NM nms),some (false,.lst (xs.map .str)),none,none]:=by generalize xs.map D.str=X at *;generalize NM nms=M at *;simp at hx;simp[dP,hx]
 rw[first,aG.thn_nx,oG,eb',aG.thn_nx,en]
 rfl
theorem aP2(hn:nms.length=4)(cs:List Int)(hl:cs.length<64):∃S:List Tr,S.length<64/\(∀t∈S,VT nms 2 t)/\(WT TT (k+4)).Φ "_law_reason" [.lst (cs.map .int),NM nms]=.ok .fz (.tup (S.map tD)):=by
 obtain⟨rs,e,l,g⟩:=aB3 (ρ:=[some (false,.lst (cs.map .int)),some (false,NM nms)]) (aF:=[1]) (n:=1) (k:=aO (.nm 1)) (t:=λρ=>evF (WT TT (k+3)) [] ρ) (e:=λρ=>evE (WT TT (k+3)) (.call "_law_term" 2 [(.var 1),(.var 0)]) ρ) (m:=.fz) (ds:=cs.map .int) (λr=>RV nms 2 r/\bI r.1=r.1) enc (by rw[aR2,aRH];lia) (λd hd=>by
  obtain⟨c,_,rfl⟩:=aVJ.mp hd;obtain⟨r,gr,er⟩:=termV (k:=k) hn c;have er:=cF er;refine⟨[some (false,NM nms),some (false,.int c)],.fz,r,.fz,rfl,by simp,?_,gr⟩
  generalize NM nms=M at *;simp[er])
 rw[aR2]at l;obtain⟨S,p,eS⟩:=aB1 (ts:=bA (rs.map tr));refine⟨S,?_,λt ht=>aCB (λr hr=>(g r hr).1) (by lia) t (p.mem_iff.mp ht),?_⟩
 . have:=uA (rs.map tr);rw[aR2]at this;rw[p.length_eq];lia
 have nr:=sR (aB0 (k:=k+2) (rs:=rs) (λr hr=>⟨aVS (g r hr).1.1 (by decide),uC (aVS (g r hr).1.1 (by decide)) (VB.isBs (g r hr).1.2.2.1)⟩) (by lia))
 have ef:nf (rs.map tr)=.tup (S.map tD):=by unfold nf;rw[<- eS,aBS]
 rw[ef]at nr;rw[aOM];refine dO rfl ?_;show evB _ oP [some (false,.lst (cs.map .int)),some (false,NM nms)]=_;simp at e;generalize S.map tD=SD at *;generalize NM nms=M at *;generalize cs.map D.int=C at *;generalize rs.map enc=RE at *;simp[oP,e,nr]
def cL{d:D}{as:List (Md×D)}:bP (.ok .fz d) (.ok as)=.ok ((.fz,d)::as):=rfl
def whl_t{t:Rho->Res}{b:Rho->aG}{ρ':Rho}{m:Md}(h:t ρ=.ok m (.bl true))(h':b ρ=.nx ρ'):cV t b (n+1) ρ=cV t b n ρ':=by
 show(t ρ).thS ρ _=_;rw[h];show(match b ρ with|.nx ρ'=>cV t b n ρ'|.ct ρ'=>cV t b n ρ'|.bk ρ'=>.nx ρ'|r=>r)=_
 rw[h']
def whl_f{t:Rho->Res}{b:Rho->aG}{m:Md}(h:t ρ=.ok m (.bl false)):cV t b (n+1) ρ=.nx ρ:=by show(t ρ).thS ρ _=_;rw[h];rfl
structure KO(Kd No:D)(Ok:D->Prop)(pl:D->D->D):Prop where
 nought:∀k,dD TT.cl (WT TT (k+1)).Φ "nought" (.ok .fz Kd) (.ok [])=.ok .fz No
 plus:∀k a b,Ok a->Ok b->dD TT.cl (WT TT (k+3)).Φ "plus" (.ok .fz Kd) (.ok [(.fz,a),(.fz,b)])=.ok .fz (pl a b)
 okn:Ok No
 okp:∀a b,Ok a->Ok b->Ok (pl a b)
 assoc:∀a b c,Ok a->Ok b->Ok c->pl (pl a b) c=pl a (pl b c)
 left:∀a,Ok a->pl No a=a
section
variable {Ok:D->Prop}{pl:D->D->D}
def pr(pl:D->D->D):List D->List D
 |a::b::l=>pl a b::pr pl l
 |_=>[]
def up2(pl:D->D->D):List D->List D
 |a::b::l=>pl a b::up2 pl l
 |l=>l
theorem KO.okf(K:KO Kd No Ok pl):∀(l:List D) (x:D),Ok x->(∀d∈l,Ok d)->Ok (l.foldl pl x)
 |[],_,h,_=>h
 |a::l,x,h,hl=>K.okf l _ (K.okp _ _ h (hl a mcs)) λd hd=>hl d (mcm hd)
theorem KO.fold(K:KO Kd No Ok pl):∀(l:List D) (x:D),Ok x->(∀d∈l,Ok d)->(up2 pl l).foldl pl x=l.foldl pl x
 |[],_,_,_=>rfl
 |[a],_,_,_=>rfl
 |a::b::l,x,h,hl=>by have ha:=hl a mcs;have hb:=hl b (mcm mcs);show(up2 pl l).foldl pl (pl x (pl a b))=l.foldl pl (pl (pl x a) b);rw[K.assoc x a b h ha hb];exact K.fold l _ (K.okp _ _ h (K.okp _ _ ha hb)) λd hd=>hl d (mcm (mcm hd))
theorem KO.ok2(K:KO Kd No Ok pl):∀(l:List D),(∀d∈l,Ok d)->∀d∈up2 pl l,Ok d
 |[],h=>h
 |[a],h=>h
 |a::b::l,h=>λd hd=>by
  have hd:d∈pl a b::up2 pl l:=hd;rcases aQU.mp hd with rfl|hd
  . exact K.okp _ _ (h a mcs) (h b (mcm mcs))
  . exact K.ok2 l (λd hd=>h d (mcm (mcm hd))) d hd
theorem aCD:∀(l:List D),(up2 pl l).length=(l.length+1) / 2
 |[]=>rfl
 |[a]=>by show 1=(1+1) / 2;rfl
 |a::b::l=>by show(up2 pl l).length+1=(l.length+1+1+1) / 2;rw[aCD l];lia
theorem uF:∀(l:List D),pr pl l=(List.range (l.length / 2)).map λk=>pl (l.getD (2 * k) .non) (l.getD (2 * k+1) .non)
 |[]=>rfl
 |[a]=>by show([]:List D)=((List.range (1 / 2)).map _);rfl
 |a::b::l=>by
  have:(a::b::l).length / 2=l.length / 2+1:=by show(l.length+1+1) / 2=_;lia
  rw[this,List.range_succ_eq_map,aSS,aVA];show pl a b::pr pl l=_;rw[uF l];refine congrArg (pl a b :: ·) (aVL λk _=>?_);show pl _ _=pl ((a::b::l).getD (2 * (k+1)) .non) ((a::b::l).getD (2 * (k+1)+1) .non);rw[show 2 * (k+1)=2 * k+1+1 by lia,show 2 * k+1+1+1=(2 * k+1)+1+1 by lia]
  simp
theorem aCE:∀(l:List D),up2 pl l=pr pl l++(if l.length % 2=1 then[l.getD (l.length-1) .non]else[])
 |[]=>rfl
 |[a]=>rfl
 |a::b::l=>by
  show pl a b::up2 pl l=pl a b::(pr pl l++_);rw[aCE l];have e1:(a::b::l).length % 2=l.length % 2:=by show(l.length+1+1) % 2=_;lia
  rw[e1];split
  . rename_i h;have:(a::b::l).length-1=(l.length-1)+1+1:=by show l.length+1+1-1=_;lia
    rw[this];simp
  . rfl
theorem rng2s(h1:1<=n)(h2:n<=1000):jV (.ok [(.fz,.int 0),(.fz,.int ((n:Int)-1)),(.fz,.int 2)])=.ok .fz (.lst ((List.range (n / 2)).map λ(i:Nat)=>.int ((2 * i:Nat):Int))):=by
 have hs:nSt 0 ((n:Int)-1) 2=n / 2:=by unfold nSt Builtin.Range.rangeSize;split <;> lia
 show(if(decide ((0:Int)<=0)&&decide ((0:Int)<=1000000)&&decide (0<=(n:Int)-1+1000)&&decide ((n:Int)-1<=1000000)&&decide ((0:Int)<2)&&decide ((2:Int)<=1000000))=true then Res.ok .fz (.lst (hU 0 ((n:Int)-1) 2))else .stuck)=_;rw[if_pos (by simp only[aSI,aTC];lia)]
 unfold hU;rw[hs];congr 2;exact aVL λi _=>by congr 1;lia
def ix_n{l:List D}(h:i<l.length){m:Md}:op2 ixD (.ok m (.lst l)) (.ok m' (.int (i:Int)))=.ok .fz (l.getD i .non):=by
 have e:l.getD i .non=l[i]:=by simp[h]
 rw[e];exact f9 (jD (aTP h))
theorem aP3(K:KO Kd No Ok pl)(k:Nat){l:List D}(hl:∀d∈l,Ok d)(h1:2<=l.length)(h2:l.length<=1000)(x1:Option (Bool×D))(x3:Option (Bool×D)):evB (WT TT (k+3)) oK [some (false,Kd),x1,some (false,.lst l),x3]=.nx [some (false,Kd),x1,some (false,.lst (up2 pl l)),some (false,.lst (up2 pl l))]:=by
 have hz:sizeLine=16777216:=aRH;have c1:dW (.ok .fz (.lst ((List.range (l.length / 2)).map λ(i:Nat)=>.int ((2 * i:Nat):Int)))) [some (false,Kd),x1,some (false,.lst l),x3] [0,2] 1 (aO (.nm 2)) (λρ=>evF (WT TT (k+3)) [] ρ) (λρ=>evE (WT TT (k+3)) (.meth (.var 0) "plus" [(.ix (.var 1) (.var 2)),(.ix (.var 1) (.bin .Add (.var 2) (.int 1)))]) ρ)=.ok .fr (.lst (pr pl l)):=by
  rw[uF];refine aBU (enc:=λ(i:Nat)=>D.int ((2 * i:Nat):Int)) (λi=>pl (l.getD (2 * i) .non) (l.getD (2 * i+1) .non)) (by simp;lia) λi hi=>?_
  have hi':i<l.length / 2:=by simpa using hi
  refine⟨[some (false,Kd),some (false,.lst l),some (false,.int ((2 * i:Nat):Int))],.fz,rfl,rfl,.fz,?_⟩;have a1:op2 ixD (.ok .fz (.lst l)) (.ok .fz (.int ((2 * i:Nat):Int)))=.ok .fz (l.getD (2 * i) .non):=ix_n (by lia)
  have a2:op2 ixD (.ok .fz (.lst l)) (.ok .fz (.int (((2 * i:Nat):Int)+1)))=.ok .fz (l.getD (2 * i+1) .non):=by
   have:(((2 * i:Nat):Int)+1)=((2 * i+1:Nat):Int):=by lia
   rw[this];exact ix_n (by lia)
  have o1:Ok (l.getD (2 * i) .non):=by
   have:l.getD (2 * i) .non=l[2 * i]:=by simp[show 2 * i<l.length by lia]
   rw[this];exact hl _ (aUP _)
  have o2:Ok (l.getD (2 * i+1) .non):=by
   have:l.getD (2 * i+1) .non=l[2 * i+1]:=by simp[show 2 * i+1<l.length by lia]
   rw[this];exact hl _ (aUP _)
  have:=K.plus k _ _ o1 o2;generalize l.getD (2 * i) .non=u at a1 this ⊢;generalize l.getD (2 * i+1) .non=v at a2 this ⊢;generalize ((2 * i:Nat):Int)=z at a1 a2 ⊢;simp[a1,a2,this,cL]
 have g1:jV (.ok [(.fz,.int 0),(.fz,.int ((l.length:Int)-1)),(.fz,.int 2)])=.ok .fz (.lst ((List.range (l.length / 2)).map λ(i:Nat)=>.int ((2 * i:Nat):Int))):=rng2s (by lia) (by lia)
 have len:∀m,fE [(m,.lst l)]=some (.fz,.int (l.length:Int)):=λm=>rfl;have e3:((l.length:Int) % 2)=((l.length % 2:Nat):Int):=by lia
 have pl2:=aCE (pl:=pl) l;have s1:evS (WT TT (k+3)) (.setC 3 false (.comp (.meth (.var 0) "plus" [(.ix (.var 1) (.var 2)),(.ix (.var 1) (.bin .Add (.var 2) (.int 1)))]) (.rng3 (.int 0) (.bin .Sub (.bcall .len [(.var 2)]) (.int 1)) (.int 2)) [] [0,2] (.nm 2) 1)) [some (false,Kd),x1,some (false,.lst l),x3]=.nx [some (false,Kd),x1,some (false,.lst l),some (true,.lst (pr pl l))]:=by
  rw[aNZ,aNX];have:evE (WT TT (k+3)) (.rng3 (.int 0) (.bin .Sub (.bcall .len [(.var 2)]) (.int 1)) (.int 2)) [some (false,Kd),x1,some (false,.lst l),x3]=.ok .fz (.lst ((List.range (l.length / 2)).map λ(i:Nat)=>.int ((2 * i:Nat):Int))):=by generalize (List.range (l.length / 2)).map (λ(i:Nat)=>D.int ((2 * i:Nat):Int))=q at g1 ⊢;simp[Bn.f,len,cL,g1]
  rw[this,c1];rfl
 unfold oK;rw[bL s1];have t1:evE (WT TT (k+3)) (.cmp .Eq (.bin .Mod (.bcall .len [(.var 2)]) (.int 2)) (.int 1)) [some (false,Kd),x1,some (false,.lst l),some (true,.lst (pr pl l))]=.ok .fz (.bl (decide (l.length % 2=1))):=by
  have hx:op2 (bM .Eq) (.ok .fz (.int ((l.length:Int) % 2))) (.ok .fz (.int 1))=.ok .fz (.bl (decide (l.length % 2=1))):=by
   rw[aAI];congr 2;by_cases h:l.length % 2=1
   . rw[aSP h,e3,h];rfl
   . rw[aQG h];have:l.length % 2=0:=by lia
     rw[e3,this];rfl
  simp[Bn.f,len,hx]
 by_cases hodd:l.length % 2=1
 . rw[aSP hodd]at t1;rw[if_pos hodd]at pl2;have ap:evB (WT TT (k+3)) [.app 3 (.ix (.var 2) (.neg (.int 1)))] [some (false,Kd),x1,some (false,.lst l),some (true,.lst (pr pl l))]=.nx [some (false,Kd),x1,some (false,.lst l),some (true,.lst (up2 pl l))]:=by
     have a3:op2 ixD (.ok .fz (.lst l)) (.ok .fz (.int (-1)))=.ok .fz (l.getD (l.length-1) .non):=by
      have hne:l≠[]:=λz=>by rw[z]at h1;exact absurd h1 (by decide)
      obtain⟨l',v,rfl⟩:∃l' v,l=l'++[v]:=⟨l.dropLast,l.getLast hne,(List.dropLast_concat_getLast hne).symm⟩;have:(l'++[v]).getD ((l'++[v]).length-1) .non=v:=by simp
      rw[this];exact f9 (aEU l' v)
     have pz:(pr pl l).length<sizeLine:=by rw[uF,aR2,aUO];lia
     rw[pl2];simp[a3,fK,aW,pz]
   rw[iY,sP,t1,x_ifT,ap,aG.thn_nx];rfl
 . rw[aQG hodd]at t1;rw[if_neg hodd,aRQ]at pl2;rw[iY,sP,t1,aAJ,aAD,aG.thn_nx,<- pl2];rfl
end
section
variable {Ok:D->Prop}{pl:D->D->D}
theorem aCF(K:KO Kd No Ok pl)(k:Nat)(x1:Option (Bool×D)):∀(n m:Nat) (l:List D) (x3:Option (Bool×D)),(∀d∈l,Ok d)->1<=l.length->l.length<=n->n<=1000->n+1<=m->∃y3,cV (evE (WT TT (k+3)) (.cmp .Gt (.bcall .len [(.var 2)]) (.int 1))) (evB (WT TT (k+3)) oK) m [some (false,Kd),x1,some (false,.lst l),x3]=.nx [some (false,Kd),x1,some (false,.lst [l.foldl pl No]),y3]
 |n,0,l,x3,_,_,_,_,hm=>by lia
 |n,m+1,l,x3,hl,h1,hn,h100,hm=>by
  have len:∀m,fE [(m,.lst l)]=some (.fz,.int (l.length:Int)):=λm=>rfl;have t:evE (WT TT (k+3)) (.cmp .Gt (.bcall .len [(.var 2)]) (.int 1)) [some (false,Kd),x1,some (false,.lst l),x3]=.ok .fz (.bl (decide ((1:Int)<(l.length:Int)))):=by simp[Bn.f,len]
  by_cases h2:2<=l.length
  . rw[aSP (by lia)]at t
    have b:=aP3 K k hl h2 (by lia) x1 x3
    rw[whl_t t b];have l2:=aCD (pl:=pl) l;obtain⟨y3,e⟩:=aCF K k x1 (n-1) m (up2 pl l) (some (false,.lst (up2 pl l))) (K.ok2 l hl) (by lia) (by lia) (by lia) (by lia)
    rw[K.fold l No K.okn hl]at e;exact⟨y3,e⟩
  . rw[aQG (by lia)]at t
    rw[whl_f t]
    match l,h1,h2 with
    |[a],_,_=>refine⟨x3,?_⟩;show aG.nx [some (false,Kd),x1,some (false,.lst [a]),x3]=.nx [some (false,Kd),x1,some (false,.lst [pl No a]),x3];rw[K.left a (hl a mcs)]
    |[],z,_=>exact absurd z (by decide)
    |_::_::_,_,z=>exact absurd (by simp) z
theorem aP4(K:KO Kd No Ok pl)(k:Nat){l:List D}(hl:∀d∈l,Ok d)(h1:1<=l.length)(h2:l.length<=1000):(WT TT (k+4)).Φ "poured" [Kd,.lst l]=.ok .fz (l.foldl pl No):=by
 rw[aBI];refine dO rfl ?_;show evB _ kB [some (false,Kd),some (false,.lst l),none,none]=_;have len:∀m,fE [(m,.lst l)]=some (.fz,.int (l.length:Int)):=λm=>rfl;have t:evE (WT TT (k+3)) (.cmp .Eq (.bcall .len [(.var 1)]) (.int 0)) [some (false,Kd),some (false,.lst l),none,none]=.ok .fz (.bl false):=by
  have:op2 (bM .Eq) (.ok .fz (.int (l.length:Int))) (.ok .fz (.int 0))=.ok .fz (.bl false):=by rw[aAI];congr 2;exact aQH.mpr (by lia)
  simp[Bn.f,len,this]
 obtain⟨y3,w⟩:=aCF K k (some (false,.lst l)) l.length 1000000 l none hl h1 (aRD _) h2 (by lia)
 have s1:evS (WT TT (k+3)) (.set 2 (.frz (.tcall .list [(.var 1)]))) [some (false,Kd),some (false,.lst l),none,none]=.nx [some (false,Kd),some (false,.lst l),some (false,.lst l),none]:=by rfl
 unfold kB;rw[iY,sP,t,aAJ,aAD,aG.thn_nx,bL s1,iY,s_whl,w,aG.thn_nx];have a:op2 ixD (.ok .fz (.lst [l.foldl pl No])) (.ok .fz (.int 0))=.ok .fz (l.foldl pl No):=f9 rfl;generalize l.foldl pl No=q at a ⊢;simp[a]
end
abbrev rD(ts:List Tr):D:=.tup (ts.map tD)
abbrev FD'(xs:List Str):D:=.tup (xs.map .str)
def uG{t:Tr}{xs:List Str}(h1:t.1.1=F xs)(h2:t.1.2=.t (tss.map rN)):tD t=.tup [FD' xs,.tup (tss.map rD),.int t.2]:=by
 show nD (tmN t)=_;unfold tmN;rw[h1,h2];have e:nD (.t (tss.map rN))=.tup (tss.map rD):=by rw[nD,gO,aVA];congr 1;refine aVL λu _=>?_;show nD (rN u)=_;rw[nD,gO,aVA];rfl
 rw[nD,gO];show D.tup [nD (F xs),nD (.t (tss.map rN)),nD (.i t.2)]=_;rw[oW,e];simp[nD]
structure KV(Kd No On:D)(Ok:D->Prop)(Gd:Nat->D->Prop)(pl tm:D->D->D)(lk:D->D)(mn:Int->D->D):Prop where
 ko:KO Kd No Ok pl
 one:∀k,dD TT.cl (WT TT (k+1)).Φ "one" (.ok .fz Kd) (.ok [])=.ok .fz On
 times:∀k e a b,e<=20->Gd e a->Gd 1 b->dD TT.cl (WT TT (k+1)).Φ "times" (.ok .fz Kd) (.ok [(.fz,a),(.fz,b)])=.ok .fz (tm a b)
 lack:∀k a,Ok a->dD TT.cl (WT TT (k+2)).Φ "lack" (.ok .fz Kd) (.ok [(.fz,a)])=.ok .fz (lk a)
 many:∀k e n a,e<=20->1<=n->n<big->Gd e a->dD TT.cl (WT TT (k+2)).Φ "many" (.ok .fz Kd) (.ok [(.fz,.int n),(.fz,a)])=.ok .fz (mn n a)
 go:Gd 1 On
 gt:∀e a b,Gd e a->Gd 1 b->Gd (e+1) (tm a b)
 gl:∀a,Ok a->Gd 1 (lk a)
 gm:∀e n a,Gd e a->Ok (mn n a)
inductive A2{α β:Type}(P:α->β->Prop):List α->List β->Prop
 |nil:A2 P [] []
 |cons {a b l m:_}:P a b->A2 P l m->A2 P (a::l) (b::m)
theorem A2.of{α β:Type}{P:α->β->Prop}:∀{l:List α},(∀a∈l,∃b,P a b)->∃m,A2 P l m
 |[],_=>⟨[],.nil⟩
 |a::l,h=>by obtain⟨b,hb⟩:=h a mcs;obtain⟨m,hm⟩:=A2.of λc hc=>h c (mcm hc);exact⟨b::m,.cons hb hm⟩
def A2.imp{P Q:α->β->Prop}{l:List α}{m:List β}(h:A2 P l m)(i:∀a b,P a b->Q a b):A2 Q l m:=by
 induction h with
 |nil=>exact .nil
 |cons p _ ih=>exact .cons (i _ _ p) ih
def wg(kvs:List (Key×D))(No:D)(x:Str):D:=(dF kvs (.inr x)).getD No
def dg{d:D}{m:Md}:lI (.ok m (.dct kvs)) (.ok m' (.str x)) (.ok .fz d)=.ok .fz (wg kvs d x):=rfl
section
variable  {On:D}{Ok:D->Prop}{Gd:Nat->D->Prop}{pl tm:D->D->D}{lk:D->D}{mn:Int->D->D}
def fT(tm:D->D->D)(w:Str->D)(xs:List Str)(a:D):D:=xs.foldl (λa x=>tm a (w x)) a
def bT(tm:D->D->D)(lk:D->D)(bs:List D)(a:D):D:=bs.foldl (λa b=>tm a (lk b)) a
theorem o5(K:KV Kd No On Ok Gd pl tm lk mn){w:Str->D}(hw:∀x,Gd 1 (w x)):∀(xs:List Str) (e:Nat) (a:D),Gd e a->Gd (e+xs.length) (fT tm w xs a)
 |[],_,_,h=>h
 |x::xs,e,a,h=>by
  have:=o5 K hw xs (e+1) _ (K.gt _ _ _ h (hw x));rw[aSQ,show e+(xs.length+1)=e+1+xs.length by lia]
  exact this
theorem o7(K:KV Kd No On Ok Gd pl tm lk mn):∀(bs:List D) (e:Nat) (a:D),(∀b∈bs,Ok b)->Gd e a->Gd (e+bs.length) (bT tm lk bs a)
 |[],_,_,_,h=>h
 |b::bs,e,a,hb,h=>by
  have:=o7 K bs (e+1) _ (λc hc=>hb c (mcm hc)) (K.gt _ _ _ h (K.gl _ (hb b mcs)));rw[aSQ,show e+(bs.length+1)=e+1+bs.length by lia]
  exact this
theorem aCG(K:KV Kd No On Ok Gd pl tm lk mn)(k:Nat)(hw:∀x,Gd 1 (wg kvs No x)){x2 x3 x4 x5 x6 x9:Option (Bool×D)}:∀(xs:List Str) (e:Nat) (a:D) (x8:Option (Bool×D)),e+xs.length<=20->Gd e a->∃y8,bQ (aO (.nm 8)) (evB (WT TT (k+1)) lY) (xs.map .str) [some (false,Kd),some (false,.dct kvs),x2,x3,x4,x5,x6,some (false,a),x8,x9]=.nx [some (false,Kd),some (false,.dct kvs),x2,x3,x4,x5,x6,some (false,fT tm (wg kvs No) xs a),y8,x9]
 |[],_,a,x8,_,_=>⟨x8,rfl⟩
 |x::xs,e0,a,x8,he,ha=>by
  rw[aSQ]at he;obtain⟨y8,e⟩:=aCG K k hw (x2:=x2) (x3:=x3) (x4:=x4) (x5:=x5) (x6:=x6) (x9:=x9) xs (e0+1) (tm a (wg kvs No x)) (some (false,.str x)) (by lia) (K.gt _ _ _ ha (hw x))
  refine⟨y8,?_⟩;rw[aSS];have t:=K.times k e0 a _ (by lia) ha (hw x)
  have n:=K.ko.nought k;have h:evB (WT TT (k+1)) lY [some (false,Kd),some (false,.dct kvs),x2,x3,x4,x5,x6,some (false,a),some (false,.str x),x9]=.nx [some (false,Kd),some (false,.dct kvs),x2,x3,x4,x5,x6,some (false,tm a (wg kvs No x)),some (false,.str x),x9]:=by have d:=dg (kvs:=kvs) (x:=x) (d:=No) (m:=.fz) (m':=.fz);generalize wg kvs No x=q at t d ⊢;simp[lY,n,d,t,cL]
  rw[cQ (show aO (.nm 8) (.str x) [some (false,Kd),some (false,.dct kvs),x2,x3,x4,x5,x6,some (false,a),x8,x9]=some [some (false,Kd),some (false,.dct kvs),x2,x3,x4,x5,x6,some (false,a),some (false,.str x),x9]from by simp) h]
  exact e
def WOk(Kd:D)(Ok:D->Prop)(kvs:List (Key×D))(k:Nat)(u:List Tr)(d:D):Prop:=Ok d/\(WT TT k).Φ "worth_of" [Kd,.dct kvs,rD u]=.ok .fz d
theorem aP5(K:KV Kd No On Ok Gd pl tm lk mn)(k:Nat){x3 x8:Option (Bool×D)}{bs:List D}(h:A2 (WOk Kd Ok kvs (k+2)) tss bs):∀(e:Nat) (a:D) (x9:Option (Bool×D)),e+bs.length<=20->Gd e a->∃y9,bQ (aO (.nm 9)) (evB (WT TT (k+2)) lZ) (tss.map rD) [some (false,Kd),some (false,.dct kvs),x2,x3,x4,x5,x6,some (false,a),x8,x9]=.nx [some (false,Kd),some (false,.dct kvs),x2,x3,x4,x5,x6,some (false,bT tm lk bs a),x8,y9]:=by
 induction h with
 |nil=>exact λ_ a x9 _ _=>⟨x9,rfl⟩
 | @cons u b tss bs p _ ih =>
  intro e0 a x9 he ha;rw[aSQ]at he;obtain⟨ob,eb⟩:=p;have eb:=aAK eb;have l:=K.lack k b ob;have t:=K.times (k+1) e0 a _ (by lia) ha (K.gl b ob)
  obtain⟨y9,e⟩:=ih (e0+1) (tm a (lk b)) (some (false,rD u)) (by lia) (K.gt _ _ _ ha (K.gl b ob))
  refine⟨y9,?_⟩;rw[aSS];have h:evB (WT TT (k+2)) lZ [some (false,Kd),some (false,.dct kvs),x2,x3,x4,x5,x6,some (false,a),x8,some (false,rD u)]=.nx [some (false,Kd),some (false,.dct kvs),x2,x3,x4,x5,x6,some (false,tm a (lk b)),x8,some (false,rD u)]:=by generalize rD u=U at eb ⊢;generalize lk b=q at l t ⊢;simp[lZ,eb,l,t,cL]
  rw[cQ (show aO (.nm 9) (rD u) [some (false,Kd),some (false,.dct kvs),x2,x3,x4,x5,x6,some (false,a),x8,x9]=some [some (false,Kd),some (false,.dct kvs),x2,x3,x4,x5,x6,some (false,a),x8,some (false,rD u)]from by simp) h]
  exact e
end
section
variable  {On:D}{Ok:D->Prop}{Gd:Nat->D->Prop}{pl tm:D->D->D}{lk:D->D}{mn:Int->D->D}
theorem aP6(K:KV Kd No On Ok Gd pl tm lk mn)(k:Nat)(hw:∀x,Gd 1 (wg kvs No x)){x7 x8 x9:Option (Bool×D)}(hl:ds.length<1000){xs:List Str}{bs:List D}(hb:A2 (WOk Kd Ok kvs (k+2)) tss bs)(ob:∀b∈bs,Ok b)(lx:xs.length<=3)(lb:bs.length<=2){n:Int}(hn:1<=n)(hN:n<big):∃y7 y8 y9,evB (WT TT (k+2)) l5 [some (false,Kd),some (false,.dct kvs),x2,some (true,.lst ds),some (false,FD' xs),some (false,.tup (tss.map rD)),some (false,.int n),x7,x8,x9]=.nx [some (false,Kd),some (false,.dct kvs),x2,some (true,.lst (ds++[mn n (bT tm lk bs (fT tm (wg kvs No) xs On))])),some (false,FD' xs),some (false,.tup (tss.map rD)),some (false,.int n),y7,y8,y9]:=by
 have of:=o5 K hw xs 1 On K.go;obtain⟨y8,e1⟩:=aCG K (k+1) hw (x2:=x2) (x3:=some (true,.lst ds)) (x4:=some (false,FD' xs)) (x5:=some (false,.tup (tss.map rD))) (x6:=some (false,.int n)) (x9:=x9) xs 1 On x8 (by lia) K.go
 obtain⟨y9,e2⟩:=aP5 K k (x2:=x2) (x3:=some (true,.lst ds)) (x4:=some (false,FD' xs)) (x5:=some (false,.tup (tss.map rD))) (x6:=some (false,.int n)) (x8:=y8) hb _ _ x9 (by lia) of
 have m:=K.many k _ n _ (by lia) hn hN (o7 K bs _ _ ob of)
 have o:=K.one (k+1);generalize bT tm lk bs (fT tm (wg kvs No) xs On)=v at e2 m ⊢;refine⟨some (false,v),y8,y9,?_⟩;have ap:∀z4 z5 z6 z7 z8 z9 q,fK [some (false,Kd),some (false,.dct kvs),x2,some (true,.lst ds),z4,z5,z6,z7,z8,z9] 3 (.ok .fz q)=.nx [some (false,Kd),some (false,.dct kvs),x2,some (true,.lst (ds++[q])),z4,z5,z6,z7,z8,z9]:=λz4 z5 z6 z7 z8 z9 q=>by
  show(if ds.length<sizeLine then _ else _)=_;rw[if_pos (by rw[aRH];lia)]
  rfl
 have i1:∀l:List D,eU (.ok .fz (.tup l))=.ok .fz (.lst l):=λl=>rfl;have ap:=ap (some (false,FD' xs)) (some (false,.tup (tss.map rD))) (some (false,.int n)) (some (false,v)) y8 y9 (mn n v);generalize mn n v=q at m ap ⊢;generalize ds++[q]=ds' at ap ⊢;have j1:=i1 (xs.map D.str);have j2:=i1 (tss.map rD);show evB _ _ [some (false,Kd),some (false,.dct kvs),x2,some (true,.lst ds),some (false,.tup (xs.map D.str)),some (false,.tup (tss.map rD)),some (false,.int n),x7,x8,x9]=.nx [some (false,Kd),some (false,.dct kvs),x2,some (true,.lst ds'),some (false,.tup (xs.map D.str)),some (false,.tup (tss.map rD)),some (false,.int n),some (false,v),y8,y9];unfold FD' at e1 e2 ap;generalize xs.map D.str=XS at *;generalize tss.map rD=TS at *;unfold l5;generalize lY=B1 at *;generalize lZ=B2 at *;simp[o,dS,j1,j2,e1,e2,m,ap,cL]
def kI(Kd No On:D)(Ok:D->Prop)(tm:D->D->D)(lk:D->D)(mn:Int->D->D)(kvs:List (Key×D))(k:Nat)(t:Tr)(v:D):Prop :=
 ∃xs tss bs,t.1.1=F xs/\t.1.2=.t (tss.map rN)/\(xs.length<=3/\tss.length<=2/\1<=t.2/\t.2<big)/\A2 (WOk Kd Ok kvs k) tss bs/\v=mn t.2 (bT tm lk bs (fT tm (wg kvs No) xs On))
def A2.all{P:α->β->Prop}{Q:β->Prop}{l:List α}{m:List β}(h:A2 P l m)(i:∀a b,P a b->Q b):∀b∈m,Q b:=by
 induction h with
 |nil=>intro b hb;cases hb
 |cons p _ ih =>
  intro b hb;rcases aQU.mp hb with rfl|hb
  . exact i _ _ p
  . exact ih b hb
def A2.len{P:α->β->Prop}{l:List α}{m:List β}(h:A2 P l m):m.length=l.length:=by
 induction h with
 |nil=>rfl
 |cons p _ ih=>rw[aSQ,aSQ,ih]
def A2.ok{bs:List D}(h:A2 (WOk Kd Ok kvs k) tss bs):∀b∈bs,Ok b:=h.all λ_ _ p=>p.1
theorem kI.ok(K:KV Kd No On Ok Gd pl tm lk mn)(hw:∀x,Gd 1 (wg kvs No x)){t:Tr}{v:D}(h:kI Kd No On Ok tm lk mn kvs k t v):Ok v:=by obtain⟨xs,tss,bs,_,_,hn,hb,rfl⟩:=h;exact K.gm _ _ _ (o7 K bs _ _ hb.ok (o5 K hw xs 1 On K.go))
theorem aP7(K:KV Kd No On Ok Gd pl tm lk mn)(k:Nat)(hw:∀x,Gd 1 (wg kvs No x)){ts:List Tr}{vs:List D}(h:A2 (kI Kd No On Ok tm lk mn kvs (k+2)) ts vs):∀(ds:List D) (x4 x5 x6 x7 x8 x9:Option (Bool×D)),ds.length+ts.length<=1000->∃y4 y5 y6 y7 y8 y9,bQ (aO (.tp [.nm 4,.nm 5,.nm 6])) (evB (WT TT (k+2)) l5) (ts.map tD) [some (false,Kd),some (false,.dct kvs),x2,some (true,.lst ds),x4,x5,x6,x7,x8,x9]=.nx [some (false,Kd),some (false,.dct kvs),x2,some (true,.lst (ds++vs)),y4,y5,y6,y7,y8,y9]:=by
 induction h with
 |nil=>exact λds x4 x5 x6 x7 x8 x9 _=>⟨x4,x5,x6,x7,x8,x9,by rw[aRQ];rfl⟩
 | @cons t v ts vs p _ ih =>
  intro ds x4 x5 x6 x7 x8 x9 hl;rw[aSQ]at hl;obtain⟨xs,tss,bs,h1,h2,hn,hb,rfl⟩:=p;obtain⟨y7,y8,y9,e⟩:=aP6 K k hw (x2:=x2) (x7:=x7) (x8:=x8) (x9:=x9) (ds:=ds) (by lia) (xs:=xs) hb hb.ok hn.1 (by rw[hb.len];exact hn.2.1) hn.2.2.1 hn.2.2.2
  obtain⟨z4,z5,z6,z7,z8,z9,e'⟩:=ih (ds++[mn t.2 (bT tm lk bs (fT tm (wg kvs No) xs On))]) (some (false,FD' xs)) (some (false,.tup (tss.map rD))) (some (false,.int t.2)) y7 y8 y9 (by rw[aR1];show ds.length+1+_<=_;lia)
  refine⟨z4,z5,z6,z7,z8,z9,?_⟩;rw[aSS,uG h1 h2,cQ (show aO (.tp [.nm 4,.nm 5,.nm 6]) (.tup [FD' xs,.tup (tss.map rD),.int t.2]) [some (false,Kd),some (false,.dct kvs),x2,some (true,.lst ds),x4,x5,x6,x7,x8,x9]=some [some (false,Kd),some (false,.dct kvs),x2,some (true,.lst ds),some (false,FD' xs),some (false,.tup (tss.map rD)),some (false,.int t.2),x7,x8,x9]from rfl) e,e',aT8]
  rfl
def aP8(K:KO Kd No Ok pl)(k:Nat):(WT TT (k+2)).Φ "poured" [Kd,.lst []]=.ok .fz No:=by rw[aBI];refine dO rfl ?_;show evB _ kB [some (false,Kd),some (false,.lst []),none,none]=_;have n:=K.nought k;have len:fE [(.fz,.lst [])]=some (.fz,.int 0):=rfl;simp[kB,n,Bn.f,len]
def o8(K:KV Kd No On Ok Gd pl tm lk mn)(k:Nat)(hw:∀x,Gd 1 (wg kvs No x)){ts:List Tr}{vs:List D}(h:A2 (kI Kd No On Ok tm lk mn kvs (k+4)) ts vs)(hl:ts.length<=1000):(WT TT (k+5)).Φ "worth_of" [Kd,.dct kvs,rD ts]=.ok .fz (vs.foldl pl No):=by
 have ov:∀v∈vs,Ok v:=h.all λ_ _ p=>p.ok K hw;have lv:=h.len;obtain⟨y4,y5,y6,y7,y8,y9,e⟩:=aP7 K (k+2) hw (x2:=some (false,rD ts)) h [] none none none none none none (by simpa using hl)
 have pp:(WT TT (k+4)).Φ "poured" [Kd,.lst vs]=.ok .fz (vs.foldl pl No):=by
  cases vs with
  |nil=>exact aP8 K.ko (k+2)
  |cons v vs=>exact aP4 K.ko k ov (by simp) (by rw[lv];exact hl)
 have pp:=cF pp;rw[aOG];refine dO rfl ?_;show evB _ oM [some (false,Kd),some (false,.dct kvs),some (false,rD ts),none,none,none,none,none,none,none]=_;have i1:eU (.ok .fz (rD ts))=.ok .fz (.lst (ts.map tD)):=rfl;rw[aS9]at e;generalize rD ts=RT at e i1 ⊢;generalize ts.map tD=TS at e i1 ⊢;generalize vs.foldl pl No=q at pp ⊢;unfold oM;generalize l5=B3 at *;have l0:fX (.ok [])=.ok .fr (.lst []):=rfl;have fz:jS [some (false,Kd),some (false,.dct kvs),some (false,RT),some (true,.lst vs),y4,y5,y6,y7,y8,y9] 3=.nx [some (false,Kd),some (false,.dct kvs),some (false,RT),some (false,.lst vs),y4,y5,y6,y7,y8,y9]:=rfl;simp[dS,l0,i1,e,fz,pp,cL]
end
def ph1{b:List D3.S}{x d:D}(u:(WT TT (k+1)).Φ key=phi 1 1 (evB (WT TT k) b))(h:evB (WT TT k) b [some (false,x)]=.rt .fz d):aY 1 ((WT TT (k+1)).Φ key) (.ok [(.fz,x)])=.ok .fz d:=sR (by rw[u];exact dO rfl h)
def ph2{b:List D3.S}{x y d:D}(u:(WT TT (k+1)).Φ key=phi 2 2 (evB (WT TT k) b))(h:evB (WT TT k) b [some (false,x),some (false,y)]=.rt .fz d):aY 2 ((WT TT (k+1)).Φ key) (.ok [(.fz,x),(.fz,y)])=.ok .fz d:=cF (by rw[u];exact dO rfl h)
def ph3{b:List D3.S}{x y z d:D}(u:(WT TT (k+1)).Φ key=phi 3 3 (evB (WT TT k) b))(h:evB (WT TT k) b [some (false,x),some (false,y),some (false,z)]=.rt .fz d):aY 3 ((WT TT (k+1)).Φ key) (.ok [(.fz,x),(.fz,y),(.fz,z)])=.ok .fz d:=aAK (by rw[u];exact dO rfl h)
def B32:Nat:=100000000000000000000000000000000
def gdC(e:Nat)(d:D):Prop:=∃i:Int,d=.int i/\i.natAbs<=B32 ^ e
def mQ{e:Nat}(h:e<=20):B32 ^ e<=B32 ^ 20:=Nat.pow_le_pow_right (by decide) h
def uH{i j:Int}(h1:i.natAbs<=B32 ^ 20)(h2:j.natAbs<=B32 ^ 20):op2 (bJ .Mult) (.ok .fz (.int i)) (.ok .fz (.int j))=.ok .fz (.int (i * j)):=x_mul (sQ h1) (sQ h2)
def okC(d:D):Prop:=∃i:Int,d=.int i
def plC:D->D->D
 |.int i,.int j=>.int (i+j)
 |d,_=>d
def tmC:D->D->D
 |.int i,.int j=>.int (i * j)
 |d,_=>d
def lkC:D->D
 |.int i=>.int (if i=0 then 1 else 0)
 |d=>d
def mnC(n:Int):D->D
 |.int i=>.int (n * i)
 |d=>d
def cn0(k:Nat):dD TT.cl (WT TT (k+1)).Φ "nought" (.ok .fz (.ins "Counts" [])) (.ok [])=.ok .fz (.int 0):=by show aY 1 ((WT TT (k+1)).Φ "Counts.nought") (.ok [(.fz,.ins "Counts" [])])=_;exact ph1 (aOQ k) (by simp[tF])
def cn1(k:Nat):dD TT.cl (WT TT (k+1)).Φ "one" (.ok .fz (.ins "Counts" [])) (.ok [])=.ok .fz (.int 1):=by show aY 1 ((WT TT (k+1)).Φ "Counts.one") (.ok [(.fz,.ins "Counts" [])])=_;exact ph1 (aOR k) (by simp[tI])
theorem mR:KV (.ins "Counts" []) (.int 0) (.int 1) okC gdC plC tmC lkC mnC where
 ko:={
  nought:=cn0
  plus:=λk a b ha hb=>by obtain⟨i,rfl⟩:=ha;obtain⟨j,rfl⟩:=hb;show aY 3 ((WT TT (k+3)).Φ "Counts.plus") (.ok [(.fz,.ins "Counts" []),(.fz,.int i),(.fz,.int j)])=_;exact ph3 (aOS (k+2)) (by simp[tJ,plC])
  okn:=⟨0,rfl⟩
  okp:=λa b ha hb=>by obtain⟨i,rfl⟩:=ha;obtain⟨j,rfl⟩:=hb;exact⟨i+j,rfl⟩
  assoc:=λa b c ha hb hc=>by obtain⟨i,rfl⟩:=ha;obtain⟨j,rfl⟩:=hb;obtain⟨l,rfl⟩:=hc;show D.int (i+j+l)=.int (i+(j+l));rw[Int.add_assoc]
  left:=λa ha=>by
   obtain⟨i,rfl⟩:=ha;show D.int (0+i)=_;rw[aVX] }
 one:=cn1
 times k e a b he ha hb:=by
  obtain⟨i,rfl,hi⟩:=ha;obtain⟨j,rfl,hj⟩:=hb;show aY 3 ((WT TT (k+1)).Φ "Counts.times") (.ok [(.fz,.ins "Counts" []),(.fz,.int i),(.fz,.int j)])=_;have m:=uH (aQR hi (mQ he)) (aQR hj (mQ (by decide)))
  exact ph3 (aOT k) (by simp[tK,tmC,m])
 lack k a ha:=by
  obtain⟨i,rfl⟩:=ha;show aY 2 ((WT TT (k+2)).Φ "Kind.lack") (.ok [(.fz,.ins "Counts" []),(.fz,.int i)])=_;refine ph2 (aBK (k+1)) ?_;have a0:=cn0 k;have a1:=cn1 k;by_cases h:i=0
  . subst h;simp[kC,a0,a1,lkC]
  . have hb:(i==0)=false:=by simpa using h
    simp[kC,a0,a1,lkC,h,hb]
 many k e n a he hn hN ha:=by
  obtain⟨i,rfl,hi⟩:=ha;show aY 3 ((WT TT (k+2)).Φ "Counts.many") (.ok [(.fz,.ins "Counts" []),(.fz,.int n),(.fz,.int i)])=_;have hn':n.natAbs<=B32 ^ 20:=by
   have h1:n.natAbs<=big.natAbs:=by
    have:(0:Int)<=big:=by decide
    lia
   exact aQR h1 (by decide +kernel)
  have m:=uH hn' (aQR hi (mQ he));exact ph3 (aOU (k+1)) (by simp[tL,mnC,m])
 go:=⟨1,rfl,by decide +kernel⟩
 gt e a b ha hb:=by obtain⟨i,rfl,hi⟩:=ha;obtain⟨j,rfl,hj⟩:=hb;refine⟨i * j,rfl,?_⟩;rw[Int.natAbs_mul,Nat.pow_succ];exact Nat.mul_le_mul hi (by simpa using hj)
 gl a ha:=by obtain⟨i,rfl⟩:=ha;refine⟨_,rfl,?_⟩;split <;> decide +kernel
 gm e n a ha:=by obtain⟨i,rfl,_⟩:=ha;exact⟨_,rfl⟩
def okO(d:D):Prop:=d=.non\/∃i:Int,d=.int i
def plO:D->D->D
 |.int i,.int j=>.int (if j<i then j else i)
 |.non,d=>d
 |d,_=>d
def tmO:D->D->D
 |.int i,.int j=>.int (i+j)
 |_,_=>.non
def lkO:D->D
 |.non=>.int 0
 |_=>.non
def min2{i j:Int}:eE Bn.min.f (.ok [(.fz,.int i),(.fz,.int j)])=.ok .fz (.int (if j<i then j else i)):=by rfl
def kn0(k:Nat):dD TT.cl (WT TT (k+1)).Φ "nought" (.ok .fz (.ins "Costs" [])) (.ok [])=.ok .fz .non:=by show aY 1 ((WT TT (k+1)).Φ "Costs.nought") (.ok [(.fz,.ins "Costs" [])])=_;exact ph1 (aOV k) (by simp[tM])
def kn1(k:Nat):dD TT.cl (WT TT (k+1)).Φ "one" (.ok .fz (.ins "Costs" [])) (.ok [])=.ok .fz (.int 0):=by show aY 1 ((WT TT (k+1)).Φ "Costs.one") (.ok [(.fz,.ins "Costs" [])])=_;exact ph1 (aOW k) (by simp[tN])
theorem fA:KV (.ins "Costs" []) .non (.int 0) okO (λ_ d=>okO d) plO tmO lkO (λ_ d=>d) where
 ko:={
  nought:=kn0
  plus:=λk a b ha hb=>by
   show aY 3 ((WT TT (k+3)).Φ "Costs.plus") (.ok [(.fz,.ins "Costs" []),(.fz,a),(.fz,b)])=_;refine ph3 (aOX (k+2)) ?_;rcases ha with rfl|⟨i,rfl⟩
   . simp[mH,plO]
   . rcases hb with rfl|⟨j,rfl⟩
     . simp[mH,plO]
     . simp[mH,plO,min2]
  okn:=.inl rfl
  okp:=λa b ha hb=>by
   rcases ha with rfl|⟨i,rfl⟩
   . exact hb
   . rcases hb with rfl|⟨j,rfl⟩
     . exact .inr ⟨i,rfl⟩
     . exact .inr ⟨_,rfl⟩
  assoc:=λa b c ha hb hc=>by
   rcases ha with rfl|⟨i,rfl⟩
   . rfl
   . rcases hb with rfl|⟨j,rfl⟩
     . rcases hc with rfl|⟨l,rfl⟩ <;> rfl
     . rcases hc with rfl|⟨l,rfl⟩
       . rfl
       . show D.int _=.int _;congr 1;split <;> split <;> first|rfl|lia|(split <;> first|rfl|lia)
  left:=λa ha=>rfl }
 one:=kn1
 times k e a b he ha hb:=by
  show aY 3 ((WT TT (k+1)).Φ "Costs.times") (.ok [(.fz,.ins "Costs" []),(.fz,a),(.fz,b)])=_;refine ph3 (aOY k) ?_;rcases ha with rfl|⟨i,rfl⟩
  . simp[mJ,tmO]
  . rcases hb with rfl|⟨j,rfl⟩
    . simp[mJ,tmO]
    . simp[mJ,tmO]
 lack k a ha:=by
  show aY 2 ((WT TT (k+2)).Φ "Kind.lack") (.ok [(.fz,.ins "Costs" []),(.fz,a)])=_;refine ph2 (aBK (k+1)) ?_;have a0:=kn0 k;have a1:=kn1 k;rcases ha with rfl|⟨i,rfl⟩
  . have e:op2 (bM .Eq) (.ok .fz .non) (.ok .fz .non)=.ok .fz (.bl true):=rfl;simp[kC,a0,a1,lkO,e]
  . have e:op2 (bM .Eq) (.ok .fz (.int i)) (.ok .fz .non)=.ok .fz (.bl false):=rfl;simp[kC,a0,a1,lkO,e]
 many k e n a he hn hN ha:=by
  show aY 3 ((WT TT (k+2)).Φ "Single.many") (.ok [(.fz,.ins "Costs" []),(.fz,.int n),(.fz,a)])=_;refine ph3 (aOP (k+1)) ?_;have hb:(n==0)=false:=by
   have:n≠0:=by lia
   simpa using this
  rcases ha with rfl|⟨i,rfl⟩ <;> simp[tE,hb]
 go:=.inr ⟨0,rfl⟩
 gt e a b ha hb:=by
  rcases ha with rfl|⟨i,rfl⟩
  . exact .inl rfl
  . rcases hb with rfl|⟨j,rfl⟩
    . exact .inl rfl
    . exact .inr ⟨_,rfl⟩
 gl a ha:=by
  rcases ha with rfl|⟨i,rfl⟩
  . exact .inr ⟨0,rfl⟩
  . exact .inl rfl
 gm e n a ha:=ha
theorem aCH{W:WD}(hw:∀x,gdC 1 (wg kvs (.int 0) x)){x0 x2 x3 x4 x5 x8:Option (Bool×D)}:∀(xs:List Str) (e:Nat) (a:D) (x7:Option (Bool×D)),e+xs.length<=20->gdC e a->∃y7,bQ (aO (.nm 7)) (evB W l6) (xs.map .str) [x0,some (false,.dct kvs),x2,x3,x4,x5,some (false,a),x7,x8]=.nx [x0,some (false,.dct kvs),x2,x3,x4,x5,some (false,fT tmC (wg kvs (.int 0)) xs a),y7,x8]
 |[],_,a,x7,_,_=>⟨x7,rfl⟩
 |x::xs,e0,a,x7,he,ha=>by
  rw[aSQ]at he;obtain⟨y7,e⟩:=aCH hw (W:=W) (x0:=x0) (x2:=x2) (x3:=x3) (x4:=x4) (x5:=x5) (x8:=x8) xs (e0+1) (tmC a (wg kvs (.int 0) x)) (some (false,.str x)) (by lia) (mR.gt _ _ _ ha (hw x))
  refine⟨y7,?_⟩;rw[aSS];have h:evB W l6 [x0,some (false,.dct kvs),x2,x3,x4,x5,some (false,a),some (false,.str x),x8]=.nx [x0,some (false,.dct kvs),x2,x3,x4,x5,some (false,tmC a (wg kvs (.int 0) x)),some (false,.str x),x8]:=by
   have d:=dg (kvs:=kvs) (x:=x) (d:=.int 0) (m:=.fz) (m':=.fz);obtain⟨j,ej,hj⟩:=hw x;obtain⟨i,rfl,hi⟩:=ha;rw[ej]at d ⊢;have m:=uH (aQR hi (mQ (by lia))) (aQR hj (mQ (by decide)))
   simp[l6,d,m,tmC]
  rw[cQ (show aO (.nm 7) (.str x) [x0,some (false,.dct kvs),x2,x3,x4,x5,some (false,a),x7,x8]=some [x0,some (false,.dct kvs),x2,x3,x4,x5,some (false,a),some (false,.str x),x8]from by simp) h]
  exact e
def COk(kvs:List (Key×D))(k:Nat)(u:List Tr)(d:D):Prop:=okC d/\(WT TT k).Φ "_law_count" [rD u,.dct kvs]=.ok .fz d
def aP9{x3 x7:Option (Bool×D)}{bs:List D}(h:A2 (COk kvs k) tss bs):∀(a:D) (x8:Option (Bool×D)),okC a->∃y8,bQ (aO (.nm 8)) (evB (WT TT k) j9) (tss.map rD) [x0,some (false,.dct kvs),x2,x3,x4,x5,some (false,a),x7,x8]=.nx [x0,some (false,.dct kvs),x2,x3,x4,x5,some (false,bT tmC lkC bs a),x7,y8]:=by
 induction h with
 |nil=>exact λa x8 _=>⟨x8,rfl⟩
 | @cons u b tss bs p _ ih =>
  intro a x8 ha;obtain⟨⟨n,rfl⟩,eb⟩:=p;have eb:=cF eb;obtain⟨i,rfl⟩:=ha;obtain⟨y8,e⟩:=ih (tmC (.int i) (lkC (.int n))) (some (false,rD u)) ⟨_,rfl⟩;refine⟨y8,?_⟩;rw[aSS];have h:evB (WT TT k) j9 [x0,some (false,.dct kvs),x2,x3,x4,x5,some (false,.int i),x7,some (false,rD u)]=.nx [x0,some (false,.dct kvs),x2,x3,x4,x5,some (false,tmC (.int i) (lkC (.int n))),x7,some (false,rD u)]:=by
   generalize rD u=U at eb ⊢;by_cases hn:n=0
   . subst hn;simp[j9,eb,tmC,lkC,cL]
   . have hb:(n==0)=false:=by simpa using hn
     have hc:(n != 0)=true:=by simpa using hn
     simp[j9,eb,tmC,lkC,cL,hn,hb,hc]
  rw[cQ (show aO (.nm 8) (rD u) [x0,some (false,.dct kvs),x2,x3,x4,x5,some (false,.int i),x7,x8]=some [x0,some (false,.dct kvs),x2,x3,x4,x5,some (false,.int i),x7,some (false,rD u)]from by simp) h]
  exact e
theorem o9{w:Str->D}(hw:∀x,okC (w x)):∀(xs:List Str) (a:D),okC a->okC (fT tmC w xs a)
 |[],_,h=>h
 | x :: xs, a, h => o9 hw xs _ (by
     obtain⟨i,rfl⟩:=h;obtain⟨j,e⟩:=hw x;show okC (tmC (.int i) (w x));rw[e];exact⟨_,rfl⟩)
theorem uI:∀(bs:List D) (a:D),(∀b∈bs,okC b)->okC a->okC (bT tmC lkC bs a)
 |[],_,_,h=>h
 | b :: bs, a, hb, h => uI bs _ (fun c hc => hb c (List.mem_cons_of_mem _ hc)) (by
     obtain⟨i,rfl⟩:=h;obtain⟨j,rfl⟩:=hb b mcs;exact⟨_,rfl⟩)
theorem mn_f{w:Str->D}(hw:∀x,okC (w x))(n:Int):∀(xs:List Str) (a:D),okC a->mnC n (fT tmC w xs a)=fT tmC w xs (mnC n a)
 |[],_,_=>rfl
 |x::xs,a,ha=>by obtain⟨i,rfl⟩:=ha;obtain⟨j,e⟩:=hw x;show mnC n (fT tmC w xs (tmC (.int i) (w x)))=fT tmC w xs (tmC (mnC n (.int i)) (w x));rw[e,mn_f hw n xs (tmC (.int i) (.int j)) ⟨_,rfl⟩];congr 1;show D.int (n * (i * j))=.int (n * i * j);rw[Int.mul_assoc]
theorem mn_b(n:Int):∀(bs:List D) (a:D),(∀b∈bs,okC b)->okC a->mnC n (bT tmC lkC bs a)=bT tmC lkC bs (mnC n a)
 |[],_,_,_=>rfl
 |b::bs,a,hb,ha=>by obtain⟨i,rfl⟩:=ha;obtain⟨j,rfl⟩:=hb b mcs;show mnC n (bT tmC lkC bs (tmC (.int i) (lkC (.int j))))=bT tmC lkC bs (tmC (mnC n (.int i)) (lkC (.int j)));rw[mn_b n bs (tmC (.int i) (lkC (.int j))) (λc hc=>hb c (mcm hc)) ⟨_,rfl⟩];congr 1;show D.int (n * (i * _))=.int (n * i * _);rw[Int.mul_assoc]
def uJ(kvs:List (Key×D))(k:Nat)(t:Tr)(v:D):Prop :=
 ∃xs tss bs,t.1.1=F xs/\t.1.2=.t (tss.map rN)/\(xs.length<=3/\1<=t.2/\t.2<big)/\A2 (COk kvs k) tss bs/\v=bT tmC lkC bs (fT tmC (wg kvs (.int 0)) xs (.int t.2))
theorem aQA(hw:∀x,gdC 1 (wg kvs (.int 0) x)){ts:List Tr}{vs:List D}(h:A2 (uJ kvs k) ts vs):∀(q:D) (x3 x4 x5 x6 x7 x8:Option (Bool×D)),okC q->∃y3 y4 y5 y6 y7 y8,bQ (aO (.tp [.nm 3,.nm 4,.nm 5])) (evB (WT TT k) l7) (ts.map tD) [x0,some (false,.dct kvs),some (false,q),x3,x4,x5,x6,x7,x8]=.nx [x0,some (false,.dct kvs),some (false,vs.foldl plC q),y3,y4,y5,y6,y7,y8]:=by
 induction h with
 |nil=>exact λq x3 x4 x5 x6 x7 x8 _=>⟨x3,x4,x5,x6,x7,x8,rfl⟩
 | @cons t v ts vs p _ ih =>
  intro q x3 x4 x5 x6 x7 x8 hq;obtain⟨xs,tss,bs,h1,h2,⟨lx,hn,hN⟩,hb,rfl⟩:=p;have g2:gdC 2 (.int t.2):=⟨_,rfl,by
   have h1:t.2.natAbs<=big.natAbs:=by
    have:(0:Int)<=big:=by decide
    lia
   exact aQR h1 (by decide +kernel)⟩
  have hw':∀x,okC (wg kvs (.int 0) x):=λx=>by obtain⟨i,e,_⟩:=hw x;exact⟨i,e⟩
  have of:=o9 hw' xs (.int t.2) ⟨_,rfl⟩;obtain⟨y7,e1⟩:=aCH hw (W:=WT TT k) (x0:=x0) (x2:=some (false,q)) (x3:=some (false,FD' xs)) (x4:=some (false,.tup (tss.map rD))) (x5:=some (false,.int t.2)) (x8:=x8) xs 2 (.int t.2) x7 (by lia) g2
  obtain⟨y8,e2⟩:=aP9 (k:=k) (x0:=x0) (x2:=some (false,q)) (x3:=some (false,FD' xs)) (x4:=some (false,.tup (tss.map rD))) (x5:=some (false,.int t.2)) (x7:=y7) hb _ x8 of;obtain⟨j,ej⟩:=uI bs _ (hb.all λ_ _ p=>p.1) of;obtain⟨i,rfl⟩:=hq;obtain⟨z3,z4,z5,z6,z7,z8,e'⟩:=ih (plC (.int i) (bT tmC lkC bs (fT tmC (wg kvs (.int 0)) xs (.int t.2)))) (some (false,FD' xs)) (some (false,.tup (tss.map rD))) (some (false,.int t.2)) (some (false,bT tmC lkC bs (fT tmC (wg kvs (.int 0)) xs (.int t.2)))) y7 y8 (by rw[ej];exact⟨_,rfl⟩)
  refine⟨z3,z4,z5,z6,z7,z8,?_⟩;have e:evB (WT TT k) l7 [x0,some (false,.dct kvs),some (false,.int i),some (false,FD' xs),some (false,.tup (tss.map rD)),some (false,.int t.2),x6,x7,x8]=.nx [x0,some (false,.dct kvs),some (false,plC (.int i) (bT tmC lkC bs (fT tmC (wg kvs (.int 0)) xs (.int t.2)))),some (false,FD' xs),some (false,.tup (tss.map rD)),some (false,.int t.2),some (false,bT tmC lkC bs (fT tmC (wg kvs (.int 0)) xs (.int t.2))),y7,y8]:=by have i1:∀l:List D,eU (.ok .fz (.tup l))=.ok .fz (.lst l):=λl=>rfl;have j1:=i1 (xs.map D.str);have j2:=i1 (tss.map rD);rw[ej]at e2 ⊢;generalize fT tmC (wg kvs (.int 0)) xs (.int t.2)=v1 at e1 e2;unfold FD' at e1 e2 ⊢;generalize xs.map D.str=XS at *;generalize tss.map rD=TS at *;unfold l7;generalize l6=B1 at *;generalize j9=B2 at *;simp[dS,j1,j2,e1,e2,plC]
  rw[aSS,uG h1 h2,cQ (show aO (.tp [.nm 3,.nm 4,.nm 5]) (.tup [FD' xs,.tup (tss.map rD),.int t.2]) [x0,some (false,.dct kvs),some (false,.int i),x3,x4,x5,x6,x7,x8]=some [x0,some (false,.dct kvs),some (false,.int i),some (false,FD' xs),some (false,.tup (tss.map rD)),some (false,.int t.2),x6,x7,x8]from rfl) e,e']
  rfl
def count(hw:∀x,gdC 1 (wg kvs (.int 0) x)){ts:List Tr}{vs:List D}(h:A2 (uJ kvs k) ts vs)(ov:∀v∈vs,okC v):(WT TT (k+1)).Φ "_law_count" [rD ts,.dct kvs]=.ok .fz (vs.foldl plC (.int 0)):=by obtain⟨y3,y4,y5,y6,y7,y8,e⟩:=aQA hw (x0:=some (false,rD ts)) h (.int 0) none none none none none none ⟨0,rfl⟩;rw[aON];refine dO rfl ?_;show evB _ oQ [some (false,rD ts),some (false,.dct kvs),none,none,none,none,none,none,none]=_;have i1:eU (.ok .fz (rD ts))=.ok .fz (.lst (ts.map tD)):=rfl;generalize rD ts=RT at e i1 ⊢;generalize ts.map tD=TS at e i1 ⊢;obtain⟨n,en⟩:okC (vs.foldl plC (.int 0)):=mR.ko.okf vs _ ⟨0,rfl⟩ ov;rw[en]at e ⊢;unfold oQ;generalize l7=B3 at *;simp[dS,i1,e]
def is1{d:D}{m:Md}(h:okO d):op2 (bM .IsNot) (.ok m d) (.ok m' .non)=.ok .fz (.bl (!cJ d)):=by rcases h with rfl|⟨i,rfl⟩ <;> rfl
theorem aCI{W:WD}(hw:∀x,okO (wg kvs .non x)){x0 x2 x3 x4 x5 x9:Option (Bool×D)}:∀(xs:List Str) (a:D) (x7 x8:Option (Bool×D)),okO a->∃y7 y8,bQ (aO (.nm 7)) (evB W iZ) (xs.map .str) [x0,some (false,.dct kvs),x2,x3,x4,x5,some (false,a),x7,x8,x9]=.nx [x0,some (false,.dct kvs),x2,x3,x4,x5,some (false,fT tmO (wg kvs .non) xs a),y7,y8,x9]
 |[],a,x7,x8,_=>⟨x7,x8,rfl⟩
 |x::xs,a,x7,x8,ha=>by
  have h:∃z8,evB W iZ [x0,some (false,.dct kvs),x2,x3,x4,x5,some (false,a),some (false,.str x),x8,x9]=.nx [x0,some (false,.dct kvs),x2,x3,x4,x5,some (false,tmO a (wg kvs .non x)),some (false,.str x),z8,x9]:=by
   have d:=dg (kvs:=kvs) (x:=x) (d:=.non) (m:=.fz) (m':=.fz);have hx:=hw x;have n0:cJ .non=true:=rfl;generalize wg kvs .non x=q at d hx ⊢;rcases ha with rfl|⟨i,rfl⟩
   . refine⟨x8,?_⟩;simp[iZ,tmO]
   . have ni:cJ (.int i)=false:=rfl;refine⟨some (false,q),?_⟩;rcases hx with rfl|⟨j,rfl⟩
     . simp[iZ,tmO,d,ni,n0]
     . have nj:cJ (.int j)=false:=rfl;simp[iZ,tmO,d,ni,nj]
  obtain⟨z8,h⟩:=h;obtain⟨y7,y8,e⟩:=aCI hw (W:=W) (x0:=x0) (x2:=x2) (x3:=x3) (x4:=x4) (x5:=x5) (x9:=x9) xs (tmO a (wg kvs .non x)) (some (false,.str x)) z8 (fA.gt 1 _ _ ha (hw x));refine⟨y7,y8,?_⟩;rw[aSS,cQ (show aO (.nm 7) (.str x) [x0,some (false,.dct kvs),x2,x3,x4,x5,some (false,a),x7,x8,x9]=some [x0,some (false,.dct kvs),x2,x3,x4,x5,some (false,a),some (false,.str x),x8,x9]from by simp) h]
  exact e
def KOk'(kvs:List (Key×D))(k:Nat)(u:List Tr)(d:D):Prop:=okO d/\(WT TT k).Φ "_law_cost" [rD u,.dct kvs]=.ok .fz d
def aQB{x3 x7 x8:Option (Bool×D)}{bs:List D}(h:A2 (KOk' kvs k) tss bs):∀(a:D) (x9:Option (Bool×D)),okO a->∃y9,bQ (aO (.nm 9)) (evB (WT TT k) kA) (tss.map rD) [x0,some (false,.dct kvs),x2,x3,x4,x5,some (false,a),x7,x8,x9]=.nx [x0,some (false,.dct kvs),x2,x3,x4,x5,some (false,bT tmO lkO bs a),x7,x8,y9]:=by
 induction h with
 |nil=>exact λa x9 _=>⟨x9,rfl⟩
 | @cons u b tss bs p _ ih =>
  intro a x9 ha;obtain⟨ob,eb⟩:=p;have eb:=cF eb;obtain⟨y9,e⟩:=ih (tmO a (lkO b)) (some (false,rD u)) (fA.gt 1 _ _ ha (fA.gl b ob));refine⟨y9,?_⟩;rw[aSS];have h:evB (WT TT k) kA [x0,some (false,.dct kvs),x2,x3,x4,x5,some (false,a),x7,x8,some (false,rD u)]=.nx [x0,some (false,.dct kvs),x2,x3,x4,x5,some (false,tmO a (lkO b)),x7,x8,some (false,rD u)]:=by
   generalize rD u=U at eb ⊢;have i:=is1 (m:=.fz) (m':=.fz) ob;rcases ob with rfl|⟨j,rfl⟩
   . have t:tmO a (lkO .non)=a:=by
       rcases ha with rfl|⟨i,rfl⟩
       . rfl
       . show D.int (i+0)=_;rw[aVW]
     rw[t];have i:op2 (bM .IsNot) (.ok .fz .non) (.ok .fz .non)=.ok .fz (.bl false):=i;simp[kA,eb,cL,i]
   . have t:tmO a (lkO (.int j))=.non:=by rcases ha with rfl|⟨i,rfl⟩ <;> rfl
     rw[t];have i:op2 (bM .IsNot) (.ok .fz (.int j)) (.ok .fz .non)=.ok .fz (.bl true):=i;simp[kA,eb,cL,i]
  rw[cQ (show aO (.nm 9) (rD u) [x0,some (false,.dct kvs),x2,x3,x4,x5,some (false,a),x7,x8,x9]=some [x0,some (false,.dct kvs),x2,x3,x4,x5,some (false,a),x7,x8,some (false,rD u)]from by simp) h]
  exact e
def uK(kvs:List (Key×D))(k:Nat)(t:Tr)(v:D):Prop :=
 ∃xs tss bs,t.1.1=F xs/\t.1.2=.t (tss.map rN)/\A2 (KOk' kvs k) tss bs/\v=bT tmO lkO bs (fT tmO (wg kvs .non) xs (.int 0))
def aQC(hw:∀x,okO (wg kvs .non x)){ts:List Tr}{vs:List D}(h:A2 (uK kvs k) ts vs):∀(q:D) (x3 x4 x5 x6 x7 x8 x9:Option (Bool×D)),okO q->∃y3 y4 y5 y6 y7 y8 y9,bQ (aO (.tp [.nm 3,.nm 4,.nm 5])) (evB (WT TT k) l8) (ts.map tD) [x0,some (false,.dct kvs),some (false,q),x3,x4,x5,x6,x7,x8,x9]=.nx [x0,some (false,.dct kvs),some (false,vs.foldl plO q),y3,y4,y5,y6,y7,y8,y9]:=by
 induction h with
 |nil=>exact λq x3 x4 x5 x6 x7 x8 x9 _=>⟨x3,x4,x5,x6,x7,x8,x9,rfl⟩
 | @cons t v ts vs p _ ih =>
  intro q x3 x4 x5 x6 x7 x8 x9 hq;obtain⟨xs,tss,bs,h1,h2,hb,rfl⟩:=p;have of:okO (fT tmO (wg kvs .non) xs (.int 0)):=o5 fA hw xs 1 (.int 0) fA.go;obtain⟨y7,y8,e1⟩:=aCI hw (W:=WT TT k) (x0:=x0) (x2:=some (false,q)) (x3:=some (false,FD' xs)) (x4:=some (false,.tup (tss.map rD))) (x5:=some (false,.int t.2)) (x9:=x9) xs (.int 0) x7 x8 fA.go;obtain⟨y9,e2⟩:=aQB (k:=k) (x0:=x0) (x2:=some (false,q)) (x3:=some (false,FD' xs)) (x4:=some (false,.tup (tss.map rD))) (x5:=some (false,.int t.2)) (x7:=y7) (x8:=y8) hb _ x9 of;have ob:okO (bT tmO lkO bs (fT tmO (wg kvs .non) xs (.int 0))):=o7 fA bs 1 _ (hb.all λ_ _ p=>p.1) of;obtain⟨z3,z4,z5,z6,z7,z8,z9,e'⟩:=ih (plO q (bT tmO lkO bs (fT tmO (wg kvs .non) xs (.int 0)))) (some (false,FD' xs)) (some (false,.tup (tss.map rD))) (some (false,.int t.2)) (some (false,bT tmO lkO bs (fT tmO (wg kvs .non) xs (.int 0)))) y7 y8 y9 (fA.ko.okp _ _ hq ob);refine⟨z3,z4,z5,z6,z7,z8,z9,?_⟩;have e:evB (WT TT k) l8 [x0,some (false,.dct kvs),some (false,q),some (false,FD' xs),some (false,.tup (tss.map rD)),some (false,.int t.2),x6,x7,x8,x9]=.nx [x0,some (false,.dct kvs),some (false,plO q (bT tmO lkO bs (fT tmO (wg kvs .non) xs (.int 0)))),some (false,FD' xs),some (false,.tup (tss.map rD)),some (false,.int t.2),some (false,bT tmO lkO bs (fT tmO (wg kvs .non) xs (.int 0))),y7,y8,y9]:=by
   have i1:∀l:List D,eU (.ok .fz (.tup l))=.ok .fz (.lst l):=λl=>rfl;have j1:=i1 (xs.map D.str);have j2:=i1 (tss.map rD);generalize bT tmO lkO bs (fT tmO (wg kvs .non) xs (.int 0))=v at e2 ob ⊢;generalize fT tmO (wg kvs .non) xs (.int 0)=v1 at e1 e2;unfold FD' at e1 e2 ⊢;generalize xs.map D.str=XS at *;generalize tss.map rD=TS at *;unfold l8;generalize iZ=B1 at *;generalize kA=B2 at *;have n0:cJ .non=true:=rfl;have ni:∀i,cJ (.int i)=false:=λi=>rfl;rcases ob with rfl|⟨j,rfl⟩
   . have:plO q .non=q:=by rcases hq with rfl|⟨i,rfl⟩ <;> rfl
     rw[this];simp[dS,j1,j2,e1,e2,n0]
   . rcases hq with rfl|⟨i,rfl⟩
     . simp[dS,j1,j2,e1,e2,n0,ni,plO]
     . by_cases hij:j<i
       . simp[dS,j1,j2,e1,e2,n0,ni,plO,hij]
       . simp[dS,j1,j2,e1,e2,n0,ni,plO,hij]
  rw[aSS,uG h1 h2,cQ (show aO (.tp [.nm 3,.nm 4,.nm 5]) (.tup [FD' xs,.tup (tss.map rD),.int t.2]) [x0,some (false,.dct kvs),some (false,q),x3,x4,x5,x6,x7,x8,x9]=some [x0,some (false,.dct kvs),some (false,q),some (false,FD' xs),some (false,.tup (tss.map rD)),some (false,.int t.2),x6,x7,x8,x9]from rfl) e,e']
  rfl
def cost(hw:∀x,okO (wg kvs .non x)){ts:List Tr}{vs:List D}(h:A2 (uK kvs k) ts vs):(WT TT (k+1)).Φ "_law_cost" [rD ts,.dct kvs]=.ok .fz (vs.foldl plO .non):=by obtain⟨y3,y4,y5,y6,y7,y8,y9,e⟩:=aQC hw (x0:=some (false,rD ts)) h .non none none none none none none none (.inl rfl);rw[aOO];refine dO rfl ?_;show evB _ oR [some (false,rD ts),some (false,.dct kvs),none,none,none,none,none,none,none,none]=_;have i1:eU (.ok .fz (rD ts))=.ok .fz (.lst (ts.map tD)):=rfl;generalize rD ts=RT at e i1 ⊢;generalize ts.map tD=TS at e i1 ⊢;generalize vs.foldl plO .non=q at e ⊢;unfold oR;generalize l8=B3 at *;simp[dS,i1,e]
def VT.parts{t:Tr}(h:VT nms j t):∃(xs:List Str) (tss:List (List Tr)),t.1.1=F xs/\t.1.2=.t (tss.map rN)/\(xs.length<=3/\tss.length<=2/\1<=t.2/\t.2<big)/\∀u∈tss,∃i,j=i+1/\u.length<=2/\∀s∈u,VT nms i s:=by
 obtain⟨⟨xs,h1,_,h2⟩,hb,h3,h4⟩:=h;cases j with
 |zero=>exact⟨xs,[],h1,hb,⟨h2,by simp,h3,h4⟩,λu hu=>nomatch hu⟩
 |succ i=>obtain⟨tss,e,l,g⟩:=hb;exact⟨xs,tss,h1,e,⟨h2,l,h3,h4⟩,λu hu=>⟨i,rfl,(g u hu).2.1,λs hs=>(g u hu).2.2 s hs⟩⟩
def Jc(kvs:List (Key×D))(a b:Nat)(u:List Tr)(d:D):Prop:=okC d/\(∀k,(WT TT (k+a)).Φ "worth_of" [.ins "Counts" [],.dct kvs,rD u]=.ok .fz d)/\∀k,(WT TT (k+b)).Φ "_law_count" [rD u,.dct kvs]=.ok .fz d
theorem aCJ(hw:∀x,gdC 1 (wg kvs (.int 0) x))(j:Nat)(ih:∀(u:List Tr) (i:Nat),j=i+1->u.length<=2->(∀t∈u,VT nms i t)->∃d,Jc kvs (i+5) (i+2) u d):∀(ts:List Tr),(∀t∈ts,VT nms j t)->ts.length<=1000->∃d,Jc kvs (j+5) (j+2) ts d:=λts h hl=>by
 have hw':∀x,okC (wg kvs (.int 0) x):=λx=>by obtain⟨i,e,_⟩:=hw x;exact⟨i,e⟩
 have one:∀t∈ts,∃v,(∀k,kI (.ins "Counts" []) (.int 0) (.int 1) okC tmC lkC mnC kvs (k+j+4) t v)/\(∀k,uJ kvs (k+j+1) t v)/\okC v:=λt ht=>by
  obtain⟨xs,tss,h1,h2,h3,h4⟩:=(h t ht).parts;obtain⟨bs,hb⟩:=A2.of (P:=Jc kvs (j+4) (j+1)) (l:=tss) λu hu=>by
   obtain⟨i,e,l,g⟩:=h4 u hu;obtain⟨d,o,a,b⟩:=ih u i e l g;refine⟨d,o,λk=>?_,λk=>?_⟩
   . rw[e,show k+(i+1+4)=k+(i+5) by lia];exact a k
   . rw[e,show k+(i+1+1)=k+(i+2) by lia];exact b k
  have ob:∀b∈bs,okC b:=hb.all λ_ _ p=>p.1;have of:okC (fT tmC (wg kvs (.int 0)) xs (.int 1)):=o9 hw' xs _ ⟨1,rfl⟩;have e1:mnC t.2 (bT tmC lkC bs (fT tmC (wg kvs (.int 0)) xs (.int 1)))=bT tmC lkC bs (fT tmC (wg kvs (.int 0)) xs (.int t.2)):=by rw[mn_b _ bs _ ob of,mn_f hw' _ xs _ ⟨1,rfl⟩];show bT tmC lkC bs (fT tmC _ xs (.int (t.2 * 1)))=_;rw[Int.mul_one]
  refine⟨_,λk=>⟨xs,tss,bs,h1,h2,h3,hb.imp λu d p=>⟨p.1,?_⟩,rfl⟩,λk=>⟨xs,tss,bs,h1,h2,⟨h3.1,h3.2.2⟩,hb.imp λu d p=>⟨p.1,?_⟩,e1⟩,by rw[e1];exact uI bs _ ob (o9 hw' xs _ ⟨_,rfl⟩)⟩
  . have:=p.2.1 k;rw[<- aS0]at this;exact this
  . have:=p.2.2 k;rw[<- aS0]at this;exact this
 obtain⟨vs,hv⟩:=A2.of one;have ov:∀v∈vs,okC v:=hv.all λ_ _ p=>p.2.2;refine⟨vs.foldl plC (.int 0),mR.ko.okf vs _ ⟨0,rfl⟩ ov,λk=>?_,λk=>?_⟩
 . have:=o8 mR (k+j) hw (hv.imp λt v p=>p.1 k) hl;rw[<- aS0];exact this
 . have:=count (k:=k+j+1) hw (hv.imp λt v p=>p.2.1 k) ov;rw[<- aS0];exact this
theorem uL(hw:∀x,gdC 1 (wg kvs (.int 0) x)):∀(j:Nat) (ts:List Tr),(∀t∈ts,VT nms j t)->ts.length<=1000->∃d,Jc kvs (j+5) (j+2) ts d
 |0,ts,h,hl=>aCJ hw 0 (λu i e=>by lia) ts h hl
 |j+1,ts,h,hl=>aCJ hw (j+1) (λu i e hl hu=>by
  obtain rfl:i=j:=by lia
  exact uL hw i u hu (by lia)) ts h hl
def Jk(kvs:List (Key×D))(a b:Nat)(u:List Tr)(d:D):Prop:=okO d/\(∀k,(WT TT (k+a)).Φ "worth_of" [.ins "Costs" [],.dct kvs,rD u]=.ok .fz d)/\∀k,(WT TT (k+b)).Φ "_law_cost" [rD u,.dct kvs]=.ok .fz d
theorem aCK(hw:∀x,okO (wg kvs .non x))(j:Nat)(ih:∀(u:List Tr) (i:Nat),j=i+1->u.length<=2->(∀t∈u,VT nms i t)->∃d,Jk kvs (i+5) (i+2) u d):∀(ts:List Tr),(∀t∈ts,VT nms j t)->ts.length<=1000->∃d,Jk kvs (j+5) (j+2) ts d:=λts h hl=>by
 have one:∀t∈ts,∃v,(∀k,kI (.ins "Costs" []) .non (.int 0) okO tmO lkO (λ_ d=>d) kvs (k+j+4) t v)/\∀k,uK kvs (k+j+1) t v:=λt ht=>by
  obtain⟨xs,tss,h1,h2,h3,h4⟩:=(h t ht).parts;obtain⟨bs,hb⟩:=A2.of (P:=Jk kvs (j+4) (j+1)) (l:=tss) λu hu=>by
   obtain⟨i,e,l,g⟩:=h4 u hu;obtain⟨d,o,a,b⟩:=ih u i e l g;refine⟨d,o,λk=>?_,λk=>?_⟩
   . rw[e,show k+(i+1+4)=k+(i+5) by lia];exact a k
   . rw[e,show k+(i+1+1)=k+(i+2) by lia];exact b k
  refine⟨_,λk=>⟨xs,tss,bs,h1,h2,h3,hb.imp λu d p=>⟨p.1,?_⟩,rfl⟩,λk=>⟨xs,tss,bs,h1,h2,hb.imp λu d p=>⟨p.1,?_⟩,rfl⟩⟩
  . have:=p.2.1 k;rw[<- aS0]at this;exact this
  . have:=p.2.2 k;rw[<- aS0]at this;exact this
 obtain⟨vs,hv⟩:=A2.of one;have ov:∀v∈vs,okO v:=hv.all λ_ _ p=>(p.1 0).ok fA hw;refine⟨vs.foldl plO .non,fA.ko.okf vs _ (.inl rfl) ov,λk=>?_,λk=>?_⟩
 . have:=o8 fA (k+j) hw (hv.imp λt v p=>p.1 k) hl;rw[<- aS0];exact this
 . have:=cost (k:=k+j+1) hw (hv.imp λt v p=>p.2 k);rw[<- aS0];exact this
theorem uM(hw:∀x,okO (wg kvs .non x)):∀(j:Nat) (ts:List Tr),(∀t∈ts,VT nms j t)->ts.length<=1000->∃d,Jk kvs (j+5) (j+2) ts d
 |0,ts,h,hl=>aCK hw 0 (λu i e=>by lia) ts h hl
 |j+1,ts,h,hl=>aCK hw (j+1) (λu i e hl hu=>by
  obtain rfl:i=j:=by lia
  exact uM hw i u hu (by lia)) ts h hl
structure GD(P:D->Prop)(n:Nat)(kvs:List (Key×D)):Prop where
 len:kvs.length<=n
 val:∀kv∈kvs,P kv.2
 nd:(kvs.map (·.1)).Nodup
def GD.put{P:D->Prop}(g:GD P n kvs){k:Key}{d:D}(h:P d):GD P (n+1) (bH kvs k d):=by
 unfold bH;split
 . refine⟨by rw[aR2];exact aTZ g.len,λkv hkv=>?_,?_⟩
   . obtain⟨kv',h1,rfl⟩:=aVJ.mp hkv;split
     . exact h
     . exact g.val _ h1
   . have:(kvs.map λkv=>if kv.1=k then(kv.1,d)else kv).map (·.1)=kvs.map (·.1):=by rw[aVA];refine aVL λkv _=>?_;show(if kv.1=k then(kv.1,d)else kv).1=kv.1;split <;> rfl
     rw[this];exact g.nd
 . rename_i hk;refine⟨by rw[aR1];exact Nat.succ_le_succ g.len,λkv hkv=>?_,?_⟩
   . rcases aQV.mp hkv with h1|h1
     . exact g.val _ h1
     . rw[aTY.mp h1];exact h
   . rw[aU0,aVY];refine⟨g.nd,by simp,λa ha b hb=>?_⟩
     obtain⟨kv,h1,rfl⟩:=aVJ.mp ha;obtain rfl:b=k:=by simpa using hb
     intro e;exact hk (aVR.mpr ⟨kv,h1,by simpa using e⟩)
theorem GD.wg{P:D->Prop}(g:GD P n kvs){d:D}(h:P d)(x:Str):P (wg kvs d x):=by
 unfold K25.wg dF;cases e:kvs.find? λkv=>decide (kv.1=.inr x)with
 |none=>exact h
 |some kv=>exact g.val _ (List.mem_of_find?_eq_some e)
theorem GD.pl{P:D->Prop}(hP:∀d,P d->plD d=true):∀{n:Nat}{kvs:List (Key×D)},GD P n kvs->plK kvs=true
 |_,[],_=>rfl
 |n,(k,d)::kvs,g=>by show(plD d&&plK kvs)=true;rw[hP d (g.val _ mcs),GD.pl hP (n:=n) ⟨Nat.le_of_succ_le g.len,λkv hkv=>g.val kv (mcm hkv),(aRR.mp g.nd).2⟩];rfl
def dZ:Int:=1000000000000000000000000000000
def pow30:op2 (bJ .Pow) (.ok .fz (.int 10)) (.ok .fz (.int 30))=.ok .fz (.int dZ):=by rfl
def z30:(0:Int)<dZ:=by decide
def vC(d:D):Prop:=∃i:Int,d=.int i/\0<=i/\i<=dZ+6
theorem vC.gd{d:D}(h:vC d):gdC 1 d:=by
 obtain⟨i,rfl,h0,h1⟩:=h;refine⟨i,rfl,?_⟩;have h2:i.natAbs<=(dZ+6).natAbs:=by
  have:(0:Int)<=dZ+6:=by decide
  lia
 exact aQR h2 (by decide +kernel)
def vC.pl{d:D}(h:vC d):plD d=true:=by obtain⟨i,rfl,_⟩:=h;rfl
def okO.pl{d:D}(h:okO d):plD d=true:=by rcases h with rfl|⟨i,rfl⟩ <;> rfl
theorem ix2{a b:D}{c:Int}:∃d,(d=a\/d=b)/\op2 ixD (.ok .fr (.lst [a,b])) (.ok .fz (.int (c % 2)))=.ok .fz d:=by
 have:c % 2=0\/c % 2=1:=by lia
 rcases this with e|e <;> rw[e]
 . exact⟨a,.inl rfl,rfl⟩
 . exact⟨b,.inr rfl,rfl⟩
theorem ix4{a b e f:D}{c:Int}:∃d,(d=a\/d=b\/d=e\/d=f)/\op2 ixD (.ok .fr (.lst [a,b,e,f])) (.ok .fz (.int (c % 4)))=.ok .fz d:=by
 have:c % 4=0\/c % 4=1\/c % 4=2\/c % 4=3:=by lia
 rcases this with h|h|h|h <;> rw[h]
 . exact⟨a,.inl rfl,rfl⟩
 . exact⟨b,.inr (.inl rfl),rfl⟩
 . exact⟨e,.inr (.inr (.inl rfl)),rfl⟩
 . exact⟨f,.inr (.inr (.inr rfl)),rfl⟩
theorem uN{d:D}{m:Md}(h:ρ[i]? = some (some (true,.dct kvs)))(hl:kvs.length<=100):f7 ρ i (.ok m (.str x)) (.ok .fz d)=.nx (ρ.set i (some (true,.dct (bH kvs (.inr x) d)))):=by unfold f7;rw[h];show(if kvs.length<sizeLine then _ else _)=_;rw[if_pos (by rw[aRH];lia)]
theorem turn{ns:List Int}(hn:nms.length=4){R:D}{kk:List (Key×D)}(hc:GD vC n kc)(hk:GD okO n kk)(h100:n<=50)(hi:i<4){r:List (Option (Bool×D))}:∃kc' kk' c,GD vC (n+1) kc'/\GD okO (n+1) kk'/\evB (WT TT (k+1)) i4 (some (false,.lst (ns.map .int))::some (false,NM nms)::some (false,R)::some (true,.dct kc)::some (true,.dct kk)::some (false,.int (i:Int))::x6::r)=.nx (some (false,.lst (ns.map .int))::some (false,NM nms)::some (false,R)::some (true,.dct kc')::some (true,.dct kk')::some (false,.int (i:Int))::some (false,.int c)::r):=by
 have cl:=aB9 k ns (i:=1+(i:Int)) (by lia)
 generalize ce ns (1+(i:Int))=c at cl;have hx:op2 ixD (.ok .fz (NM nms)) (.ok .fz (.int (i:Int)))=.ok .fz (.str (nms[i]'(by lia))):=by
  have:(nms.map D.str)[i]? = some (.str (nms[i]'(by lia))):=by simp[show i<nms.length by lia]
  exact f9 (jD this)
 generalize nms[i]'(by lia)=x at hx
 have l2:∀{x y:D},fX (.ok [(.fz,x),(.fz,y)])=.ok .fr (.lst [x,y]):=rfl;have l4:∀{x y z w:D},fX (.ok [(.fz,x),(.fz,y),(.fz,z),(.fz,w)])=.ok .fr (.lst [x,y,z,w]):=rfl;obtain⟨d1,o1,e1⟩:=ix2 (a:=.int (c / 5 % 4)) (b:=.int (c / 20 % dZ)) (c:=c);obtain⟨d2,o2,e2⟩:=ix4 (a:=.non) (b:=.int (c / 20 % dZ)) (e:=.int (0-c / 20 % dZ)) (f:=.int (c / 20 % 7-3)) (c:=c);have v1:vC d1:=by
  have z:=z30;have b1:=aVZ (c / 20) (show dZ≠0 by decide)
  have b2:=aV0 (c / 20) z30;rcases o1 with rfl|rfl
  . refine⟨_,rfl,by lia,?_⟩
    have:(10:Int)<dZ:=by decide
    lia
  . exact⟨_,rfl,by lia,by lia⟩
 have v2:okO d2:=by
  rcases o2 with rfl|rfl|rfl|rfl
  . exact .inl rfl
  . exact .inr ⟨_,rfl⟩
  . exact .inr ⟨_,rfl⟩
  . exact .inr ⟨_,rfl⟩
 have md:op2 (bJ .Mod) (.ok .fz (.int (c / 20))) (.ok .fz (.int dZ))=.ok .fz (.int (c / 20 % dZ)):=aAE z30;have pw:=pow30;generalize dZ=T at *;have s1:∀(a3 a4:Option (Bool×D)),evS (WT TT (k+1)) (.set 6 (.frz (.call "_law_cell_at" 2 [(.var 0),(.frz (.bin .Add (.int 1) (.var 5)))]))) (some (false,.lst (ns.map .int))::some (false,NM nms)::some (false,R)::a3::a4::some (false,.int (i:Int))::x6::r)=.nx (some (false,.lst (ns.map .int))::some (false,NM nms)::some (false,R)::a3::a4::some (false,.int (i:Int))::some (false,.int c)::r):=λa3 a4=>by generalize ns.map D.int=NS at *;generalize NM nms=M at *;simp[cl,cL]
 have s2:∃kc',GD vC (n+1) kc'/\evS (WT TT (k+1)) (.ite (.cmp .NotEq (.bin .Mod (.var 6) (.int 5)) (.int 1)) [.dput 3 (.ix (.var 1) (.var 5)) (.ix (.lst [(.frz (.bin .Mod (.bin .FloorDiv (.var 6) (.int 5)) (.int 4))),(.frz (.bin .Mod (.bin .FloorDiv (.var 6) (.int 20)) (.bin .Pow (.int 10) (.int 30))))]) (.bin .Mod (.var 6) (.int 2)))] []) (some (false,.lst (ns.map .int))::some (false,NM nms)::some (false,R)::some (true,.dct kc)::some (true,.dct kk)::some (false,.int (i:Int))::some (false,.int c)::r)=.nx (some (false,.lst (ns.map .int))::some (false,NM nms)::some (false,R)::some (true,.dct kc')::some (true,.dct kk)::some (false,.int (i:Int))::some (false,.int c)::r):=by
  by_cases h:c % 5=1
  . refine⟨kc,⟨aTZ hc.len,hc.val,hc.nd⟩,?_⟩;generalize ns.map D.int=NS at *;generalize NM nms=M at *;simp[h]
  . refine⟨_,hc.put (k:=.inr x) v1,?_⟩;have hb:(c % 5 != 1)=true:=by simpa using h
    have hd:=uN (ρ:=some (false,.lst (ns.map .int))::some (false,NM nms)::some (false,R)::some (true,.dct kc)::some (true,.dct kk)::some (false,.int (i:Int))::some (false,.int c)::r) (i:=3) (kvs:=kc) (x:=x) (d:=d1) (m:=.fz) rfl (by have:=hc.len;lia)
    generalize ns.map D.int=NS at *;generalize NM nms=M at *;simp[hb,h,hx,pw,md,l2,e1,hd,cL]
 obtain⟨kc',gc,s2⟩:=s2;have s3:∃kk',GD okO (n+1) kk'/\evS (WT TT (k+1)) (.ite (.cmp .NotEq (.bin .Mod (.bin .FloorDiv (.var 6) (.int 3)) (.int 5)) (.int 1)) [.dput 4 (.ix (.var 1) (.var 5)) (.ix (.lst [.non,(.frz (.bin .Mod (.bin .FloorDiv (.var 6) (.int 20)) (.bin .Pow (.int 10) (.int 30)))),(.frz (.bin .Sub (.int 0) (.bin .Mod (.bin .FloorDiv (.var 6) (.int 20)) (.bin .Pow (.int 10) (.int 30))))),(.frz (.bin .Sub (.bin .Mod (.bin .FloorDiv (.var 6) (.int 20)) (.int 7)) (.int 3)))]) (.bin .Mod (.var 6) (.int 4)))] []) (some (false,.lst (ns.map .int))::some (false,NM nms)::some (false,R)::some (true,.dct kc')::some (true,.dct kk)::some (false,.int (i:Int))::some (false,.int c)::r)=.nx (some (false,.lst (ns.map .int))::some (false,NM nms)::some (false,R)::some (true,.dct kc')::some (true,.dct kk')::some (false,.int (i:Int))::some (false,.int c)::r):=by
  by_cases h:c / 3 % 5=1
  . refine⟨kk,⟨aTZ hk.len,hk.val,hk.nd⟩,?_⟩;generalize ns.map D.int=NS at *;generalize NM nms=M at *;simp[h]
  . refine⟨_,hk.put (k:=.inr x) v2,?_⟩;have hb:(c / 3 % 5 != 1)=true:=by simpa using h
    have hd:=uN (ρ:=some (false,.lst (ns.map .int))::some (false,NM nms)::some (false,R)::some (true,.dct kc')::some (true,.dct kk)::some (false,.int (i:Int))::some (false,.int c)::r) (i:=4) (kvs:=kk) (x:=x) (d:=d2) (m:=.fz) rfl (by have:=hk.len;lia)
    generalize ns.map D.int=NS at *;generalize NM nms=M at *;rw[Int.zero_sub]at e2;simp[hb,h,hx,pw,md,l4,e2,hd,cL]
 obtain⟨kk',gk,s3⟩:=s3;refine⟨kc',kk',c,gc,gk,?_⟩;unfold i4;rw[bL (s1 _ _),bL s2,bL s3];rfl
mutual
theorem aCL:∀n:N,plD (nD n)=true
 |.i _=>by rw[nD];rfl
 |.s _=>by rw[nD];rfl
 |.t xs=>by rw[nD];exact aCM xs
theorem aCM:∀xs:List N,plL (nDL xs)=true
 |[]=>by rw[nDL];rfl
 |x::xs=>by rw[nDL];show(plD (nD x)&&plL (nDL xs))=true;rw[aCL x,aCM xs];rfl
end
theorem aCN:∀ts:List Tr,plL (ts.map tD)=true
 |[]=>rfl
 |t::ts=>by show(plD (tD t)&&plL (ts.map tD))=true;rw[aCL,aCN ts];rfl
def pl_rD(ts:List Tr):plD (rD ts)=true:=aCN ts
abbrev clo(Kd:D)(kvs:List (Key×D)):D:=.clo "valued" [("kind", Kd),("kept", .dct kvs)]
def gW{Ψ:List D->Res}{c:Str}{R d:D}{m:Md}(h2:plK kvs=true)(h3:plD R=true)(h:Ψ [.ins c [],.dct kvs,R]=.ok .fz d)(hp:jU d=true):iW "valued" "kind" "kept" Ψ (.ok .fz (clo (.ins c []) kvs)) (.ok [(m,R)])=.ok .fz d:=by
 unfold iW;dsimp only;rw[if_pos ⟨rfl,rfl,rfl⟩,aR.thn_ok];dsimp only;have e:(plD (.ins c [])&&plD (.dct kvs)&&plD R)=true:=by have a:plD (.ins c [])=true:=rfl;have b:plD (.dct kvs)=true:=h2;rw[a,b,h3];rfl
 rw[if_pos e,h];dsimp only;rw[if_pos hp]
def mS{c:Str}{m:Md}:iV "valued" "kind" "kept" (.ok [(.fz,.ins c []),(m,.dct kvs)])=.ok .fz (clo (.ins c []) kvs):=rfl
def aQD:∀{kvs:List (Key×D)},(kvs.map (·.1)).Nodup->∀kv∈kvs,dF kvs kv.1=some kv.2:=λ{kvs}=>by
 induction kvs with
 |nil=>intro _ kv h;cases h
 |cons a l ih =>
  intro nd kv h;rw[aSS,aRR]at nd;unfold dF;rw[aSO];rcases aQU.mp h with rfl|h
  . simp
  . have:a.1≠kv.1:=λe=>nd.1 (e ▸ aVJ.mpr ⟨kv,h,rfl⟩);simp only[this,decide_false];exact ih nd.2 kv h
theorem aCO{kvs:List (Key×D)}{n:Nat}(g:GD vC n kvs):∀l:List (Key×D),(∀kv∈l,kv∈kvs)->fL kvs l=some true
 |[],_=>rfl
 |(k,d)::l,h=>by
  have e:=aQD g.nd _ (h _ mcs);obtain⟨i,hi,_⟩:=g.val _ (h _ mcs);have hi:d=.int i:=hi;subst hi;have r:=aCO g l λkv hkv=>h kv (mcm hkv);show(match dF kvs k with|none=>some false|some e=>(match aZ (.int i),aZ e with|some p,some q=>if(fZ p&&fZ q)=true then(fL kvs l).map λb=>PyData.eqv p q&&b else none|_,_=>none))=some true
  rw[show dF kvs k=some (.int i)from e,r]
  have t:aZ (.int i)=some (.int i):=rfl;dsimp only;rw[t];dsimp only;have s:(fZ (.int i)&&fZ (.int i))=true:=rfl;rw[if_pos s];have q:PyData.eqv (.int i) (.int i)=true:=by simp[PyData.eqv]
  rw[aTO,q];rfl
def aQE(g:GD vC n kvs){m:Md}:op2 (eqN true) (.ok m (.dct kvs)) (.ok m' (.dct kvs))=.ok .fz (.bl false):=by refine cP ?_;show(fL kvs kvs).map _=_;rw[aCO g kvs λkv h=>h];simp
def four{ns:List Int}(hn:nms.length=4){R:D}{r:List (Option (Bool×D))}:∃kc kk y5 y6,GD vC 4 kc/\GD okO 4 kk/\evS (WT TT (k+1)) (.for (.rng1 (.int 4)) (.nm 5) i4) (some (false,.lst (ns.map .int))::some (false,NM nms)::some (false,R)::some (true,.dct [])::some (true,.dct [])::x5::x6::r)=.nx (some (false,.lst (ns.map .int))::some (false,NM nms)::some (false,R)::some (true,.dct kc)::some (true,.dct kk)::y5::y6::r):=by
 have g0:GD vC 0 []:=⟨aRD _,(λkv h=>by cases h),aU1⟩
 have g0':GD okO 0 []:=⟨aRD _,(λkv h=>by cases h),aU1⟩
 obtain⟨k1,l1,c1,a1,b1,e1⟩:=turn (k:=k) (ns:=ns) hn (R:=R) g0 g0' (by decide) (i:=0) (by decide) (x6:=x6) (r:=r)
 obtain⟨k2,l2,c2,a2,b2,e2⟩:=turn (k:=k) (ns:=ns) hn (R:=R) a1 b1 (by decide) (i:=1) (by decide) (x6:=some (false,.int c1)) (r:=r)
 obtain⟨k3,l3,c3,a3,b3,e3⟩:=turn (k:=k) (ns:=ns) hn (R:=R) a2 b2 (by decide) (i:=2) (by decide) (x6:=some (false,.int c2)) (r:=r)
 obtain⟨k4,l4,c4,a4,b4,e4⟩:=turn (k:=k) (ns:=ns) hn (R:=R) a3 b3 (by decide) (i:=3) (by decide) (x6:=some (false,.int c3)) (r:=r)
 refine⟨k4,l4,some (false,.int ((3:Nat):Int)),some (false,.int c4),a4,b4,?_⟩;have f:bQ (aO (.nm 5)) (evB (WT TT (k+1)) i4) [.int ((0:Nat):Int),.int ((1:Nat):Int),.int ((2:Nat):Int),.int ((3:Nat):Int)] (some (false,.lst (ns.map .int))::some (false,NM nms)::some (false,R)::some (true,.dct [])::some (true,.dct [])::x5::x6::r)=.nx (some (false,.lst (ns.map .int))::some (false,NM nms)::some (false,R)::some (true,.dct k4)::some (true,.dct l4)::some (false,.int ((3:Nat):Int))::some (false,.int c4)::r):=by rw[cQ (ρ1:=some (false,.lst (ns.map .int))::some (false,NM nms)::some (false,R)::some (true,.dct [])::some (true,.dct [])::some (false,.int ((0:Nat):Int))::x6::r) rfl e1];rw[cQ (ρ1:=some (false,.lst (ns.map .int))::some (false,NM nms)::some (false,R)::some (true,.dct k1)::some (true,.dct l1)::some (false,.int ((1:Nat):Int))::some (false,.int c1)::r) rfl e2];rw[cQ (ρ1:=some (false,.lst (ns.map .int))::some (false,NM nms)::some (false,R)::some (true,.dct k2)::some (true,.dct l2)::some (false,.int ((2:Nat):Int))::some (false,.int c2)::r) rfl e3];rw[cQ (ρ1:=some (false,.lst (ns.map .int))::some (false,NM nms)::some (false,R)::some (true,.dct k3)::some (true,.dct l3)::some (false,.int ((3:Nat):Int))::some (false,.int c3)::r) rfl e4];rfl
 have g:gK (.ok [(.fz,.int 4)])=.ok .fz (.lst [.int ((0:Nat):Int),.int ((1:Nat):Int),.int ((2:Nat):Int),.int ((3:Nat):Int)]):=rfl;generalize i4=B at f ⊢;generalize ns.map D.int=NS at f ⊢;generalize NM nms=M at f ⊢;have it:evE (WT TT (k+1)) (.rng1 (.int 4)) (some (false,.lst NS)::some (false,M)::some (false,R)::some (true,.dct [])::some (true,.dct [])::x5::x6::r)=.ok .fz (.lst [.int ((0:Nat):Int),.int ((1:Nat):Int),.int ((2:Nat):Int),.int ((3:Nat):Int)]):=g;rw[s_for,it];exact f
structure Kn(W:WD)(R:D)(kc kk ko kf:List (Key×D))(n o:Int)(l f:D):Prop where
 dp:W.dp=true
 pR:plD R=true
 gc:GD vC 4 kc
 pk:plK kk=true
 po:plK ko=true
 pf:plK kf=true
 ol:okO l
 of:okO f
 w12:W.Ψ "worth_of" [.ins "Counts" [],.dct kc,R]=.ok .fz (.int n)
 w13:W.Ψ "worth_of" [.ins "Costs" [],.dct kk,R]=.ok .fz l
 w16:W.Ψ "worth_of" [.ins "Counts" [],.dct ko,R]=.ok .fz (.int o)
 w17:W.Ψ "worth_of" [.ins "Costs" [],.dct kf,R]=.ok .fz f
 c15:W.Φ "_law_count" [R,.dct ko]=.ok .fz (.int o)
 c17:W.Φ "_law_cost" [R,.dct kf]=.ok .fz f
 e0:W.Ψ "worth_of" [.ins "Counts" [],.dct kc,.tup []]=.ok .fz (.int 0)
 e1:W.Ψ "worth_of" [.ins "Costs" [],.dct kk,.tup []]=.ok .fz .non
 al:∀d,okO d->W.Φ "_law_alike" [d,d]=.ok .fz (.bl true)
def okO.plain{d:D}(h:okO d):jU d=true:=by rcases h with rfl|⟨i,rfl⟩ <;> rfl
def pA(g:GD vC n kc):plK kc=true:=GD.pl (λd h=>h.pl) g
section
variable {W:WD}{NS R:D}{kk ko kf kh:List (Key×D)}{n o:Int}{l f:D}{y5 y6:Option (Bool×D)}
def t18(K:Kn W R kc kk ko kf n o l f):evS W (.ite (.not (.tru (.call "_law_alike" 2 [(.frz (.ccl "valued" "kind" "kept" "worth_of" 16 [(.var 2)])),(.frz (.call "_law_count" 2 [(.var 2),(.var 15)]))]))) [.ret (.bl false)] []) [some (false,NS),some (false,M),some (false,R),some (false,.dct kc),some (false,.dct kk),y5,y6,some (false,.int n),some (false,l),some (true,.dct kh),some (false,.ins "Counts" []),some (false,.ins "Costs" []),some (false,clo (.ins "Counts" []) kc),some (false,clo (.ins "Costs" []) kk),some (false,clo (.ins "Counts" []) kc),some (false,.dct ko),some (false,clo (.ins "Counts" []) ko),some (false,clo (.ins "Costs" []) kf)]=.nx [some (false,NS),some (false,M),some (false,R),some (false,.dct kc),some (false,.dct kk),y5,y6,some (false,.int n),some (false,l),some (true,.dct kh),some (false,.ins "Counts" []),some (false,.ins "Costs" []),some (false,clo (.ins "Counts" []) kc),some (false,clo (.ins "Costs" []) kk),some (false,clo (.ins "Counts" []) kc),some (false,.dct ko),some (false,clo (.ins "Counts" []) ko),some (false,clo (.ins "Costs" []) kf)]:=by have q:=gW (m:=.fz) K.po K.pR K.w16 rfl;have c:=cF K.c15;have a:=cF (K.al (.int o) (.inr ⟨o,rfl⟩));have d:=K.dp;generalize clo (.ins "Counts" []) kc=z1 at *;generalize clo (.ins "Costs" []) kk=z2 at *;generalize clo (.ins "Counts" []) ko=z3 at *;generalize clo (.ins "Costs" []) kf=z4 at *;simp[d,q,c,a,cL]
def t19(K:Kn W R kc kk ko kf n o l f)(hf:∀ρ:Rho,ρ[1]? = some (some (false,M))->evE W (.disp [(.ix (.var 1) (.int 2)),(.ix (.var 1) (.int 1))] [(.int 0),(.int 1)]) ρ=.ok .fr (.dct kf)):evS W (.ite (.not (.tru (.call "_law_alike" 2 [(.frz (.ccl "valued" "kind" "kept" "worth_of" 17 [(.var 2)])),(.frz (.call "_law_cost" 2 [(.var 2),(.frz (.disp [(.ix (.var 1) (.int 2)),(.ix (.var 1) (.int 1))] [(.int 0),(.int 1)]))]))]))) [.ret (.bl false)] []) [some (false,NS),some (false,M),some (false,R),some (false,.dct kc),some (false,.dct kk),y5,y6,some (false,.int n),some (false,l),some (true,.dct kc),some (false,.ins "Counts" []),some (false,.ins "Costs" []),some (false,clo (.ins "Counts" []) kc),some (false,clo (.ins "Costs" []) kk),some (false,clo (.ins "Counts" []) kc),some (false,.dct ko),some (false,clo (.ins "Counts" []) ko),some (false,clo (.ins "Costs" []) kf)]=.nx [some (false,NS),some (false,M),some (false,R),some (false,.dct kc),some (false,.dct kk),y5,y6,some (false,.int n),some (false,l),some (true,.dct kc),some (false,.ins "Counts" []),some (false,.ins "Costs" []),some (false,clo (.ins "Counts" []) kc),some (false,clo (.ins "Costs" []) kk),some (false,clo (.ins "Counts" []) kc),some (false,.dct ko),some (false,clo (.ins "Counts" []) ko),some (false,clo (.ins "Costs" []) kf)]:=by have q:=gW (m:=.fz) K.pf K.pR K.w17 K.of.plain;have c:=cF K.c17;have a:=cF (K.al f K.of);have d:=K.dp;have hd:evE W (.disp [(.ix (.var 1) (.int 2)),(.ix (.var 1) (.int 1))] [(.int 0),(.int 1)]) [some (false,NS),some (false,M),some (false,R),some (false,.dct kc),some (false,.dct kk),y5,y6,some (false,.int n),some (false,l),some (true,.dct kc),some (false,.ins "Counts" []),some (false,.ins "Costs" []),some (false,clo (.ins "Counts" []) kc),some (false,clo (.ins "Costs" []) kk),some (false,clo (.ins "Counts" []) kc),some (false,.dct ko),some (false,clo (.ins "Counts" []) ko),some (false,clo (.ins "Costs" []) kf)]=.ok .fr (.dct kf):=hf _ rfl;generalize clo (.ins "Counts" []) kc=z1 at *;generalize clo (.ins "Costs" []) kk=z2 at *;generalize clo (.ins "Counts" []) ko=z3 at *;generalize clo (.ins "Costs" []) kf=z4 at *;generalize E.disp [(.ix (.var 1) (.int 2)),(.ix (.var 1) (.int 1))] [(.int 0),(.int 1)]=ED at *;simp[d,q,c,a,hd,cL]
def t20(K:Kn W R kc kk ko kf n o l f):evS W (.ite (.orL [(.not (.tru (.call "_law_alike" 2 [(.frz (.ccl "valued" "kind" "kept" "worth_of" 12 [(.var 2)])),(.var 7)]))),(.not (.tru (.call "_law_alike" 2 [(.frz (.ccl "valued" "kind" "kept" "worth_of" 13 [(.var 2)])),(.var 8)]))),(.deq true (.var 9) (.var 3))]) [.ret (.bl false)] []) [some (false,NS),some (false,M),some (false,R),some (false,.dct kc),some (false,.dct kk),y5,y6,some (false,.int n),some (false,l),some (true,.dct kc),some (false,.ins "Counts" []),some (false,.ins "Costs" []),some (false,clo (.ins "Counts" []) kc),some (false,clo (.ins "Costs" []) kk),some (false,clo (.ins "Counts" []) kc),some (false,.dct ko),some (false,clo (.ins "Counts" []) ko),some (false,clo (.ins "Costs" []) kf)]=.nx [some (false,NS),some (false,M),some (false,R),some (false,.dct kc),some (false,.dct kk),y5,y6,some (false,.int n),some (false,l),some (true,.dct kc),some (false,.ins "Counts" []),some (false,.ins "Costs" []),some (false,clo (.ins "Counts" []) kc),some (false,clo (.ins "Costs" []) kk),some (false,clo (.ins "Counts" []) kc),some (false,.dct ko),some (false,clo (.ins "Counts" []) ko),some (false,clo (.ins "Costs" []) kf)]:=by have q1:=gW (m:=.fz) (pA K.gc) K.pR K.w12 rfl;have q2:=gW (m:=.fz) K.pk K.pR K.w13 K.ol.plain;have a1:=cF (K.al (.int n) (.inr ⟨n,rfl⟩));have a2:=cF (K.al l K.ol);have d:=K.dp;have e:=aQE K.gc (m:=.bo) (m':=.fz);generalize clo (.ins "Counts" []) kc=z1 at *;generalize clo (.ins "Costs" []) kk=z2 at *;generalize clo (.ins "Counts" []) ko=z3 at *;generalize clo (.ins "Costs" []) kf=z4 at *;simp[d,q1,q2,a1,a2,e,cL]
def t22(K:Kn W R kc kk ko kf n o l f):evS W (.ite (.orL [(.not (.tru (.call "_law_alike" 2 [(.frz (.ccl "valued" "kind" "kept" "worth_of" 12 [(.var 2)])),(.var 7)]))),(.not (.tru (.call "_law_alike" 2 [(.frz (.ccl "valued" "kind" "kept" "worth_of" 13 [(.var 2)])),(.var 8)])))]) [.ret (.bl false)] []) [some (false,NS),some (false,M),some (false,R),some (false,.dct kc),some (false,.dct kk),y5,y6,some (false,.int n),some (false,l),some (true,.dct kh),some (false,.ins "Counts" []),some (false,.ins "Costs" []),some (false,clo (.ins "Counts" []) kc),some (false,clo (.ins "Costs" []) kk),some (false,clo (.ins "Counts" []) kc),some (false,.dct ko),some (false,clo (.ins "Counts" []) ko),some (false,clo (.ins "Costs" []) kf)]=.nx [some (false,NS),some (false,M),some (false,R),some (false,.dct kc),some (false,.dct kk),y5,y6,some (false,.int n),some (false,l),some (true,.dct kh),some (false,.ins "Counts" []),some (false,.ins "Costs" []),some (false,clo (.ins "Counts" []) kc),some (false,clo (.ins "Costs" []) kk),some (false,clo (.ins "Counts" []) kc),some (false,.dct ko),some (false,clo (.ins "Counts" []) ko),some (false,clo (.ins "Costs" []) kf)]:=by have q1:=gW (m:=.fz) (pA K.gc) K.pR K.w12 rfl;have q2:=gW (m:=.fz) K.pk K.pR K.w13 K.ol.plain;have a1:=cF (K.al (.int n) (.inr ⟨n,rfl⟩));have a2:=cF (K.al l K.ol);have d:=K.dp;generalize clo (.ins "Counts" []) kc=z1 at *;generalize clo (.ins "Costs" []) kk=z2 at *;generalize clo (.ins "Counts" []) ko=z3 at *;generalize clo (.ins "Costs" []) kf=z4 at *;simp[d,q1,q2,a1,a2,cL]
def t23(K:Kn W R kc kk ko kf n o l f):evS W (.ite (.not (.tru (.call "_law_alike" 2 [(.frz (.ccl "valued" "kind" "kept" "worth_of" 16 [(.var 2)])),(.frz (.call "_law_count" 2 [(.var 2),(.var 15)]))]))) [.ret (.bl false)] []) [some (false,NS),some (false,M),some (false,R),some (false,.dct kc),some (false,.dct kk),y5,y6,some (false,.int n),some (false,l),some (true,.dct kh),some (false,.ins "Counts" []),some (false,.ins "Costs" []),some (false,clo (.ins "Counts" []) kc),some (false,clo (.ins "Costs" []) kk),some (false,clo (.ins "Counts" []) kc),some (false,.dct ko),some (false,clo (.ins "Counts" []) ko),some (false,clo (.ins "Costs" []) kf)]=.nx [some (false,NS),some (false,M),some (false,R),some (false,.dct kc),some (false,.dct kk),y5,y6,some (false,.int n),some (false,l),some (true,.dct kh),some (false,.ins "Counts" []),some (false,.ins "Costs" []),some (false,clo (.ins "Counts" []) kc),some (false,clo (.ins "Costs" []) kk),some (false,clo (.ins "Counts" []) kc),some (false,.dct ko),some (false,clo (.ins "Counts" []) ko),some (false,clo (.ins "Costs" []) kf)]:=by exact t18 K
def t24(K:Kn W R kc kk ko kf n o l f):evB W [.ret (.andL [(.call "_law_alike" 2 [(.frz (.ccl "valued" "kind" "kept" "worth_of" 14 [(.var 2)])),(.var 7)]),(.call "_law_alike" 2 [(.frz (.ccl "valued" "kind" "kept" "worth_of" 12 [(.tup [])])),(.int 0)]),(.cmp .Is (.ccl "valued" "kind" "kept" "worth_of" 13 [(.tup [])]) .non)])] [some (false,NS),some (false,M),some (false,R),some (false,.dct kc),some (false,.dct kk),y5,y6,some (false,.int n),some (false,l),some (true,.dct kh),some (false,.ins "Counts" []),some (false,.ins "Costs" []),some (false,clo (.ins "Counts" []) kc),some (false,clo (.ins "Costs" []) kk),some (false,clo (.ins "Counts" []) kc),some (false,.dct ko),some (false,clo (.ins "Counts" []) ko),some (false,clo (.ins "Costs" []) kf)]=.rt .fz (.bl true):=by have q1:=gW (m:=.fz) (pA K.gc) K.pR K.w12 rfl;have q2:=gW (m:=.fz) (pA K.gc) rfl K.e0 rfl;have q3:=gW (m:=.fz) K.pk rfl K.e1 rfl;have a1:=cF (K.al (.int n) (.inr ⟨n,rfl⟩));have a2:=cF (K.al (.int 0) (.inr ⟨0,rfl⟩));have d:=K.dp;have tp:hC (.ok [])=.ok .fz (.tup []):=rfl;have nn:cJ .non=true:=rfl;generalize clo (.ins "Counts" []) kc=z1 at *;generalize clo (.ins "Costs" []) kk=z2 at *;generalize clo (.ins "Counts" []) ko=z3 at *;generalize clo (.ins "Costs" []) kf=z4 at *;simp[d,q1,q2,q3,a1,a2,tp,nn,cL]
end
section
variable {W:WD}{NS R:D}{kk ko kf kh:List (Key×D)}{n o:Int}{l f:D}{y5 y6:Option (Bool×D)}
def u7(h:W.Φ "_law_count" [R,.dct kc]=.ok .fz (.int n)):evS W (.set 7 (.frz (.call "_law_count" 2 [(.var 2),(.var 3)]))) [some (false,NS),some (false,M),some (false,R),some (false,.dct kc),some (false,.dct kk),y5,y6,none,none,none,none,none,none,none,none,none,none,none]=.nx [some (false,NS),some (false,M),some (false,R),some (false,.dct kc),some (false,.dct kk),y5,y6,some (false,.int n),none,none,none,none,none,none,none,none,none,none]:=by have h:=cF h;simp[h,cL]
def u8(h:W.Φ "_law_cost" [R,.dct kk]=.ok .fz l):evS W (.set 8 (.frz (.call "_law_cost" 2 [(.var 2),(.var 4)]))) [some (false,NS),some (false,M),some (false,R),some (false,.dct kc),some (false,.dct kk),y5,y6,some (false,.int n),none,none,none,none,none,none,none,none,none,none]=.nx [some (false,NS),some (false,M),some (false,R),some (false,.dct kc),some (false,.dct kk),y5,y6,some (false,.int n),some (false,l),none,none,none,none,none,none,none,none,none]:=by have h:=cF h;simp[h,cL]
def u9:evS W (.set 9 (.tcall .dict [(.var 3)])) [some (false,NS),some (false,M),some (false,R),some (false,.dct kc),some (false,.dct kk),y5,y6,some (false,.int n),some (false,l),none,none,none,none,none,none,none,none,none]=.nx [some (false,NS),some (false,M),some (false,R),some (false,.dct kc),some (false,.dct kk),y5,y6,some (false,.int n),some (false,l),some (true,.dct kc),none,none,none,none,none,none,none,none]:=by have h:eE lG (.ok [(.fz,.dct kc)])=.ok .fr (.dct kc):=rfl;simp[h,cL]
def u10:evS W (.set 10 (.frz (.mk0 "Counts"))) [some (false,NS),some (false,M),some (false,R),some (false,.dct kc),some (false,.dct kk),y5,y6,some (false,.int n),some (false,l),some (true,.dct kc),none,none,none,none,none,none,none,none]=.nx [some (false,NS),some (false,M),some (false,R),some (false,.dct kc),some (false,.dct kk),y5,y6,some (false,.int n),some (false,l),some (true,.dct kc),some (false,.ins "Counts" []),none,none,none,none,none,none,none]:=by simp[cL]
def u11:evS W (.set 11 (.frz (.mk0 "Costs"))) [some (false,NS),some (false,M),some (false,R),some (false,.dct kc),some (false,.dct kk),y5,y6,some (false,.int n),some (false,l),some (true,.dct kc),some (false,.ins "Counts" []),none,none,none,none,none,none,none]=.nx [some (false,NS),some (false,M),some (false,R),some (false,.dct kc),some (false,.dct kk),y5,y6,some (false,.int n),some (false,l),some (true,.dct kc),some (false,.ins "Counts" []),some (false,.ins "Costs" []),none,none,none,none,none,none]:=by simp[cL]
def u12(d:W.dp=true):evS W (.set 12 (.frz (.mkc "valued" "kind" "kept" [(.frz (.var 10)),(.var 9)]))) [some (false,NS),some (false,M),some (false,R),some (false,.dct kc),some (false,.dct kk),y5,y6,some (false,.int n),some (false,l),some (true,.dct kc),some (false,.ins "Counts" []),some (false,.ins "Costs" []),none,none,none,none,none,none]=.nx [some (false,NS),some (false,M),some (false,R),some (false,.dct kc),some (false,.dct kk),y5,y6,some (false,.int n),some (false,l),some (true,.dct kc),some (false,.ins "Counts" []),some (false,.ins "Costs" []),some (false,clo (.ins "Counts" []) kc),none,none,none,none,none]:=by have h:=mS (c := "Counts") (kvs:=kc) (m:=.bo);have c2:∀{m:Md}{d:D}{as:List (Md×D)},bP (.ok m d) (.ok as)=.ok ((m,d)::as):=rfl;generalize clo (.ins "Counts" []) kc=z1 at *;simp[d,h,c2]
def u13(d:W.dp=true):evS W (.set 13 (.frz (.mkc "valued" "kind" "kept" [(.frz (.var 11)),(.var 4)]))) [some (false,NS),some (false,M),some (false,R),some (false,.dct kc),some (false,.dct kk),y5,y6,some (false,.int n),some (false,l),some (true,.dct kc),some (false,.ins "Counts" []),some (false,.ins "Costs" []),some (false,clo (.ins "Counts" []) kc),none,none,none,none,none]=.nx [some (false,NS),some (false,M),some (false,R),some (false,.dct kc),some (false,.dct kk),y5,y6,some (false,.int n),some (false,l),some (true,.dct kc),some (false,.ins "Counts" []),some (false,.ins "Costs" []),some (false,clo (.ins "Counts" []) kc),some (false,clo (.ins "Costs" []) kk),none,none,none,none]:=by have h:=mS (c := "Costs") (kvs:=kk) (m:=.fz);have c2:∀{m:Md}{d:D}{as:List (Md×D)},bP (.ok m d) (.ok as)=.ok ((m,d)::as):=rfl;generalize clo (.ins "Counts" []) kc=z1 at *;generalize clo (.ins "Costs" []) kk=z2 at *;simp[d,h,c2]
def u14(d:W.dp=true):evS W (.set 14 (.frz (.mkc "valued" "kind" "kept" [(.frz (.mk0 "Counts")),(.var 9)]))) [some (false,NS),some (false,M),some (false,R),some (false,.dct kc),some (false,.dct kk),y5,y6,some (false,.int n),some (false,l),some (true,.dct kc),some (false,.ins "Counts" []),some (false,.ins "Costs" []),some (false,clo (.ins "Counts" []) kc),some (false,clo (.ins "Costs" []) kk),none,none,none,none]=.nx [some (false,NS),some (false,M),some (false,R),some (false,.dct kc),some (false,.dct kk),y5,y6,some (false,.int n),some (false,l),some (true,.dct kc),some (false,.ins "Counts" []),some (false,.ins "Costs" []),some (false,clo (.ins "Counts" []) kc),some (false,clo (.ins "Costs" []) kk),some (false,clo (.ins "Counts" []) kc),none,none,none]:=by have h:=mS (c := "Counts") (kvs:=kc) (m:=.bo);have c2:∀{m:Md}{d:D}{as:List (Md×D)},bP (.ok m d) (.ok as)=.ok ((m,d)::as):=rfl;generalize clo (.ins "Counts" []) kc=z1 at *;generalize clo (.ins "Costs" []) kk=z2 at *;simp[d,h,c2]
def u15(ho:∀ρ:Rho,ρ[1]? = some (some (false,M))->ρ[3]? = some (some (false,.dct kc))->evE W (.disp [(.ix (.var 1) (.int 3)),(.ix (.var 1) (.int 0))] [(.int 2),(.bin .Add (.int 1) (.dget (.var 3) (.ix (.var 1) (.int 0)) (.int 0)))]) ρ=.ok .fr (.dct ko)):evS W (.set 15 (.frz (.disp [(.ix (.var 1) (.int 3)),(.ix (.var 1) (.int 0))] [(.int 2),(.bin .Add (.int 1) (.dget (.var 3) (.ix (.var 1) (.int 0)) (.int 0)))]))) [some (false,NS),some (false,M),some (false,R),some (false,.dct kc),some (false,.dct kk),y5,y6,some (false,.int n),some (false,l),some (true,.dct kc),some (false,.ins "Counts" []),some (false,.ins "Costs" []),some (false,clo (.ins "Counts" []) kc),some (false,clo (.ins "Costs" []) kk),some (false,clo (.ins "Counts" []) kc),none,none,none]=.nx [some (false,NS),some (false,M),some (false,R),some (false,.dct kc),some (false,.dct kk),y5,y6,some (false,.int n),some (false,l),some (true,.dct kc),some (false,.ins "Counts" []),some (false,.ins "Costs" []),some (false,clo (.ins "Counts" []) kc),some (false,clo (.ins "Costs" []) kk),some (false,clo (.ins "Counts" []) kc),some (false,.dct ko),none,none]:=by have h:evE W (.disp [(.ix (.var 1) (.int 3)),(.ix (.var 1) (.int 0))] [(.int 2),(.bin .Add (.int 1) (.dget (.var 3) (.ix (.var 1) (.int 0)) (.int 0)))]) [some (false,NS),some (false,M),some (false,R),some (false,.dct kc),some (false,.dct kk),y5,y6,some (false,.int n),some (false,l),some (true,.dct kc),some (false,.ins "Counts" []),some (false,.ins "Costs" []),some (false,clo (.ins "Counts" []) kc),some (false,clo (.ins "Costs" []) kk),some (false,clo (.ins "Counts" []) kc),none,none,none]=.ok .fr (.dct ko):=ho _ rfl rfl;generalize clo (.ins "Counts" []) kc=z1 at *;generalize clo (.ins "Costs" []) kk=z2 at *;generalize E.disp [(.ix (.var 1) (.int 3)),(.ix (.var 1) (.int 0))] [(.int 2),(.bin .Add (.int 1) (.dget (.var 3) (.ix (.var 1) (.int 0)) (.int 0)))]=ED at *;simp[h]
def u16(d:W.dp=true):evS W (.set 16 (.frz (.mkc "valued" "kind" "kept" [(.frz (.var 10)),(.var 15)]))) [some (false,NS),some (false,M),some (false,R),some (false,.dct kc),some (false,.dct kk),y5,y6,some (false,.int n),some (false,l),some (true,.dct kc),some (false,.ins "Counts" []),some (false,.ins "Costs" []),some (false,clo (.ins "Counts" []) kc),some (false,clo (.ins "Costs" []) kk),some (false,clo (.ins "Counts" []) kc),some (false,.dct ko),none,none]=.nx [some (false,NS),some (false,M),some (false,R),some (false,.dct kc),some (false,.dct kk),y5,y6,some (false,.int n),some (false,l),some (true,.dct kc),some (false,.ins "Counts" []),some (false,.ins "Costs" []),some (false,clo (.ins "Counts" []) kc),some (false,clo (.ins "Costs" []) kk),some (false,clo (.ins "Counts" []) kc),some (false,.dct ko),some (false,clo (.ins "Counts" []) ko),none]:=by have h:=mS (c := "Counts") (kvs:=ko) (m:=.fz);have c2:∀{m:Md}{d:D}{as:List (Md×D)},bP (.ok m d) (.ok as)=.ok ((m,d)::as):=rfl;generalize clo (.ins "Counts" []) kc=z1 at *;generalize clo (.ins "Costs" []) kk=z2 at *;generalize clo (.ins "Counts" []) ko=z3 at *;simp[d,h,c2]
def u17(d:W.dp=true)(hf:∀ρ:Rho,ρ[1]? = some (some (false,M))->evE W (.disp [(.ix (.var 1) (.int 2)),(.ix (.var 1) (.int 1))] [(.int 0),(.int 1)]) ρ=.ok .fr (.dct kf)):evS W (.set 17 (.frz (.mkc "valued" "kind" "kept" [(.frz (.var 11)),(.disp [(.ix (.var 1) (.int 2)),(.ix (.var 1) (.int 1))] [(.int 0),(.int 1)])]))) [some (false,NS),some (false,M),some (false,R),some (false,.dct kc),some (false,.dct kk),y5,y6,some (false,.int n),some (false,l),some (true,.dct kc),some (false,.ins "Counts" []),some (false,.ins "Costs" []),some (false,clo (.ins "Counts" []) kc),some (false,clo (.ins "Costs" []) kk),some (false,clo (.ins "Counts" []) kc),some (false,.dct ko),some (false,clo (.ins "Counts" []) ko),none]=.nx [some (false,NS),some (false,M),some (false,R),some (false,.dct kc),some (false,.dct kk),y5,y6,some (false,.int n),some (false,l),some (true,.dct kc),some (false,.ins "Counts" []),some (false,.ins "Costs" []),some (false,clo (.ins "Counts" []) kc),some (false,clo (.ins "Costs" []) kk),some (false,clo (.ins "Counts" []) kc),some (false,.dct ko),some (false,clo (.ins "Counts" []) ko),some (false,clo (.ins "Costs" []) kf)]:=by have hd:evE W (.disp [(.ix (.var 1) (.int 2)),(.ix (.var 1) (.int 1))] [(.int 0),(.int 1)]) [some (false,NS),some (false,M),some (false,R),some (false,.dct kc),some (false,.dct kk),y5,y6,some (false,.int n),some (false,l),some (true,.dct kc),some (false,.ins "Counts" []),some (false,.ins "Costs" []),some (false,clo (.ins "Counts" []) kc),some (false,clo (.ins "Costs" []) kk),some (false,clo (.ins "Counts" []) kc),some (false,.dct ko),some (false,clo (.ins "Counts" []) ko),none]=.ok .fr (.dct kf):=hf _ rfl;have h:=mS (c := "Costs") (kvs:=kf) (m:=.fr);have c2:∀{m:Md}{d:D}{as:List (Md×D)},bP (.ok m d) (.ok as)=.ok ((m,d)::as):=rfl;generalize clo (.ins "Counts" []) kc=z1 at *;generalize clo (.ins "Costs" []) kk=z2 at *;generalize clo (.ins "Counts" []) ko=z3 at *;generalize clo (.ins "Costs" []) kf=z4 at *;generalize E.disp [(.ix (.var 1) (.int 2)),(.ix (.var 1) (.int 1))] [(.int 0),(.int 1)]=ED at *;simp[d,hd,h,c2]
def t21(h4:GD vC 4 kc)(hx:op2 ixD (.ok .fz M) (.ok .fz (.int 0))=.ok .fz (.str x)):∃kh,evS W (.dput 9 (.ix (.var 1) (.int 0)) (.bin .Add (.int 5) (.dget (.var 3) (.ix (.var 1) (.int 0)) (.int 0)))) [some (false,NS),some (false,M),some (false,R),some (false,.dct kc),some (false,.dct kk),y5,y6,some (false,.int n),some (false,l),some (true,.dct kc),some (false,.ins "Counts" []),some (false,.ins "Costs" []),some (false,clo (.ins "Counts" []) kc),some (false,clo (.ins "Costs" []) kk),some (false,clo (.ins "Counts" []) kc),some (false,.dct ko),some (false,clo (.ins "Counts" []) ko),some (false,clo (.ins "Costs" []) kf)]=.nx [some (false,NS),some (false,M),some (false,R),some (false,.dct kc),some (false,.dct kk),y5,y6,some (false,.int n),some (false,l),some (true,.dct kh),some (false,.ins "Counts" []),some (false,.ins "Costs" []),some (false,clo (.ins "Counts" []) kc),some (false,clo (.ins "Costs" []) kk),some (false,clo (.ins "Counts" []) kc),some (false,.dct ko),some (false,clo (.ins "Counts" []) ko),some (false,clo (.ins "Costs" []) kf)]:=by
 obtain⟨i,hi,_⟩:vC (wg kc (.int 0) x):=h4.wg ⟨0,rfl,by decide,by decide⟩ x
 have d:=dg (kvs:=kc) (x:=x) (d:=.int 0) (m:=.fz) (m':=.fz);rw[hi]at d;refine⟨bH kc (.inr x) (.int (5+i)),?_⟩;have p:=uN (ρ:=[some (false,NS),some (false,M),some (false,R),some (false,.dct kc),some (false,.dct kk),y5,y6,some (false,.int n),some (false,l),some (true,.dct kc),some (false,.ins "Counts" []),some (false,.ins "Costs" []),some (false,clo (.ins "Counts" []) kc),some (false,clo (.ins "Costs" []) kk),some (false,clo (.ins "Counts" []) kc),some (false,.dct ko),some (false,clo (.ins "Counts" []) ko),some (false,clo (.ins "Costs" []) kf)]) (i:=9) (kvs:=kc) (x:=x) (d:=.int (5+i)) (m:=.fz) rfl (aQR h4.len (by decide))
 generalize clo (.ins "Counts" []) kc=z1 at *;generalize clo (.ins "Costs" []) kk=z2 at *;generalize clo (.ins "Counts" []) ko=z3 at *;generalize clo (.ins "Costs" []) kf=z4 at *;simp[hx,d,p]
def rest{NS R:D}(K:Kn W R kc kk ko kf n o l f)(hx:op2 ixD (.ok .fz M) (.ok .fz (.int 0))=.ok .fz (.str x))(c7:W.Φ "_law_count" [R,.dct kc]=.ok .fz (.int n))(c8:W.Φ "_law_cost" [R,.dct kk]=.ok .fz l)(ho:∀ρ:Rho,ρ[1]? = some (some (false,M))->ρ[3]? = some (some (false,.dct kc))->evE W (.disp [(.ix (.var 1) (.int 3)),(.ix (.var 1) (.int 0))] [(.int 2),(.bin .Add (.int 1) (.dget (.var 3) (.ix (.var 1) (.int 0)) (.int 0)))]) ρ=.ok .fr (.dct ko))(hf:∀ρ:Rho,ρ[1]? = some (some (false,M))->evE W (.disp [(.ix (.var 1) (.int 2)),(.ix (.var 1) (.int 1))] [(.int 0),(.int 1)]) ρ=.ok .fr (.dct kf)):evB W (tB.drop 7) [some (false,NS),some (false,M),some (false,R),some (false,.dct kc),some (false,.dct kk),y5,y6,none,none,none,none,none,none,none,none,none,none,none]=.rt .fz (.bl true):=by obtain⟨kh,e⟩:=t21 (W:=W) (NS:=NS) (M:=M) (R:=R) (kc:=kc) (kk:=kk) (ko:=ko) (kf:=kf) (n:=n) (l:=l) (y5:=y5) (y6:=y6) K.gc hx;show evB W [(.set 7 (.frz (.call "_law_count" 2 [(.var 2),(.var 3)]))),(.set 8 (.frz (.call "_law_cost" 2 [(.var 2),(.var 4)]))),(.set 9 (.tcall .dict [(.var 3)])),(.set 10 (.frz (.mk0 "Counts"))),(.set 11 (.frz (.mk0 "Costs"))),(.set 12 (.frz (.mkc "valued" "kind" "kept" [(.frz (.var 10)),(.var 9)]))),(.set 13 (.frz (.mkc "valued" "kind" "kept" [(.frz (.var 11)),(.var 4)]))),(.set 14 (.frz (.mkc "valued" "kind" "kept" [(.frz (.mk0 "Counts")),(.var 9)]))),(.set 15 (.frz (.disp [(.ix (.var 1) (.int 3)),(.ix (.var 1) (.int 0))] [(.int 2),(.bin .Add (.int 1) (.dget (.var 3) (.ix (.var 1) (.int 0)) (.int 0)))]))),(.set 16 (.frz (.mkc "valued" "kind" "kept" [(.frz (.var 10)),(.var 15)]))),(.set 17 (.frz (.mkc "valued" "kind" "kept" [(.frz (.var 11)),(.disp [(.ix (.var 1) (.int 2)),(.ix (.var 1) (.int 1))] [(.int 0),(.int 1)])]))),(.ite (.not (.tru (.call "_law_alike" 2 [(.frz (.ccl "valued" "kind" "kept" "worth_of" 16 [(.var 2)])),(.frz (.call "_law_count" 2 [(.var 2),(.var 15)]))]))) [.ret (.bl false)] []),(.ite (.not (.tru (.call "_law_alike" 2 [(.frz (.ccl "valued" "kind" "kept" "worth_of" 17 [(.var 2)])),(.frz (.call "_law_cost" 2 [(.var 2),(.frz (.disp [(.ix (.var 1) (.int 2)),(.ix (.var 1) (.int 1))] [(.int 0),(.int 1)]))]))]))) [.ret (.bl false)] []),(.ite (.orL [(.not (.tru (.call "_law_alike" 2 [(.frz (.ccl "valued" "kind" "kept" "worth_of" 12 [(.var 2)])),(.var 7)]))),(.not (.tru (.call "_law_alike" 2 [(.frz (.ccl "valued" "kind" "kept" "worth_of" 13 [(.var 2)])),(.var 8)]))),(.deq true (.var 9) (.var 3))]) [.ret (.bl false)] []),(.dput 9 (.ix (.var 1) (.int 0)) (.bin .Add (.int 5) (.dget (.var 3) (.ix (.var 1) (.int 0)) (.int 0)))),(.ite (.orL [(.not (.tru (.call "_law_alike" 2 [(.frz (.ccl "valued" "kind" "kept" "worth_of" 12 [(.var 2)])),(.var 7)]))),(.not (.tru (.call "_law_alike" 2 [(.frz (.ccl "valued" "kind" "kept" "worth_of" 13 [(.var 2)])),(.var 8)])))]) [.ret (.bl false)] []),(.ite (.not (.tru (.call "_law_alike" 2 [(.frz (.ccl "valued" "kind" "kept" "worth_of" 16 [(.var 2)])),(.frz (.call "_law_count" 2 [(.var 2),(.var 15)]))]))) [.ret (.bl false)] []),(.ret (.andL [(.call "_law_alike" 2 [(.frz (.ccl "valued" "kind" "kept" "worth_of" 14 [(.var 2)])),(.var 7)]),(.call "_law_alike" 2 [(.frz (.ccl "valued" "kind" "kept" "worth_of" 12 [(.tup [])])),(.int 0)]),(.cmp .Is (.ccl "valued" "kind" "kept" "worth_of" 13 [(.tup [])]) .non)]))] _=_;rw[bL (u7 c7),bL (u8 c8),bL u9,bL u10,bL u11,bL (u12 K.dp),bL (u13 K.dp),bL (u14 K.dp),bL (u15 ho),bL (u16 K.dp),bL (u17 K.dp hf),bL (t18 K),bL (t19 K hf),bL (t20 K),bL e,bL (t22 K),bL (t23 K)];exact t24 K
end
theorem pB(h4:nms.length=4)(i:Nat)(hi:i<4):∃x:Str,∀m m':Md,op2 ixD (.ok m (NM nms)) (.ok m' (.int (i:Int)))=.ok .fz (.str x):=by
 refine⟨nms[i]'(by lia),λm m'=>?_⟩
 have:(nms.map D.str)[i]? = some (.str (nms[i]'(by lia))):=by simp[show i<nms.length by lia]
 exact f9 (jD this)
def gs{d:D}(h:ρ[i]? = some (some (false,d))):cM ρ i=.ok .fz d:=by unfold cM;rw[h]
def disp1{W:WD}{x3 x0:Str}(h3:∀m m':Md,op2 ixD (.ok m M) (.ok m' (.int 3))=.ok .fz (.str x3))(h0:∀m m':Md,op2 ixD (.ok m M) (.ok m' (.int 0))=.ok .fz (.str x0)){i:Int}(hi:wg kc (.int 0) x0=.int i):∀ρ:Rho,ρ[1]? = some (some (false,M))->ρ[3]? = some (some (false,.dct kc))->evE W (.disp [(.ix (.var 1) (.int 3)),(.ix (.var 1) (.int 0))] [(.int 2),(.bin .Add (.int 1) (.dget (.var 3) (.ix (.var 1) (.int 0)) (.int 0)))]) ρ=.ok .fr (.dct (bH (bH [] (.inr x3) (.int 2)) (.inr x0) (.int (1+i)))):=λρ r1 r3=>by
 have g1:=gs r1;have g3:=gs r3;have a:evE W (.ix (.var 1) (.int 3)) ρ=.ok .fz (.str x3):=by simp[g1,h3]
 have b:evE W (.ix (.var 1) (.int 0)) ρ=.ok .fz (.str x0):=by simp[g1,h0]
 have d:=dg (kvs:=kc) (x:=x0) (d:=.int 0) (m:=.fz) (m':=.fz);rw[hi]at d;have c:evE W (.bin .Add (.int 1) (.dget (.var 3) (.ix (.var 1) (.int 0)) (.int 0))) ρ=.ok .fz (.int (1+i)):=by simp[g1,g3,h0,d]
 show dH ρ [(evE W (.ix (.var 1) (.int 3)),evE W (.int 2)),(evE W (.ix (.var 1) (.int 0)),evE W (.bin .Add (.int 1) (.dget (.var 3) (.ix (.var 1) (.int 0)) (.int 0))))] []=_;unfold dH;rw[a];show dH ρ [(evE W (.ix (.var 1) (.int 0)),evE W (.bin .Add (.int 1) (.dget (.var 3) (.ix (.var 1) (.int 0)) (.int 0))))] [(.inr x3,.int 2)]=_;unfold dH;rw[b,c];rfl
def disp2{W:WD}{x2 x1:Str}(h2:∀m m':Md,op2 ixD (.ok m M) (.ok m' (.int 2))=.ok .fz (.str x2))(h1:∀m m':Md,op2 ixD (.ok m M) (.ok m' (.int 1))=.ok .fz (.str x1)):∀ρ:Rho,ρ[1]? = some (some (false,M))->evE W (.disp [(.ix (.var 1) (.int 2)),(.ix (.var 1) (.int 1))] [(.int 0),(.int 1)]) ρ=.ok .fr (.dct (bH (bH [] (.inr x2) (.int 0)) (.inr x1) (.int 1))):=λρ r1=>by
 have g1:=gs r1;have a:evE W (.ix (.var 1) (.int 2)) ρ=.ok .fz (.str x2):=by simp[g1,h2]
 have b:evE W (.ix (.var 1) (.int 1)) ρ=.ok .fz (.str x1):=by simp[g1,h1]
 show dH ρ [(evE W (.ix (.var 1) (.int 2)),evE W (.int 0)),(evE W (.ix (.var 1) (.int 1)),evE W (.int 1))] []=_;unfold dH;rw[a];show dH ρ [(evE W (.ix (.var 1) (.int 1)),evE W (.int 1))] [(.inr x2,.int 0)]=_;unfold dH;rw[b];rfl
def v0{W:WD}{ns:List Int}{c:Int}(h1:aY 2 (W.Φ "_law_cell_at") (.ok [(.fz,.lst (ns.map .int)),(.fz,.int 0)])=.ok .fz (.int c))(h2:aY 2 (W.Φ "_law_names") (.ok [(.fz,.int c),(.fz,.int 4)])=.ok .fr (NM nms)):evS W (.set 1 (.frz (.call "_law_names" 2 [(.frz (.call "_law_cell_at" 2 [(.var 0),(.int 0)])),(.int 4)]))) [some (false,.lst (ns.map .int)),none,none,none,none,none,none,none,none,none,none,none,none,none,none,none,none,none]=.nx [some (false,.lst (ns.map .int)),some (false,NM nms),none,none,none,none,none,none,none,none,none,none,none,none,none,none,none,none]:=by generalize ns.map D.int=NS at *;have fr:aW (.ok .fr (NM nms))=.ok .fz (NM nms):=rfl;generalize NM nms=M at *;simp[h1,h2,fr,cL]
def v1{W:WD}{ns cs:List Int}{R:D}(hc:D3.eV (ns.map .int) (some 5) (some 45)=cs.map .int)(h:aY 2 (W.Φ "_law_reason") (.ok [(.fz,.lst (cs.map .int)),(.fz,NM nms)])=.ok .fz R):evS W (.set 2 (.frz (.call "_law_reason" 2 [(.frz (.slice (.var 0) (some (.int 5)) (some (.int 45)))),(.var 1)]))) [some (false,.lst (ns.map .int)),some (false,NM nms),none,none,none,none,none,none,none,none,none,none,none,none,none,none,none,none]=.nx [some (false,.lst (ns.map .int)),some (false,NM nms),some (false,R),none,none,none,none,none,none,none,none,none,none,none,none,none,none,none]:=by
 have e:evE W (.slice (.var 0) (some (.int 5)) (some (.int 45))) [some (false,.lst (ns.map .int)),some (false,NM nms),none,none,none,none,none,none,none,none,none,none,none,none,none,none,none,none]=.ok .fr (.lst (cs.map .int)):=by rw[<- hc];exact aPX (m:=.fz) (m1:=.fz) (m2:=.fz) rfl rfl
 have fr:aW (.ok .fr (.lst (cs.map D.int)))=.ok .fz (.lst (cs.map D.int)):=rfl;generalize ns.map D.int=NS at *;generalize cs.map D.int=CS at *;generalize NM nms=M at *;generalize E.slice (.var 0) (some (.int 5)) (some (.int 45))=ES at *;simp[e,fr,h,cL]
theorem aQF(ns:List Int)(h:ns.length<=63):(WT TT 21).Φ ("law":Str) (k7 ns)=.ok .fz (.bl true):=by
 have c0:=aB9 19 ns (i:=0) (by decide)
 obtain⟨nms,h4,hN,hd,en⟩:=names (k:=19) (ce ns 0);have en:=aPZ en;obtain⟨cs,lc,ec⟩:=aPW (ns:=ns) (lo:=some 5) (hi:=some 45);obtain⟨S,lS,hS,eS⟩:=aP2 (k:=16) h4 cs (by lia)
 have eS:=cF eS;obtain⟨kc,kk,y5,y6,gc,gk,e4⟩:=four (k:=19) (ns:=ns) h4 (R:=rD S) (x5:=none) (x6:=none) (r:=[none,none,none,none,none,none,none,none,none,none,none]);obtain⟨x0,i0⟩:=pB h4 0 (by decide)
 obtain⟨x1,i1⟩:=pB h4 1 (by decide)
 obtain⟨x2,i2⟩:=pB h4 2 (by decide)
 obtain⟨x3,i3⟩:=pB h4 3 (by decide)
 have z0:vC (.int 0):=⟨0,rfl,by decide,by decide⟩
 obtain⟨w0,hw0,b0,b1⟩:=gc.wg z0 x0;have v2:vC (.int 2):=⟨2,rfl,by decide,by decide⟩
 have n1:GD vC 0 []:=⟨aRD _,(λkv h=>by cases h),aU1⟩
 have n2:GD okO 0 []:=⟨aRD _,(λkv h=>by cases h),aU1⟩
 obtain⟨n,⟨n',rfl⟩,wn,cn⟩:=uL (kvs:=kc) (λx=>(gc.wg z0 x).gd) 2 S hS (by lia)
 obtain⟨l,ol,wl,cl⟩:=uM (kvs:=kk) (λx=>gk.wg (.inl rfl) x) 2 S hS (by lia)
 have g1:gdC 1 (.int (1+w0)):=by
  refine⟨_,rfl,?_⟩;have h2:(1+w0).natAbs<=(dZ+7).natAbs:=by
   have:(0:Int)<=dZ+7:=by decide
   lia
  exact aQR h2 (by decide +kernel)
 have n3:GD (gdC 1) 0 []:=⟨aRD _,(λkv h=>by cases h),aU1⟩
 have g2:GD (gdC 1) 2 (bH (bH [] (.inr x3) (.int 2)) (.inr x0) (.int (1+w0))):=(n3.put v2.gd).put g1;have go:∀x,gdC 1 (wg (bH (bH [] (.inr x3) (.int 2)) (.inr x0) (.int (1+w0))) (.int 0) x):=λx=>g2.wg z0.gd x;have po:plK (bH (bH [] (.inr x3) (.int 2)) (.inr x0) (.int (1+w0)))=true:=GD.pl (λd h=>by obtain⟨i,rfl,_⟩:=h;rfl) g2
 have gf:GD okO 2 (bH (bH [] (.inr x2) (.int 0)) (.inr x1) (.int 1)):=(n2.put (.inr ⟨0,rfl⟩)).put (.inr ⟨1,rfl⟩);obtain⟨o,⟨o',rfl⟩,wo,co⟩:=uL (kvs:=bH (bH [] (.inr x3) (.int 2)) (.inr x0) (.int (1+w0))) go 2 S hS (by lia)
 obtain⟨f,of,wf,cf⟩:=uM (kvs:=bH (bH [] (.inr x2) (.int 0)) (.inr x1) (.int 1)) (λx=>gf.wg (.inl rfl) x) 2 S hS (by lia)
 have K:Kn (WT TT 20) (rD S) kc kk (bH (bH [] (.inr x3) (.int 2)) (.inr x0) (.int (1+w0))) (bH (bH [] (.inr x2) (.int 0)) (.inr x1) (.int 1)) n' o' l f :=
  ⟨rfl,pl_rD S,gc,GD.pl (λd h=>okO.pl h) gk,po,GD.pl (λd h=>okO.pl h) gf,ol,of,wn 12,wl 12,wo 12,wf 12,co 16,cf 16,o8 mR 14 (λx=>(gc.wg z0 x).gd) .nil (by simp),o8 fA 14 (λx=>gk.wg (.inl rfl) x) .nil (by simp),λd hd=>by
   rcases hd with rfl|⟨i,rfl⟩
   . exact aPV (m:=19)
   . exact aPU (m:=19)⟩
 have fin:=rest (y5:=y5) (y6:=y6) (NS:=.lst (ns.map .int)) (M:=NM nms) K (i0 .fz .fz) (cn 16) (cl 16) (disp1 i3 i0 hw0) (disp2 i2 i1);rw[u_law];refine dO rfl ?_;show evB (WT TT 20) [(.set 1 (.frz (.call "_law_names" 2 [(.frz (.call "_law_cell_at" 2 [(.var 0),(.int 0)])),(.int 4)]))),(.set 2 (.frz (.call "_law_reason" 2 [(.frz (.slice (.var 0) (some (.int 5)) (some (.int 45)))),(.var 1)]))),(.set 3 .dnew),(.set 4 .dnew),(.for (.rng1 (.int 4)) (.nm 5) i4),(.frzV 3),(.frzV 4),(.set 7 (.frz (.call "_law_count" 2 [(.var 2),(.var 3)]))),(.set 8 (.frz (.call "_law_cost" 2 [(.var 2),(.var 4)]))),(.set 9 (.tcall .dict [(.var 3)])),(.set 10 (.frz (.mk0 "Counts"))),(.set 11 (.frz (.mk0 "Costs"))),(.set 12 (.frz (.mkc "valued" "kind" "kept" [(.frz (.var 10)),(.var 9)]))),(.set 13 (.frz (.mkc "valued" "kind" "kept" [(.frz (.var 11)),(.var 4)]))),(.set 14 (.frz (.mkc "valued" "kind" "kept" [(.frz (.mk0 "Counts")),(.var 9)]))),(.set 15 (.frz (.disp [(.ix (.var 1) (.int 3)),(.ix (.var 1) (.int 0))] [(.int 2),(.bin .Add (.int 1) (.dget (.var 3) (.ix (.var 1) (.int 0)) (.int 0)))]))),(.set 16 (.frz (.mkc "valued" "kind" "kept" [(.frz (.var 10)),(.var 15)]))),(.set 17 (.frz (.mkc "valued" "kind" "kept" [(.frz (.var 11)),(.disp [(.ix (.var 1) (.int 2)),(.ix (.var 1) (.int 1))] [(.int 0),(.int 1)])]))),(.ite (.not (.tru (.call "_law_alike" 2 [(.frz (.ccl "valued" "kind" "kept" "worth_of" 16 [(.var 2)])),(.frz (.call "_law_count" 2 [(.var 2),(.var 15)]))]))) [.ret (.bl false)] []),(.ite (.not (.tru (.call "_law_alike" 2 [(.frz (.ccl "valued" "kind" "kept" "worth_of" 17 [(.var 2)])),(.frz (.call "_law_cost" 2 [(.var 2),(.frz (.disp [(.ix (.var 1) (.int 2)),(.ix (.var 1) (.int 1))] [(.int 0),(.int 1)]))]))]))) [.ret (.bl false)] []),(.ite (.orL [(.not (.tru (.call "_law_alike" 2 [(.frz (.ccl "valued" "kind" "kept" "worth_of" 12 [(.var 2)])),(.var 7)]))),(.not (.tru (.call "_law_alike" 2 [(.frz (.ccl "valued" "kind" "kept" "worth_of" 13 [(.var 2)])),(.var 8)]))),(.deq true (.var 9) (.var 3))]) [.ret (.bl false)] []),(.dput 9 (.ix (.var 1) (.int 0)) (.bin .Add (.int 5) (.dget (.var 3) (.ix (.var 1) (.int 0)) (.int 0)))),(.ite (.orL [(.not (.tru (.call "_law_alike" 2 [(.frz (.ccl "valued" "kind" "kept" "worth_of" 12 [(.var 2)])),(.var 7)]))),(.not (.tru (.call "_law_alike" 2 [(.frz (.ccl "valued" "kind" "kept" "worth_of" 13 [(.var 2)])),(.var 8)])))]) [.ret (.bl false)] []),(.ite (.not (.tru (.call "_law_alike" 2 [(.frz (.ccl "valued" "kind" "kept" "worth_of" 16 [(.var 2)])),(.frz (.call "_law_count" 2 [(.var 2),(.var 15)]))]))) [.ret (.bl false)] []),(.ret (.andL [(.call "_law_alike" 2 [(.frz (.ccl "valued" "kind" "kept" "worth_of" 14 [(.var 2)])),(.var 7)]),(.call "_law_alike" 2 [(.frz (.ccl "valued" "kind" "kept" "worth_of" 12 [(.tup [])])),(.int 0)]),(.cmp .Is (.ccl "valued" "kind" "kept" "worth_of" 13 [(.tup [])]) .non)]))] [some (false,.lst (ns.map .int)),none,none,none,none,none,none,none,none,none,none,none,none,none,none,none,none,none]=_;rw[bL (v0 c0 en),bL (v1 ec eS)];have s2:evS (WT TT 20) (.set 3 .dnew) [some (false,.lst (ns.map .int)),some (false,NM nms),some (false,rD S),none,none,none,none,none,none,none,none,none,none,none,none,none,none,none]=.nx [some (false,.lst (ns.map .int)),some (false,NM nms),some (false,rD S),some (true,.dct []),none,none,none,none,none,none,none,none,none,none,none,none,none,none]:=rfl;have s3:evS (WT TT 20) (.set 4 .dnew) [some (false,.lst (ns.map .int)),some (false,NM nms),some (false,rD S),some (true,.dct []),none,none,none,none,none,none,none,none,none,none,none,none,none,none]=.nx [some (false,.lst (ns.map .int)),some (false,NM nms),some (false,rD S),some (true,.dct []),some (true,.dct []),none,none,none,none,none,none,none,none,none,none,none,none,none]:=rfl;have s5:evS (WT TT 20) (.frzV 3) [some (false,.lst (ns.map .int)),some (false,NM nms),some (false,rD S),some (true,.dct kc),some (true,.dct kk),y5,y6,none,none,none,none,none,none,none,none,none,none,none]=.nx [some (false,.lst (ns.map .int)),some (false,NM nms),some (false,rD S),some (false,.dct kc),some (true,.dct kk),y5,y6,none,none,none,none,none,none,none,none,none,none,none]:=rfl
 have s6:evS (WT TT 20) (.frzV 4) [some (false,.lst (ns.map .int)),some (false,NM nms),some (false,rD S),some (false,.dct kc),some (true,.dct kk),y5,y6,none,none,none,none,none,none,none,none,none,none,none]=.nx [some (false,.lst (ns.map .int)),some (false,NM nms),some (false,rD S),some (false,.dct kc),some (false,.dct kk),y5,y6,none,none,none,none,none,none,none,none,none,none,none]:=rfl;rw[bL s2,bL s3,bL e4,bL s5,bL s6];exact fin
def kk:Nat:=20
def main(ns:List Int)(h:ns.length<=63):(WT TT (kk+1)).Φ ("law":Str) (k7 ns)=.ok .fz (.bl true):=aQF ns h
end K25
namespace K25
open PySem.W Tp
def tw:Prod.fst (true,aV8)=true:=by k_qdec
noncomputable def as:List Addr:=[2,3,15,17,18,20,21,29,31,32,34,35,36,37,38,39,40,43,50,52,53,55,56,57,58,59,62,69,71,72,74,75,76,78,79,81,82,83,85,86,88,89,90,92,93,95,96,97,99,100,102,103,104,106,107,109,110,111,113,114,116,117,118,119,120,123,130,132,133,135,136,137,139,140,142,143,144,146,147,149,150,151,153,154,156,157,158,160,161,163,164,165,167,168,170,171,172,173,174,177,180,181,182,184,185,187,188,189,191,192,194,195,196,198,199,201,202,203,205,206,208,209,210,213,214,215,217,218,220,221,222,225,226,227,230,231,232,234,235,237,238,239,241,242,244,245,246,248,249,251,252,253,255,256,258,259]
noncomputable def ts:List Addr:=[16,30,51,70,77,84,91,98,105,112,131,138,145,152,159,166,178,183,190,197,204,211,216,223,228,233,240,247,254]
def pre(w:aV6)(os:OsState):topGo treeTable aV8 w 11 an 12 ⟨boot_heap w.params,#[],boot_drawn,boot_toks,os⟩ (topStub aV8)=some ((sh w.params (sA w.params) 15 187 os).abs,⟨denote treeTable (cd aV8),cd aV8,z0,[topFrame z0]⟩):=by
 rw[aV8,Fast.te12221486350483104829,Fast.te203182992438928480,Fast.te13144403056285818395,Fast.te15667345088766844465,Fast.te14364793385576792824,Fast.te11892475500146522536]
 kernel_rfl
def blk(w:aV6)(s:aV4):segRun treeTable aV8 w 11 an 1 1 s (blockOf aV8.main.body (ev aV8) (cd aV8) z0 [topFrame z0])=some (.next,s,cd aV8,z0):=by kernel_rfl
def run(w:aV6)(os:OsState):go treeTable aV8 w 1000 aV8.main.body (sh w.params (sA w.params) 15 187 os) (cd aV8) z0=some (sh w.params (lay w.params aV8.main.body (sA w.params)) 260 541 os,cd aV8,⟨190,0,223,132⟩):=by
 rw[aV8,Fast.te12221486350483104829,Fast.te203182992438928480,Fast.te13144403056285818395,Fast.te5678740263434597267,Fast.te14364793385576792824,Fast.te10212481707522018265]
 kernel_rfl
def uO(w:aV6):(λos=>((staticsOk (importedModules aV8.main.body) (boot_heap w.params) (H1 aV8.main.body 260 w.params)&&namesBound aV8 (H1 aV8.main.body 260 w.params)&&gensDone (S1 aV8.main.body 260 541 w.params os)&&laidKept (boot_heap w.params) (H1 aV8.main.body 260 w.params)),openSeen (vw aV8) (los aV8.main.body) (importedModules aV8.main.body) (xt PySem.Challenge.rw_whencewise_k25_worth.row) true (S1 aV8.main.body 260 541 w.params os),(hk aV8.main.body (as++ts)).obs (S1 aV8.main.body 260 541 w.params os)))=λ_=>(true,openGood (vw aV8) (los aV8.main.body),(hk aV8.main.body (as++ts)).val w):=by
 rw[aV8,Fast.te14387180822208032119,Fast.te12221486350483104829,Fast.te5923862056798008813,Fast.te9407923862454927560,Fast.te15884229538025494872,Fast.te4187177175401517315,Fast.te18076920544200396443,Fast.te9318435048543301240,Fast.te17808466708180730929,Fast.te2368527892694137696]
 kernel_rfl
def tb(P:Params):D3.oH (KK aV8.main.body as P) (KK aV8.main.body (as++ts) P)=true:=by
 kernel_rfl
def gf(P:Params):D3.sZ (KK aV8.main.body as P) GG TT=true:=by
 kernel_rfl
abbrev dl:DefRec:=⟨"law", L2.kT tP,L2.fC tP,L2.bG tP,⟨190,0,223,132⟩⟩
end K25
open PySem.W
set_option maxRecDepth 100000 in
set_option maxHeartbeats 0 in
theorem PySem.Challenge.cw_whencewise_k25_worth_holds : PySem.Challenge.rw_whencewise_k25_worth.Holds := by
 w_on;o_law
 exact Tp.head (p:=PySem.Challenge.rw_whencewise_k25_worth) (d:=K25.dl) (Tp.left (by kernel_rfl) K25.pre K25.blk K25.run (by kernel_rfl) (by kernel_rfl) (λ_=>by kernel_rfl) K25.uO) (by assumption) (by kernel_rfl) (by kernel_rfl) rfl rfl (by decide +kernel) ⟨rfl,rfl,rfl,rfl,rfl,by decide +kernel⟩ (by w_witness2)
  (D3.walkG (K:=Tp.KK PySem.Challenge.pw_whencewise_k25_worth.main.body K25.as) (Kf:=Tp.KK PySem.Challenge.pw_whencewise_k25_worth.main.body (K25.as++K25.ts)) (kk:=K25.kk) (e:=K25.tO) rfl rfl rfl (λw h Y=>W.kIn_of Y) (Tp.KK_sub _ _ _) (Tp.KK_nd _ _) K25.tb K25.gf (D3.aN6 (g:=K25.GG) (by decide +kernel)) rfl rfl ⟨rfl,by decide,by decide⟩ K25.main)
