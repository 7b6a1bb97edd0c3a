import PyProof.Rows.All
import Wide.All
import OpenK.AllK
import Wide.FinOn
import Lean
import PyProof.EqAt
import PyProof.EqKinds
import PyProof.TupleCall
import PySem.Challenge.RW_whencewise_k11_many_and_lack
set_option linter.all false
section
open PySem PySem.Spec PyProof.Rows
def aQW:=@decide_eq_false
def aQX:=@beq_eq_false_iff_ne
def aQY:=@PySem.Paired.length
def aQZ:=@Option.some.inj
def aQ0:=@PySem.Heap.get?_push_size
def aQ1:=@PySem.Heap.lt_size
def aQ2:=@Nat.lt_of_lt_of_le
def aQ3:=@Nat.lt_irrefl
def aQ4:=@Nat.ne_of_lt
def aQ5:=@PySem.W.hideAll_get
def aQ6:=@List.mem_filter
def aQ7:=@List.mem_range
def aQ8:=@Nat.le_trans
def aQ9:=@List.filterMap_cons
def aRA:=@List.mem_cons
def aRB:=@List.mem_append
def aRC:=@List.getElem?_eq_some_iff
def aRD:=@List.getElem_inj
def aRE:=@List.getElem?_set_self
def aRF:=@List.getElem?_set_ne
def aRG:=@PySem.wpAny_mono
def aRH:=@PySem.wpAny_truthy_bool
def aRI:=@Array.length_toList
def aRJ:=@Nat.ne_of_gt
def aRK:=@PySem.wpAny_pure
def aRL:=@PySem.wpAny_bind
def aRM:=@PySem.wpAny_pyIter_list
def aRN:=@Nat.le_refl
def aRO:=@PySem.wpAny_pyIter_tuple
def aRP:=@PyProof.Rows.callWith_type1
def aRQ:=@List.mem_filterMap
def aRR:=@List.mem_append_right
def aRS:=@PySem.wpAny_passesOwn
def aRT:=@PySem.sizeLine_eq
def aRU:=@List.size_toArray
def aRV:=@Array.mem_toList_iff
def aRW:=@Bool.false_ne_true
def aRX:=@PySem.W.plainGet_of
def aRY:=@beq_iff_eq
def aRZ:=@List.length_cons
def aR0:=@PySem.W.makes_of
def aR1:=@List.map_cons
def aR2:=@List.length_map
def aR3:=@PySem.Heap.size_push
def aR4:=@Nat.lt_succ_self
def aR5:=@Nat.zero_le
def aR6:=@PySem.Calls.spliced_cons
def aR7:=@List.append_nil
def aR8:=@List.nodup_cons
def aR9:=@List.of_mem_zip
def aSA:=@List.length_take
def aSB:=@PySem.mem_of_lookup
def aSC:=@List.getElem?_append_right
def aSD:=@List.getElem?_replicate
def aSE:=@List.getElem?_append_left
def aSF:=@List.getElem?_map
def aSG:=@List.mem_of_getElem?
def aSH:=@List.length_append
def aSI:=@PySem.wpAny_Call_Name_kw
def aSJ:=@Int.toNat_natCast
def aSK:=@if_false
def aSL:=@if_true
def aSM:=@PySem.wpAny_field
def aSN:=@PySem.wpAny_holding
def aSO:=@PySem.wpAny_callSpecial?_slot
def aSP:=@PyProof.Rows.slot_tuple_getitem
def aSQ:=@PySem.wpAny_call_entry
def aSR:=@Bool.and_eq_true
def aSS:=@PySem.wpAny_newObj_type
def aST:=@Option.getD_none
def aSU:=@List.all_cons
def aSV:=@List.any_cons
def aSW:=@PySem.Calls.evalArgs_plain
def aSX:=@List.find?_cons
def aSY:=@decide_eq_true
def aSZ:=@List.length_nil
def aS0:=@List.map_nil
def aS1:=@PySem.F.slot_dict_get
def aS2:=@PySem.codeAny_mono
def aS3:=@List.lookup_cons
def aS4:=@decide_eq_true_eq
def aS5:=@of_decide_eq_true
def aS6:=@Bool.or_eq_true
def aS7:=@Array.all_eq_true_iff_forall_mem
def aS8:=@PySem.wpAny_getItem_str_slice
def aS9:=@PySem.post_val_or_str
def aTA:=@PySem.Txt.slice_le
def aTB:=@Array.mem_of_getElem?
def aTC:=@PySem.W.kia_one
def aTD:=@List.all_eq_true
def aTE:=@List.getD_eq_getElem?_getD
def aTF:=@List.getElem?_eq_getElem
def aTG:=@List.getElem_mem
def aTH:=@List.length_set
def aTI:=@List.getElem?_set
def aTJ:=@Option.map_some
def aTK:=@List.forIn_nil
def aTL:=@List.forIn_cons
def aTM:=@LawfulMonad.pure_bind
def aTN:=@beq_self_eq_true
def aTO:=@Bool.false_eq_true
def aTP:=@Nat.lt_succ_of_lt
def aTQ:=@PySem.W.callWith_K
def aTR:=@List.find?_some
def aTS:=@List.mem_of_find?_eq_some
def aTT:=@Nat.le_succ
def aTU:=@List.drop_zero
def aTV:=@PySem.F.slot_tuple_iterator_next
def aTW:=@PySem.F.entry_tuple_iterator_next
def aTX:=@PySem.F.args_tuple_iterator_next_1
def aTY:=@PySem.wpAny_seqItems
def aTZ:=@PySem.wpAny_setField_rec
def aT0:=@PySem.wpAny_onRaise
def aT1:=@PySem.wpAny_updateSeq_pair
def aT2:=@PySem.F.slot_zip_next
def aT3:=@List.mem_nil_iff
def aT4:=@or_false
def aT5:=@Nat.le_add_right
def aT6:=@PySem.wpAny_pyIter_enum
def aT7:=@List.take_length
def aT8:=@Bool.not_eq_true'
def aT9:=@List.pairwise_cons
def aUA:=@List.pairwise_singleton
def aUB:=@List.not_mem_nil
def aUC:=@Array.perm_iff_toList_perm
def aUD:=@Array.getD_eq_getD_getElem?
def aUE:=@Array.Perm.refl
def aUF:=@List.zip_cons_cons
def aUG:=@List.length_range
def aUH:=@List.map_map
def aUI:=@bne_iff_ne
def aUJ:=@PySem.F.plainAttrs_str
def aUK:=@List.contains_iff_mem
def aUL:=@Nat.lt_of_le_of_lt
def aUM:=@PySem.W.mg_of
def aUN:=@Int.emod_nonneg
def aUO:=@Int.emod_lt_of_pos
def aUP:=@Int.eq_ofNat_of_zero_le
def aUQ:=@List.mem_map
def aUR:=@List.filter_cons
def aUS:=@List.length_filter_le
end
abbrev VSP := PySem.Value -> PySem.Shared -> Prop
abbrev Fg := PySem.W.Frag
abbrev LAO := List (PySem.Addr × PySem.Obj)
abbrev SOV := PySem.Str -> Option PySem.Value
theorem mcm {α : Type} {a b : α} {l : List α} (h : a ∈ l) : a ∈ b :: l := List.mem_cons_of_mem _ h
theorem mcs {α : Type} {a : α} {l : List α} : a ∈ a :: l := List.mem_cons_self
theorem hps {h : PySem.Heap} {o p : PySem.Obj} {b : PySem.Addr} (e : h.get? b = some o) : (h.push p).get? b = some o := PySem.Heap.get?_push_of_some _ e
set_option Elab.async false
set_option linter.all false
set_option maxRecDepth 100000
namespace L2
open PySem PySem.Spec PyProof.Rows
abbrev Key:=Sum Int Str
def hU:Key->Value->Bool
 | .inl k,v=>Value.isInt k v
 | .inr x,v=>Value.isStrOf x v
def keyH(w:World):Key->Int
 | .inl k=>hashInt k
 | .inr x=>hashStr w x
theorem eZ:∀ {k:Key} {v:Value},hU k v=true->(∃ i t,k=Sum.inl i/\v=Value.int i t)\/(∃ x t,k=Sum.inr x/\v=Value.str x t)
 | .inl i,v,h=>by obtain ⟨t,e⟩:=Value.isInt_shape (k:=i) (v:=v) h;exact .inl ⟨i,t,rfl,e⟩
 | .inr x,v,h=>by obtain ⟨t,e⟩:=Value.isStrOf_shape (x:=x) (v:=v) h;exact .inr ⟨x,t,rfl,e⟩
theorem yY(i:Int)(t:Tok):hU (.inl i) (.int i t)=true:=by simp[hU,Value.isInt]
theorem yZ(x:Str)(t:Tok):hU (.inr x) (.str x t)=true:=by simp[hU,Value.isStrOf]
theorem y3(a b:Int):decide ((Sum.inl a:Key)=Sum.inl b)=(a==b):=by
 by_cases e:a=b
 . subst e;simp
 . have h:¬ (Sum.inl a:Key)=Sum.inl b:=λq=>e (Sum.inl.inj q);rw[aQW h];exact (aQX.mpr e).symm
theorem y9(a b:Str):decide ((Sum.inr a:Key)=Sum.inr b)=decide (a=b):=by
 by_cases e:a=b
 . subst e;simp
 . have h:¬ (Sum.inr a:Key)=Sum.inr b:=λq=>e (Sum.inr.inj q);rw[aQW h,aQW e]
theorem zA(a:Int)(b:Str):decide ((Sum.inl a:Key)=Sum.inr b)=false:=aQW (λq=>nomatch q)
theorem zB(a:Str)(b:Int):decide ((Sum.inr a:Key)=Sum.inl b)=false:=aQW (λq=>nomatch q)
def bV(prog:Program)(w:World):PySem.KeyKind prog w Key where
 is:=hU
 hash:=keyH w
 inj:=λv a b ha hb=>by
  rcases eZ ha with ⟨i,t,rfl,rfl⟩ | ⟨x,t,rfl,rfl⟩
  . rcases eZ hb with ⟨j,u,rfl,e⟩ | ⟨y,u,rfl,e⟩
    . injection e with e1 _;rw[e1]
    . exact nomatch e
  . rcases eZ hb with ⟨j,u,rfl,e⟩ | ⟨y,u,rfl,e⟩
    . exact nomatch e
    . injection e with e1 _;rw[e1]
 byValue:=λk v h=>by rcases eZ h with ⟨i,t,rfl,rfl⟩ | ⟨x,t,rfl,rfl⟩ <;> rfl
 pyHash:=λhv h=>by
  rcases eZ hv with ⟨i,t,rfl,rfl⟩ | ⟨x,t,rfl,rfl⟩
  . exact wpAny_pyHash_int h
  . exact wpAny_pyHash_str h
 eqBool:=λhu hv h=>by
  rcases eZ hu with ⟨i,t,rfl,rfl⟩ | ⟨x,t,rfl,rfl⟩
  . rcases eZ hv with ⟨j,u,rfl,rfl⟩ | ⟨y,u,rfl,rfl⟩
    . rw[y3] at h;exact wpAny_eqBool_int h
    . rw[zA] at h;exact SeqAt.EqAt.int_str i t y u _ _ _ _ h
  . rcases eZ hv with ⟨j,u,rfl,rfl⟩ | ⟨y,u,rfl,rfl⟩
    . rw[zB] at h;exact SeqAt.EqAt.str_int x t j u _ _ _ _ h
    . rw[y9] at h;exact wpAny_eqBool_str h
 «strs»:=λk x t v h=>by
  rcases eZ h with ⟨i,u,rfl,e⟩ | ⟨y,u,rfl,e⟩
  . exact nomatch e
  . injection e with e1 _
    subst e1;cases v <;> rfl
theorem zC(prog:Program)(w:World)(i:Int)(t:Tok):(bV prog w).is (.inl i) (.int i t)=true:=yY i t
theorem zD(prog:Program)(w:World)(x:Str)(t:Tok):(bV prog w).is (.inr x) (.str x t)=true:=yZ x t
inductive V where
 | non | bl (b:Bool) | int (i:Int) | str (x:Str) | byt (b:Array UInt8) | flt (b:UInt64) | ref (a:Addr) | ty (n:String)
 deriving DecidableEq
def aJ:V->Value->Prop
 | .non,u=>u=Value.none
 | .bl b,u=>u=Value.bool b
 | .int i,u=>∃ t,u=Value.int i t
 | .str x,u=>∃ t,u=Value.str x t
 | .byt b,u=>∃ t,u=Value.bytes b t
 | .flt b,u=>∃ t,u=Value.float b t
 | .ref a,u=>u=Value.ref a
 | .ty n,u=>u=Value.type n
abbrev aM:List V->List Value->Prop:=Paired aJ
theorem aM.length{xs:List V}{us:List Value}(r:aM xs us):xs.length=us.length:=aQY r
theorem aM.get:∀ {xs:List V} {us:List Value} {i:Nat} {x:V},aM xs us->xs[i]? = some x->∃ u,us[i]? = some u/\aJ x u
 | _,_,_,_,.nil,e=>by simp at e
 | _,_,0,_,.cons r _,e=>by simp at e;subst e;exact ⟨_,rfl,r⟩
 | _,_,i+1,x,.cons _ t,e=>by
  obtain ⟨u,h1,h2⟩:=aM.get (i:=i) (x:=x) t (by simpa using e)
  exact ⟨u,by simpa using h1,h2⟩
theorem aM.append:∀ {xs ys:List V} {us ws:List Value},aM xs us->aM ys ws->aM (xs++ys) (us++ws)
 | _,_,_,_,.nil,s=>s
 | _,_,_,_,.cons r t,s=>.cons r (aM.append t s)
theorem aM.take:∀ {xs:List V} {us:List Value} (n:Nat),aM xs us->aM (xs.take n) (us.take n)
 | _,_,0,_=>.nil
 | _,_,_+1,.nil=>.nil
 | _,_,n+1,.cons r t=>.cons r (aM.take n t)
theorem aM.drop:∀ {xs:List V} {us:List Value} (n:Nat),aM xs us->aM (xs.drop n) (us.drop n)
 | _,_,0,r=>r
 | _,_,_+1,.nil=>.nil
 | _,_,n+1,.cons _ t=>aM.drop n t
def cN:Option V->Option Value->Prop
 | some v,some u=>aJ v u
 | none,none=>True
 | _,_=>False
def KV{κ:Type}:List (κ×V)->List (κ×Value)->Prop:=Paired λ(p:κ×V) (q:κ×Value)=>p.1=q.1/\aJ p.2 q.2
def kV:Key->V
 | .inl i=>.int i
 | .inr x=>.str x
inductive N where | i (n:Int) | s (x:Str) | t (xs:List N)
mutual
def rM(w:World):N->Int
 | .i n=>hashInt n
 | .s x=>hashStr w x
 | .t xs=>reduceHash (Builtin.Tuple.tupleHashOf (rN w xs))
def rN(w:World):List N->List Int
 | []=>[]
 | x::xs=>rM w x::rN w xs
end
def zE(w:World)(x:N×Addr×Value):DictEntry:=⟨rM w x.1,.ref x.2.1,x.2.2⟩
inductive HO where
 /-- a list -/
 | lst (xs:List V)
 /-- a tuple (never changes) -/
 | tup (xs:List V)
 /-- a dict whose keys are ints and texts;one whose keys are tuples of ints and texts (the empty one is both) -/
 | dK (kvs:List (Key×V)) | dT (kvs:List (List Key×V))
 | dN (kvs:List (N×Addr×V))
 /-- a set of ints: its members,its size -/
 | set (S:Key->Bool) (n:Nat)
 /-- an instance of the class at C,its dict at dx,its attributes -/
 | ins (C dx:Addr) (fs:List (Str×V))
 /-- the dict of the instance at x -/
 | own (x:Addr)
 /-- the dict of an exception -/
 | xd (fs:List (Str×V))
 /-- a bound method,f of x -/
 | met (f x:Addr)
 /-- a range object lo,lo+1,.. below hi -/
 | rng (lo hi:Int)
 /-- a thing that is known to the object (the script;a dict while a loop walks it): read,never written while it is so -/
 | frz (o:Obj) (u:HO)
 /-- a code object's table -/
 | tbl (ps:Array Value)
 /-- any other thing,by what is true of its one object (a def of one's own: SetO a S n:=HO.ext λh=>..) -/
 | ext (φ:Heap->Prop)
abbrev Hp:=Addr->Option HO
def upd(H:Hp)(a:Addr)(o:HO):Hp:=λb=>if b=a then some o else H b
theorem bI{H:Hp}{a:Addr}{o:HO}:upd H a o a=some o:=by unfold upd;rw[if_pos rfl]
theorem aR{H:Hp}{a b:Addr}{o:HO}(h:b≠a):upd H a o b=H b:=by unfold upd;rw[if_neg h]
theorem ne_of{H:Hp}{a b:Addr}{o u:HO}(h:H a=some o)(h':H b=some u)(d:o≠u):a≠b:=by intro e;subst e;rw[h] at h';exact d (aQZ h')
theorem cB{H:Hp}{a b:Addr}{o:HO}(h:H a=some o)(h':H b=none):a≠b:=by intro e;subst e;rw[h] at h';cases h'
def e6(h:Heap)(a:Addr)(items:Array Value):Prop:=∃ o,h.get? a=some o/\o.cls=.type "tuple" /\ o.dict=none/\∃ n,o.data=.seq items n
theorem e6.isTup{h:Heap}{a:Addr}{items:Array Value}(x:e6 h a items):IsTup h a items:=by obtain ⟨o,e,c,_,n,d⟩:=x;exact ⟨o,e,c,n,d⟩
theorem e6.new(h:Heap)(items:Array Value):e6 (h.push { cls:=.type "tuple", data:=.seq items }) h.objs.size items:=⟨_,aQ0 _ rfl,rfl,rfl,_,rfl⟩
section
variable (P:Program)(w:World)
def bL(H:Hp)(h:Heap)(a:Addr):HO->Prop
 | .lst xs=>xs.length<=sizeLine/\∃ (its:List Value) (n:Nat),aM xs its/\h.get? a=some { cls:=.type "list", data:=.seq its.toArray n }
 | .tup xs=>xs.length<=sizeLine/\∃ its:List Value,aM xs its/\e6 h a its.toArray
 | .dK kvs=>kvs.length<=sizeLine/\(a==sysModules)=false/\∃ vs,KV kvs vs/\h.DictOf (bV P w) a vs
 | .dT kvs => kvs.length ≤ sizeLine ∧ (a == sysModules) = false ∧ ∃ xs : List (List Key × Addr × Value),
     Paired (λ(p:List Key×V) (q:List Key×Addr×Value)=>p.1=q.1/\H q.2.1=some (.tup (p.1.map kV))/\aJ p.2 q.2.2) kvs xs /\
     ∃ o es ep,h.get? a=some o/\o.ExactDict/\o.data=.dict es ep/\es.toList=xs.map (entryOfKey (tupleKind (bV P w)))/\(xs.map (·.1)).Nodup
 | .dN kvs => kvs.length ≤ sizeLine ∧ (a == sysModules) = false ∧ ∃ xs : List (N × Addr × Value), Paired (fun (p : N × Addr × V) (q : N × Addr × Value) => p.1 = q.1 ∧ p.2.1 = q.2.1 ∧ aJ p.2.2 q.2.2) kvs xs ∧
     ∃ o es ep,h.get? a=some o/\o.ExactDict/\o.data=.dict es ep/\es.toList=xs.map (zE w)/\(xs.map (·.1)).Nodup
 | .set S n=>h.SetOf (bV P w) a S n
 | .ins C dx fs => H dx = some (.own a) ∧ fs.length ≤ 1000 ∧ dx ≠ a ∧ h.get? a = some (PySem.W.instObj C dx) ∧
     ∃ mA,h.Ns1 dx mA/\(∀ f,cN (fs.lookup f) (mA f))/\PySem.Within mA (fs.map (·.1))
 | .own _=>∃ o,h.get? a=some o
 | .xd fs=>∃ mA,h.Ns1 a mA/\∀ f,cN (fs.lookup f) (mA f)
 | .rng lo hi=>∃ t u v,h.get? a=some { cls:=.type "range", data:=.fields #[.int lo t,.int hi u,.int 1 v] }
 | .frz o u=>h.get? a=some o/\bL H h a u
 | .tbl ps=>h.get? a=some { cls:=.none,data:=.fields ps }
 | .met f x=>h.get? a=some (PySem.W.methodObj (.ref f) (.ref x))
 | .ext φ=>φ h/\(∃ o,h.get? a=some o)/\∀ h1 h2:Heap,φ h1->(∀ o,h1.get? a=some o->h2.get? a=some o)->φ h2
def HOk(H:Hp)(h:Heap):Prop:=∀ a o,H a=some o->bL P w H h a o
end
section
variable {P:Program}{w:World}{H H':Hp}{h h':Heap}{a:Addr}{o:HO}
theorem bL.lt(x:bL P w H h a o):a<h.objs.size:=by
 cases o with
 | lst xs=>obtain ⟨_,_,_,_,e⟩:=x;exact aQ1 e
 | tup xs=>obtain ⟨_,_,_,p⟩:=x;exact p.isTup.lt
 | dK kvs=>obtain ⟨_,_,_,_,o,_,_,e,_⟩:=x;exact aQ1 e
 | dT kvs=>obtain ⟨_,_,_,_,o,_,_,e,_⟩:=x;exact aQ1 e
 | dN kvs=>obtain ⟨_,_,_,_,o,_,_,e,_⟩:=x;exact aQ1 e
 | set S n=>obtain ⟨o,_,_,_,e,_⟩:=x;exact aQ1 e
 | ins C dx fs=>obtain ⟨_,_,_,e,_⟩:=x;exact aQ1 e
 | own y=>obtain ⟨_,e⟩:=x;exact aQ1 e
 | xd fs=>obtain ⟨_,⟨_,_,_,e,_⟩,_⟩:=x;exact aQ1 e
 | rng lo hi=>obtain ⟨_,_,_,e⟩:=x;exact aQ1 e
 | frz ob u=>obtain ⟨e,_⟩:=x;exact aQ1 e
 | tbl ps=>exact aQ1 (show h.get? a=some _ from x)
 | met f y=>exact aQ1 (show h.get? a=some _ from x)
 | ext φ=>obtain ⟨_,⟨_,e⟩,_⟩:=x;exact aQ1 e
theorem Paired.mapP{α β:Type}{F G:α->β->Prop}:∀ {l₁:List α} {l₂:List β},Paired F l₁ l₂->(∀ a b,F a b->G a b)->Paired G l₁ l₂
 | _,_,.nil,_=>.nil
 | _,_,.cons r t,f=>.cons (f _ _ r) (Paired.mapP t f)
theorem bL.stay(x:bL P w H h a o)(k:∀ b u,(b=a\/H b=some (.own a))->h.get? b=some u->h'.get? b=some u)(ho:∀ b,H b=some (.own a)->H' b=some (.own a))(ht:∀ b xs,H b=some (.tup xs)->H' b=some (.tup xs)):bL P w H' h' a o:=by
 induction o with
 | lst xs=>obtain ⟨z,its,n,r,e⟩:=x;exact ⟨z,its,n,r,k _ _ (.inl rfl) e⟩
 | tup xs=>obtain ⟨z,its,r,ob,e,c⟩:=x;exact ⟨z,its,r,ob,k _ _ (.inl rfl) e,c⟩
 | dK kvs=>obtain ⟨z,y,vs,r,ob,es,ep,e,c⟩:=x;exact ⟨z,y,vs,r,ob,es,ep,k _ _ (.inl rfl) e,c⟩
 | dT kvs=>obtain ⟨z,y,xs,r,ob,es,ep,e,c⟩:=x;exact ⟨z,y,xs,Paired.mapP r λp q z=>⟨z.1,ht _ _ z.2.1,z.2.2⟩,ob,es,ep,k _ _ (.inl rfl) e,c⟩
 | dN kvs=>obtain ⟨z,y,xs,r,ob,es,ep,e,c⟩:=x;exact ⟨z,y,xs,r,ob,es,ep,k _ _ (.inl rfl) e,c⟩
 | set S n=>obtain ⟨ob,es,ep,t,e,c⟩:=x;exact ⟨ob,es,ep,t,k _ _ (.inl rfl) e,c⟩
 | ins C dx fs=>obtain ⟨d,z,ne,e,mA,⟨od,es,ep,e2,c⟩,r⟩:=x;exact ⟨ho _ d,z,ne,k _ _ (.inl rfl) e,mA,⟨od,es,ep,k _ _ (.inr d) e2,c⟩,r⟩
 | own y=>obtain ⟨ob,e⟩:=x;exact ⟨ob,k _ _ (.inl rfl) e⟩
 | xd fs=>obtain ⟨mA,⟨od,es,ep,e,c⟩,r⟩:=x;exact ⟨mA,⟨od,es,ep,k _ _ (.inl rfl) e,c⟩,r⟩
 | rng lo hi=>obtain ⟨t,u,v,e⟩:=x;exact ⟨t,u,v,k _ _ (.inl rfl) e⟩
 | frz ob u ih=>obtain ⟨e,q⟩:=x;exact ⟨k _ _ (.inl rfl) e,ih q⟩
 | tbl ps=>have e:h.get? a=some { cls:=.none,data:=.fields ps }:=x;show h'.get? a=some { cls:=.none,data:=.fields ps };exact k a _ (.inl rfl) e
 | met f y=>have e:h.get? a=some (PySem.W.methodObj (.ref f) (.ref y)):=x;show h'.get? a=some (PySem.W.methodObj (.ref f) (.ref y));exact k a _ (.inl rfl) e
 | ext φ=>obtain ⟨p,⟨o,e⟩,st⟩:=x;exact ⟨st _ _ p λo q=>k _ _ (.inl rfl) q,⟨o,k _ _ (.inl rfl) e⟩,st⟩
theorem HOk.lt(x:HOk P w H h)(e:H a=some o):a<h.objs.size:=(x a o e).lt
theorem HOk.fresh(x:HOk P w H h)(e:h.objs.size<=a):H a=none:=by
 cases q:H a with
 | none=>rfl
 | some u=>exact absurd (aQ2 (x.lt q) e) (aQ3 _)
theorem HOk.kept(x:HOk P w H h)(k:∀ b u,h.get? b=some u->h'.get? b=some u):HOk P w H h':=λa o e =>
 (x a o e).stay (λb u _ q=>k b u q) (λ_ q=>q) λ_ _ q=>q
theorem HOk.laid(x:HOk P w H h)(k:∀ b u,h.get? b=some u->h'.get? b=some u)(hp:h.objs.size<=a)(new:bL P w (upd H a o) h' a o):HOk P w (upd H a o) h':=λb u e=>by
 have hn:=x.fresh hp;by_cases hb:b=a
 . subst hb;rw[bI] at e;cases e;exact new
 . rw[aR hb] at e;exact (x b u e).stay (λc v _ q=>k c v q) (λc q=>by rw[aR (cB q hn)];exact q) λc xs q=>by rw[aR (cB q hn)];exact q
end
def Rd(H:Hp)(a:Addr)(u:HO):Prop:=H a=some u\/∃ o,H a=some (.frz o u)
theorem Rd.ok{P:Program}{w:World}{H:Hp}{h:Heap}{a:Addr}{u:HO}(r:Rd H a u)(x:HOk P w H h):bL P w H h a u:=by
 rcases r with r | ⟨o,r⟩
 . exact x a u r
 . obtain ⟨_,q⟩:=x a _ r;exact q
def Mut:Option HO->Prop
 | some (.lst _)=>True
 | some (.dK _)=>True
 | some (.dT _)=>True
 | some (.dN _)=>True
 | some (.set _ _)=>True
 | some (.ins _ _ _)=>True
 | some (.ext _)=>True
 | _=>False
section
variable {P:Program}{w:World}{H:Hp}{h h':Heap}{x e:Addr}{o':HO}
theorem HOk.write(ok:HOk P w H h)(mu:Mut (H x))(he:e=x\/H e=some (.own x))(k:∀ b u,b≠e->h.get? b=some u->h'.get? b=some u)(heo:∃ u,h'.get? e=some u)(new:bL P w (upd H x o') h' x o'):HOk P w (upd H x o') h':=λb u q=>by
 have nown:∀ c y,H c=some (.own y)->c≠x:=λc y r z=>by subst z;rw[r] at mu;exact mu
 have ntup:∀ c xs,H c=some (.tup xs)->c≠x:=λc xs r z=>by subst z;rw[r] at mu;exact mu
 by_cases hb:b=x
 . subst hb;rw[bI] at q;cases q;exact new
 . rw[aR hb] at q;by_cases hbe:b=e
   . have q':H b=some (.own x):=by
       rcases he with z | z
       . exact absurd (hbe.trans z) hb
       . rw[hbe];exact z
     rw[q] at q';cases q';obtain ⟨v,hv⟩:=heo;exact ⟨v,by rw[hbe];exact hv⟩
   . refine (ok b u q).stay (λc v hc r=>k c v ?_ r) (λc r=>by rw[aR (nown c b r)];exact r) λc xs r=>by rw[aR (ntup c xs r)];exact r
     rcases hc with rfl | hc
     . exact hbe
     . rintro rfl;rcases he with z | z
       . exact nown c b hc z
       . rw[hc] at z;cases z;exact hb rfl
end
structure Un(fs ex:List Addr)(H H':Hp)(h h':Heap):Prop where
 keep:∀ b o,h.get? b=some o->H b=none->b∉fs->b∉ex->h'.get? b=some o
 slot:∀ b o,h.get? b=some o->H b=none->b∈fs->b∉ex->∃ sl,h'.get? b=some { o with slots:=sl }
 free:∀ b o,h.get? b=some o->H b=none->b∉ex->H' b=none
 there:∀ b o,h.get? b=some o->b∉ex->∃ o',h'.get? b=some o'
 tups:∀ b xs,H b=some (.tup xs)->H' b=some (.tup xs)
 frzs:∀ b o u,H b=some (.frz o u)->H' b=some (.frz o u)
 tbls:∀ b ps,H b=some (.tbl ps)->∃ more,H' b=some (.tbl (ps++more))
section
variable {fs fs' ex ex':List Addr}{H H1 H2:Hp}{h h1 h2 h':Heap}{a x e:Addr}{o:HO}
theorem Un.any(u:Un fs ex H H1 h h1){b:Addr}{ob:Obj}(q:h.get? b=some ob)(n:H b=none)(hx:b∉ex):∃ sl,h1.get? b=some { ob with slots:=sl }:=by
 by_cases hb:b∈fs
 . exact u.slot b ob q n hb hx
 . exact ⟨ob.slots,u.keep b ob q n hb hx⟩
theorem Un.kept(k:∀ b u,h.get? b=some u->h'.get? b=some u):Un fs ex H H h h' :=
 ⟨λb ob q _ _ _=>k b ob q,λb ob q _ _ _=>⟨ob.slots,k b ob q⟩,λ_ _ _ n _=>n,λb ob q _=>⟨ob,k b ob q⟩,λ_ _ q=>q,λ_ _ _ q=>q,λ_ ps q=>⟨#[],by rw[q];simp⟩⟩
theorem Un.refl:Un fs ex H H h h:=Un.kept λ_ _ q=>q
theorem Un.laid(k:∀ b u,h.get? b=some u->h'.get? b=some u)(hp:h.objs.size<=a)(hn:H a=none):Un fs ex H (upd H a o) h h' where
 keep:=λb u q _ _ _=>k b u q
 slot:=λb u q _ _ _=>⟨u.slots,k b u q⟩
 free:=λb u q n _=>by rw[aR (aQ4 (aQ2 (aQ1 q) hp))];exact n
 there:=λb u q _=>⟨u,k b u q⟩
 tups:=λb xs q=>by rw[aR (cB q hn)];exact q
 frzs:=λb u xs q=>by rw[aR (cB q hn)];exact q
 tbls:=λb ps q=>⟨#[],by rw[aR (cB q hn),q];simp⟩
theorem Un.write(mu:Mut (H x))(he:e=x\/H e=some (.own x))(k:∀ b u,b≠e->h.get? b=some u->h'.get? b=some u)(heo:∃ u,h'.get? e=some u):Un fs ex H (upd H x o) h h':=by
 have hx:∀ b,H b=none->b≠x:=λb n z=>by subst z;rw[n] at mu;exact mu
 have hb:∀ b,H b=none->b≠e:=λb n z=>by
  subst z;rcases he with r | r
  . exact hx b n r
  . rw[n] at r;cases r
 have hm:∀ b u,H b=some u -> ¬ Mut (some u)->b≠x:=λb u q nm z=>by subst z;rw[q] at mu;exact nm mu
 refine ⟨λb u q n _ _=>k b u (hb b n) q,λb u q n _ _=>⟨u.slots,k b u (hb b n) q⟩,λb u q n _=>by rw[aR (hx b n)];exact n,λb u q _=>?_,
  λb xs q=>by rw[aR (hm b _ q λz=>z)];exact q,λb u xs q=>by rw[aR (hm b _ q λz=>z)];exact q,λb ps q=>⟨#[],by rw[aR (hm b _ q λz=>z),q];simp⟩⟩
 by_cases hbe:b=e
 . subst hbe;exact heo
 . exact ⟨u,k b u hbe q⟩
end
def trk(h:Heap)(H:Hp):List Addr:=(List.range h.objs.size).filter λa=>(H a).isSome
def e7(h:Heap)(H:Hp):Heap:=PySem.W.hideAll h (trk h H)
theorem zF(h:Heap)(H:Hp):(e7 h H).objs.size=h.objs.size:=PySem.W.hideAll_size _ _
theorem zG{h:Heap}{H:Hp}{b:Addr}{o:Obj}(e:h.get? b=some o)(n:H b=none):(e7 h H).get? b=some o :=
 aQ5 _ e λhm=>by have q:(H b).isSome=true:=(aQ6.mp hm).2;rw[n] at q;simp at q
theorem zH{h:Heap}{H:Hp}{b:Addr}{o:Obj}(e:(e7 h H).get? b=some o):h.get? b=some o/\H b=none:=by
 have e':h.get? b=some o:=PySem.W.of_hideAll (trk h H) e;refine ⟨e',?_⟩;cases q:H b with
 | none=>rfl
 | some x =>
  have hm:b∈trk h H:=aQ6.mpr ⟨aQ7.mpr (aQ1 e'),by simp[q]⟩
  have z:(e7 h H).get? b=none:=PySem.W.hideAll_none (trk h H) hm;rw[z] at e;cases e
def zI(g h:Heap)(L:Addr):LAO:=(List.range h.objs.size).filterMap λa=>if a=L\/(g.get? a).isSome=true then none else (h.get? a).map λo=>(a,o)
def a9(g h:Heap)(L d:Addr):LAO:=(zI g h L).filter λp=>decide (p.1≠d)
structure Mod(K:Fg)(mg:SOV)(base:Heap):Prop where
 kin:K.In base
 glob:base.Ns mainGlobals mg
 blt:∃ mb,base.Ns builtinsNs mb/\∀ x:Str,x ≠ "__name__" -> mb x=bootBuiltins x
 nolimit:base.NoLimit
structure Cx where
 prog:Program
 w:World
 K:Fg
 mg:SOV
 base:Heap
 A:Around
 N:List Str
 s₀:Shared
 H₀:Hp
 env:Env
 outer:List Env
 stack:List Env
 ex:List Addr
 fn:Str->Bool
 calm:Bool
 pn:LAO
 xe:VSP
def frs(l:List Env):List Addr:=l.filterMap (·.frame)
abbrev Cx.fs(X:Cx):List Addr:=frs X.outer
def Vis(sc:Scope)(x:Str):Prop:=sc.names.lookup x=some .local\/sc.names.lookup x=some .cell\/sc.names.lookup x=some .free
def Loc(sc:Scope)(x:Str):Prop:=sc.names.lookup x=some .local\/sc.names.lookup x=some .cell
def Look(env:Env)(h:Heap)(m:SOV)(x:Str)(u:Value):Prop :=
 (env.kindOf x=some .local/\m x=some u)\/((env.kindOf x=some .cell\/env.kindOf x=some .free)/\∃ c,env.cells.lookup x=some c/\h.IsCell c (some u))
structure Cx.Ok(X:Cx):Prop where
 mod:Mod X.K X.mg X.base
 kind:X.env.scope.kind=.function
 glob:X.env.globals=mainGlobals
 blt:X.env.builtins=builtinsNs
 above:X.s₀.heap.objs.size<=X.env.locals
 inj:∀ x y c,X.env.cells.lookup x=some c->X.env.cells.lookup y=some c->x=y
 has:∀ x,(X.env.kindOf x=some .cell\/X.env.kindOf x=some .free)->∃ c,X.env.cells.lookup x=some c
 cab:∀ x c,X.fn x=true->X.env.cells.lookup x=some c->X.s₀.heap.objs.size<=c
 hd:X.calm=true->X.A.handled=none
 frames:X.A.frames=some X.stack
 stk:X.stack=X.outer\/(X.stack=X.env::X.outer/\X.env.frame=some X.env.locals)
 exf:∀ b∈X.ex,b≠X.env.locals/\∀ x c,X.env.cells.lookup x=some c->c≠b
 bs:∀ b o,X.base.get? b=some o->X.s₀.heap.get? b=some o/\X.H₀ b=none
 bsz:X.base.objs.size<=X.s₀.heap.objs.size
 noex:∀ b o,X.base.get? b=some o->b∉X.ex
 exfs:∀ b∈X.ex,b∉X.fs
 funs:X.s₀.heap.FunFrames X.base X.outer
 frf:∀ b∈X.fs,X.H₀ b=none
structure Inv(X:Cx)(aA:LAO)(σ:List (Option V))(H:Hp)(s:Shared):Prop where
 ok:X.Ok
 os:s.os=X.s₀.os
 bare:AllBare s.gens
 base:Un X.fs X.ex X.H₀ H X.s₀.heap s.heap
 loc:∃ m,s.heap.Ns X.env.locals m/\∀ (i:Nat) (x:Str) (v:V),X.N[i]? = some x->σ[i]? = some (some v)->Vis X.env.scope x->∃ u,aJ v u/\Look X.env s.heap m x u
 cell:∀ x c,X.env.cells.lookup x=some c->∃ v,s.heap.IsCell c v
 free:H X.env.locals=none
 freeC:∀ x c,X.env.cells.lookup x=some c->H c=none
 pin:∀ p∈X.pn++aA,s.heap.get? p.1=some p.2/\H p.1=none/\p.1≠X.env.locals/\p.1∉X.fs/\∀ v,p.2.data ≠ .cell v
 hok:HOk X.prog X.w H s.heap
 len:σ.length=X.N.length
section
variable {X:Cx}{aA:LAO}{σ:List (Option V)}{H H':Hp}{s:Shared}{h':Heap}
theorem Cx.Ok.nofr(ok:X.Ok){b:Addr}{o:Obj}(e:X.base.get? b=some o):b∉X.fs:=λhb=>by have:=(ok.funs.mem hb).1;rw[e] at this;cases this
theorem Inv.bs(I:Inv X aA σ H s):∀ b o,X.base.get? b=some o->s.heap.get? b=some o/\H b=none:=λb o e =>
 ⟨I.base.keep b o (I.ok.bs b o e).1 (I.ok.bs b o e).2 (I.ok.nofr e) (I.ok.noex b o e),I.base.free b o (I.ok.bs b o e).1 (I.ok.bs b o e).2 (I.ok.noex b o e)⟩
theorem Inv.bk(I:Inv X aA σ H s):∀ b o,X.base.get? b=some o->s.heap.get? b=some o:=λb o e=>(I.bs b o e).1
theorem Inv.mod(I:Inv X aA σ H s):Mod X.K X.mg X.base:=I.ok.mod
theorem Inv.kIn(I:Inv X aA σ H s):X.K.In s.heap:=I.ok.mod.kin.keeps I.bk
theorem Inv.lt(I:Inv X aA σ H s):X.env.locals<s.heap.objs.size:=let ⟨_,hn,_⟩:=I.loc;hn.lt
theorem Inv.sz(I:Inv X aA σ H s):X.s₀.heap.objs.size<=s.heap.objs.size:=aQ8 I.ok.above (Nat.le_of_lt I.lt)
theorem Inv.nofs(I:Inv X aA σ H s){a:Addr}(h:s.heap.objs.size<=a):a∉X.fs:=λhb=>by obtain ⟨_,o,ho,_⟩:=I.ok.funs.mem hb;exact absurd (aQ2 (aQ1 ho) (aQ8 I.sz h)) (aQ3 _)
theorem Inv.cne(I:Inv X aA σ H s):∀ x c,X.env.cells.lookup x=some c->c≠X.env.locals:=λx c e z=>by obtain ⟨v,o,ho,hd⟩:=I.cell x c e;obtain ⟨m,⟨o',es,ep,ho',hd',_⟩,_⟩:=I.loc;rw[z,ho'] at ho;cases ho;rw[hd'] at hd;cases hd
theorem Inv.funs(I:Inv X aA σ H s):s.heap.FunFrames X.base X.outer:=by
 have all:∀ (l:List Env),(∀ b∈frs l,b∈X.fs)->X.s₀.heap.FunFrames X.base l->s.heap.FunFrames X.base l:=by
  intro l
  induction l with
  | nil=>intro _ _;trivial
  | cons env r ih =>
   intro hs hl;obtain ⟨hk,⟨L,o,hf,hn,ho,hd⟩,hr⟩:=hl;have hL:L∈X.fs:=hs L (by unfold frs;rw[aQ9,hf];exact mcs)
   obtain ⟨sl,e⟩:=I.base.slot L o ho (I.ok.frf L hL) hL λz=>I.ok.exfs L z hL;exact ⟨hk,⟨L,_,hf,hn,e,hd⟩,ih (λb hb=>hs b (by unfold frs;rw[aQ9,hf];exact mcm hb)) hr⟩
 exact all X.outer (λ_ hb=>hb) I.ok.funs
theorem Inv.stack(I:Inv X aA σ H s):s.heap.FunFrames X.base X.stack:=by
 rcases I.ok.stk with e | ⟨e,hf⟩
 . rw[e];exact I.funs
 . rw[e];obtain ⟨m,hn,_⟩:=I.loc;refine .cons (by rw[I.ok.kind];decide) hf hn ?_ I.funs
   exact Heap.get?_none_of_le (aQ8 I.ok.bsz I.ok.above)
theorem Inv.stkSub(I:Inv X aA σ H s):∀ b∈frs X.stack,b∈X.env.locals::X.fs:=λb hb=>by
 rcases I.ok.stk with e | ⟨e,hf⟩
 . rw[e] at hb;exact mcm hb
 . rw[e] at hb;unfold frs at hb;rw[aQ9,hf] at hb;exact hb
theorem Inv.stkFree(I:Inv X aA σ H s):∀ b∈frs X.stack,H b=none:=λb hb=>by
 rcases aRA.mp (I.stkSub b hb) with e | hb
 . rw[e];exact I.free
 . obtain ⟨_,o,ho,_⟩:=I.ok.funs.mem hb;exact I.base.free b o ho (I.ok.frf b hb) λz=>I.ok.exfs b z hb
theorem Inv.step{g':Array GenState}{t':Nat}{d':Drawn}{ch:List Addr}(I:Inv X aA σ H s)(hch:∀ b∈ch,(b∈X.ex\/X.s₀.heap.objs.size<=b)/\b≠X.env.locals/\(∀ x c,X.env.cells.lookup x=some c->c≠b)/\∀ p∈X.pn++aA,p.1≠b)(keep:∀ b o,b≠X.env.locals->b∉X.fs->b∉ch->s.heap.get? b=some o->H b=none->h'.get? b=some o)(slot:∀ b o,b≠X.env.locals->b∈X.fs->b∉ch->s.heap.get? b=some o->H b=none->∃ sl,h'.get? b=some { o with slots:=sl })(free:∀ b o,b∉ch->s.heap.get? b=some o->H b=none->H' b=none)(there:∀ b o,b∉ch->s.heap.get? b=some o->∃ o',h'.get? b=some o')(tups:∀ b xs,H b=some (.tup xs)->H' b=some (.tup xs))(frzs:∀ b o u,H b=some (.frz o u)->H' b=some (.frz o u))(tbls:∀ b ps,H b=some (.tbl ps)->∃ more,H' b=some (.tbl (ps++more)))(ns:∀ m,s.heap.Ns X.env.locals m->h'.Ns X.env.locals m)(hok:HOk X.prog X.w H' h')(hg:AllBare g'):Inv X aA σ H' { s with heap:=h',gens:=g',drawn:=d',toks:=t' }:=by
 have neL:∀ b o,X.s₀.heap.get? b=some o->b≠X.env.locals:=λb o e=>aQ4 (aQ2 (aQ1 e) I.ok.above);have neC:∀ b o,X.s₀.heap.get? b=some o->b∉X.ex->b∉ch:=λb o e hx hb=>by
  rcases (hch b hb).1 with z | z
  . exact hx z
  . exact absurd (aQ2 (aQ1 e) z) (aQ3 _)
 have cellK:∀ x c,X.env.cells.lookup x=some c->∀ v,s.heap.IsCell c v->h'.IsCell c v:=λx c e v ⟨o,ho,hd⟩=>by
  have nch:c∉ch:=λz=>(hch c z).2.2.1 x c e rfl;by_cases hc:c∈X.fs
  . obtain ⟨sl,q⟩:=slot c o (I.cne x c e) hc nch ho (I.freeC x c e);exact ⟨_,q,hd⟩
  . exact ⟨o,keep c o (I.cne x c e) hc nch ho (I.freeC x c e),hd⟩
 refine ⟨I.ok,I.os,hg,⟨λb o e n hb hx=>?_,λb o e n hb hx=>?_,λb o e n hx=>?_,λb o e hx=>?_,λb xs e=>tups b xs (I.base.tups b xs e),λb o xs e=>frzs b o xs (I.base.frzs b o xs e),λb ps e=>?_⟩,?_,λx c e=>?_,?_,λx c e=>?_,λp hp=>?_,hok,I.len⟩
 . exact keep b o (neL b o e) hb (neC b o e hx) (I.base.keep b o e n hb hx) (I.base.free b o e n hx)
 . obtain ⟨sl,e1⟩:=I.base.slot b o e n hb hx;obtain ⟨sl',e2⟩:=slot b _ (neL b o e) hb (neC b o e hx) e1 (I.base.free b o e n hx);exact ⟨sl',e2⟩
 . obtain ⟨o',e1⟩:=I.base.there b o e hx;exact free b o' (neC b o e hx) e1 (I.base.free b o e n hx)
 . obtain ⟨o',e1⟩:=I.base.there b o e hx;exact there b o' (neC b o e hx) e1
 . obtain ⟨m1,e1⟩:=I.base.tbls b ps e;obtain ⟨m2,e2⟩:=tbls b _ e1;exact ⟨m1++m2,by rw[e2,Array.append_assoc]⟩
 . obtain ⟨m,hn,hl⟩:=I.loc;refine ⟨m,ns m hn,λi x v e1 e2 e3=>?_⟩;obtain ⟨u,r,l⟩:=hl i x v e1 e2 e3;refine ⟨u,r,?_⟩;rcases l with l | ⟨k,c,e,z⟩
   . exact .inl l
   . exact .inr ⟨k,c,e,cellK x c e _ z⟩
 . obtain ⟨v,z⟩:=I.cell x c e;exact ⟨v,cellK x c e v z⟩
 . obtain ⟨m,⟨o,_,_,ho,_⟩,_⟩:=I.loc;exact free _ o (λz=>(hch _ z).2.1 rfl) ho I.free
 . obtain ⟨v,o,ho,hd⟩:=I.cell x c e;exact free c o (λz=>(hch c z).2.2.1 x c e rfl) ho (I.freeC x c e)
 . obtain ⟨e,n,ne,nf,d⟩:=I.pin p hp;have nch:p.1∉ch:=λz=>(hch p.1 z).2.2.2 p hp rfl;exact ⟨keep p.1 p.2 ne nf nch e n,free p.1 p.2 nch e n,ne,nf,d⟩
theorem Inv.un{t':Nat}(I:Inv X aA σ H s)(u:Un X.fs [] H H' s.heap h')(hok:HOk X.prog X.w H' h'):Inv X aA σ H' { s with heap:=h',toks:=t' }:=by
 obtain ⟨m,⟨o,es,ep,ho,r⟩,_⟩:=id I.loc;obtain ⟨sl,hL⟩:=u.any ho I.free (by simp)
 exact I.step (g':=s.gens) (d':=s.drawn) (ch:=[]) (λ_ z=>nomatch z) (λb o _ hb _ e n=>u.keep b o e n hb (by simp)) (λb o _ hb _ e n=>u.slot b o e n hb (by simp)) (λb o _ e n=>u.free b o e n (by simp)) (λb o _ e=>u.there b o e (by simp)) u.tups u.frzs u.tbls (λm' hm=>by
  obtain ⟨o',es',ep',ho',r'⟩:=hm;rw[ho] at ho';cases ho';exact ⟨_,es',ep',hL,r'⟩) hok I.bare
theorem Inv.call{g':Array GenState}{t':Nat}{d':Drawn}{ch:List Addr}(I:Inv X aA σ H s)(u:Un (frs X.stack) ch H H' s.heap h')(hok:HOk X.prog X.w H' h')(hg:AllBare g')(hch:∀ b∈ch,(b∈X.ex\/X.s₀.heap.objs.size<=b)/\b≠X.env.locals/\(∀ x c,X.env.cells.lookup x=some c->c≠b)/\∀ p∈X.pn++aA,p.1≠b):Inv X aA σ H' { s with heap:=h',gens:=g',drawn:=d',toks:=t' }:=by
 obtain ⟨m,⟨o,es,ep,ho,r⟩,_⟩:=id I.loc;obtain ⟨sl,hL⟩:=u.any ho I.free λz=>(hch _ z).2.1 rfl;exact I.step (ch:=ch) hch (λb o hL hb hc e n=>u.keep b o e n (λz=>(aRA.mp (I.stkSub b z)).elim hL hb) hc) (λb o _ _ hc e n=>u.any e n hc) (λb o hc e n=>u.free b o e n hc) (λb o hc e=>u.there b o e hc) u.tups u.frzs u.tbls (λm' hm=>by
  obtain ⟨o',es',ep',ho',r'⟩:=hm;rw[ho] at ho';cases ho';exact ⟨_,es',ep',hL,r'⟩) hok hg
theorem Inv.turned{t':Nat}{it:Addr}(I:Inv X aA σ H s)(k:∀ b o,b≠it->s.heap.get? b=some o->h'.get? b=some o)(hn:H it=none)(hL:it≠X.env.locals)(h1:it∈X.ex\/X.s₀.heap.objs.size<=it)(h2:∀ x c,X.env.cells.lookup x=some c->c≠it)(h3:∀ p∈X.pn++aA,p.1≠it):Inv X aA σ H { s with heap:=h',toks:=t' }:=by
 have nit:∀ b u,H b=some u->b≠it:=λb u e z=>by rw[z,hn] at e;cases e
 refine I.step (g':=s.gens) (d':=s.drawn) (ch:=[it]) (λb hb=>?_) (λb o _ _ hc e _=>k b o (λz=>hc (by simp[z])) e) (λb o _ _ hc e _=>⟨o.slots,k b o (λz=>hc (by simp[z])) e⟩) (λ_ _ _ _ n=>n)
  (λb o hc e=>⟨o,k b o (λz=>hc (by simp[z])) e⟩) (λ_ _ e=>e) (λ_ _ _ e=>e) (λb ps e=>⟨#[],by rw[e];simp⟩) (λm hm=>?_) (λb u e=>?_) I.bare
 . have e:b=it:=by simpa using hb
   subst e;exact ⟨h1,hL,h2,h3⟩
 . obtain ⟨o,es,ep,ho,r⟩:=hm;exact ⟨o,es,ep,k _ o (Ne.symm hL) ho,r⟩
 . refine (I.hok b u e).stay (λc v hc q=>k c v ?_ q) (λ_ q=>q) λ_ _ q=>q;rcases hc with z | z
   . rw[z];exact nit b u e
   . exact nit c _ z
theorem Inv.tok(I:Inv X aA σ H s)(t:Nat):Inv X aA σ H { s with toks:=t }:=I.un (h':=s.heap) (t':=t) Un.refl I.hok
theorem Inv.kept{t':Nat}(I:Inv X aA σ H s)(k:∀ b u,s.heap.get? b=some u->h'.get? b=some u):Inv X aA σ H { s with heap:=h',toks:=t' }:=I.un (Un.kept k) (I.hok.kept k)
theorem Inv.laid{a:Addr}{o:HO}{t':Nat}(I:Inv X aA σ H s)(k:∀ b u,s.heap.get? b=some u->h'.get? b=some u)(hp:s.heap.objs.size<=a)(new:bL X.prog X.w (upd H a o) h' a o):Inv X aA σ (upd H a o) { s with heap:=h',toks:=t' }:=I.un (Un.laid k hp (I.hok.fresh hp)) (I.hok.laid k hp new)
theorem Inv.write{x e:Addr}{o:HO}{t':Nat}(I:Inv X aA σ H s)(mu:Mut (H x))(he:e=x\/H e=some (.own x))(k:∀ b u,b≠e->s.heap.get? b=some u->h'.get? b=some u)(heo:∃ u,h'.get? e=some u)(new:bL X.prog X.w (upd H x o) h' x o):Inv X aA σ (upd H x o) { s with heap:=h',toks:=t' }:=I.un (Un.write mu he k heo) (I.hok.write mu he k heo new)
theorem Inv.weak{σ':List (Option V)}(I:Inv X aA σ H s)(hl:σ'.length=σ.length)(w:∀ (i:Nat) v,σ'[i]? = some (some v)->σ[i]? = some (some v)):Inv X aA σ' H s :=
 ⟨I.ok,I.os,I.bare,I.base,let ⟨m,hn,hl'⟩:=I.loc;⟨m,hn,λi x v e1 e2 e3=>hl' i x v e1 (w i v e2) e3⟩,I.cell,I.free,I.freeC,I.pin,I.hok,hl.trans I.len⟩
theorem Inv.pins_of{pins':LAO}(I:Inv X aA σ H s)(h:∀ p∈pins',s.heap.get? p.1=some p.2/\H p.1=none/\p.1≠X.env.locals/\p.1∉X.fs/\∀ v,p.2.data ≠ .cell v):Inv X pins' σ H s :=
 ⟨I.ok,I.os,I.bare,I.base,I.loc,I.cell,I.free,I.freeC,λp hp=>(aRB.mp hp).elim (λz=>I.pin p (List.mem_append_left _ z)) (h p),I.hok,I.len⟩
theorem rO{N:List Str}(hN:N.Nodup){i j:Nat}{x:Str}(a:N[i]? = some x)(b:N[j]? = some x):i=j:=by obtain ⟨h1,e1⟩:=aRC.mp a;obtain ⟨h2,e2⟩:=aRC.mp b;exact (aRD hN).mp (e1.trans e2.symm)
theorem rP{M:Model}{A:Around}{E:VSP}{i:Nat}{x:Str}{v:V}{u:Value}{Q:Unit->Shared->Prop}(I:Inv X aA σ H s)(hN:X.N.Nodup)(hi:X.N[i]? = some x)(hx:Loc X.env.scope x)(r:aJ v u)(h:∀ s',Inv X aA (σ.set i (some v)) H s'->(∃ a,Heap.SameBut a s.heap s'.heap/\(a=X.env.locals\/X.env.cells.lookup x=some a))->Q () s')(hf:X.fn x=true\/X.env.scope.names.lookup x=some .local:=by first | exact .inl rfl | exact .inr rfl | assumption):wpAny M A (storeName X.env x u) Q E s:=by
 obtain ⟨m,hn,hl⟩:=id I.loc;have hcls:(X.env.scope.kind == .class||(X.env.scope.kind == .module&&X.env.locals != X.env.globals))=false:=by rw[I.ok.kind];rfl
 have hiσ:i<σ.length:=by rw[I.len];exact (aRC.mp hi).1
 have cne:=I.cne;have tracked:∀ {a:Addr} {h':Heap},(∃ o,s.heap.get? a=some o/\H a=none)->Heap.SameBut a s.heap h'->HOk X.prog X.w H h':=λ{a h'} ha hs b ob e=>by
  obtain ⟨_,_,cZ⟩:=ha;refine (I.hok b ob e).stay (λc w' hc q=>(hs.2 c ?_).trans q) (λ_ q=>q) λ_ _ q=>q;rintro rfl;rcases hc with rfl | hc
  . rw[cZ] at e;cases e
  . rw[cZ] at hc;cases hc
 rcases hx with hk | hk
 . refine wpAny_storeName_local hk hn (λh' hn' hs=>?_) hcls;obtain ⟨oL,_,_,hoL,_⟩:=id hn;refine h _ ⟨I.ok,I.os,I.bare,⟨λb o e n hb hx=>?_,λb o e n hb hx=>?_,I.base.free,λb o e hx=>?_,I.base.tups,I.base.frzs,I.base.tbls⟩,⟨_,hn',λj y v' e1 e2 e3=>?_⟩,λy c e=>?_,I.free,I.freeC,λp hp=>?_,tracked ⟨oL,hoL,I.free⟩ hs,by simpa using I.len⟩ ⟨_,hs,.inl rfl⟩
   . exact (hs.2 b (aQ4 (aQ2 (aQ1 e) I.ok.above))).trans (I.base.keep b o e n hb hx)
   . obtain ⟨sl,e1⟩:=I.base.slot b o e n hb hx;exact ⟨sl,(hs.2 b (aQ4 (aQ2 (aQ1 e) I.ok.above))).trans e1⟩
   . obtain ⟨o',e1⟩:=I.base.there b o e hx;exact ⟨o',(hs.2 b (aQ4 (aQ2 (aQ1 e) I.ok.above))).trans e1⟩
   . by_cases hj:j=i
     . subst hj;rw[hi] at e1;cases e1;rw[aRE hiσ] at e2;cases e2;exact ⟨u,r,.inl ⟨hk,by simp⟩⟩
     . rw[aRF (Ne.symm hj)] at e2;obtain ⟨u',r',q⟩:=hl j y v' e1 e2 e3;refine ⟨u',r',?_⟩;rcases q with ⟨k,e⟩ | ⟨k,c,e,z⟩
       . refine .inl ⟨k,?_⟩;have:y≠x:=λe=>hj (rO hN e1 (e ▸ hi));simp[this,e]
       . exact .inr ⟨k,c,e,z.sameBut hs (cne y c e)⟩
   . obtain ⟨w',z⟩:=I.cell y c e;exact ⟨w',z.sameBut hs (cne y c e)⟩
   . obtain ⟨e,n,ne,nf,d⟩:=I.pin p hp;exact ⟨(hs.2 p.1 ne).trans e,n,ne,nf,d⟩
 . have hfn:X.fn x=true:=by
     rcases hf with z | z
     . exact z
     . rw[z] at hk;cases hk
   obtain ⟨c,hc⟩:=I.ok.has x (.inl hk);obtain ⟨w',z⟩:=I.cell x c hc;refine wpAny_storeName_cell I.ok.kind hk hc z (λh' hc' hs=>?_);obtain ⟨oc,hoc,hocd⟩:=id z;refine h { s with heap:=h' } ⟨I.ok,I.os,I.bare,⟨λb o e n hb hx=>?_,λb o e n hb hx=>?_,I.base.free,λb o e hx=>?_,I.base.tups,I.base.frzs,I.base.tbls⟩,⟨m,hn.sameBut hs (Ne.symm (cne x c hc)),λj y v' e1 e2 e3=>?_⟩,λy c' e=>?_,I.free,I.freeC,λp hp=>?_,tracked ⟨oc,hoc,I.freeC x c hc⟩ hs,by simpa using I.len⟩ ⟨c,hs,.inr hc⟩
   . exact (hs.2 b (aQ4 (aQ2 (aQ1 e) (I.ok.cab x c hfn hc)))).trans (I.base.keep b o e n hb hx)
   . obtain ⟨sl,e1⟩:=I.base.slot b o e n hb hx;exact ⟨sl,(hs.2 b (aQ4 (aQ2 (aQ1 e) (I.ok.cab x c hfn hc)))).trans e1⟩
   . obtain ⟨o',e1⟩:=I.base.there b o e hx;exact ⟨o',(hs.2 b (aQ4 (aQ2 (aQ1 e) (I.ok.cab x c hfn hc)))).trans e1⟩
   . by_cases hj:j=i
     . subst hj;rw[hi] at e1;cases e1;rw[aRE hiσ] at e2;cases e2;exact ⟨u,r,.inr ⟨.inl hk,c,hc,hc'⟩⟩
     . rw[aRF (Ne.symm hj)] at e2;obtain ⟨u',r',q⟩:=hl j y v' e1 e2 e3;refine ⟨u',r',?_⟩;rcases q with q | ⟨k,c',e,z'⟩
       . exact .inl q
       . refine .inr ⟨k,c',e,z'.sameBut hs ?_⟩;rintro rfl;exact hj (rO hN e1 (I.ok.inj _ _ _ e hc ▸ hi))
   . by_cases hcc:c'=c
     . subst hcc;exact ⟨_,hc'⟩
     . obtain ⟨w2,z2⟩:=I.cell y c' e;exact ⟨w2,z2.sameBut hs hcc⟩
   . obtain ⟨e,n,ne,nf,d⟩:=I.pin p hp;refine ⟨(hs.2 p.1 ?_).trans e,n,ne,nf,d⟩;intro q;rw[q,hoc] at e;have q':oc=p.2:=aQZ e;exact d w' (by rw[<- q'];exact hocd)
theorem rQ{M:Model}{A:Around}{E:VSP}{i:Nat}{x:Str}{v:V}{u:Value}{Q:Unit->Shared->Prop}(I:Inv X aA σ H s)(hN:X.N.Nodup)(hi:X.N[i]? = some x)(hx:Loc X.env.scope x)(r:aJ v u)(h:∀ s',Inv X aA (σ.set i (some v)) H s'->Q () s')(hf:X.fn x=true\/X.env.scope.names.lookup x=some .local:=by first | exact .inl rfl | exact .inr rfl | assumption):wpAny M A (storeName X.env x u) Q E s :=
 rP I hN hi hx r (λs' I' _=>h s' I') hf
theorem Inv.call'{s':Shared}{ch:List Addr}(I:Inv X aA σ H s)(ho:s'.os=s.os)(u:Un (frs X.stack) ch H H' s.heap s'.heap)(hok:HOk X.prog X.w H' s'.heap)(hg:AllBare s'.gens)(hch:∀ b∈ch,(b∈X.ex\/X.s₀.heap.objs.size<=b)/\b≠X.env.locals/\(∀ x c,X.env.cells.lookup x=some c->c≠b)/\∀ p∈X.pn++aA,p.1≠b):Inv X aA σ H' s':=by obtain ⟨h',g',d',t',o'⟩:=s';have e:o'=s.os:=ho;subst e;exact I.call (g':=g') (t':=t') (d':=d') u hok hg hch
end
abbrev XK:=Value->Option Addr->Hp->Prop
abbrev St:=List (Option V)
abbrev VK:=V->Hp->Prop
abbrev TE:=St->Hp->VK->Prop
abbrev TT:=St->Hp->(Bool->Hp->Prop)->Prop
abbrev TA:=St->Hp->(List V->Hp->Prop)->Prop
structure d8 where
 nx:St->Hp->Prop
 rt:VK
 bk:St->Hp->Prop:=λ_ _=>False
 ct:St->Hp->Prop:=λ_ _=>False
abbrev TS:=d8->St->Hp->Prop
def EP(X:Cx)(aA:LAO)(σ:St)(Q:VK)(u:Value)(s':Shared):Prop:=∃ v H',Inv X aA σ H' s'/\aJ v u/\Q v H'
def TP(X:Cx)(aA:LAO)(σ:St)(Q:Bool->Hp->Prop)(b:Bool)(s':Shared):Prop:=∃ H',Inv X aA σ H' s'/\Q b H'
def AP(X:Cx)(aA:LAO)(σ:St)(Q:List V->Hp->Prop)(us:List Value)(s':Shared):Prop:=∃ vs H',Inv X aA σ H' s'/\aM vs us/\Q vs H'
def SP(X:Cx)(aA:LAO)(D:d8)(f:Flow)(s':Shared):Prop :=
 match f with
 | .next=>∃ σ' H',Inv X aA σ' H' s'/\D.nx σ' H'
 | .brk=>∃ σ' H',Inv X aA σ' H' s'/\D.bk σ' H'
 | .cont=>∃ σ' H',Inv X aA σ' H' s'/\D.ct σ' H'
 | .ret u=>∃ v σ' H',Inv X aA σ' H' s'/\aJ v u/\D.rt v H'
def PE(X:Cx)(e:Expr)(t:TE):Prop :=
 ∀ (aA:LAO) (s:Shared) (σ:St) (H:Hp) (Q:VK),Inv X aA σ H s->t σ H Q->wpAny (model X.prog X.w) X.A (eval e X.env) (EP X aA σ Q) X.xe s
def PT(X:Cx)(e:Expr)(t:TT):Prop :=
 ∀ (aA:LAO) (s:Shared) (σ:St) (H:Hp) (Q:Bool->Hp->Prop),Inv X aA σ H s->t σ H Q->wpAny (model X.prog X.w) X.A (isTrue e X.env (eval e X.env)) (TP X aA σ Q) X.xe s
def PW(X:Cx)(e:Expr)(t:TT):Prop :=
 ∀ (cJ:Sem Value) (aA:LAO) (s:Shared) (σ:St) (H:Hp) (Q:Bool->Hp->Prop),Inv X aA σ H s->t σ H Q->wpAny (model X.prog X.w) X.A (isTrue e X.env cJ) (TP X aA σ Q) X.xe s
theorem PW.pt{X:Cx}{e:Expr}{t:TT}(h:PW X e t):PT X e t:=h _
def PA(X:Cx)(es:List Expr)(t:TA):Prop :=
 ∀ (pos:Pos) (aA:LAO) (s:Shared) (σ:St) (H:Hp) (Q:List V->Hp->Prop),Inv X aA σ H s->t σ H Q->wpAny (model X.prog X.w) X.A (spliced (backTo pos (starEach es X.env))) (AP X aA σ Q) X.xe s
def PS(X:Cx)(st:Stmt)(t:TS):Prop :=
 ∀ (aA:LAO) (s:Shared) (σ:St) (H:Hp) (D:d8),Inv X aA σ H s->t D σ H->wpAny (model X.prog X.w) X.A (exec st X.env) (SP X aA D) X.xe s
def PSs(X:Cx)(st:List Stmt)(t:TS):Prop :=
 ∀ (aA:LAO) (s:Shared) (σ:St) (H:Hp) (D:d8),Inv X aA σ H s->t D σ H->wpAny (model X.prog X.w) X.A (execs st X.env) (SP X aA D) X.xe s
theorem thn{α:Type}{t:Sem α}{Q Q':α->Shared->Prop}{M:Model}{A:Around}{E:VSP}{s:Shared}(h:wpAny M A t Q E s)(hQ:∀ a s,Q a s->Q' a s):wpAny M A t Q' E s:=aRG h hQ λ_ _ x=>x
section
variable {X:Cx}
def k7(i:Nat):TE:=λσ H Q=>∃ v,σ[i]? = some (some v)/\Q v H
def tC(v:V):TE:=λ_ H Q=>Q v H
theorem k8{i:Nat}{x:Str}{pos:Pos}(hN:X.N[i]? = some x)(hv:Vis X.env.scope x)(hd:(x==("__debug__" : Str))=false:=by decide)(hcd:(x==("__classdict__" : Str))=false:=by decide):PE X (.Name x pos) (k7 i):=by
 intro aA s σ H Q I h;obtain ⟨v,e,h⟩:=h;obtain ⟨m,hn,hl⟩:=I.loc;obtain ⟨u,r,l⟩:=hl i x v hN e hv;have fin:EP X aA σ Q u s:=⟨v,H,I,r,h⟩;rcases l with ⟨hk,hm⟩ | ⟨hk,c,hc,cM⟩
 . exact wpAny_Name (wpAny_loadName_local I.ok.kind hk hn hm fin) hd
 . rcases hk with hk | hk
   . exact wpAny_Name (wpAny_loadName_cell I.ok.kind hk hc cM fin) hd
   . exact wpAny_Name (wpAny_loadName_free I.ok.kind hk hc cM fin hcd) hd
theorem zJ{i j pos}:PE X (.Constant (.int i) j pos) (tC (.int i)):=λ_ _ _ H _ I h=>wpAny_Constant_int ⟨.int i,H,I.tok _,⟨_,rfl⟩,h⟩
theorem pe_bl{b j pos}:PE X (.Constant (.bool b) j pos) (tC (.bl b)):=λ_ _ _ H _ I h=>Constant_bool ⟨.bl b,H,I,rfl,h⟩
theorem zK{j pos}:PE X (.Constant .none j pos) (tC .non):=λ_ _ _ H _ I h=>Constant_none ⟨.non,H,I,rfl,h⟩
theorem zL{x j pos}:PE X (.Constant (.str x) j pos) (tC (.str x)):=λ_ _ _ H _ I h=>Calls.Constant_str ⟨.str x,H,I.tok _,⟨_,rfl⟩,h⟩
def Gl(X:Cx)(x:Str):Prop:=X.env.kindOf x=some .globalImplicit
theorem jA{E:VSP}{aA:LAO}{s:Shared}{σ:St}{H:Hp}{x:Str}{u:Value}{pos:Pos}{Q:VSP}(I:Inv X aA σ H s)(hg:Gl X x)(hm:X.mg x=some u)(h:Q u s)(hd:(x==("__debug__" : Str))=false:=by decide):wpAny (model X.prog X.w) X.A (eval (.Name x pos) X.env) Q E s :=
 Calls.Name_function_global I.ok.kind hg (Calls.loadGlobal_global (by rw[I.ok.glob];exact I.mod.glob.keeps I.bk) hm h) hd
theorem hV{E:VSP}{aA:LAO}{s:Shared}{σ:St}{H:Hp}{x:Str}{u:Value}{pos:Pos}{Q:VSP}(I:Inv X aA σ H s)(hg:Gl X x)(hm:X.mg x=none)(hv:bootBuiltins x=some u)(h:Q u s)(hn:x ≠ "__name__" := by decide)(hd:(x==("__debug__" : Str))=false:=by decide):wpAny (model X.prog X.w) X.A (eval (.Name x pos) X.env) Q E s:=by obtain ⟨mb,h1,h2⟩:=I.mod.blt;exact Calls.Name_function_global I.ok.kind hg (Calls.loadGlobal_builtin (by rw[I.ok.glob];exact I.mod.glob.keeps I.bk) hm (by rw[I.ok.blt];exact h1.keeps I.bk) ((h2 x hn).trans hv) h) hd
theorem rR{x:Str}{v:V}{u:Value}{pos:Pos}(hg:Gl X x)(hm:X.mg x=some u)(r:aJ v u)(hd:(x==("__debug__" : Str))=false:=by decide):PE X (.Name x pos) (tC v) :=
 λ_ _ _ H _ I h=>jA I hg hm ⟨v,H,I,r,h⟩ hd
theorem zM{x:Str}{v:V}{u:Value}{pos:Pos}(hg:Gl X x)(hm:X.mg x=none)(hv:bootBuiltins x=some u)(r:aJ v u)(hn:x ≠ "__name__" := by decide)(hd:(x==("__debug__" : Str))=false:=by decide):PE X (.Name x pos) (tC v) :=
 λ_ _ _ H _ I h=>hV I hg hm hv ⟨v,H,I,r,h⟩ hn hd
variable {a b:Expr}{ta tb:TE}{pos:Pos}
variable {tA tB':TT}{a9:List Expr}
def nI(t u:TT):TT:=λσ H Q=>t σ H λc H1=>if c=true then u σ H1 Q else Q false H1
def tOr(t u:TT):TT:=λσ H Q=>t σ H λc H1=>if c=true then Q true H1 else u σ H1 Q
def tNot(t:TT):TT:=λσ H Q=>t σ H λc H1=>Q (!c) H1
theorem zN(ha:PT X a tA):PW X (.BoolOp .And [a] pos) tA:=by
 intro wh aA s σ H Q I h;refine isTrue_and (thn (ha aA s σ H Q I h) λc s1 e=>?_);cases c with
 | true=>exact isTrue_and_nil e
 | false=>exact e
theorem zO(ha:PT X a tA):PW X (.BoolOp .Or [a] pos) tA:=by
 intro wh aA s σ H Q I h;refine isTrue_or (thn (ha aA s σ H Q I h) λc s1 e=>?_);cases c with
 | false=>exact isTrue_or_nil e
 | true=>exact e
theorem zP(ha:PT X a tA)(hb:PW X (.BoolOp .And (b::a9) pos) tB'):PW X (.BoolOp .And (a::b::a9) pos) (nI tA tB'):=by
 intro wh aA s σ H Q I h;refine isTrue_and (thn (ha aA s σ H _ I h) λc s1 ⟨H1,I1,q1⟩=>?_);cases c with
 | true=>exact hb wh aA s1 σ H1 Q I1 q1
 | false=>exact ⟨H1,I1,q1⟩
theorem pw_or(ha:PT X a tA)(hb:PW X (.BoolOp .Or (b::a9) pos) tB'):PW X (.BoolOp .Or (a::b::a9) pos) (tOr tA tB'):=by
 intro wh aA s σ H Q I h;refine isTrue_or (thn (ha aA s σ H _ I h) λc s1 ⟨H1,I1,q1⟩=>?_);cases c with
 | true=>exact ⟨H1,I1,q1⟩
 | false=>exact hb wh aA s1 σ H1 Q I1 q1
theorem zQ(ha:PT X a tA):PT X (.UnaryOp .Not a pos) (tNot tA):=by intro aA s σ H Q I h;exact isTrue_not (ha aA s σ H (λc H1=>Q (!c) H1) I h)
def rS(ta tb:TE):TE:=λσ H Q=>ta σ H λx H1=>∃ c,x=.bl c/\if c=true then tb σ H1 Q else Q (.bl false) H1
def tOrV(ta tb:TE):TE:=λσ H Q=>ta σ H λx H1=>∃ c,x=.bl c/\if c=true then Q (.bl true) H1 else tb σ H1 Q
def rT(ta:TE):TE:=λσ H Q=>ta σ H λx H1=>∃ c,x=.bl c/\Q (.bl (!c)) H1
theorem zR{op}{t:TE}(h:PE X a t):PE X (.BoolOp op [a] pos) t:=λaA s σ H Q I hw=>BoolOp_one (h aA s σ H Q I hw)
theorem zS(ha:PE X a ta)(hb:PE X (.BoolOp .And (b::a9) pos) tb):PE X (.BoolOp .And (a::b::a9) pos) (rS ta tb):=by
 intro aA s σ H Q I h;refine BoolOp_and (thn (ha aA s σ H _ I h) λv s1 ⟨x,H1,I1,r1,q1⟩=>?_);obtain ⟨c,rfl,q1⟩:=q1;cases r1;refine aRH ?_;cases c with
 | true=>exact hb aA s1 σ H1 Q I1 q1
 | false=>exact ⟨.bl false,H1,I1,rfl,q1⟩
theorem pe_or(ha:PE X a ta)(hb:PE X (.BoolOp .Or (b::a9) pos) tb):PE X (.BoolOp .Or (a::b::a9) pos) (tOrV ta tb):=by
 intro aA s σ H Q I h;refine BoolOp_or (thn (ha aA s σ H _ I h) λv s1 ⟨x,H1,I1,r1,q1⟩=>?_);obtain ⟨c,rfl,q1⟩:=q1;cases r1;refine aRH ?_;cases c with
 | false=>exact hb aA s1 σ H1 Q I1 q1
 | true=>exact ⟨.bl true,H1,I1,rfl,q1⟩
theorem zT(ha:PE X a ta):PE X (.UnaryOp .Not a pos) (rT ta):=by intro aA s σ H Q I h;refine UnaryOp_ (thn (ha aA s σ H _ I h) λv s1 ⟨x,H1,I1,r1,q1⟩=>?_);obtain ⟨c,rfl,q1⟩:=q1;cases r1;exact not_of (aRH ⟨.bl (!c),H1,I1,rfl,q1⟩)
end
def SqL(K:Fg)(H:Hp)(a:Addr)(xs:List V):Prop :=
 Rd H a (.lst xs) \/
  ∃ (o:Obj) (its:Array Value) (n:Nat),K.lookup a=some o/\o.cls=.type "list" /\ o.dict=none/\o.data=.seq its n/\its.size<=sizeLine/\aM xs its.toList
def SqT(K:Fg)(H:Hp)(a:Addr)(xs:List V):Prop :=
 Rd H a (.tup xs) \/
  ∃ (o:Obj) (its:Array Value) (n:Nat),K.lookup a=some o/\o.cls=.type "tuple" /\ o.dict=none/\o.data=.seq its n/\its.size<=sizeLine/\aM xs its.toList
def absV:Value->Option V
 | .none=>some .non
 | .bool b=>some (.bl b)
 | .int i _=>some (.int i)
 | .str x _=>some (.str x)
 | .bytes b _=>some (.byt b)
 | .float b _=>some (.flt b)
 | .ref a=>some (.ref a)
 | .type n=>some (.ty n)
 | _=>none
theorem aJ.abs{x:V}{u:Value}(r:aJ x u):absV u=some x:=by
 cases x with
 | non=>cases r;rfl
 | bl _=>cases r;rfl
 | int _=>obtain ⟨t,rfl⟩:=r;rfl
 | str _=>obtain ⟨t,rfl⟩:=r;rfl
 | byt _=>obtain ⟨t,rfl⟩:=r;rfl
 | flt _=>obtain ⟨t,rfl⟩:=r;rfl
 | ref _=>cases r;rfl
 | ty _=>cases r;rfl
theorem aJ.inj{x y:V}{u:Value}(r:aJ x u)(q:aJ y u):x=y:=aQZ (r.abs.symm.trans q.abs)
theorem aM.inj:∀ {xs ys:List V} {us:List Value},aM xs us->aM ys us->xs=ys
 | _,_,_,.nil,.nil=>rfl
 | _,_,_,.cons r t,.cons r' t'=>by rw[r.inj r',aM.inj t t']
section
variable {X:Cx}{aA:LAO}{σ:St}{H:Hp}{s:Shared}{a:Addr}{xs ys:List V}
theorem SqL.of{K:Fg}(h:H a=some (.lst xs)):SqL K H a xs:=.inl (.inl h)
theorem SqT.of{K:Fg}(h:H a=some (.tup xs)):SqT K H a xs:=.inl (.inl h)
theorem Inv.list(I:Inv X aA σ H s)(h:SqL X.K H a xs):∃ its:List Value,aM xs its/\PlainL s.heap a its.toArray/\xs.length<=sizeLine:=by
 rcases h with h | ⟨o,its,n,hk,hc,hd,hs,hz,r⟩
 . obtain ⟨z,its,n,r,e⟩:=h.ok I.hok;exact ⟨its,r,⟨_,n,e,rfl,rfl,rfl⟩,z⟩
 . refine ⟨its.toList,r,⟨o,n,I.kIn a o hk,hc,hd,by simpa using hs⟩,?_⟩
   have e:=r.length;simp only[aRI] at e;omega
theorem Inv.tuple(I:Inv X aA σ H s)(h:SqT X.K H a xs):∃ its:List Value,aM xs its/\IsTup s.heap a its.toArray/\xs.length<=sizeLine:=by
 rcases h with h | ⟨o,its,n,hk,hc,hdt,hs,hz,r⟩
 . obtain ⟨z,its,r,p⟩:=h.ok I.hok;exact ⟨its,r,p.isTup,z⟩
 . refine ⟨its.toList,r,⟨o,I.kIn a o hk,hc,n,by simpa using hs⟩,?_⟩
   have e:=r.length;simp only[aRI] at e;omega
theorem Inv.list_inj(I:Inv X aA σ H s)(h:SqL X.K H a xs)(h':SqL X.K H a ys):xs=ys:=by
 obtain ⟨its,r,⟨o,n,e,_,_,d⟩,_⟩:=I.list h;obtain ⟨its',r',⟨o',n',e',_,_,d'⟩,_⟩:=I.list h';rw[e] at e';cases e';rw[d] at d';injection d' with d1 _
 have:its=its':=by simpa using congrArg Array.toList d1
 subst this;exact r.inj r'
theorem Inv.tuple_inj(I:Inv X aA σ H s)(h:SqT X.K H a xs)(h':SqT X.K H a ys):xs=ys:=by
 obtain ⟨its,r,⟨o,e,_,n,d⟩,_⟩:=I.tuple h;obtain ⟨its',r',⟨o',e',_,n',d'⟩,_⟩:=I.tuple h';rw[e] at e';cases e';rw[d] at d';injection d' with d1 _
 have:its=its':=by simpa using congrArg Array.toList d1
 subst this;exact r.inj r'
end
abbrev Cx.wish(X:Cx)(E:VSP):Cx:={ X with xe:=E }
section
variable {X:Cx}{aA:LAO}{σ:St}{H:Hp}{s:Shared}{E:VSP}
end
section
variable {X:Cx}{st:Stmt}{a9:List Stmt}{t u:TS}{e:Expr}{te:TE}{pos:Pos}
def tNext:TS:=λD σ H=>D.nx σ H
def tSeq(t u:TS):TS:=λD σ H=>t { D with nx:=u D } σ H
theorem nJ:PSs X [] tNext:=λ_ _ σ H _ I h=>wpAny_execs_nil ⟨σ,H,I,h⟩
theorem nK(h1:PS X st t)(h2:PSs X a9 u):PSs X (st::a9) (tSeq t u):=by
 intro aA s σ H D I h;refine wpAny_execs_cons (thn (h1 aA s σ H { D with nx:=u D } I h) λf s1 q=>?_)
 cases f with
 | next=>obtain ⟨σ',H',I',q⟩:=q;exact h2 aA s1 σ' H' D I' q
 | ret v=>exact q
 | brk=>exact q
 | cont=>exact q
def tRet(te:TE):TS:=λD σ H=>te σ H D.rt
theorem rV(he:PE X e te):PS X (.Return (some e) pos) (tRet te):=by intro aA s σ H D I h;exact wpAny_Return_some (thn (he aA s σ H _ I h) λv s1 ⟨x,H1,I1,r1,q1⟩=>⟨x,σ,H1,I1,r1,q1⟩)
def tIfS(c:TT)(t u:TS):TS:=λD σ H=>c σ H λb H1=>if b=true then t D σ H1 else u D σ H1
theorem rW{c:Expr}{a b:List Stmt}{tc:TT}(hc:PT X c tc)(ha:PSs X a t)(hb:PSs X b u):PS X (.If c a b pos) (tIfS tc t u):=by
 intro aA s σ H D I h;refine wpAny_If (thn (hc aA s σ H _ I h) λd s1 ⟨H1,I1,q1⟩=>?_);cases d with
 | true=>exact ha aA s1 σ H1 D I1 q1
 | false=>exact hb aA s1 σ H1 D I1 q1
end
abbrev TG:=V->St->Hp->(St->Hp->Prop)->Prop
abbrev TGs:=List V->St->Hp->(St->Hp->Prop)->Prop
def PG(X:Cx)(target:Expr)(t:TG):Prop :=
 ∀ (aA:LAO) (s:Shared) (σ:St) (H:Hp) (v:V) (u:Value) (Q:St->Hp->Prop),Inv X aA σ H s->aJ v u->t v σ H Q ->
  wpAny (model X.prog X.w) X.A (assign target X.env u) (λ_ s'=>∃ σ' H',Inv X aA σ' H' s'/\Q σ' H') X.xe s
def PGs(X:Cx)(ts:List Expr)(t:TGs):Prop :=
 ∀ (aA:LAO) (s:Shared) (σ:St) (H:Hp) (vs:List V) (us:List Value) (Q:St->Hp->Prop),Inv X aA σ H s->aM vs us->t vs σ H Q ->
  wpAny (model X.prog X.w) X.A (assignInOrder ((assignEach ts X.env).map (·.2)) us) (λ_ s'=>∃ σ' H',Inv X aA σ' H' s'/\Q σ' H') X.xe s
section
variable {X:Cx}{pos:Pos}
def jB(i:Nat):TG:=λv σ H Q=>Q (σ.set i (some v)) H
theorem zU{i:Nat}{x:Str}(hN:X.N.Nodup)(hi:X.N[i]? = some x)(hx:Loc X.env.scope x)(hf:X.fn x=true\/X.env.scope.names.lookup x=some .local:=by first | exact .inl rfl | exact .inr rfl | assumption):PG X (.Name x pos) (jB i):=by intro aA s σ H v u Q I r h;exact wpAny_assign_Name (rQ I hN hi hx r (λs' I'=>⟨_,H,I',h⟩) hf)
def gNil:TGs:=λvs σ H Q=>vs=[]/\Q σ H
def rX(t:TG)(u:TGs):TGs:=λvs σ H Q=>∃ v r,vs=v::r/\t v σ H λσ' H'=>u r σ' H' Q
theorem zV:PGs X [] gNil:=by intro aA s σ H vs us Q I r h;obtain ⟨e,h⟩:=h;subst e;cases r;exact assignInOrder_nil ⟨σ,H,I,h⟩
theorem zW{e:Expr}{es:List Expr}{t:TG}{u:TGs}(h1:PG X e t)(h2:PGs X es u)(hs:(assignEach (e::es) X.env).map (·.2)=assign e X.env::(assignEach es X.env).map (·.2):=by rfl):PGs X (e::es) (rX t u):=by
 intro aA s σ H vs us Q I r h;obtain ⟨v,vr,e1,h⟩:=h;subst e1;cases r with
 | cons r rr=>rw[hs];refine assignInOrder_cons (thn (h1 aA s σ H _ _ _ I r h) λ_ s1 ⟨σ1,H1,I1,q1⟩=>?_);exact h2 aA s1 σ1 H1 _ _ Q I1 rr q1
def gTup(K:Fg)(n:Nat)(t:TGs):TG:=λv σ H Q=>∃ a xs,v=.ref a/\SqT K H a xs/\xs.length=n/\t xs σ H Q
theorem zX{es:List Expr}{k:Nat}{t:TGs}{n:Nat}(hc:X.calm=true)(h:PGs X es t)(hn:(assignEach es X.env).length=n:=by rfl)(hst:(assignEach es X.env).findIdx? (·.1)=none:=by rfl):PG X (.Tuple es k pos) (gTup X.K n t):=by
 intro aA s σ H v u Q I r hw;obtain ⟨a,xs,e1,hq,hl,hw⟩:=hw;subst e1;cases r;obtain ⟨its,rv,ht,hz⟩:=I.tuple hq;refine assign_Tuple_tuple (I.ok.hd hc) ht (by simp[hn,<- hl,rv.length]) hst λh' hx=>?_
 have I1:Inv X aA σ H { s with heap:=h' }:=I.kept (t':=s.toks) λb o e=>hx b o (aQ4 (aQ1 e)) e
 exact h aA _ σ H xs _ Q I1 (by simpa using rv) hw
def k9(te:TE)(g:TG):TS:=λD σ H=>te σ H λx H1=>g x σ H1 D.nx
theorem zY{i:Nat}{x:Str}{e:Expr}{te:TE}{pos':Pos}(hN:X.N.Nodup)(hi:X.N[i]? = some x)(hx:Loc X.env.scope x)(he:PE X e te)(hs:swapsWith e (some (.Name x pos')) pos.line X.env=pure false:=by rfl)(hf:X.fn x=true\/X.env.scope.names.lookup x=some .local:=by first | exact .inl rfl | exact .inr rfl | assumption):PS X (.Assign [.Name x pos'] e pos) (k9 te (jB i)):=by intro aA s σ H D I h;refine wpAny_Assign_Name (thn (he aA s σ H _ I h) λv s1 ⟨y,H1,I1,r1,q1⟩=>?_) hs;exact rQ I1 hN hi hx r1 (λs2 I2=>⟨_,H1,I2,q1⟩) hf
end
section
variable {X:Cx}{pos:Pos}
end
structure It where
 go:Nat->Hp->Prop
 yld:Nat->Hp->V->Hp->Prop
 stop:Nat->Hp->Prop
def dF(X:Cx)(aA:LAO)(H:Hp)(b:Addr):Prop :=
 H b=none/\b≠X.env.locals/\b∉X.fs/\(b∈X.ex\/X.s₀.heap.objs.size<=b)/\(∀ x c,X.env.cells.lookup x=some c->c≠b)/\∀ p∈X.pn++aA,p.1≠b
theorem Inv.fpOk{X:Cx}{aA:LAO}{σ:St}{H H':Hp}{s:Shared}{b:Addr}(I:Inv X aA σ H s)(hb:s.heap.objs.size<=b)(hn:H' b=none):dF X aA H' b:=by
 refine ⟨hn,aRJ (aQ2 I.lt hb),I.nofs hb,.inr (aQ8 I.sz hb),λx c e z=>?_,λp hp z=>?_⟩
 . obtain ⟨v,q⟩:=I.cell x c e;exact absurd (aQ2 q.lt (by rw[z];exact hb)) (aQ3 _)
 . exact absurd (aQ2 (aQ1 (I.pin p hp).1) (by rw[z];exact hb)) (aQ3 _)
structure e8(P:Program)(w:World)(K:Fg)(tg:Expr)(J:It)(fp:List Addr)(it:Addr)(tn:Nat->Heap->Prop):Prop where
 mem:it∈fp
 obj:∀ i h,tn i h->∀ b∈fp,∃ o,h.get? b=some o/\∀ v,o.data ≠ .cell v
 keep:∀ i h h',tn i h->(∀ b∈fp,∀ o,h.get? b=some o->h'.get? b=some o)->tn i h'
 item:∀ (X:Cx),X.prog=P->X.w=w->X.K=K->X.calm=true->∀ (i:Nat) (aA:LAO) (s:Shared) (σ:St) (H:Hp) (E:VSP),Inv X aA σ H s->(∀ b∈fp,dF X aA H b)->tn i s.heap->J.go i H ->
  wpAny (model P w) X.A (pyNext (.ref it)) (λr s1=>∃ u,r=some u /\
   wpAny (model P w) X.A (letOwnedTupleGo tg (.ref it) u) (λ_ s2=>∃ x H',Inv X aA σ H' s2/\aJ x u/\J.yld i H x H'/\tn (i+1) s2.heap/\∀ b∈fp,H' b=none) E s1) E s
 done:∀ (X:Cx),X.prog=P->X.w=w->X.K=K->X.calm=true->∀ (i:Nat) (aA:LAO) (s:Shared) (σ:St) (H:Hp) (E:VSP),Inv X aA σ H s->(∀ b∈fp,dF X aA H b)->tn i s.heap->J.stop i H ->
  wpAny (model P w) X.A (pyNext (.ref it)) (λr s1=>r=none/\Inv X aA σ H s1) E s
 self:∀ (A:Around) (i:Nat) (s:Shared) (Q:VSP) (E:VSP),tn i s.heap->Q (.ref it) s->wpAny (model P w) A (pyIter (.ref it)) Q E s
abbrev TI:=St->Hp->(It->Hp->Prop)->Prop
def PIE(X:Cx)(aA:LAO)(σ:St)(tg:Expr)(R:It->Hp->Prop)(itv:Value)(s2:Shared):Prop :=
 ∃ (it:Addr) (fp:List Addr) (tn:Nat->Heap->Prop) (J:It) (H':Hp),itv=.ref it/\Inv X aA σ H' s2/\e8 X.prog X.w X.K tg J fp it tn/\tn 0 s2.heap/\(∀ b∈fp,dF X aA H' b)/\R J H'
def PI(X:Cx)(tg aP:Expr)(wi:TI):Prop :=
 ∀ (aA:LAO) (s:Shared) (σ:St) (H:Hp) (R:It->Hp->Prop),Inv X aA σ H s->wi σ H R ->
  wpAny (model X.prog X.w) X.A (eval aP X.env) (λv s1=>wpAny (model X.prog X.w) X.A (pyIter v) (PIE X aA σ tg R) X.xe s1) X.xe s
theorem lA{M:Model}{A:Around}{E:VSP}{s:Shared}{tg:Expr}{it:Addr}{u:Value}{o:Obj}{n:String}{vs:Array Value}{Q:Unit->Shared->Prop}(ho:s.heap.get? it=some o)(hc:o.cls=.type n)(hd:o.data=.fields vs)(hn:["enumerate", "zip", "dict_itemiterator", "dict_reverseitemiterator", "odict_iterator", "itertools.zip_longest", "itertools.pairwise"].contains n=false)(hQ:Q () s):wpAny M A (letOwnedTupleGo tg (.ref it) u) Q E s:=by
 unfold letOwnedTupleGo;cases tg <;> first
  | exact aRK hQ
  | (cases u <;> first
      | exact aRK hQ
      | (refine aRL (wpAny_load ho ?_)
         rw[hc,hd];show wpAny M A (if (["enumerate", "zip", "dict_itemiterator", "dict_reverseitemiterator", "odict_iterator", "itertools.zip_longest", "itertools.pairwise"].contains n&&vs[0]?==some (rawInt _))=true then _ else _) Q E s;rw[if_neg (by intro h;rw[hn,Bool.false_and] at h;cases h)]
         exact aRK hQ))
def Itl(K:Fg)(a:Addr):It :=
 ⟨λi H=>∃ xs x,SqL K H a xs/\xs[i]? = some x,λi H x H'=>H'=H/\∀ xs,SqL K H a xs->xs[i]? = some x,λi H=>∃ xs,SqL K H a xs/\xs.length<=i⟩
def Itt(K:Fg)(a:Addr):It :=
 ⟨λi H=>∃ xs x,SqT K H a xs/\xs[i]? = some x,λi H x H'=>H'=H/\∀ xs,SqT K H a xs->xs[i]? = some x,λi H=>∃ xs,SqT K H a xs/\xs.length<=i⟩
def Itr(lo:Int)(n:Nat):It:=⟨λi _=>i<n,λi H x H'=>H'=H/\x=.int (lo+i),λi _=>n<=i⟩
theorem zZ{P:Program}{w:World}{K:Fg}{tg:Expr}(a it:Addr):e8 P w K tg (Itl K a) [it] it (λi h=>h.IsListIter it a i) where
 mem:=by simp
 obj:=λi h st b hb=>by
  have e:b=it:=by simpa using hb
  subst e;obtain ⟨o,e,c,d⟩:=st;exact ⟨o,e,λv z=>by rw[d] at z;cases z⟩
 keep:=λi h h' st k=>st.at λo e=>k it (by simp) o e
 item:=by
  intro X hP hw hK hc i aA s σ H E I hf st hg;subst hP hw hK;obtain ⟨xs,x,hq,hx⟩:=hg;obtain ⟨its,rv,p,hz⟩:=I.list hq;obtain ⟨u,hu,ru⟩:=rv.get hx;obtain ⟨f0,f1,f2,f3,f4,f5⟩:=hf it (by simp)
  refine wpAny_pyNext_list_item st p.isList (x:=u) (by simpa using hu) λh' st' sb=>?_
  have I1:Inv X aA σ H { s with heap:=h' }:=I.turned (t':=s.toks) (λb o hb e=>(sb.2 b hb).trans e) f0 f1 f3 f4 f5
  obtain ⟨o,e,c,d⟩:=id st';exact ⟨u,rfl,lA (s:={ s with heap:=h' }) e c d (by decide) ⟨x,H,I1,ru,⟨rfl,λys hy=>by rw[I.list_inj hy hq];exact hx⟩,st',λb hb=>(hf b hb).1⟩⟩
 done:=by
  intro X hP hw hK hc i aA s σ H E I hf st hg;subst hP hw hK;obtain ⟨xs,hq,hx⟩:=hg;obtain ⟨its,rv,p,hz⟩:=I.list hq;obtain ⟨f0,f1,f2,f3,f4,f5⟩:=hf it (by simp)
  have hl:=rv.length;exact wpAny_pyNext_list_end (I.ok.hd hc) st p.isList (by simp;omega) λh' eb=>⟨rfl,I.turned (t':=s.toks) (λb o hb e=>eb b o hb e) f0 f1 f3 f4 f5⟩
 self:=λ_ _ _ _ _ st h=>wpAny_pyIter_listiter st h
theorem z9{P:Program}{w:World}{K:Fg}{tg:Expr}(a it:Addr):e8 P w K tg (Itt K a) [it] it (λi h=>h.IsTupleIter it a i) where
 mem:=by simp
 obj:=λi h st b hb=>by
  have e:b=it:=by simpa using hb
  subst e;obtain ⟨o,e,c,d⟩:=st;exact ⟨o,e,λv z=>by rw[d] at z;cases z⟩
 keep:=λi h h' st k=>st.at λo e=>k it (by simp) o e
 item:=by
  intro X hP hw hK hc i aA s σ H E I hf st hg;subst hP hw hK;obtain ⟨xs,x,hq,hx⟩:=hg;obtain ⟨its,rv,p,hz⟩:=I.tuple hq;obtain ⟨u,hu,ru⟩:=rv.get hx;obtain ⟨f0,f1,f2,f3,f4,f5⟩:=hf it (by simp)
  refine wpAny_pyNext_tuple_item st (show s.heap.IsTuple a its.toArray from p) (x:=u) (by simpa using hu) λh' st' sb=>?_
  have I1:Inv X aA σ H { s with heap:=h' }:=I.turned (t':=s.toks) (λb o hb e=>(sb.2 b hb).trans e) f0 f1 f3 f4 f5
  obtain ⟨o,e,c,d⟩:=id st';exact ⟨u,rfl,lA (s:={ s with heap:=h' }) e c d (by decide) ⟨x,H,I1,ru,⟨rfl,λys hy=>by rw[I.tuple_inj hy hq];exact hx⟩,st',λb hb=>(hf b hb).1⟩⟩
 done:=by
  intro X hP hw hK hc i aA s σ H E I hf st hg;subst hP hw hK;obtain ⟨xs,hq,hx⟩:=hg;obtain ⟨its,rv,p,hz⟩:=I.tuple hq;obtain ⟨f0,f1,f2,f3,f4,f5⟩:=hf it (by simp)
  have hl:=rv.length;exact wpAny_pyNext_tuple_end (I.ok.hd hc) st (show s.heap.IsTuple a its.toArray from p) (by simp;omega) λh' eb=>⟨rfl,I.turned (t':=s.toks) (λb o hb e=>eb b o hb e) f0 f1 f3 f4 f5⟩
 self:=λ_ _ _ _ _ st h=>wpAny_pyIter_tupleiter st h
theorem aAA{P:Program}{w:World}{K:Fg}{tg:Expr}(it:Addr)(lo:Int)(n:Nat):e8 P w K tg (Itr lo n) [it] it (λi h=>IsRangeIter h it (lo+(i:Nat) * 1) ((n:Int)-(i:Nat)) 1) where
 mem:=by simp
 obj:=λi h st b hb=>by
  have e:b=it:=by simpa using hb
  subst e;exact ⟨_,st,λv z=>by
   have z':Data.fields _=Data.cell v:=z;cases z'⟩
 keep:=λi h h' st k=>k it (by simp) _ st
 item:=by
  intro X hP hw hK hc i aA s σ H E I hf st hg;subst hP hw hK;obtain ⟨f0,f1,f2,f3,f4,f5⟩:=hf it (by simp)
  have W:=Walks.range (prog:=X.prog) (w:=X.w) (I.ok.hd hc) it lo 1 n;refine W.item i s _ _ hg st λv h' tk hv st' kk=>?_;obtain ⟨t,rfl⟩:=hv;have I1:Inv X aA σ H { s with heap:=h',toks:=tk }:=I.turned (λb o hb e=>kk b o (by simpa using hb) e) f0 f1 f3 f4 f5
  refine ⟨_,rfl,lA (s:={ s with heap:=h',toks:=tk }) (n := "range_iterator") st' rfl rfl (by decide) ⟨.int (lo+i),H,I1,⟨t,?_⟩,⟨rfl,rfl⟩,st',λb hb=>(hf b hb).1⟩⟩
  rw[Int.mul_one]
 done:=by
  intro X hP hw hK hc i aA s σ H E I hf st hg;subst hP hw hK;obtain ⟨f0,f1,f2,f3,f4,f5⟩:=hf it (by simp)
  exact wpAny_pyNext_range_end (I.ok.hd hc) st (by have:n<=i:=hg;omega) λh' eb=>⟨rfl,I.turned (t':=s.toks) (λb o hb e=>eb b o hb e) f0 f1 f3 f4 f5⟩
 self:=λ_ _ _ _ _ st h=>wpAny_pyIter_rangeiter st h
section
variable {X:Cx}{tg:Expr}
def nL(K:Fg)(tl:TE):TI:=λσ H R=>tl σ H λx H1=>∃ a,x=.ref a/\(∃ xs,SqL K H1 a xs)/\R (Itl K a) H1
def iTup(K:Fg)(tl:TE):TI:=λσ H R=>tl σ H λx H1=>∃ a,x=.ref a/\(∃ xs,SqT K H1 a xs)/\R (Itt K a) H1
theorem aAB{l:Expr}{tl:TE}(hl:PE X l tl):PI X tg l (nL X.K tl):=by
 intro aA s σ H R I h;refine thn (hl aA s σ H _ I h) λv s1 ⟨x,H1,I1,r1,q1⟩=>?_;obtain ⟨a,e,⟨xs,hq⟩,q⟩:=q1;subst e;cases r1;obtain ⟨its,rv,p,hz⟩:=I1.list hq;refine aRM p.isList ?_;refine ⟨s1.heap.objs.size,[s1.heap.objs.size],_,_,H1,rfl,I1.kept (t':=s1.toks) λb o e=>hps e,zZ a _,⟨_,aQ0 _ rfl,rfl,rfl⟩,λb hb=>?_,q⟩;have e:b=s1.heap.objs.size:=by simpa using hb
 subst e;exact I1.fpOk (aRN _) (I1.hok.fresh (aRN _))
theorem aAC{l:Expr}{tl:TE}(hl:PE X l tl):PI X tg l (iTup X.K tl):=by
 intro aA s σ H R I h;refine thn (hl aA s σ H _ I h) λv s1 ⟨x,H1,I1,r1,q1⟩=>?_;obtain ⟨a,e,⟨xs,hq⟩,q⟩:=q1;subst e;cases r1;obtain ⟨its,rv,p,hz⟩:=I1.tuple hq;refine aRO (show s1.heap.IsTuple a its.toArray from p) ?_
 refine ⟨s1.heap.objs.size,[s1.heap.objs.size],_,_,H1,rfl,I1.kept (t':=s1.toks) λb o e=>hps e,z9 a _,⟨_,aQ0 _ rfl,rfl,rfl⟩,λb hb=>?_,q⟩;have e:b=s1.heap.objs.size:=by simpa using hb
 subst e;exact I1.fpOk (aRN _) (I1.hok.fresh (aRN _))
theorem aAD{aA:LAO}{σ:St}{H:Hp}{s:Shared}{R:It->Hp->Prop}{E:VSP}{lo hi:Int}{t u v:Tok}{tk:Nat}(I:Inv X aA σ H s)(h1:-(2 ^ 62)<=lo)(h2:lo<2 ^ 62)(h3:-(2 ^ 62)<=hi)(h4:hi<2 ^ 62)(q:R (Itr lo (hi-lo).toNat) H):wpAny (model X.prog X.w) X.A (pyIter (.ref s.heap.objs.size)) (PIE X aA σ tg R) E { s with heap:=s.heap.push { cls:=.type "range", data:=.fields #[.int lo t,.int hi u,.int 1 v] },toks:=tk }:=by
 refine wpAny_pyIter_range (IsRange.new ..) (small_one h1 h2 h3 h4) ?_;have I1:Inv X aA σ H { s with heap:=s.heap.push { cls:=.type "range", data:=.fields #[.int lo t,.int hi u,.int 1 v] },toks:=tk }:=I.kept λb o e=>hps e
 refine ⟨(s.heap.push { cls:=.type "range", data:=.fields #[.int lo t,.int hi u,.int 1 v] }).objs.size,[(s.heap.push { cls:=.type "range", data:=.fields #[.int lo t,.int hi u,.int 1 v] }).objs.size],_,_,H,rfl,
  I1.kept (t':=tk) λb o e=>hps e,aAA _ lo (hi-lo).toNat,?_,λb hb=>?_,q⟩
 . have e1:lo+((0:Nat):Int) * 1=lo:=by simp
   have e2:(((hi-lo).toNat:Nat):Int)-((0:Nat):Int)=Builtin.Range.rangeSize lo hi 1:=by rw[rangeSize_one];split <;> omega
   show IsRangeIter _ _ (lo+((0:Nat):Int) * 1) ((((hi-lo).toNat:Nat):Int)-((0:Nat):Int)) 1;rw[e1,e2];exact aQ0 _ rfl
 . have e:b=(s.heap.push { cls:=.type "range", data:=.fields #[.int lo t,.int hi u,.int 1 v] }).objs.size:=by simpa using hb
   subst e;exact I1.fpOk (aRN _) (I1.hok.fresh (aRN _))
def rY(ta:TA):TI:=λσ H R=>ta σ H λvs H1=>∃ j:Int,vs=[.int j] /\ -(2 ^ 62)<=j/\j<2 ^ 62/\R (Itr 0 j.toNat) H1
theorem aAE{a:Expr}{ta:TA}{p pos:Pos}(hg:Gl X "range")(hm:X.mg "range" = none)(ha:PA X [a] ta)(hs:starEach [a] X.env=[(false,eval a X.env)]:=by rfl):PI X tg (.Call (.Name "range" p) [a] [] pos) (rY ta):=by
 intro aA s σ H R I h;refine Call_ (hV I hg hm boot_range (aRP (thn (ha pos aA s σ H _ I h) λus s1 ⟨vs,H1,I1,r1,q1⟩=>?_) hs rfl));obtain ⟨j,e,q1,q2,q⟩:=q1;subst e;cases r1 with
 | cons r rr=>cases rr;obtain ⟨t,rfl⟩:=r;exact call_range_1 (aAD I1 (by omega) (by omega) q1 q2 (by simpa using q))
def tFor(wi:TI)(g:TG)(tb:TS):TS:=λD σ H=>wi σ H λJ H1=>∃ W:Nat->Nat->St->Hp->Prop,(∃ m,W 0 m σ H1)/\∀ i m σ H,W i m σ H ->
 (J.stop i H/\D.nx σ H)\/(J.go i H/\∃ N:St->Hp->Prop,(∀ σ' H',N σ' H'->∃ m',m'<m/\W (i+1) m' σ' H')/\∀ x H',J.yld i H x H'->g x σ H' λσ2 H2=>tb { D with nx:=N,ct:=N,bk:=D.nx } σ2 H2)
def jC(fp:List Addr)(h:Heap):LAO:=fp.filterMap λb=>(h.get? b).map λo=>(b,o)
theorem nM{fp:List Addr}{h:Heap}{b:Addr}{o:Obj}(hb:b∈fp)(e:h.get? b=some o):(b,o)∈jC fp h:=aRQ.mpr ⟨b,hb,by rw[e];rfl⟩
theorem aAF{fp:List Addr}{h:Heap}{p:Addr×Obj}(hp:p∈jC fp h):p.1∈fp/\h.get? p.1=some p.2:=by
 obtain ⟨b,hb,e⟩:=aRQ.mp hp;cases q:h.get? b with
 | none=>rw[q] at e;cases e
 | some o=>rw[q] at e;have e':(b,o)=p:=aQZ e;subst e';exact ⟨hb,q⟩
theorem Inv.pinned{aA:LAO}{σ:St}{H:Hp}{s:Shared}{fp:List Addr}(I:Inv X aA σ H s)(hf:∀ b∈fp,dF X aA H b)(ho:∀ b∈fp,∃ o,s.heap.get? b=some o/\∀ v,o.data ≠ .cell v):Inv X (aA++jC fp s.heap) σ H s :=
 I.pins_of λp hp=>(aRB.mp hp).elim (λz=>I.pin p (aRR _ z)) λz=>by obtain ⟨hb,e⟩:=aAF z;obtain ⟨f0,f1,f2,_⟩:=hf p.1 hb;obtain ⟨o,e',d⟩:=ho p.1 hb;rw[e] at e';cases e';exact ⟨e,f0,f1,f2,d⟩
theorem Inv.unpinned{aA pl:LAO}{σ:St}{H:Hp}{s:Shared}(I:Inv X (aA++pl) σ H s):Inv X aA σ H s:=I.pins_of λp hp=>I.pin p (aRR _ (List.mem_append_left _ hp))
theorem aAG{aP:Expr}{body:List Stmt}{wi:TI}{g:TG}{tb:TS}{pos:Pos}(hp:PassesOwn (model X.prog X.w) X.A X.env X.xe)(hc:X.calm=true)(hi:PI X tg aP wi)(hg:PG X tg g)(hb:PSs X body tb)(hs:∀ x,foldedSetIterable aP X.env x=pure x:=by intro _;rfl):PS X (.For tg aP body [] pos) (tFor wi g tb):=by
 intro aA s σ H D I h;refine wpAny_For (thn (hi aA s σ H _ I h) λv s1 h1=>thn h1 λitv s2 h2=>?_) hs;obtain ⟨it,fp,tn,J,H2,e,I2,T,st2,f2,W,⟨m0,w0⟩,turn⟩:=h2;subst e;have stat:∀ {H':Hp},(∀ b∈fp,H' b=none)->∀ b∈fp,dF X aA H' b:=λhn b hb=>⟨hn b hb,(f2 b hb).2⟩;refine codeAny_forLoop_any (λn s'=>∃ i σ' H',Inv X aA σ' H' s'/\tn i s'.heap/\(∀ b∈fp,H' b=none)/\W i n σ' H') ?_ m0 ⟨0,σ,H2,I2,st2,λb hb=>(f2 b hb).1,w0⟩;rintro n s3 ⟨i,σ3,H3,I3,st3,fr3,w3⟩;rcases turn i n σ3 H3 w3 with ⟨stop,qn⟩ | ⟨go,N,hN,step⟩
 . refine aRS hp (thn (T.done X rfl rfl rfl hc i aA s3 σ3 H3 X.xe I3 (stat fr3) st3 stop) λr s4 ⟨hr,I4⟩=>?_);subst hr;exact wpAny_execs_nil ⟨σ3,H3,I4,qn⟩
 . refine aRS hp (thn (T.item X rfl rfl rfl hc i aA s3 σ3 H3 X.xe I3 (stat fr3) st3 go) λr s4 ⟨u,hr,h4⟩=>?_);subst hr;refine aRS hp (thn h4 λ_ s5 ⟨x,H5,I5,r5,y5,st5,fr5⟩=>?_);have I5':=I5.pinned (stat fr5) (T.obj _ _ st5);refine aRS hp (thn (hg _ s5 σ3 H5 x u _ I5' r5 (step x H5 y5)) λ_ s6 ⟨σ6,H6,I6,q6⟩=>?_);refine aRS hp (thn (hb _ s6 σ6 H6 _ I6 q6) λf s7 q7=>?_);have again:∀ {σ7:St} {H7:Hp},Inv X (aA++jC fp s5.heap) σ7 H7 s7->N σ7 H7->∃ m,m<n/\∃ i σ' H',Inv X aA σ' H' s7/\tn i s7.heap/\(∀ b∈fp,H' b=none)/\W i m σ' H':=λ{σ7 H7} I7 n7=>by obtain ⟨m',hm,w7⟩:=hN σ7 H7 n7;refine ⟨m',hm,i+1,σ7,H7,I7.unpinned,T.keep _ _ _ st5 λb hb o e=>(I7.pin (b,o) (aRR _ (aRR _ (nM hb e)))).1,λb hb=>?_,w7⟩;obtain ⟨o,e,d⟩:=T.obj _ _ st5 b hb;exact (I7.pin (b,o) (aRR _ (aRR _ (nM hb e)))).2.1
   cases f with
   | next=>obtain ⟨σ7,H7,I7,n7⟩:=q7;exact again I7 n7
   | cont=>obtain ⟨σ7,H7,I7,n7⟩:=q7;exact again I7 n7
   | brk=>obtain ⟨σ7,H7,I7,q7⟩:=q7;exact ⟨σ7,H7,I7.unpinned,q7⟩
   | ret v=>obtain ⟨x7,σ7,H7,I7,r7,q7⟩:=q7;exact ⟨x7,σ7,H7,I7.unpinned,r7,q7⟩
end
abbrev R2:=V->V->Hp->VK->Prop
def OpR(X:Cx)(f:Value->Value->Sem Value)(r:R2):Prop :=
 ∀ (aA:LAO) (s:Shared) (σ:St) (H:Hp) (x y:V) (v u:Value) (Q:VK),Inv X aA σ H s->aJ x v->aJ y u->r x y H Q ->
  wpAny (model X.prog X.w) X.A (f v u) (EP X aA σ Q) X.xe s
def UnR(X:Cx)(f:Value->Sem Value)(r:V->Hp->VK->Prop):Prop :=
 ∀ (aA:LAO) (s:Shared) (σ:St) (H:Hp) (x:V) (v:Value) (Q:VK),Inv X aA σ H s->aJ x v->r x H Q ->
  wpAny (model X.prog X.w) X.A (f v) (EP X aA σ Q) X.xe s
def cC(X:Cx)(f:Value)(r:List V->Hp->VK->Prop):Prop :=
 ∀ (aA:LAO) (s:Shared) (σ:St) (H:Hp) (xs:List V) (us:List Value) (Q:VK),Inv X aA σ H s->aM xs us->r xs H Q ->
  wpAny (model X.prog X.w) X.A (call f us) (EP X aA σ Q) X.xe s
def TruR(X:Cx)(r:V->Hp->(Bool->Hp->Prop)->Prop):Prop :=
 ∀ (aA:LAO) (s:Shared) (σ:St) (H:Hp) (x:V) (v:Value) (Q:Bool->Hp->Prop),Inv X aA σ H s->aJ x v->r x H Q ->
  wpAny (model X.prog X.w) X.A (truthy v) (TP X aA σ Q) X.xe s
def tOp(r:R2)(ta tb:TE):TE:=λσ H Q=>ta σ H λx H1=>tb σ H1 λy H2=>r x y H2 Q
def tUn(r:V->Hp->VK->Prop)(ta:TE):TE:=λσ H Q=>ta σ H λx H1=>r x H1 Q
def rI(C:Int->Int->Prop)(g:Int->Int->V):R2:=λx y H Q=>∃ i j,x=.int i/\y=.int j/\C i j/\Q (g i j) H
def rI0(g:Int->Int->V):R2:=λx y H Q=>∃ i j,x=.int i/\y=.int j/\Q (g i j) H
def rU(g:Int->V):V->Hp->VK->Prop:=λx H Q=>∃ i,x=.int i/\Q (g i) H
section
variable {X:Cx}{a b c:Expr}{ta tb tc:TE}{pos:Pos}
theorem nN(ha:PE X a ta)(hb:PE X b tb){aA:LAO}{s:Shared}{σ:St}{H:Hp}{R:V->V->Hp->Prop}(I:Inv X aA σ H s)(h:ta σ H λx H1=>tb σ H1 λy H2=>R x y H2){Q:VSP}{f:Value->Value->Sem Value}(hf:∀ v u s2 x y H2,Inv X aA σ H2 s2->aJ x v->aJ y u->R x y H2->wpAny (model X.prog X.w) X.A (f v u) Q X.xe s2):wpAny (model X.prog X.w) X.A (eval a X.env) (λv s₁=>wpAny (model X.prog X.w) X.A (eval b X.env) (λu s₂=>wpAny (model X.prog X.w) X.A (f v u) Q X.xe s₂) X.xe s₁) X.xe s:=by refine thn (ha aA s σ H _ I h) λv s1 ⟨x,H1,I1,r1,q1⟩=>?_;refine thn (hb aA s1 σ H1 _ I1 q1) λu s2 ⟨y,H2,I2,r2,q2⟩=>?_;exact hf v u s2 x y H2 I2 r1 r2 q2
theorem pe_op{op:Operator}{r:R2}(ho:OpR X (binaryOp op) r)(ha:PE X a ta)(hb:PE X b tb):PE X (.BinOp a op b pos) (tOp r ta tb):=by intro aA s σ H Q I h;exact wpAny_BinOp (nN ha hb I h λv u s2 x y H2 I2 rx ry q=>ho aA s2 σ H2 x y v u Q I2 rx ry q)
theorem pe_un{op:UnaryOp}{r:V->Hp->VK->Prop}(ho:UnR X (unaryOp op) r)(ha:PE X a ta):PE X (.UnaryOp op a pos) (tUn r ta):=by intro aA s σ H Q I h;exact UnaryOp_ (thn (ha aA s σ H _ I h) λv s1 ⟨x,H1,I1,r1,q1⟩=>ho aA s1 σ H1 x v Q I1 r1 q1)
theorem opI{f:Value->Value->Sem Value}{C:Int->Int->Prop}{g:Int->Int->Int}(rule:∀ (i j:Int) (t u:Tok) (s:Shared) (Q:VSP) (E:VSP),C i j->Q (.int (g i j) s.toks) { s with toks:=s.toks+1 } -> wpAny (model X.prog X.w) X.A (f (.int i t) (.int j u)) Q E s):OpR X f (rI C λi j=>.int (g i j)):=by intro aA s σ H x y v u Q I rx ry h;obtain ⟨i,j,rfl,rfl,hc,q⟩:=h;obtain ⟨t,rfl⟩:=rx;obtain ⟨t',rfl⟩:=ry;exact rule i j t t' s _ _ hc ⟨.int (g i j),H,I.tok _,⟨_,rfl⟩,q⟩
theorem lB{f:Value->Value->Sem Value}{g:Int->Int->Int}(rule:∀ (i j:Int) (t u:Tok) (s:Shared) (Q:VSP) (E:VSP),Q (.int (g i j) s.toks) { s with toks:=s.toks+1 } -> wpAny (model X.prog X.w) X.A (f (.int i t) (.int j u)) Q E s):OpR X f (rI0 λi j=>.int (g i j)):=by intro aA s σ H x y v u Q I rx ry h;obtain ⟨i,j,rfl,rfl,q⟩:=h;obtain ⟨t,rfl⟩:=rx;obtain ⟨t',rfl⟩:=ry;exact rule i j t t' s _ _ ⟨.int (g i j),H,I.tok _,⟨_,rfl⟩,q⟩
theorem lC{f:Value->Value->Sem Value}{g:Int->Int->Bool}(rule:∀ (i j:Int) (t u:Tok) (s:Shared) (Q:VSP) (E:VSP),Q (.bool (g i j)) s->wpAny (model X.prog X.w) X.A (f (.int i t) (.int j u)) Q E s):OpR X f (rI0 λi j=>.bl (g i j)):=by intro aA s σ H x y v u Q I rx ry h;obtain ⟨i,j,rfl,rfl,q⟩:=h;obtain ⟨t,rfl⟩:=rx;obtain ⟨t',rfl⟩:=ry;exact rule i j t t' s _ _ ⟨.bl (g i j),H,I,rfl,q⟩
def CPow(i j:Int):Prop:=0<=j/\j<=1000000/\i.natAbs<2 ^ 64
theorem aAH(k:Nat):(0:Int)<=2 ^ k:=by rw[two_pow_cast];exact Int.natCast_nonneg _
theorem aAI:OpR X (binaryOp .Add) (rI0 λi j=>.int (i+j)):=lB λ_ _ _ _ _ _ _ q=>add_int q
theorem aAJ:OpR X (binaryOp .Sub) (rI0 λi j=>.int (i-j)):=lB λ_ _ _ _ _ _ _ q=>sub_int q
theorem aAK:OpR X (binaryOp .Mod) (rI (λ_ j=>0<j) λi j=>.int (i % j)):=opI λi j _ _ _ _ _ hc q=>by have h1:(0:Int)<j:=hc;exact mod_int' (by omega) (by rw[Int.fmod_eq_emod_of_nonneg i (by omega)];exact q)
theorem aAL:OpR X (binaryOp .Pow) (rI CPow λi j=>.int (i ^ j.toNat)):=opI λ_ _ _ _ _ _ _ hc q=>pow_int_small hc.1 hc.2.1 hc.2.2 q
theorem aAM:OpR X (binaryOp .LShift) (rI CPow λi j=>.int (i * 2 ^ j.toNat)):=opI λ_ _ _ _ _ _ _ hc q=>lshift_int_small hc.1 hc.2.1 hc.2.2 q
theorem aAN:OpR X (binaryOp .RShift) (rI (λ_ j=>0<=j) λi j=>.int (i / 2 ^ j.toNat)):=opI λi j _ _ _ _ _ hc q =>
 rshift_int hc (by rw[Int.fdiv_eq_ediv_of_nonneg i (aAH _)];exact q)
theorem aAO:OpR X (binaryOp .BitAnd) (rI0 λi j=>.int (Builtin.bitAnd i j)):=lB λ_ _ _ _ _ _ _ q=>and_int q
theorem op_or:OpR X (binaryOp .BitOr) (rI0 λi j=>.int (Builtin.bitOr i j)):=lB λ_ _ _ _ _ _ _ q=>or_int q
theorem unI{f:Value->Sem Value}{g:Int->Int}(rule:∀ (i:Int) (t:Tok) (s:Shared) (Q:VSP) (E:VSP),Q (.int (g i) s.toks) { s with toks:=s.toks+1 } -> wpAny (model X.prog X.w) X.A (f (.int i t)) Q E s):UnR X f (rU λi=>.int (g i)):=by intro aA s σ H x v Q I rx h;obtain ⟨i,rfl,q⟩:=h;obtain ⟨t,rfl⟩:=rx;exact rule i t s _ _ ⟨.int (g i),H,I.tok _,⟨_,rfl⟩,q⟩
theorem aAP:UnR X (unaryOp .USub) (rU λi=>.int (-i)):=unI λ_ _ _ _ _ q=>neg_int q
end
section
variable {X:Cx}{a b c:Expr}{ta tb tc:TE}{pos:Pos}
theorem lD{aA:LAO}{σ:St}{H:Hp}{s:Shared}{Q:VK}{k k':Bool}(I:Inv X aA σ H s)(q:Q (.bl k) H)(e:k=k'):EP X aA σ Q (.bool k') s:=by subst e;exact ⟨.bl k,H,I,rfl,q⟩
theorem op_lt:OpR X (compareOp .Lt) (rI0 λi j=>.bl (decide (i<j))):=lC λ_ _ _ _ _ _ _ q=>lt_int q
theorem op_le:OpR X (compareOp .LtE) (rI0 λi j=>.bl (decide (i<=j))):=lC λ_ _ _ _ _ _ _ q=>le_int q
theorem op_gt:OpR X (compareOp .Gt) (rI0 λi j=>.bl (decide (j<i))):=lC λ_ _ _ _ _ _ _ q=>gt_int q
theorem op_ge:OpR X (compareOp .GtE) (rI0 λi j=>.bl (decide (j<=i))):=lC λ_ _ _ _ _ _ _ q=>ge_int q
theorem aAQ:OpR X (compareOp .In) (λx y H Q=>∃ i j,x=.str i/\y=.str j/\Q (.bl (!(Builtin.Str.occurrences j i 0 j.length 1).isEmpty)) H):=by intro aA s σ H x y v u Q I rx ry h;obtain ⟨i,j,rfl,rfl,q⟩:=h;obtain ⟨t,rfl⟩:=rx;obtain ⟨t',rfl⟩:=ry;exact in_str (lD I q rfl)
theorem aAR:OpR X (compareOp .Is) (λx y H Q=>y=.non/\Q (.bl (decide (x=.non))) H):=by
 intro aA s σ H x y v u Q I rx ry h;obtain ⟨rfl,q⟩:=h;cases ry;refine is_none_gen (lD I q ?_);cases x <;> first
  | (cases rx;rfl)
  | (obtain ⟨t,rfl⟩:=rx;rfl)
theorem aAS:OpR X (compareOp .IsNot) (λx y H Q=>y=.non/\Q (.bl (!decide (x=.non))) H):=by
 intro aA s σ H x y v u Q I rx ry h;obtain ⟨rfl,q⟩:=h;cases ry;refine isnot_none_gen (lD I q ?_);cases x <;> first
  | (cases rx;rfl)
  | (obtain ⟨t,rfl⟩:=rx;rfl)
theorem aAT:OpR X (compareOp .NotIn) (λx y H Q=>∃ i j,x=.str i/\y=.str j/\Q (.bl (!(!(Builtin.Str.occurrences j i 0 j.length 1).isEmpty))) H):=by intro aA s σ H x y v u Q I rx ry h;obtain ⟨i,j,rfl,rfl,q⟩:=h;obtain ⟨t,rfl⟩:=rx;obtain ⟨t',rfl⟩:=ry;exact notIn_str (lD I q rfl)
theorem OpR.or{f:Value->Value->Sem Value}{r r':R2}(h:OpR X f r)(h':OpR X f r'):OpR X f (λx y H Q=>r x y H Q\/r' x y H Q):=by
 intro aA s σ H x y v u Q I rx ry q;rcases q with q | q
 . exact h aA s σ H x y v u Q I rx ry q
 . exact h' aA s σ H x y v u Q I rx ry q
theorem aAU{op:CmpOp}{r:R2}(ho:OpR X (compareOp op) r)(ha:PE X a ta)(hb:PE X b tb)(hm:behindInMarks op b=false):PE X (.Compare a [op] [b] pos) (tOp r ta tb):=by intro aA s σ H Q I h;exact wpAny_Compare1 (nN ha hb I h λv u s2 x y H2 I2 rx ry q=>ho aA s2 σ H2 x y v u Q I2 rx ry q) hm
def rZ(t:TE):TT:=λσ H Q=>t σ H λx H'=>∃ k,x=.bl k/\Q k H'
theorem aAV{op:CmpOp}{r:R2}(ho:OpR X (compareOp op) r)(ha:PE X a ta)(hb:PE X b tb)(hm:behindInMarks op b=false):PT X (.Compare a [op] [b] pos) (rZ (tOp r ta tb)):=by
 intro aA s σ H Q I h;refine wpAny_isTrue_Compare1 (thn (ha aA s σ H _ I h) λv s1 ⟨x,H1,I1,r1,q1⟩=>thn (hb aA s1 σ H1 _ I1 q1) λu s2 ⟨y,H2,I2,r2,q2⟩ =>
  thn (ho aA s2 σ H2 x y v u _ I2 r1 r2 q2) λc s3 ⟨z,H3,I3,r3,k,e,q3⟩=>?_) hm
 subst e;cases r3;exact aRH ⟨H3,I3,q3⟩
def nO(K:Fg)(x:V)(H:Hp)(k:Bool):Prop :=
 match x with
 | .non=>k=false
 | .bl b=>k=b
 | .int i=>k=(i != 0)
 | .str y=>y.length<=sizeLine/\k=((y.length:Int) != 0)
 | .byt y=>y.size<=sizeLine/\k=((y.size:Int) != 0)
 | .ref p=>(∃ xs,SqL K H p xs/\k = !xs.isEmpty)\/(∃ xs,SqT K H p xs/\k = !xs.isEmpty)\/∃ kvs,H p=some (.dK kvs)/\k = !kvs.isEmpty
 | _=>False
theorem aAW{κ:Type}{kvs:List (κ×V)}{vs:List (κ×Value)}(r:KV kvs vs):(!vs.isEmpty) = !kvs.isEmpty:=by cases r <;> rfl
theorem r6{xs:List V}{its:List Value}(r:aM xs its):(!its.toArray.isEmpty) = !xs.isEmpty:=by cases r <;> simp
theorem jD:(sizeLine:Nat)<2 ^ 63:=by rw[aRT];decide
theorem aAX:TruR X (λx H Q=>∃ k,nO X.K x H k/\Q k H):=by
 intro aA s σ H x v Q I rx h;obtain ⟨k,e,q⟩:=h;have hl:=jD;have hs:sizeLine=16777216:=aRT;cases x with
 | non=>cases rx;have e':k=false:=e;subst e';exact truthy_none ⟨H,I,q⟩
 | bl b=>cases rx;have e':k=b:=e;subst e';exact aRH ⟨H,I,q⟩
 | int i=>obtain ⟨t,rfl⟩:=rx;have e':k=(i != 0):=e;subst e';exact PySem.P.truthy_int ⟨H,I,q⟩
 | str y=>obtain ⟨t,rfl⟩:=rx;obtain ⟨hy,e'⟩:y.length<=sizeLine/\k=((y.length:Int) != 0):=e;subst e';exact PySem.P.truthy_str (by omega) ⟨H,I.tok _,q⟩
 | byt y=>obtain ⟨t,rfl⟩:=rx;obtain ⟨hy,e'⟩:y.size<=sizeLine/\k=((y.size:Int) != 0):=e;subst e';exact PySem.W.truthy_bytes (by omega) ⟨H,I.tok _,q⟩
 | ref p =>
  cases rx;have e':(∃ xs,SqL X.K H p xs/\k = !xs.isEmpty)\/(∃ xs,SqT X.K H p xs/\k = !xs.isEmpty)\/∃ kvs,H p=some (.dK kvs)/\k = !kvs.isEmpty:=e;rcases e' with ⟨xs,hx,e'⟩ | ⟨xs,hx,e'⟩ | ⟨kvs,hx,e'⟩
  . subst e';obtain ⟨its,r,pl,hz⟩:=I.list hx;have hlen:=r.length;exact wpAny_truthy_list pl.isList (by simp only[aRU];omega) ⟨H,I.tok _,by rw[r6 r];exact q⟩
  . subst e';obtain ⟨its,r,pl,hz⟩:=I.tuple hx;have hlen:=r.length;exact truthy_tuple pl (by simp only[aRU];omega) ⟨H,I.tok _,by rw[r6 r];exact q⟩
  . subst e';obtain ⟨hz,hS,vs,r,m⟩:kvs.length<=sizeLine/\(p==sysModules)=false/\∃ vs,KV kvs vs/\s.heap.DictOf (bV X.prog X.w) p vs:=I.hok p _ hx;have hlen:kvs.length=vs.length:=aQY r;exact wpAny_truthy_dict hS m (by omega) ⟨H,I.tok _,by rw[aAW r];exact q⟩
 | _=>exact (show False from e).elim
theorem aAY (ha : PE X a ta) (he : ∀ cJ, isTrue a X.env cJ = (do let v ← cJ; standAt a.pos; holding [v] (truthy v))) :
    PT X a (λσ H Q=>ta σ H λx H'=>∃ k,nO X.K x H' k/\Q k H'):=by
 intro aA s σ H Q I h;exact isTrue_plain (thn (ha aA s σ H _ I h) λv s1 ⟨x,H1,I1,r1,q1⟩=>aAX aA s1 σ H1 x v Q I1 r1 q1) (he _)
theorem aAZ:OpR X (binaryOp .Add) (λx y H Q=>∃ i j,x=.str i/\y=.str j/\i.length+j.length<=sizeLine/\Q (.str (i++j)) H):=by intro aA s σ H x y v u Q I rx ry h;obtain ⟨i,j,rfl,rfl,hz,q⟩:=h;obtain ⟨t,rfl⟩:=rx;obtain ⟨t',rfl⟩:=ry;exact add_str (λt' tk=>⟨.str (i++j),H,I.tok _,⟨_,rfl⟩,q⟩) hz
theorem cO{x:V}{us:List Value}(r:aM [x] us):∃ u,us=[u]/\aJ x u:=by
 cases r with
 | cons r1 r2=>cases r2;exact ⟨_,rfl,r1⟩
theorem r8{x y:V}{us:List Value}(r:aM [x,y] us):∃ u w',us=[u,w']/\aJ x u/\aJ y w':=by
 cases r with
 | cons r1 r2 =>
  cases r2 with
  | cons r3 r4=>cases r4;exact ⟨_,_,rfl,r1,r3⟩
theorem aA0(hc:X.calm=true):cC X (.builtin "min") (λxs H Q=>∃ i j,xs=[.int i,.int j]/\Q (.int (if j<i then j else i)) H):=by
 intro aA s σ H xs us Q I r h;obtain ⟨i,j,rfl,q⟩:=h;obtain ⟨u,w',rfl,⟨t,rfl⟩,⟨t',rfl⟩⟩:=r8 r;refine min_two_ints (I.ok.hd hc) λh' tk k=>⟨_,H,I.kept k,?_,q⟩;by_cases hj:j<i
 . rw[if_pos hj,if_pos hj];exact ⟨_,rfl⟩
 . rw[if_neg hj,if_neg hj];exact ⟨_,rfl⟩
theorem aA1:cC X (.type "int") (λxs H Q=>(∃ i,xs=[.int i]/\Q (.int i) H)\/∃ k,xs=[.bl k]/\Q (.int (if k then 1 else 0)) H):=by
 intro aA s σ H xs us Q I r h;rcases h with ⟨i,rfl,q⟩ | ⟨k,rfl,q⟩
 . obtain ⟨u,rfl,t,rfl⟩:=cO r;exact call_int_int ⟨.int i,H,I,⟨_,rfl⟩,q⟩
 . obtain ⟨u,rfl,r1⟩:=cO r;cases r1;exact call_int_bool ⟨.int (if k then 1 else 0),H,I.tok _,⟨_,rfl⟩,q⟩
theorem aA2:cC X (.type "str") (λxs H Q=>∃ i,xs=[.int i]/\i.natAbs.log2<1920/\Q (.str (toString i)) H):=by intro aA s σ H xs us Q I r h;obtain ⟨i,rfl,hz,q⟩:=h;obtain ⟨u,rfl,t,rfl⟩:=cO r;exact PySem.P.str_of_int hz ⟨.str _,H,I.tok _,⟨_,rfl⟩,q⟩
def LenV(K:Fg)(x:V)(H:Hp)(n:Nat):Prop :=
 match x with
 | .str y=>y.length<=sizeLine/\n=y.length
 | .byt y=>y.size<=sizeLine/\n=y.size
 | .ref p=>(∃ xs,SqL K H p xs/\n=xs.length)\/∃ xs,SqT K H p xs/\n=xs.length
 | _=>False
theorem aA3:cC X (.builtin "len") (λxs H Q=>∃ x n,xs=[x]/\LenV X.K x H n/\Q (.int n) H):=by
 intro aA s σ H xs us Q I r h;obtain ⟨x,n,rfl,e,q⟩:=h;obtain ⟨u,rfl,rx⟩:=cO r;have hl:=jD;have hs:sizeLine=16777216:=aRT;cases x with
 | str y=>obtain ⟨t,rfl⟩:=rx;obtain ⟨hy,e'⟩:y.length<=sizeLine/\n=y.length:=e;subst e';exact len_str (by omega) ⟨.int _,H,I.tok _,⟨_,rfl⟩,q⟩
 | byt y=>obtain ⟨t,rfl⟩:=rx;obtain ⟨hy,e'⟩:y.size<=sizeLine/\n=y.size:=e;subst e';exact PySem.W.len_bytes (by omega) ⟨.int _,H,I.tok _,⟨_,rfl⟩,q⟩
 | ref p =>
  cases rx;have e':(∃ xs,SqL X.K H p xs/\n=xs.length)\/∃ xs,SqT X.K H p xs/\n=xs.length:=e;rcases e' with ⟨xs,hx,e'⟩ | ⟨xs,hx,e'⟩
  . subst e';obtain ⟨its,r',pl,hz⟩:=I.list hx;have hlen:=r'.length;exact Calls.call_len_list pl.isList (by simp only[aRU];omega) ⟨.int xs.length,H,I.tok _,⟨_,by simp only[aRU];rw[hlen]⟩,q⟩
  . subst e';obtain ⟨its,r',pl,hz⟩:=I.tuple hx;have hlen:=r'.length;exact len_tuple pl (by simp only[aRU];omega) ⟨.int xs.length,H,I.tok _,⟨_,by simp only[aRU];rw[hlen]⟩,q⟩
 | _=>exact (show False from e).elim
end
structure gG(h:Heap)(x dx C:Addr)(mA:SOV):Prop where
 obj:h.get? x=some (PySem.W.instObj C dx)
 ns:h.Ns1 dx mA
 ne:dx≠x
theorem aA4{h:Heap}{dx:Addr}{mA:SOV}(n:h.Ns1 dx mA):∃ od,h.get? dx=some od/\∀ name,PySem.W.lookIn name od=some (mA name):=by
 obtain ⟨o,es,ep,ho,hd,hk,_,hm⟩:=n;refine ⟨o,ho,λname=>?_⟩;have e:=hm name;unfold nsFind findBy at e;rw[<- Array.find?_toList] at e;unfold PySem.W.lookIn;rw[hd];dsimp only;split
 . rename_i y q;rw[q] at e;exact congrArg some e
 . rename_i q;rw[q] at e;have a:es.toList.any (·.refKey)=false:=by rw[List.any_eq_false];intro y hy;obtain ⟨z,t,hkey⟩:=hk y (aRV.mp hy);simp[DictEntry.refKey,hkey]
   have a':¬ es.toList.any (·.refKey)=true:=by rw[a];exact aRW
   rw[if_neg a'];exact congrArg some e
theorem gG.look{h:Heap}{x dx C:Addr}{mA:SOV}(I:gG h x dx C mA):∃ od,PySem.W.InstAt h x (PySem.W.instObj C dx) C (some od)/\∀ name,PySem.W.lookIn name od=some (mA name) :=
 let ⟨od,ho,hl⟩:=aA4 I.ns
 ⟨od,⟨I.obj,rfl,rfl,ho⟩,hl⟩
section
variable {prog:Program}{w:World}{A:Around}{E:VSP}{s:Shared}{K:Fg}{x dx C f:Addr}{mA:SOV}{name:Str}{v:Value}
theorem aA5{expr:Bool}{Q:VSP}(X:K.In s.heap)(I:gG s.heap x dx C mA)(hg:PySem.W.plainGet K C name=true)(hh:PySem.W.hasDictIn K C=true)(ha:PySem.W.findIn K (.ref C) name=some none)(hv:mA name=some v)(hv':PySem.W.handedIn v=true)(h:Q v { s with toks:=s.toks+1 }):wpAny (model prog w) A (getAttr (.ref x) name expr) Q E s:=by obtain ⟨od,J,hl⟩:=I.look;exact PySem.W.get_value X J (aRX hg).1 (PySem.W.findObj_own hh ha rfl (by rw[hl,hv])) hv' h
theorem aA6{pl:Sem Bool}{Q:Value×List Value->Shared->Prop}(X:K.In s.heap)(I:gG s.heap x dx C mA)(hg:PySem.W.plainGet K C name=true)(hf:PySem.W.findIn K (.ref C) name=some (some (.ref f)))(ht:PySem.W.isFn K (.ref f)=true)(hv:mA name=none)(h:Q (.ref f,[.ref x]) s):wpAny (model prog w) A (getMethod (.ref x) name pl) Q E s:=by obtain ⟨od,J,hl⟩:=I.look;exact PySem.W.method_fn X J (aRX hg).1 (aRX hg).2 hf (aRY.mp ht) (by show (PySem.W.lookIn name od).map (·.isSome)=some false;rw[hl,hv];rfl) h
theorem aA7{ns:List Str}{Q:Unit->Shared->Prop}(X:K.In s.heap)(I:gG s.heap x dx C mA)(hs:PySem.W.findIn K (.ref C) "__setattr__" = some (some (.builtin "object.__setattr__")))(hp:PySem.W.plainOver K C=true)(ht:PySem.W.takerIn K C name=some none)(hh:PySem.W.hasDictIn K C=true)(hw:PySem.Within mA ns)(hsz:ns.length<=sizeLine)(h:∀ h',gG h' x dx C (λy=>if y=name then some v else mA y)->Heap.SameBut dx s.heap h'->Q () { s with heap:=h',toks:=s.toks+2 }):wpAny (model prog w) A (setAttr (.ref x) name v) Q E s:=by
 obtain ⟨od,J,hl⟩:=I.look;refine PySem.W.set_plain X J hs (PySem.W.osa_open (s:={ s with toks:=s.toks+1 }) (r:=none) X J hp ht λb=>?_)
 obtain ⟨cd,hc,hd'⟩:=PySem.W.any_some hh;have hx:s.heap.get? x=some ⟨.ref C,some dx,.plain,#[]⟩:=I.obj;refine aRL (aRK (aRL (aRL (wpAny_loadPart hx (aRL (PySem.W.Looks.here (s:={ s with toks:=s.toks+1 }) (PySem.W.looks_clsIn X hc) ?_))))))
 rw[hd'];refine aRK (a:=some dx) (aRL (aRK (aRL ?_)));refine wpAny_nsSet1 (s:={ s with toks:=s.toks+1 }) I.ns λh' hn2 hs2=>?_
 obtain ⟨oD,esD,epD,hoD,hdD,hcD⟩:=hn2.count (PySem.Within.cons name v hw);refine aRL (wpAny_lookBehind hoD (by rw[hdD];exact pastItsLine_dict (aQ8 hcD (by rw[aRZ];omega))) ?_)
 exact aRK (h _ ⟨(hs2.2 _ (Ne.symm I.ne)).trans I.obj,hn2,I.ne⟩ hs2)
theorem aA8{R:Result->Shared->Prop}{vs:List Value}{kw:List (Str×Value)}(X:K.In s.heap)(hm:PySem.W.makesIn K C=true)(hi:PySem.W.findIn K (.ref C) "__init__" = some (some (.ref f)))(hf:PySem.W.typeIn K (.ref f)=some (.type "function"))(h:codeAny (model prog w) (A.under (.builtin "type.__call__" ⟨.ref C::vs,kw⟩)) (.call (.ref f) ⟨.ref (s.heap.objs.size+1)::vs,kw⟩) (PySem.W.InitBack (s.heap.objs.size+1) R) { s with heap:=(s.heap.push PySem.W.emptyDict).push (PySem.W.instObj C s.heap.objs.size) }):codeAny (model prog w) A (.call (.ref C) ⟨vs,kw⟩) R s:=by obtain ⟨hh,g,d,t,os⟩:=s;exact PySem.W.make_core (aR0 X hm) (PySem.W.looks_findIn X hi) (λself=>PySem.W.bind_fn X self hf) (.inl rfl) h
theorem aA9{R:Result->Shared->Prop}(X:K.In s.heap)(hm:PySem.W.makesIn K C=true)(hi:PySem.W.findIn K (.ref C) "__init__" = some (some (.builtin "object.__init__")))(hb:∀ self,PySem.W.Looks (model prog w) s.heap (bindSpecial (.builtin "object.__init__") self) (.builtin "object.__init__", [self]))(h:codeAny (model prog w) (A.under (.builtin "type.__call__" ⟨[.ref C],[]⟩)) (.call (.builtin "object.__init__") ⟨[.ref (s.heap.objs.size+1)],[]⟩) (PySem.W.InitBack (s.heap.objs.size+1) R) { s with heap:=(s.heap.push PySem.W.emptyDict).push (PySem.W.instObj C s.heap.objs.size) }):codeAny (model prog w) A (.call (.ref C) ⟨[],[]⟩) R s:=by obtain ⟨hh,g,d,t,os⟩:=s;exact PySem.W.make_core (aR0 X hm) (PySem.W.looks_findIn X hi) hb (.inr ⟨rfl,rfl⟩) h
end
def bW(f:Str)(v:V):List (Str×V)->List (Str×V)
 | []=>[(f,v)]
 | (g,x)::r=>if g=f then (g,v)::r else (g,x)::bW f v r
theorem r9(f g:Str)(v:V):∀ fs:List (Str×V),(bW f v fs).lookup g=if g=f then some v else fs.lookup g
 | []=>by
  show List.lookup g [(f,v)]=_;by_cases h:g=f
  . have hb:(g==f)=true:=aRY.mpr h;simp only[List.lookup,hb,if_pos h]
  . have hb:(g==f)=false:=aQX.mpr h;simp only[List.lookup,hb,if_neg h]
 | (k,x)::r=>by
  have ih:=r9 f g v r;rw[show bW f v ((k,x)::r)=(if k=f then (k,v)::r else (k,x)::bW f v r) from rfl]
  by_cases hk:k=f
  . rw[if_pos hk];by_cases h:g=k
    . have hb:(g==k)=true:=aRY.mpr h;simp only[List.lookup,hb,if_pos (h.trans hk)]
    . have hb:(g==k)=false:=aQX.mpr h;simp only[List.lookup,hb,if_neg (λe:g=f=>h (e.trans hk.symm))]
  . rw[if_neg hk];by_cases h:g=k
    . have hb:(g==k)=true:=aRY.mpr h;simp only[List.lookup,hb,if_neg (λe:g=f=>hk (h.symm.trans e))]
    . have hb:(g==k)=false:=aQX.mpr h;simp only[List.lookup,hb];exact ih
theorem nP(f:Str)(v:V):∀ fs:List (Str×V),f∈(bW f v fs).map (·.1)/\∀ g,g∈fs.map (·.1)->g∈(bW f v fs).map (·.1)
 | []=>⟨by simp[bW],λg h=>by simp at h⟩
 | (k,x)::r=>by
  obtain ⟨i1,i2⟩:=nP f v r;rw[show bW f v ((k,x)::r)=(if k=f then (k,v)::r else (k,x)::bW f v r) from rfl]
  by_cases hk:k=f
  . rw[if_pos hk];subst hk;exact ⟨by simp,λg h=>by simpa using h⟩
  . rw[if_neg hk];refine ⟨?_,λg h=>?_⟩
    . rw[aR1];exact mcm i1
    . rw[aR1] at h ⊢;rcases aRA.mp h with e | e
      . exact aRA.mpr (.inl e)
      . exact mcm (i2 g e)
theorem sC(f:Str)(v:V):∀ fs:List (Str×V),(bW f v fs).length<=fs.length+1
 | []=>by simp[bW]
 | (k,x)::r=>by
  have ih:=sC f v r;rw[show bW f v ((k,x)::r)=(if k=f then (k,v)::r else (k,x)::bW f v r) from rfl]
  by_cases hk:k=f
  . rw[if_pos hk,aRZ,aRZ];omega
  . rw[if_neg hk,aRZ,aRZ];omega
theorem cN.some_of{v:V}{o:Option Value}(r:cN (some v) o):∃ u,o=some u/\aJ v u:=by
 cases o with
 | none=>exact (show False from r).elim
 | some u=>exact ⟨u,rfl,r⟩
theorem cN.none_of{o:Option Value}(r:cN none o):o=none:=by
 cases o with
 | none=>rfl
 | some u=>exact (show False from r).elim
theorem aBA{v:V}{u:Value}(r:aJ v u):PySem.W.handedIn u=true:=by
 cases v with
 | non=>cases (show u=Value.none from r);rfl
 | bl b=>cases (show u=Value.bool b from r);rfl
 | int i=>obtain ⟨t,e⟩:=(show ∃ t,u=Value.int i t from r);cases e;rfl
 | str x=>obtain ⟨t,e⟩:=(show ∃ t,u=Value.str x t from r);cases e;rfl
 | byt b=>obtain ⟨t,e⟩:=(show ∃ t,u=Value.bytes b t from r);cases e;rfl
 | flt b=>obtain ⟨t,e⟩:=(show ∃ t,u=Value.float b t from r);cases e;rfl
 | ref a=>cases (show u=Value.ref a from r);rfl
 | ty n=>cases (show u=Value.type n from r);rfl
section
variable {P:Program}{w:World}{H H':Hp}{h h':Heap}{a C dx:Addr}{fs fs':List (Str×V)}
theorem nQ(hok:HOk P w H h)(e:H a=some (.ins C dx fs)):∃ mA,gG h a dx C mA/\(∀ f,cN (fs.lookup f) (mA f))/\PySem.Within mA (fs.map (·.1))/\fs.length<=1000/\H dx=some (.own a):=by
 obtain ⟨d,z,ne,ob,mA,n,r,q⟩:=(show bL P w H h a (.ins C dx fs) from hok a _ e)
 exact ⟨mA,⟨ob,n,ne⟩,r,q,z,d⟩
end
structure Cls(K:Fg)(C:Addr):Prop where
 pg:PySem.W.plainGet K C Str.empty=true
 hd:PySem.W.hasDictIn K C=true
 po:PySem.W.plainOver K C=true
 sa:PySem.W.findIn K (.ref C) "__setattr__" = some (some (.builtin "object.__setattr__"))
theorem Cls.get{K:Fg}{C:Addr}(c:Cls K C)(f:Str):PySem.W.plainGet K C f=true:=c.pg
def e9(K:Fg)(C:Addr)(f:Str):Prop:=PySem.W.findIn K (.ref C) f=some none
theorem e9.taker{K:Fg}{C:Addr}{f:Str}(n:e9 K C f):PySem.W.takerIn K C f=some none:=by
 unfold PySem.W.takerIn;rw[show PySem.W.findIn K (.ref C) f=some none from n]
 rfl
structure jE(K:Fg)(C:Addr)(m:Str)(f:Addr):Prop where
 at_:PySem.W.findIn K (.ref C) m=some (some (.ref f))
 fn:PySem.W.isFn K (.ref f)=true
 kp:PySem.W.keepIn K (.ref f)=true
section
variable {X:Cx}{aA:LAO}{σ:St}{H:Hp}{s:Shared}{a C dx:Addr}{fs:List (Str×V)}{f:Str}{v:V}{A:Around}{E:VSP}
theorem aBB{b:Bool}{Q:VSP}(I:Inv X aA σ H s)(e:H a=some (.ins C dx fs))(c:Cls X.K C)(n:e9 X.K C f)(l:fs.lookup f=some v)(h:∀ u s',Inv X aA σ H s'->aJ v u->Q u s'):wpAny (model X.prog X.w) A (getAttr (.ref a) f b) Q E s:=by
 obtain ⟨mA,O,r,_,_,_⟩:=nQ I.hok e;obtain ⟨u,hu,ru⟩:=cN.some_of (v:=v) (o:=mA f) (by rw[<- l];exact r f)
 exact aA5 I.kIn O (c.get f) c.hd n hu (aBA ru) (h u _ (I.tok _) ru)
theorem aBC{m:Str}{g:Addr}{pl:Sem Bool}{Q:Value×List Value->Shared->Prop}(I:Inv X aA σ H s)(e:H a=some (.ins C dx fs))(c:Cls X.K C)(k:jE X.K C m g)(l:fs.lookup m=none)(h:Q (.ref g,[.ref a]) s):wpAny (model X.prog X.w) A (getMethod (.ref a) m pl) Q E s:=by
 obtain ⟨mA,O,r,_,_,_⟩:=nQ I.hok e;have hn:mA m=none:=cN.none_of (by rw[<- l];exact r m)
 exact aA6 I.kIn O (c.get m) k.at_ k.fn hn h
theorem aBD{y:V}{u:Value}{Q:Unit->Shared->Prop}(I:Inv X aA σ H s)(e:H a=some (.ins C dx fs))(c:Cls X.K C)(n:e9 X.K C f)(hl:fs.length<1000)(ry:aJ y u)(h:∀ s',Inv X aA σ (upd H a (.ins C dx (bW f y fs))) s'->Q () s'):wpAny (model X.prog X.w) A (setAttr (.ref a) f u) Q E s:=by
 obtain ⟨mA,O,r,wi,_,ho⟩:=nQ I.hok e;have hz:(fs.map (·.1)).length<=sizeLine:=by rw[aR2,aRT];omega
 refine aA7 I.kIn O c.sa c.po n.taker c.hd wi hz λh' O' sb=>h _ ?_;have hd:∃ o,h'.get? dx=some o:=let ⟨o,_,_,e',_⟩:=O'.ns;⟨o,e'⟩
 refine I.write (x:=a) (e:=dx) (by rw[e];exact True.intro) (.inr ho) (λb q hb z=>(sb.2 b hb).trans z) hd ?_
 refine ⟨by rw[aR O.ne];exact ho,?_,O.ne,O'.obj,_,O'.ns,λg=>?_,λg hg=>?_⟩
 . have:=sC f y fs;omega
 . show cN ((bW f y fs).lookup g) (if g=f then some u else mA g);rw[r9];by_cases q:g=f
   . rw[if_pos q,if_pos q];exact ry
   . rw[if_neg q,if_neg q];exact r g
 . by_cases q:g=f
   . rw[q];exact (nP f y fs).1
   . refine (nP f y fs).2 g (wi g λz=>hg ?_);show (if g=f then some u else mA g)=none;rw[if_neg q];exact z
theorem Inv.made(I:Inv X aA σ H s):Inv X aA σ (upd (upd H s.heap.objs.size (.own (s.heap.objs.size+1))) (s.heap.objs.size+1) (.ins C s.heap.objs.size [])) { s with heap:=(s.heap.push PySem.W.emptyDict).push (PySem.W.instObj C s.heap.objs.size) }:=by
 have e1:(s.heap.push PySem.W.emptyDict).get? s.heap.objs.size=some PySem.W.emptyDict:=aQ0 s.heap rfl;have e2:((s.heap.push PySem.W.emptyDict).push (PySem.W.instObj C s.heap.objs.size)).get? (s.heap.objs.size+1)=some (PySem.W.instObj C s.heap.objs.size):=by
  have:=aQ0 (s.heap.push PySem.W.emptyDict) (o:=PySem.W.instObj C s.heap.objs.size) rfl
  rwa [aR3] at this
 have e3:(s.heap.push PySem.W.emptyDict).Ns s.heap.objs.size (λ_=>none):=⟨PySem.W.emptyDict,#[],_,e1,rfl,(λe he=>absurd he (by simp)),λ_=>rfl⟩
 have I1:=I.laid (a:=s.heap.objs.size) (o:=.own (s.heap.objs.size+1)) (h':=s.heap.push PySem.W.emptyDict) (t':=s.toks) (λb u q=>hps q) (aRN _) ⟨_,e1⟩;refine I1.laid (a:=s.heap.objs.size+1) (o:=.ins C s.heap.objs.size []) (t':=s.toks) (λb u q=>hps q) (Nat.le_of_eq (aR3 _ _)) ?_;have ne:s.heap.objs.size≠s.heap.objs.size+1:=aQ4 (aR4 _);refine ⟨by rw[aR ne,bI],aR5 _,ne,e2,λ_=>none,(Heap.Ns1.of_empty e3).at λo q=>hps q,λ_=>True.intro,λy hy=>absurd rfl hy⟩
theorem aBE{prog:Program}{w:World}{env:Env}{e:Expr}{f:Str}{pos:Pos}{s:Shared}{Q:VSP}(hb:attributeBase e f env (eval e env)=eval e env)(h:wpAny (model prog w) A (eval e env) (λo s₁=>wpAny (model prog w) A (getAttr o f true) Q E s₁) E s):wpAny (model prog w) A (eval (.Attribute e f pos) env) Q E s :=
 Attribute_any_ h (by rw[arm_eval_Attribute,hb])
end
def tFld(K:Fg)(ta:TE)(f:Str):TE:=λσ H Q=>ta σ H λx H1=>∃ a C dx fs v,x=.ref a/\H1 a=some (.ins C dx fs)/\Cls K C/\e9 K C f/\fs.lookup f=some v/\Q v H1
def sFld(K:Fg)(ta tv:TE)(f:Str):TS:=λD σ H=>tv σ H λy H1=>ta σ H1 λx H2=>∃ a C dx fs,x=.ref a/\H2 a=some (.ins C dx fs)/\Cls K C/\e9 K C f/\fs.length<1000 /\
 D.nx σ (upd H2 a (.ins C dx (bW f y fs)))
section
variable {X:Cx}{o e value:Expr}{f:Str}{pos pos' tpos:Pos}{ta tv:TE}
theorem aBF(he:PE X e ta)(hb:attributeBase e f X.env (eval e X.env)=eval e X.env):PE X (.Attribute e f pos) (tFld X.K ta f):=by intro aA s σ H Q I h;refine aBE hb (thn (he aA s σ H _ I h) λu s1 ⟨x,H1,I1,rx,a,C,dx,fs,v,ex,ea,c,n,l,q⟩=>?_);subst ex;obtain rfl:u=Value.ref a:=rx;exact aBB I1 ea c n l λu' s2 I2 ru=>⟨v,H1,I2,ru,q⟩
theorem aBG(ha:PE X o ta)(hv:PE X value tv)(hs:swapsWith value (some (.Attribute o f pos')) pos.line X.env=pure false):PS X (.Assign [.Attribute o f pos'] value pos) (sFld X.K ta tv f):=by intro aA s σ H D I h;refine plainObj_wpAny_Assign_Attribute (thn (hv aA s σ H _ I h) λu s1 ⟨y,H1,I1,ry,q⟩=>thn (ha aA s1 σ H1 _ I1 q) λov s2 ⟨x,H2,I2,rx,a,C,dx,fs,ex,ea,c,n,l,q2⟩=>?_) hs;subst ex;obtain rfl:ov=Value.ref a:=rx;exact aBD I2 ea c n l ry λs3 I3=>⟨σ,_,I3,q2⟩
theorem aBH {pl : Sem Bool} {m : Str} {apos : Pos} {args : List Expr} {aA : List (Addr × Obj)} {s : Shared} {σ : St} {H : Hp} {Q : Value → Shared → Prop} {te : TE} (he : PE X e te) (I : Inv X aA σ H s) (h : te σ H fun x H1 => ∃ a C dx fs g, x = .ref a ∧ H1 a = some (.ins C dx fs) ∧ Cls X.K C ∧ jE X.K C m g ∧ fs.lookup m = none ∧ ∀ s1, Inv X aA σ H1 s1 → wpAny (model X.prog X.w) X.A (callWith pos (.ref g) [.ref a] (backTo pos (starEach args X.env)) (backToKw pos (keywordEach [] X.env))) Q X.xe s1)
    (ht:eval (.Call (.Attribute e m apos) args [] pos) X.env=(do
     let ov <- eval e X.env
     standAt apos.atName
     let (f,first) <- holding [ov] (getMethod ov m pl)
     callWith pos f first (backTo pos (starEach args X.env)) (backToKw pos (keywordEach [] X.env)))) :
    wpAny (model X.prog X.w) X.A (eval (.Call (.Attribute e m apos) args [] pos) X.env) Q X.xe s:=by
 refine PySem.W.methodCall_KW (pl:=pl) (thn (he aA s σ H _ I h) λu s1 ⟨x,H1,I1,rx,a,C,dx,fs,g,ex,ea,c,k,l,q⟩=>?_) ht;subst ex;obtain rfl:u=Value.ref a:=rx;exact aBC I1 ea c k l (q s1 I1)
end
section
variable {X:Cx}{aA:LAO}{σ:St}{H:Hp}{s:Shared}{A:Around}{E:VSP}{Q:VSP}{c:Value}{b:Bool}
end
structure bJ(k:Nat)(A:Around):Prop where
 hd:A.handled=none
 dp:A.depth+3 * k+5<recursionLimit
 un:A.units+16 * k+200<cLine
theorem bJ.mono{j k:Nat}{A:Around}(r:bJ k A)(h:j<=k):bJ j A:=⟨r.hd,by have:=r.dp;omega,by have:=r.un;omega⟩
theorem bJ.deeper{k:Nat}{A:Around}(r:bJ (k+1) A)(env:Env):bJ k (A.deeper env) :=
 ⟨r.hd,by have:=r.dp;show A.depth+1+3 * k+5<_;omega,by have:=r.un;show A.units+3+16 * k+200<_;omega⟩
theorem aBI{A:Around}{C:Addr}{us:List Value}{kw:List (Str×Value)}:(A.under (.builtin "type.__call__" ⟨.ref C::us,kw⟩)).depth=A.depth+1:=by
 first | rfl | simp[Around.under,Code.weight,Code.isCreation,Code.isGuard,Code.isCaller,Code.frames,Code.isFrame,guardIds]
theorem aBJ{A:Around}{C:Addr}{us:List Value}{kw:List (Str×Value)}:(A.under (.builtin "type.__call__" ⟨.ref C::us,kw⟩)).units=A.units+1:=by
 first | rfl | simp[Around.under,Code.cUnits,Code.frames,Code.isFrame]
theorem bJ.make{k:Nat}{A:Around}(r:bJ (k+1) A)(C:Addr)(us:List Value)(kw:List (Str×Value)):bJ k (A.under (.builtin "type.__call__" ⟨.ref C::us,kw⟩)) :=
 ⟨r.hd,by have:=r.dp;rw[aBI];omega,by have:=r.un;rw[aBJ];omega⟩
theorem bJ.depth{k:Nat}{A:Around}(r:bJ k A):A.depth<recursionLimit:=by have:=r.dp;omega
theorem bJ.units{k:Nat}{A:Around}(r:bJ k A):A.units+64<cLine:=by have:=r.un;omega
def tNil:TA:=λ_ H Q=>Q [] H
def sD(ta:TE)(tr:TA):TA:=λσ H Q=>ta σ H λx H1=>tr σ H1 λxs H2=>Q (x::xs) H2
section
variable {X:Cx}{e:Expr}{es:List Expr}{te:TE}{t:TA}{pos:Pos}
theorem aBK:PA X [] tNil:=λ_ _ _ _ H Q I h=>Calls.spliced_nil ⟨[],H,I,.nil,h⟩
theorem aBL(ha:PE X e te)(hr:PA X es t)(hs:starEach (e::es) X.env=(false,eval e X.env)::starEach es X.env:=by rfl):PA X (e::es) (sD te t):=by intro pos aA s σ H Q I h;rw[hs];show wpAny _ _ (spliced ((false,eval e X.env)::backTo pos (starEach es X.env))) _ _ s;refine aR6 (thn (ha aA s σ H _ I h) λu s1 ⟨x,H1,I1,r1,q1⟩=>?_);exact thn (hr pos aA s1 σ H1 _ I1 q1) λus s2 ⟨xs,H2,I2,r2,q2⟩=>⟨x::xs,H2,I2,.cons r1 r2,q2⟩
def tTup(t:TA):TE:=λσ H Q=>t σ H λxs H1=>xs.length<=sizeLine/\∀ p,H1 p=none->Q (.ref p) (upd H1 p (.tup xs))
def tLst(t:TA):TE:=λσ H Q=>t σ H λxs H1=>xs.length<=sizeLine/\∀ p,H1 p=none->Q (.ref p) (upd H1 p (.lst xs))
theorem aBM{x1}(h:PA X es t):PE X (.Tuple es x1 pos) (tTup t):=by
 intro aA s σ H Q I hq;refine wpAny_Tuple_spliced (thn (h pos aA s σ H _ I hq) λus s1 ⟨xs,H1,I1,r,z,q⟩=>⟨by rw[<- r.length];exact z,?_⟩)
 have hf:H1 s1.heap.objs.size=none:=I1.hok.fresh (aRN _);refine ⟨.ref s1.heap.objs.size,upd H1 s1.heap.objs.size (.tup xs),I1.laid (t':=s1.toks) (λb u e=>hps e) (aRN _) ?_,rfl,q _ hf⟩;exact ⟨z,us,r,⟨_,aQ0 _ rfl,rfl,rfl,_,rfl⟩⟩
theorem aBN(h:PA X es t):PE X (.List es pos) (tLst t):=by
 intro aA s σ H Q I hq;refine wpAny_List_spliced (thn (h pos aA s σ H _ I hq) λus s1 ⟨xs,H1,I1,r,z,q⟩=>⟨by rw[<- r.length];exact z,?_⟩)
 have hf:H1 s1.heap.objs.size=none:=I1.hok.fresh (aRN _);refine ⟨.ref s1.heap.objs.size,upd H1 s1.heap.objs.size (.lst xs),I1.laid (t':=s1.toks) (λb u e=>hps e) (aRN _) ?_,rfl,q _ hf⟩;exact ⟨z,us,0,r,aQ0 _ rfl⟩
end
abbrev Sp:=List V->Hp->VK->XK->Prop
abbrev CXT:=List Env->Hp->Shared->XK->Value->Shared->Prop
structure gH(P:Program)(w:World)(K:Fg)(mg:SOV)(base:Heap)(A:Around)(outer:List Env)(s:Shared)(H:Hp):Prop where
 frames:A.frames=some outer
 mod:Mod K mg base
 bs:∀ b o,base.get? b=some o->s.heap.get? b=some o/\H b=none
 bsz:base.objs.size<=s.heap.objs.size
 funs:s.heap.FunFrames base outer
 frf:∀ b∈frs outer,H b=none
 hok:HOk P w H s.heap
 bare:AllBare s.gens
def CE(outer:List Env)(P:Program)(w:World)(H:Hp)(s:Shared)(Q:VK)(u:Value)(s':Shared):Prop :=
 ∃ v H',s'.os=s.os/\AllBare s'.gens/\Un (frs outer) [] H H' s.heap s'.heap/\HOk P w H' s'.heap/\aJ v u/\Q v H'
def CR(CX:CXT)(outer:List Env)(P:Program)(w:World)(H:Hp)(s:Shared)(Q:VK)(E:XK)(r:Result)(s':Shared):Prop :=
 match r with
 | .ok (.ret u)=>CE outer P w H s Q u s'
 | .ok _=>False
 | .error e=>CX outer H s E e s'
structure cD(P:Program)(w:World)(K:Fg)(mg:SOV)(base:Heap)(CX:CXT)(k:Nat)(f:Addr)(fd:FuncData)(ps:List Str)(sp:Sp):Prop where
 len:∀ vs H Q E,sp vs H Q E->vs.length=ps.length
 run:∀ (A:Around) (outer:List Env) (s:Shared) (H:Hp) (args:Args) (us:List Value) (vs:List V) (Q:VK) (E:XK),bJ k A->gH P w K mg base A outer s H->BindsTo s fd args (ps.zip us)->aM vs us->sp vs H Q E ->
  codeAny (model P w) A (.call (.ref f) args) (CR CX outer P w H s Q E) s
theorem cD.imp{P:Program}{w:World}{K:Fg}{mg:SOV}{base:Heap}{CX:CXT}{k:Nat}{f:Addr}{fd:FuncData}{ps:List Str}{sp sp':Sp}(F:cD P w K mg base CX k f fd ps sp)(h:∀ vs H Q E,sp' vs H Q E->sp vs H Q E):cD P w K mg base CX k f fd ps sp' :=
 ⟨λvs H Q E q=>F.len vs H Q E (h _ _ _ _ q),λA outer s H args us vs Q E hr he hb hv hs=>F.run A outer s H args us vs Q E hr he hb hv (h _ _ _ _ hs)⟩
theorem gH.make{P:Program}{w:World}{K:Fg}{mg:SOV}{base:Heap}{A:Around}{outer:List Env}{s:Shared}{H:Hp}(e:gH P w K mg base A outer s H)(C:Addr)(us:List Value)(kw:List (Str×Value)):gH P w K mg base (A.under (.builtin "type.__call__" ⟨.ref C::us,kw⟩)) outer s H:=⟨by first | exact e.frames | (simpa[Around.under,Code.envs,Code.isFrame,pushEnvs] using e.frames),e.mod,e.bs,e.bsz,e.funs,e.frf,e.hok,e.bare⟩
section
variable {X:Cx}{aA:LAO}{σ:St}{H:Hp}{s s':Shared}
theorem Inv.env0(I:Inv X aA σ H s):gH X.prog X.w X.K X.mg X.base X.A X.stack s H :=
 ⟨I.ok.frames,I.ok.mod,I.bs,aQ8 I.ok.bsz I.sz,I.stack,I.stkFree,I.hok,I.bare⟩
theorem Inv.after{Q:VK}{u:Value}(I:Inv X aA σ H s)(h:CE X.stack X.prog X.w H s Q u s'):EP X aA σ Q u s':=by obtain ⟨v,H',os,bare,un,hok,r,q⟩:=h;obtain ⟨hh,g,d,t,os'⟩:=s';obtain rfl:os'=s.os:=os;exact ⟨v,H',I.call (h':=hh) (g':=g) (d':=d) (t':=t) (ch:=[]) un hok bare (λb z=>absurd z (by simp)),r,q⟩
end
def d9(K:Fg)(fd:FuncData)(ps:List Str)(ds:List Value):Prop :=
 ∀ (s:Shared) (us:List Value),K.In s.heap->(us++ds).length=ps.length->BindsTo s fd ⟨us,[]⟩ (ps.zip (us++ds))
theorem d9.all{K:Fg}{fd:FuncData}{ps:List Str}(h:∀ us:List Value,us.length=ps.length->bindArgs fd ⟨us,[]⟩=pure (ps.zip us)):d9 K fd ps []:=λs us _ hl=>by rw[aR7] at hl ⊢;exact .of_eq (h us hl)
section
variable {X:Cx}{CX:CXT}{k:Nat}{f C:Addr}{fd:FuncData}{ps:List Str}{sp:Sp}{dvs:List V}{ds:List Value}{E:XK}{x m:Str}{p pos apos:Pos}{e o:Expr}{es:List Expr}{ta:TE}{t:TA}
structure Mk(K:Fg)(C f:Addr):Prop where
 makes:PySem.W.makesIn K C=true
 init:PySem.W.findIn K (.ref C) "__init__" = some (some (.ref f))
 fn:PySem.W.isFn K (.ref f)=true
 kp:PySem.W.keepIn K (.ref C)=true
end
section
variable {X:Cx}{CX:CXT}{k:Nat}{f C:Addr}{fd:FuncData}{ps ks:List Str}{sp:Sp}{E:XK}{x m:Str}{p pos apos kpos:Pos}{e o:Expr}{es:List Expr}{kws:List Keyword}{te ta:TE}{t tk:TA}{nm:Option Str}
variable {g:List Value->List Value->List Value}{gV:List V->List V->List V}
end
structure lE(N P:List Str)(sc:Scope):Prop where
 kind:sc.kind=.function
 co:sc.isCoroutine=false
 gen:sc.isGenerator=false
 nd:N.Nodup
 pre:N.take P.length=P
 par:∀ x∈P,sc.names.lookup x=some .local\/sc.names.lookup x=some .cell
 nofree:∀ y∈sc.names,y.2 ≠ .free
theorem sH{kindOf:Str->Option NameKind}{x:Str}:∀ {binds:List (Str×Value)} {m:SOV},(∀ v,(x,v)∉binds)->bindL kindOf binds m x=m x
 | [],_,_=>rfl
 | (n,v)::r,m,h=>by
  unfold bindL;rw[sH λw hw=>h w (mcm hw)];split
  . have:x≠n:=by rintro rfl;exact h v mcs
    simp[this]
  . rfl
theorem sJ{kindOf:Str->Option NameKind}{x:Str}:∀ {binds:List (Str×Value)} {m:SOV},(∀ v,(x,v)∉binds)->bindC kindOf binds m x=m x
 | [],_,_=>rfl
 | (n,v)::r,m,h=>by
  unfold bindC;rw[sJ λw hw=>h w (mcm hw)];split
  . rfl
  . have:x≠n:=by rintro rfl;exact h v mcs
    simp[this]
theorem sK{kindOf:Str->Option NameKind}{x:Str}{v:Value}:∀ {P:List Str} {vs:List Value} {i:Nat} {m:SOV},P.Nodup->P[i]? = some x->vs[i]? = some v->kindOf x=some .local->bindL kindOf (P.zip vs) m x=some v
 | [],_,_,_,_,h,_,_=>by simp at h
 | _::_,[],_,_,_,_,h,_=>by simp at h
 | p::P,w::vs,0,m,nd,h1,h2,hk=>by simp at h1 h2;subst h1;subst h2;show bindL kindOf ((p,w)::P.zip vs) m p=_;unfold bindL;rw[sH λv hv=>(aR8.mp nd).1 (aR9 hv).1,if_pos hk];simp
 | p::P,w::vs,i+1,m,nd,h1,h2,hk=>by show bindL kindOf ((p,w)::P.zip vs) m x=_;unfold bindL;exact sK (i:=i) (aR8.mp nd).2 (by simpa using h1) (by simpa using h2) hk
theorem sL{kindOf:Str->Option NameKind}{x:Str}{v:Value}:∀ {P:List Str} {vs:List Value} {i:Nat} {m:SOV},P.Nodup->P[i]? = some x->vs[i]? = some v->kindOf x≠some .local->bindC kindOf (P.zip vs) m x=some v
 | [],_,_,_,_,h,_,_=>by simp at h
 | _::_,[],_,_,_,_,h,_=>by simp at h
 | p::P,w::vs,0,m,nd,h1,h2,hk=>by simp at h1 h2;subst h1;subst h2;show bindC kindOf ((p,w)::P.zip vs) m p=_;unfold bindC;rw[sJ λv hv=>(aR8.mp nd).1 (aR9 hv).1,if_neg hk];simp
 | p::P,w::vs,i+1,m,nd,h1,h2,hk=>by show bindC kindOf ((p,w)::P.zip vs) m x=_;unfold bindC;exact sL (i:=i) (aR8.mp nd).2 (by simpa using h1) (by simpa using h2) hk
def cE(N:List Str)(vs:List V):St:=vs.map some++List.replicate (N.length-vs.length) none
def cV(CX:CXT)(P:Program)(w:World)(K:Fg)(mg:SOV)(base:Heap)(N:List Str)(aQ:Str)(scope:Scope)(f:Addr)(cd:Value)(A:Around)(outer:List Env)(s:Shared)(H:Hp)(E:XK):Cx where
 prog:=P
 w:=w
 K:=K
 mg:=mg
 base:=base
 A:=A.deeper (envOfC aQ scope s.heap.objs.size f cd)
 N:=N
 s₀:=s
 H₀:=H
 env:=envOfC aQ scope s.heap.objs.size f cd
 outer:=outer
 stack:=envOfC aQ scope s.heap.objs.size f cd::outer
 ex:=[]
 calm:=true
 fn:=λ_=>true
 pn:=[]
 xe:=λe s'=>wpAny (model P w) (A.deeper (envOfC aQ scope s.heap.objs.size f cd)) (leaving (envOfC aQ scope s.heap.objs.size f cd) e) (λ_ s''=>CX outer H s E e s'') (λe' s''=>CX outer H s E e' s'') s'
theorem sM{sc:Scope}{n:Nat}{x:Str}(h:sc.names.lookup x=some .cell):∃ c,(cellsFrom n sc.names []).lookup x=some c:=by have q:=PySem.W.cellsFrom_some sc.names n [] (.inl h);exact Option.isSome_iff_exists.mp q
theorem aBO{CX:CXT}{P:Program}{w:World}{K:Fg}{mg:SOV}{base:Heap}{N ps:List Str}{aQ:Str}{scope:Scope}{f:Addr}{cd:Value}{A:Around}{outer:List Env}{s s1:Shared}{H:Hp}{E:XK}{us:List Value}{vs:List V}(S:lE N ps scope)(hd:A.handled=none)(e0:gH P w K mg base A outer s H)(hl:vs.length=ps.length)(r:aM vs us)(x:InCallC s s.heap.objs.size (bindL (envOfC aQ scope s.heap.objs.size f cd).kindOf (ps.zip us) λ_=>none) (cellsFrom (s.heap.objs.size+1) scope.names []) (bindC (envOfC aQ scope s.heap.objs.size f cd).kindOf (ps.zip us) λ_=>none) s1):Inv (cV CX P w K mg base N aQ scope f cd A outer s H E) [] (cE N vs) H s1:=by
 have hpl:ps.length<=N.length:=by have:=congrArg List.length S.pre;rw[aSA] at this;omega
 obtain ⟨h1,tk,rfl,hk⟩:=x.done;have noA:∀ b:Addr,b∉(cV CX P w K mg base N aQ scope f cd A outer s H E).ex:=λb z=>absurd (show b∈([]:List Addr) from z) (by simp)
 refine ⟨⟨e0.mod,S.kind,rfl,rfl,aRN _,λy z c h1 h2=>?_,λy hy=>?_,λy c _ h=>?_,λ_=>hd,Around.frames_deeper e0.frames,.inr ⟨rfl,rfl⟩,λb z=>absurd z (noA b),e0.bs,e0.bsz,λb _ _=>noA b,λb z=>absurd z (noA b),e0.funs,e0.frf⟩,
  rfl,e0.bare,Un.kept hk,⟨_,x.toInCall.ns,λi y v h1 h2 h3=>?_⟩,λy c h=>⟨_,x.cell y c h⟩,e0.hok.fresh (aRN _),λy c h=>?_,λp hp=>absurd (show p∈([]:LAO) from hp) (by simp),e0.hok.kept hk,?_⟩
 . exact name_of_addr x.apart (aSB h1) (aSB h2)
 . have hy:scope.names.lookup y=some .cell\/scope.names.lookup y=some .free:=hy;rcases hy with hy | hy
   . exact sM hy
   . exact absurd rfl (S.nofree _ (aSB hy))
 . exact Nat.le_of_lt (x.above y c (aSB h))
 . have hi:i<vs.length:=by
     unfold cE at h2;by_cases hi:i<vs.length
     . exact hi
     . rw[aSC (by simpa using hi)] at h2
       rw[aSD] at h2;split at h2 <;> cases h2
   have ha:vs[i]? = some v:=by
    unfold cE at h2;rw[aSE (by simpa using hi),aSF] at h2
    cases e:vs[i]? with
    | none=>rw[e] at h2;cases h2
    | some a=>rw[e] at h2;cases h2;rfl
   obtain ⟨u,hu,rv⟩:=r.get ha;have hp:ps[i]? = some y:=by rw[<- S.pre,List.getElem?_take_of_lt (by omega)];exact h1
   have ndP:ps.Nodup:=by rw[<- S.pre];exact S.nd.sublist (List.take_sublist _ _)
   refine ⟨u,rv,?_⟩;rcases S.par y (aSG hp) with k | k
   . exact .inl ⟨k,sK ndP hp hu k⟩
   . obtain ⟨c,e⟩:=sM (n:=s.heap.objs.size+1) k;refine .inr ⟨.inl k,c,e,?_⟩;have q:=x.cell y c e;rw[sL ndP hp hu (by show scope.names.lookup y≠_;rw[k];decide)] at q
     exact q
 . exact e0.hok.fresh (Nat.le_of_lt (x.above y c (aSB h)))
 . unfold cE;show _=N.length;rw[aSH,aR2,List.length_replicate];omega
theorem sN{CX:CXT}{P:Program}{w:World}{K:Fg}{mg:SOV}{base:Heap}{k:Nat}{f:Addr}{name aQ:Str}{params:Arguments}{body:List Stmt}{scope:Scope}{dV kV doc pm cdv ct oc:Value}{an od:Option Addr}{osl:Array (Option Value)}{N ps:List Str}{sp:Sp}(lk:K.lookup f=some ⟨oc,od,.func (PySem.W.fnOf name aQ params body scope dV kV doc pm an cdv ct),osl⟩)(hcd:PySem.W.codeIn K cdv aQ=true)(S:lE N ps scope)(len:∀ vs H Q E,sp vs H Q E->vs.length=ps.length)(hbody:∀ (A:Around) (outer:List Env) (s:Shared) (H:Hp) (vs:List V) (Q:VK) (E:XK),bJ k (A.deeper (envOfC aQ scope s.heap.objs.size f cdv))->sp vs H Q E->∃ t,PSs (cV CX P w K mg base N aQ scope f cdv A outer s H E) body t/\t { nx:=λ_ H'=>Q .non H',rt:=Q } (cE N vs) H):cD P w K mg base CX (k+1) f (PySem.W.fnOf name aQ params body scope dV kV doc pm an cdv ct) ps sp:=by
 refine ⟨len,λA outer s H args us vs Q E hr e0 hb r hsp=>?_⟩;have hl:=len _ _ _ _ hsp;have KX:K.In s.heap:=e0.mod.kin.keeps λb o e=>(e0.bs b o e).1;have lim:s.heap.NoLimit:=e0.mod.nolimit.keeps λb o e=>(e0.bs b o e).1;have cY:∀ y∈ps.zip us,scope.names.lookup y.1=some .local\/(scope.names.lookup y.1=some .cell/\((cellsFrom (s.heap.objs.size+1) scope.names []).lookup y.1).isSome=true):=λ⟨n,v⟩ hy=>by
  rcases S.par n (aR9 hy).1 with q | q
  . exact .inl q
  . exact .inr ⟨q,PySem.W.cellsFrom_some _ _ _ (.inl q)⟩
 refine codeAny_call_function hr.depth (KX _ _ lk) rfl S.co S.gen rfl (PySem.W.codeRec_of KX hcd) (hb _ _ _ _ ?_);refine wpAny_newFunctionEnv_cells S.kind cY λenv he s1 x=>?_;subst he;refine ⟨lim.keeps x.toInCall.keep,codeAny_func ?_⟩;obtain ⟨t,ht,hq⟩:=hbody A outer s H vs Q E (hr.deeper _) hsp;have I:Inv (cV CX P w K mg base N aQ scope f cdv A outer s H E) [] (cE N vs) H s1:=aBO S hr.hd e0 hl r x;refine aRG (ht [] s1 (cE N vs) H _ I hq) (λfl s' hs=>?_) λe s' hs=>hs;have fin:∀ {σ':St} {H':Hp} {v:V} {u:Value},Inv (cV CX P w K mg base N aQ scope f cdv A outer s H E) [] σ' H' s'->aJ v u->Q v H'->CE outer P w H s Q u s' :=
  λ{σ' H' v u} J rv q=>⟨v,H',J.os,J.bare,J.base,J.hok,rv,q⟩
 cases fl with
 | ret u=>obtain ⟨v,σ',H',J,rv,q⟩:=hs;exact fin J rv q
 | next=>obtain ⟨σ',H',J,q⟩:=hs;exact fin (v:=V.non) (u:=Value.none) J rfl q
 | brk=>obtain ⟨_,_,_,q⟩:=hs;exact False.elim q
 | cont=>obtain ⟨_,_,_,q⟩:=hs;exact False.elim q
section
variable {X:Cx}{x:Str}{p pos:Pos}{e:Expr}{es:List Expr}{t:TA}{id T:String}{r:List V->Hp->VK->Prop}
def tCB(r:List V->Hp->VK->Prop)(t:TA):TE:=λσ H Q=>t σ H λvs H1=>r vs H1 Q
theorem aBP(hc:cC X (.builtin id) r)(hg:Gl X x)(hm:X.mg x=none)(hv:bootBuiltins x=some (.builtin id))(ha:PA X (e::es) t)(hn:x ≠ "__name__" := by decide)(hdb:(x==("__debug__" : Str))=false:=by decide)(he:starEach (e::es) X.env=(false,eval e X.env)::starEach es X.env:=by rfl)(hpl:(backTo pos (starEach es X.env)).any (·.1)=false:=by rfl):PE X (.Call (.Name x p) (e::es) [] pos) (tCB r t):=by intro aA s σ H Q I h;refine aSI (hV I hg hm hv ?_ hn hdb);exact PyProof.Rows.callWith_builtin1 (thn (ha pos aA s σ H _ I h) λus s1 ⟨vs,H1,I1,r1,q1⟩=>hc aA s1 σ H1 vs us Q I1 r1 q1) he hpl
theorem aBQ(hc:cC X (.type T) r)(hg:Gl X x)(hm:X.mg x=none)(hv:bootBuiltins x=some (.type T))(ha:PA X (e::es) t)(hn:x ≠ "__name__" := by decide)(hdb:(x==("__debug__" : Str))=false:=by decide)(he:starEach (e::es) X.env=(false,eval e X.env)::starEach es X.env:=by rfl)(hpl:(backTo pos (starEach es X.env)).any (·.1)=false:=by rfl):PE X (.Call (.Name x p) (e::es) [] pos) (tCB r t):=by intro aA s σ H Q I h;refine aSI (hV I hg hm hv ?_ hn hdb);exact aRP (thn (ha pos aA s σ H _ I h) λus s1 ⟨vs,H1,I1,r1,q1⟩=>hc aA s1 σ H1 vs us Q I1 r1 q1) he hpl
end
end L2
namespace HT
open PySem PyProof.Rows
section
open PySem.SeqAt
open PySem.AutoSeq1 (wpAny_loadPart')
open PySem.MeetsSeq PySem.MeetsSeq2 PySem.MeetsSeq3
end
section
variable {prog:Program}{w:World}{A:Around}{E:VSP}{s:Shared}
def sIx(n d:Nat):Option Int->Nat
 | none=>d
 | some v=>if v<0 then (v+(n:Int)).toNat else min v.toNat n
theorem aBR(n d:Nat):sIx n d none=d:=rfl
theorem aBS(n d k:Nat):sIx n d (some (k:Int))=min k n:=by show (if (k:Int)<0 then ((k:Int)+(n:Int)).toNat else min (k:Int).toNat n)=min k n;rw[if_neg (by omega),aSJ]
theorem aBT(n d:Nat)(hd:d<=n)(o:Option Int):sIx n d o<=n:=by
 cases o with
 | none=>exact hd
 | some v =>
  show (if v<0 then (v+(n:Int)).toNat else min v.toNat n)<=n;by_cases hv:v<0
  . rw[if_pos hv];omega
  . rw[if_neg hv];exact Nat.min_le_right _ _
theorem sO(v:Int)(n d:Nat):(if v<0 then max (v+(n:Int)) 0 else min v (n:Int))=((sIx n d (some v):Nat):Int):=by
 show (if v<0 then max (v+(n:Int)) 0 else min v (n:Int))=(((if v<0 then (v+(n:Int)).toNat else min v.toNat n):Nat):Int);by_cases hv:v<0
 . simp only[if_pos hv];omega
 . simp only[if_neg hv];omega
theorem aBU(lo hi:Option Int)(n:Nat):Builtin.Slice.sliceAdjust lo hi 1 (n:Int)=(((sIx n 0 lo:Nat):Int),((sIx n n hi:Nat):Int)):=by
 have h1:¬ ((1:Int)<0):=by omega
 unfold Builtin.Slice.sliceAdjust;simp only[h1,aSK];refine Prod.ext ?_ ?_
 . cases lo with
   | none=>rfl
   | some v=>exact sO v n 0
 . cases hi with
   | none=>rfl
   | some v=>exact sO v n n
theorem aBV(i j:Nat):Builtin.Slice.slicePlaces (i:Int) (j:Int) 1=j-i:=by
 unfold Builtin.Slice.slicePlaces;have h1:(1:Int) > 0:=by omega
 simp only[h1,aSL,Int.ediv_one];split <;> omega
theorem sP{v:Value}{o:Option Int}{Q:Option Int->Shared->Prop}(p:IsPart v o)(h:Q o s):wpAny (model prog w) A (Builtin.Slice.slicePartIndex v) Q E s:=by
 cases p with
 | none=>exact slicePart_none h
 | int i t=>exact slicePart_int h
theorem sQ{sl:Addr}{vl vu:Value}{lo hi:Option Int}{n:Nat}{Q:Int×Int×Nat->Shared->Prop}(hs:s.heap.IsSliceOf sl vl vu .none)(pl:IsPart vl lo)(pu:IsPart vu hi)(h:Q (((sIx n 0 lo:Nat):Int),1,sIx n n hi-sIx n 0 lo) s):wpAny (model prog w) A (Builtin.Slice.sliceApplied (.ref sl) (pure (n:Int))) Q E s:=by
 obtain ⟨os,hos,hcs,hds⟩:=id hs;unfold Builtin.Slice.sliceApplied Builtin.Slice.sliceFields;refine aRL (aRL (aSM hos hds (x:=vl) rfl (aRL (aSM hos hds (x:=vu) rfl (aRL (aSM hos hds (x:=.none) rfl (aRK ?_)))))));refine aRL (slicePart_none ?_);show wpAny _ _ (if ((1:Int)==0)=true then _ else _) _ _ s;rw[if_neg (by decide)]
 refine aRL (sP pl (aRL (sP pu (aRL (aRK ?_)))));show wpAny _ _ (match Builtin.Slice.sliceAdjust lo hi 1 (n:Int) with | (lo,hi)=>pure (lo,(1:Int),Builtin.Slice.slicePlaces lo hi 1)) _ _ s
 rw[aBU lo hi n];show wpAny _ _ (pure (((sIx n 0 lo:Nat):Int),(1:Int),Builtin.Slice.slicePlaces ((sIx n 0 lo:Nat):Int) ((sIx n n hi:Nat):Int) 1)) _ _ s;rw[aBV];exact aRK h
theorem aBW(xs:Array Value)(i k:Nat):((List.range k).filterMap λ(m:Nat)=>xs[((i:Int)+(m:Int) * 1).toNat]?).toArray=((xs.toList.drop i).take k).toArray:=by
 have e:(λ(m:Nat)=>xs[((i:Int)+(m:Int) * 1).toNat]?)=λm=>xs[i+m]?:=by
  funext m;have:((i:Int)+(m:Int) * 1).toNat=i+m:=by omega
  rw[this]
 rw[e];have:=pick_run xs i k;rw[List.filterMap_map] at this;have e2:((λx=>xs[x]?) ∘ λx=>i+x)=λm=>xs[i+m]?:=rfl;rw[e2] at this;rw[this]
theorem aBX{t sl:Addr}{items:Array Value}{vl vu:Value}{lo hi:Option Int}{Q:VSP}(ht:IsTup s.heap t items)(hs:s.heap.IsSliceOf sl vl vu .none)(pl:IsPart vl lo)(pu:IsPart vu hi)(hw:¬ (sIx items.size 0 lo=0/\sIx items.size items.size hi=items.size))(h:Q (.ref s.heap.objs.size) { s with heap:=s.heap.push { cls:=.type "tuple", data:=.seq ((items.toList.drop (sIx items.size 0 lo)).take (sIx items.size items.size hi-sIx items.size 0 lo)).toArray } })(hsz:items.size<=sizeLine):wpAny (model prog w) A (getItem (.ref t) (.ref sl)) Q E s:=by
 have htake:sizeOk (.seq ((items.toList.drop (sIx items.size 0 lo)).take (sIx items.size items.size hi-sIx items.size 0 lo)).toArray):=by show ((items.toList.drop (sIx items.size 0 lo)).take (sIx items.size items.size hi-sIx items.size 0 lo)).toArray.size<=sizeLine;rw[aRU,aSA,List.length_drop,aRI];omega
 have hj:sIx items.size items.size hi<=items.size:=aBT _ _ (aRN _) hi;obtain ⟨os,hos,hcs,hds⟩:=id hs;have hTs:s.TypeIs (.ref sl) "slice" := ⟨os,hos,hcs⟩;unfold getItem
 try with_reducible refine aSN ?_
 first | refine aRL (aRK ?_) | skip
 refine aRL (wpAny_sequenceKey ht.typeIs (by decide) ?_)
 refine aRL (aSO (name:=Str.ofString "__getitem__") ht.typeIs aSP
  (aSQ aSP ht.typeIs entry_tuple_getitem ?_ (args_tuple_getitem _ _)))
 show wpAny _ _ (Builtin.Tuple.tupleItemsOf (.ref t) >>= _) _ _ s;refine aRL (tupleItemsOf_ ht ?_);refine aRL (wpAny_typeOf hTs ?_);rw[if_pos (by decide)]
 refine aRL (sQ hs pl pu ?_);have hno:¬ ((((sIx items.size 0 lo:Nat):Int)==0&&(1:Int)==1&&(sIx items.size items.size hi-sIx items.size 0 lo)==items.size)=true):=by intro q;rw[aSR,aSR] at q;have q1:((sIx items.size 0 lo:Nat):Int)=0:=eq_of_beq q.1.1;have q2:sIx items.size items.size hi-sIx items.size 0 lo=items.size:=eq_of_beq q.2;exact hw ⟨by omega,by omega⟩
 show wpAny _ _ (if (((sIx items.size 0 lo:Nat):Int)==0&&(1:Int)==1&&(sIx items.size items.size hi-sIx items.size 0 lo)==items.size)=true then _ else _) _ _ s;rw[if_neg hno,aBW]
 first
  | exact aRL (m:=Builtin.Tuple.tupleExact _) (aSS (aRK ⟨_,rfl,aRK h⟩) htake)
  | exact aRL (m:=Builtin.Tuple.tupleExact _) (aSS (aRL (aRK (aRK ⟨_,rfl,aRK h⟩))) htake)
  | exact aRL (aRL (m:=Builtin.Tuple.tupleExact _) (aSS (aRK (aRK ⟨_,rfl,aRK h⟩)) htake))
  | exact aRL (aRL (m:=Builtin.Tuple.tupleExact _) (aSS (aRK ⟨_,rfl,aRK h⟩) htake))
end
end HT
namespace L2
open PySem PySem.Spec PyProof.Rows
abbrev TO:=St->Hp->(Option Int->Hp->Prop)->Prop
def PO(X:Cx)(e:Option Expr)(t:TO):Prop :=
 ∀ (aA:LAO) (s:Shared) (σ:St) (H:Hp) (Q:Option Int->Hp->Prop),Inv X aA σ H s->t σ H Q ->
  wpAny (model X.prog X.w) X.A (evalPart e X.env) (λu s'=>∃ o H',Inv X aA σ H' s'/\IsPart u o/\Q o H') X.xe s
def sR:TO:=λ_ H Q=>Q none H
def lF(t:TE):TO:=λσ H Q=>t σ H λx H1=>∃ i,x=.int i/\Q (some i) H1
section
variable {X:Cx}{e:Expr}{te:TE}{lo hi:Option Expr}{tl th:TO}{pos p2:Pos}
theorem aBY:PO X none sR:=by intro aA s σ H Q I h;rw[evalPart_none];exact aRK ⟨none,H,I,.none,h⟩
theorem aBZ(h:PE X e te):PO X (some e) (lF te):=by intro aA s σ H Q I hw;rw[evalPart_some];refine thn (h aA s σ H _ I hw) λu s1 ⟨x,H1,I1,r1,q1⟩=>?_;obtain ⟨i,rfl,q⟩:=q1;obtain ⟨t,rfl⟩:=r1;exact ⟨some i,H1,I1,.int i t,q⟩
def SlR(X:Cx)(r:V->Option Int->Option Int->Hp->VK->Prop):Prop :=
 ∀ (aA:LAO) (s:Shared) (σ:St) (H:Hp) (x:V) (v vl vu:Value) (lo hi:Option Int) (sl:Addr) (Q:VK),Inv X aA σ H s->aJ x v->s.heap.IsSliceOf sl vl vu .none->IsPart vl lo->IsPart vu hi->r x lo hi H Q ->
  ∃ T id,typeLookup (.type T) "__getitem__" = pure (some (.builtin id))/\s.TypeIs v T/\wpAny (model X.prog X.w) X.A (getItem v (.ref sl)) (EP X aA σ Q) X.xe s
theorem SlR.or{r r':V->Option Int->Option Int->Hp->VK->Prop}(h:SlR X r)(h':SlR X r'):SlR X (λx lo hi H Q=>r x lo hi H Q\/r' x lo hi H Q):=by
 intro aA s σ H x v vl vu lo hi sl Q I rx hs pl pu q;rcases q with q | q
 . exact h aA s σ H x v vl vu lo hi sl Q I rx hs pl pu q
 . exact h' aA s σ H x v vl vu lo hi sl Q I rx hs pl pu q
def tSl(r:V->Option Int->Option Int->Hp->VK->Prop)(te:TE)(tl th:TO):TE:=λσ H Q=>te σ H λx H1=>tl σ H1 λl H2=>th σ H2 λu H3=>r x l u H3 Q
theorem aB0{r:V->Option Int->Option Int->Hp->VK->Prop}(hr:SlR X r)(he:PE X e te)(hl:PO X lo tl)(hu:PO X hi th):PE X (.Subscript e (.Slice lo hi none p2) pos) (tSl r te tl th):=by
 intro aA s σ H Q I h;refine Subscript_ (thn (he aA s σ H _ I h) λv s1 ⟨x,H1,I1,r1,q1⟩=>?_);refine wpAny_Slice (thn (hl aA s1 σ H1 _ I1 q1) λvl s2 ⟨l,H2,I2,pl,q2⟩=>thn (hu aA s2 σ H2 _ I2 q2) λvu s3 ⟨u,H3,I3,pu,q3⟩=>?_);rw[evalPart_none];refine aRK ?_;have I4:Inv X aA σ H3 { s3 with heap:=s3.heap.push { cls:=.type "slice", data:=.fields #[vl,vu,.none] } }:=I3.kept (t':=s3.toks) λb ob q=>hps q
 obtain ⟨T,id,hT,ht,hg⟩:=hr aA { s3 with heap:=s3.heap.push { cls:=.type "slice", data:=.fields #[vl,vu,.none] } } σ H3 x v vl vu l u s3.heap.objs.size Q I4 r1 (Heap.IsSliceOf.new ..) pl pu q3
 show wpAny (model X.prog X.w) X.A (subscriptTail e (.Slice lo hi none p2) v (.ref s3.heap.objs.size)) (EP X aA σ Q) X.xe { s3 with heap:=s3.heap.push { cls:=.type "slice", data:=.fields #[vl,vu,.none] } }
 exact tail_any (ops:=[.ref s3.heap.objs.size,v]) ht hT hg (by with_unfolding_all rfl)
def fA(xs:List V)(lo hi:Option Int):List V:=(xs.drop (HT.sIx xs.length 0 lo)).take (HT.sIx xs.length xs.length hi-HT.sIx xs.length 0 lo)
theorem sS(xs:List V)(lo hi:Option Int):(fA xs lo hi).length<=xs.length:=by unfold fA;rw[aSA,List.length_drop];omega
def rSlT(K:Fg):V->Option Int->Option Int->Hp->VK->Prop:=λx lo hi H Q=>∃ a xs,x=.ref a/\SqT K H a xs /\
 ¬ (HT.sIx xs.length 0 lo=0/\HT.sIx xs.length xs.length hi=xs.length)/\∀ p,H p=none->Q (.ref p) (upd H p (.tup (fA xs lo hi)))
theorem aB1:SlR X (rSlT X.K):=by
 intro aA s σ H x v vl vu lo hi sl Q I rx hs pl pu h;obtain ⟨a,xs,rfl,hx,hw,q⟩:=h;cases rx;obtain ⟨its,r,ht,hz⟩:=I.tuple hx;have hlen:its.toArray.size=xs.length:=by rw[aRU];exact r.length.symm
 refine ⟨"tuple", _,PyProof.Rows.slot_tuple_getitem.lookup,ht.typeIs,?_⟩;refine HT.aBX ht hs pl pu (by rw[hlen];exact hw) ?_ (by rw[hlen];exact hz)
 rw[hlen];refine ⟨.ref s.heap.objs.size,_,I.laid (t':=s.toks) (o:=.tup (fA xs lo hi)) (λb ob q=>hps q) (aRN _) ?_,rfl,q _ (I.hok.fresh (aRN _))⟩;exact ⟨aQ8 (sS xs lo hi) hz,_,(r.drop (HT.sIx xs.length 0 lo)).take (HT.sIx xs.length xs.length hi-HT.sIx xs.length 0 lo),e6.new _ _⟩
end
def ixN(n:Nat)(i:Int):Option Nat:=if 0<=i then (if i<n then some i.toNat else none) else if -(n:Int)<=i then some (i+n).toNat else none
def atI{α:Type}(xs:List α)(i:Int):Option α:=(ixN xs.length i).bind λj=>xs[j]?
theorem aB2{n:Nat}{i:Int}{j:Nat}(h:ixN n i=some j):seqIndex? i n=some j/\j<n /\ -(n:Int)<=i/\i<n:=by
 unfold ixN at h;by_cases h0:0<=i
 . rw[if_pos h0] at h;by_cases h1:i<n
   . rw[if_pos h1] at h;have e:i.toNat=j:=aQZ h;exact ⟨by rw[seqIndex_of h0 h1,e],by omega,by omega,h1⟩
   . rw[if_neg h1] at h;cases h
 . rw[if_neg h0] at h;by_cases h1:-(n:Int)<=i
   . rw[if_pos h1] at h;have e:(i+n).toNat=j:=aQZ h;exact ⟨by rw[seqIndex_neg (by omega) h1,e],by omega,h1,by omega⟩
   . rw[if_neg h1] at h;cases h
theorem lG{α:Type}{xs:List α}{i:Int}{v:α}(h:atI xs i=some v):∃ j,seqIndex? i xs.length=some j/\xs[j]? = some v/\j<xs.length /\ -(xs.length:Int)<=i/\i<xs.length:=by
 unfold atI at h;cases e:ixN xs.length i with
 | none=>rw[e] at h;cases h
 | some j=>rw[e] at h;obtain ⟨h1,h2,h3,h4⟩:=aB2 e;exact ⟨j,h1,h,h2,h3,h4⟩
theorem nR{α:Type}{xs:List α}{j:Nat}{v:α}(h:xs[j]? = some v):atI xs (j:Int)=some v:=by
 have hj:j<xs.length:=(aRC.mp h).1;have e:ixN xs.length (j:Int)=some j:=by unfold ixN;rw[if_pos (by omega),if_pos (by omega)];simp
 unfold atI;rw[e];exact h
def nS(b:Expr):Prop:=∀ o i,subscripted b false o i=operate [o,i] (getItem o i)
def IxR(X:Cx)(r:R2):Prop :=
 ∀ (value slice:Expr) (aA:LAO) (s:Shared) (σ:St) (H:Hp) (x y:V) (v u:Value) (Q:VK),Inv X aA σ H s->aJ x v->aJ y u->r x y H Q ->
  subscripted slice false v u=operate [v,u] (getItem v u)->wpAny (model X.prog X.w) X.A (subscriptTail value slice v u) (EP X aA σ Q) X.xe s
def MtR(X:Cx)(id:String)(r:V->List V->Hp->VK->Prop):Prop :=
 ∀ (aA:LAO) (s:Shared) (σ:St) (H:Hp) (x:V) (xs:List V) (v:Value) (us:List Value) (Q:VK),Inv X aA σ H s->aJ x v->aM xs us->r x xs H Q ->
  wpAny (model X.prog X.w) X.A (call (.builtin id) (v::us)) (EP X aA σ Q) X.xe s
section
variable {X:Cx}{a b:Expr}{ta tb:TE}{pos:Pos}
theorem IxR.or{r r':R2}(h:IxR X r)(h':IxR X r'):IxR X (λx y H Q=>r x y H Q\/r' x y H Q):=by
 intro value slice aA s σ H x y v u Q I rx ry q hs;rcases q with q | q
 . exact h value slice aA s σ H x y v u Q I rx ry q hs
 . exact h' value slice aA s σ H x y v u Q I rx ry q hs
theorem pe_ix{r:R2}(hr:IxR X r)(ha:PE X a ta)(hb:PE X b tb)(hs:nS b):PE X (.Subscript a b pos) (tOp r ta tb):=by intro aA s σ H Q I h;exact Subscript_ (nN ha hb I h λv u s2 x y H2 I2 rx ry q=>hr a b aA s2 σ H2 x y v u Q I2 rx ry q (hs _ _))
def rIxL(K:Fg):R2:=λx y H Q=>∃ p xs i v,x=.ref p/\y=.int i/\SqL K H p xs/\atI xs i=some v/\Q v H
def rIxT(K:Fg):R2:=λx y H Q=>∃ p xs i v,x=.ref p/\y=.int i/\SqT K H p xs/\atI xs i=some v/\Q v H
def rIxS:R2:=λx y H Q=>∃ z i c,x=.str z/\y=.int i/\z.length<=sizeLine/\atI z.cps.toList i=some c/\Q (.str ⟨#[c]⟩) H
theorem aB3:IxR X (rIxL X.K):=by
 intro value slice aA s σ H x y v u Q I rx ry h hs;obtain ⟨p,xs,i,z,rfl,rfl,hq,he,q⟩:=h;cases rx;obtain ⟨t,rfl⟩:=ry;obtain ⟨its,r,pl,hz⟩:=I.list hq;obtain ⟨j,h1,h2,h3,h4,h5⟩:=lG he;obtain ⟨w,ew,rw'⟩:=r.get h2;have hl:=r.length;have hn:=jD;have fin:EP X aA σ Q w s:=⟨z,H,I,rw',q⟩;by_cases h0:0<=i
 . have hj:i.toNat=j:=by rw[seqIndex_of h0 h5] at h1;exact aQZ h1
   exact item_listR pl.isList h0 (by omega) (by rw[hj];simpa using ew) fin hs
 . have hj:(i+(its.toArray.size:Int)).toNat=j:=by
     rw[seqIndex_neg (by omega) h4] at h1
     rw[aRU,<- hl];exact aQZ h1
   exact subscriptTail_builtinR (x:=w) pl.isList.typeIs slot_list_getitem.lookup
    (wpAny_getItem_list_neg (Q:=λr s'=>r=w/\EP X aA σ Q r s') pl.isList (by omega) (by rw[aRU] <;> omega) (by omega) (by rw[hj];simpa using ew) ⟨rfl,fin⟩) hs
theorem aB4:IxR X (rIxT X.K):=by
 intro value slice aA s σ H x y v u Q I rx ry h hs;obtain ⟨p,xs,i,z,rfl,rfl,hq,he,q⟩:=h;cases rx;obtain ⟨t,rfl⟩:=ry;obtain ⟨its,r,pl,hz⟩:=I.tuple hq;obtain ⟨j,h1,h2,h3,h4,h5⟩:=lG he;obtain ⟨w,ew,rw'⟩:=r.get h2;have hl:=r.length;have hn:=jD;have fin:EP X aA σ Q w s:=⟨z,H,I,rw',q⟩;exact subscriptTail_builtinR (x:=w) pl.typeIs slot_tuple_getitem.lookup
  (getItem_tuple (j:=j) (Q:=λr s'=>r=w/\EP X aA σ Q r s') pl (by omega) (by omega) (by rw[aRU,<- hl];exact h1) (by simpa using ew) ⟨rfl,fin⟩) hs
theorem aB5:IxR X rIxS:=by
 intro value slice aA s σ H x y v u Q I rx ry h hs;obtain ⟨z,i,c,rfl,rfl,hz,he,q⟩:=h;obtain ⟨t,rfl⟩:=rx;obtain ⟨t',rfl⟩:=ry;obtain ⟨j,h1,h2,h3,h4,h5⟩:=lG he;have hl:z.cps.toList.length=z.length:=by simp[Str.length]
 rw[hl] at h1 h4 h5;have hn:=jD;exact tail_any (typeIs_str s z t) slot_str_getitem.lookup (getItem_str (c:=c) (by
  have e1:decide (i < -(2 ^ 63:Int))=false:=aQW (by omega)
  have e2:decide (i ≥ 2 ^ 63)=false:=aQW (by omega)
  rw[e1,e2,Bool.or_false]) (by rw[h1];simpa using h2) ⟨.str ⟨#[c]⟩,H,I.tok _,⟨_,rfl⟩,q⟩) hs
def rIx(K:Fg):R2:=λx y H Q=>rIxL K x y H Q\/rIxT K x y H Q\/rIxS x y H Q
theorem aB6:IxR X (rIx X.K):=aB3.or (aB4.or aB5)
theorem aB7(lo hi:Option Int)(n:Nat):(sliceBounds lo hi none n).1=((HT.sIx n 0 lo:Nat):Int)/\(sliceBounds lo hi none n).2.1=((HT.sIx n n hi:Nat):Int)/\(sliceBounds lo hi none n).2.2=1:=by
 refine ⟨?_,?_,rfl⟩
 . cases lo with
   | none=>simp[sliceBounds,HT.sIx]
   | some i =>
    simp only[sliceBounds,HT.sIx,aST,show (1:Int) > 0 by decide,aSL]
    by_cases h:i<0
    . simp only[h,aSL] <;> omega
    . simp only[h,aSK] <;> omega
 . cases hi with
   | none=>simp[sliceBounds,HT.sIx]
   | some i =>
    simp only[sliceBounds,HT.sIx,aST,show (1:Int) > 0 by decide,aSL]
    by_cases h:i<0
    . simp only[h,aSL] <;> omega
    . simp only[h,aSK] <;> omega
theorem aB8(its:List Value)(lo hi:Option Int):slicePick its.toArray lo hi none=((its.drop (HT.sIx its.length 0 lo)).take (HT.sIx its.length its.length hi-HT.sIx its.length 0 lo)).toArray:=by obtain ⟨h1,h2,h3⟩:=aB7 lo hi its.toArray.size;unfold slicePick;rw[h1,h2,h3];simp only[sliceRange_one,pick_run,aRU] <;> rfl
def rSlL(K:Fg):V->Option Int->Option Int->Hp->VK->Prop:=λx lo hi H Q=>∃ a xs,x=.ref a/\SqL K H a xs/\∀ p,H p=none->Q (.ref p) (upd H p (.lst (fA xs lo hi)))
theorem aB9:SlR X (rSlL X.K):=by
 intro aA s σ H x v vl vu lo hi sl Q I rx hs pl pu h;obtain ⟨a,xs,rfl,hx,q⟩:=h;cases rx;obtain ⟨its,r,ht,hz⟩:=I.list hx;have hlen:=r.length;refine ⟨"list", _,slot_list_getitem.lookup,ht.isList.typeIs,?_⟩;refine wpAny_getItem_list_slice ht.isList hs pl pu .none (by simp) ?_ (by rw[aRU] <;> omega)
 rw[aB8,<- hlen];refine ⟨.ref s.heap.objs.size,_,I.laid (t':=s.toks) (o:=.lst (fA xs lo hi)) (λb ob q=>hps q) (aRN _) ?_,rfl,q _ (I.hok.fresh (aRN _))⟩;exact ⟨aQ8 (sS xs lo hi) hz,_,0,(r.drop (HT.sIx xs.length 0 lo)).take (HT.sIx xs.length xs.length hi-HT.sIx xs.length 0 lo),aQ0 _ rfl⟩
def eQ:V->Bool
 | .non=>true
 | .bl _=>true
 | .int _=>true
 | .str _=>true
 | _=>false
def eqV:V->V->Bool
 | .non,.non=>true
 | .bl a,.bl b=>a==b
 | .bl a,.int b=>(if a then 1 else 0)==b
 | .int a,.bl b=>a==(if b then 1 else 0)
 | .int a,.int b=>a==b
 | .str a,.str b=>a==b
 | _,_=>false
theorem aCA{A:Around}{s:Shared}{y x:V}{u v:Value}(ry:aJ y u)(rx:aJ x v)(fy:eQ y=true)(fx:eQ x=true):SeqAt.EqAt A s u v (eqV y x):=by
 cases y with
 | non =>
  cases ry;cases x with
  | non=>cases rx;exact SeqAt.EqAt.same _
  | bl b=>cases rx;exact SeqAt.EqAt.none_bool b
  | int b=>obtain ⟨t,rfl⟩:=rx;exact SeqAt.EqAt.none_int b t
  | str b=>obtain ⟨t,rfl⟩:=rx;exact SeqAt.EqAt.none_str b t
  | _=>exact absurd (show false=true from fx) aRW
 | bl a =>
  cases ry;cases x with
  | non=>cases rx;exact SeqAt.EqAt.bool_none a
  | bl b=>cases rx;exact SeqAt.EqAt.bool_bool a b
  | int b=>obtain ⟨t,rfl⟩:=rx;exact SeqAt.EqAt.bool_int a b t
  | str b=>obtain ⟨t,rfl⟩:=rx;exact SeqAt.EqAt.bool_str a b t
  | _=>exact absurd (show false=true from fx) aRW
 | int a =>
  obtain ⟨t',rfl⟩:=ry;cases x with
  | non=>cases rx;exact SeqAt.EqAt.int_none a t'
  | bl b=>cases rx;exact SeqAt.EqAt.int_bool a t' b
  | int b=>obtain ⟨t,rfl⟩:=rx;exact SeqAt.EqAt.int_int a t' b t
  | str b=>obtain ⟨t,rfl⟩:=rx;exact SeqAt.EqAt.int_str a t' b t
  | _=>exact absurd (show false=true from fx) aRW
 | str a =>
  obtain ⟨t',rfl⟩:=ry;cases x with
  | non=>cases rx;exact SeqAt.EqAt.str_none a t'
  | bl b=>cases rx;exact SeqAt.EqAt.str_bool a t' b
  | int b=>obtain ⟨t,rfl⟩:=rx;exact SeqAt.EqAt.str_int a t' b t
  | str b=>obtain ⟨t,rfl⟩:=rx;exact SeqAt.EqAt.str_str a t' b t
  | _=>exact absurd (show false=true from fx) aRW
 | _=>exact absurd (show false=true from fy) aRW
def eqU(x:V)(u:Value):Bool:=match u with
 | .none=>eqV .non x
 | .bool b=>eqV (.bl b) x
 | .int i _=>eqV (.int i) x
 | .str z _=>eqV (.str z) x
 | _=>false
theorem sU{x y:V}{u:Value}(r:aJ y u)(f:eQ y=true):eqU x u=eqV y x:=by
 cases y with
 | non=>cases r;rfl
 | bl b=>cases r;rfl
 | int i=>obtain ⟨t,rfl⟩:=r;rfl
 | str z=>obtain ⟨t,rfl⟩:=r;rfl
 | _=>exact absurd (show false=true from f) aRW
theorem jF{x:V}:∀ {xs:List V} {us:List Value},aM xs us->xs.all eQ=true->us.any (eqU x)=xs.any λy=>eqV y x
 | _,_,.nil,_=>rfl
 | y::xs,u::us,.cons r t,f=>by rw[aSU,aSR] at f;rw[aSV,aSV,sU r f.1,jF t f.2]
theorem jG{A:Around}{s:Shared}{x:V}{v:Value}(rx:aJ x v)(fx:eQ x=true):∀ {xs:List V} {us:List Value},aM xs us->xs.all eQ=true->∀ u∈us,SeqAt.EqAt A s u v (eqU x u)
 | _,_,.nil,_=>λu hu=>by cases hu
 | y::xs,u::us,.cons r t,f=>λu' hu=>by
  rw[aSU,aSR] at f;rcases aRA.mp hu with rfl | hu
  . rw[sU r f.1];exact aCA r rx f.1 fx
  . exact jG rx fx t f.2 u' hu
def inV(x:V)(xs:List V):Bool:=xs.any λy=>eqV y x
def rIn(K:Fg)(neg:Bool):R2:=λx y H Q=>∃ p xs,y=.ref p/\(SqL K H p xs\/SqT K H p xs)/\eQ x=true/\xs.all eQ=true/\Q (.bl (if neg then !inV x xs else inV x xs)) H
theorem aCB:OpR X (compareOp .In) (rIn X.K false):=by
 intro aA s σ H x y v u Q I rx ry h;obtain ⟨p,xs,rfl,hq,fx,fs,q⟩:=h;cases ry;rcases hq with hq | hq
 . obtain ⟨its,r,pl,hz⟩:=I.list hq;refine SeqAt.in_listAt (eqU x) pl.isList (λw hw=>jG rx fx r fs w (by simpa using hw)) ⟨.bl _,H,I,rfl,?_⟩
   rw[show its.toArray.any (eqU x)=its.any (eqU x) by simp,jF r fs]
   exact q
 . obtain ⟨its,r,pl,hz⟩:=I.tuple hq;refine SeqAt.in_tupleAt (eqU x) pl (λw hw=>jG rx fx r fs w (by simpa using hw)) ⟨.bl _,H,I,rfl,?_⟩
   rw[show its.toArray.any (eqU x)=its.any (eqU x) by simp,jF r fs]
   exact q
theorem aCC:OpR X (compareOp .NotIn) (rIn X.K true):=by
 intro aA s σ H x y v u Q I rx ry h;obtain ⟨p,xs,rfl,hq,fx,fs,q⟩:=h;cases ry;rcases hq with hq | hq
 . obtain ⟨its,r,pl,hz⟩:=I.list hq;refine SeqAt.notIn_listAt (eqU x) pl.isList (λw hw=>jG rx fx r fs w (by simpa using hw)) ⟨.bl _,H,I,rfl,?_⟩
   rw[show its.toArray.any (eqU x)=its.any (eqU x) by simp,jF r fs]
   exact q
 . obtain ⟨its,r,pl,hz⟩:=I.tuple hq;refine SeqAt.notIn_tupleAt (eqU x) pl (λw hw=>jG rx fx r fs w (by simpa using hw)) ⟨.bl _,H,I,rfl,?_⟩
   rw[show its.toArray.any (eqU x)=its.any (eqU x) by simp,jF r fs]
   exact q
theorem cC.or{f:Value}{r r':List V->Hp->VK->Prop}(h:cC X f r)(h':cC X f r'):cC X f (λxs H Q=>r xs H Q\/r' xs H Q):=by
 intro aA s σ H xs us Q I rs q;rcases q with q | q
 . exact h aA s σ H xs us Q I rs q
 . exact h' aA s σ H xs us Q I rs q
theorem aCD:cC X (.type "list") (λxs H Q=>∃ p ys,xs=[.ref p]/\(SqL X.K H p ys\/SqT X.K H p ys)/\∀ l,H l=none->Q (.ref l) (upd H l (.lst ys))):=by
 intro aA s σ H xs us Q I r h; obtain ⟨p, ys, rfl, hq, q⟩ := h; obtain ⟨u, rfl, rx⟩ := cO r; cases rx; have fin : ∀ (its : List Value), aM ys its → ys.length ≤ sizeLine → ∀ (h' : Heap) (c' : Nat), (∀ b o', s.heap.get? b = some o' → h'.get? b = some o') →
     h'.get? s.heap.objs.size=some { cls:=.type "list", dict:=none,data:=.seq its.toArray c',slots:=#[] } -> EP X aA σ Q (.ref s.heap.objs.size) { s with heap:=h' }:=λits r' hz h' c' kp e =>
  ⟨.ref s.heap.objs.size,_,I.laid (t':=s.toks) kp (aRN _) (show bL X.prog X.w _ h' _ (.lst ys) from ⟨hz,its,c',r',e⟩),rfl,q _ (I.hok.fresh (aRN _))⟩
 rcases hq with hq | hq
 . obtain ⟨its,r',pl,hz⟩:=I.list hq;have hlen:=r'.length;obtain ⟨o,ho,hc,n,hd⟩:=pl.isList;exact call_list_seq p (.inl rfl) ho hc hd (λh' c' kp e=>fin its r' hz h' c' kp e) (by simp only[aRU] <;> omega)
 . obtain ⟨its,r',pl,hz⟩:=I.tuple hq;have hlen:=r'.length;obtain ⟨o,ho,hc,n,hd⟩:=pl;exact call_list_seq p (.inr rfl) ho hc hd (λh' c' kp e=>fin its r' hz h' c' kp e) (by simp only[aRU] <;> omega)
theorem aCE:cC X (.type "tuple") (λxs H Q=>∃ p ys,xs=[.ref p]/\((SqL X.K H p ys/\∀ l,H l=none->Q (.ref l) (upd H l (.tup ys)))\/(SqT X.K H p ys/\Q (.ref p) H))):=by
 intro aA s σ H xs us Q I r h;obtain ⟨p,ys,rfl,h⟩:=h;obtain ⟨u,rfl,rx⟩:=cO r;cases rx;rcases h with ⟨hq,q⟩ | ⟨hq,q⟩
 . obtain ⟨its,r',pl,hz⟩:=I.list hq;have hlen:=r'.length;refine call_tuple_list pl.isList (λh' kp=>?_) (by simp only[aRU] <;> omega)
   have I1:Inv X aA σ H { s with heap:=h' }:=I.kept (t':=s.toks) kp
   have I2:Inv X aA σ (upd H h'.objs.size (.tup ys)) { s with heap:=h'.push { cls:=.type "tuple", data:=.seq its.toArray } } :=
    I1.laid (t':=s.toks) (λb o e=>hps e) (aRN _) (show bL X.prog X.w _ _ _ (.tup ys) from ⟨hz,its,r',e6.new _ _⟩)
   exact ⟨.ref h'.objs.size,_,I2,rfl,q _ (I1.hok.fresh (aRN _))⟩
 . obtain ⟨its,r',pl,hz⟩:=I.tuple hq;exact call_tuple_same pl ⟨.ref p,H,I,rfl,q⟩
def tyV(K:Fg)(T:String)(x:V)(H:Hp):Prop:=match x with
 | .str _=>T = "str"
 | .int _=>T = "int"
 | .ref p => (T = "list" ∧ ∃ xs, SqL K H p xs) ∨ (T = "tuple" ∧ ∃ o, K.lookup p = some o ∧ o.cls = .type "tuple" ∧ o.dict = none) ∨
     (T = "dict" /\ ((∃ kvs,H p=some (.dK kvs))\/∃ kvs,H p=some (.dT kvs)))\/(T = "set" /\ ∃ S n,H p=some (.set S n))
 | _=>False
theorem aCF{aA:LAO}{σ:St}{H:Hp}{s:Shared}{T:String}{x:V}{v:Value}(I:Inv X aA σ H s)(r:aJ x v)(ty:tyV X.K T x H):s.TypeIs v T/\∀ a,v=.ref a->∃ ob,s.heap.get? a=some ob/\ob.dict=none:=by
 cases x with
 | str z =>
  obtain ⟨t,rfl⟩:=r;cases (show T = "str" from ty)
  exact ⟨typeIs_str s z t,λ_ e=>nomatch e⟩
 | int i =>
  obtain ⟨t,rfl⟩:=r;cases (show T = "int" from ty)
  exact ⟨typeIs_int s i t,λ_ e=>nomatch e⟩
 | ref p =>
  cases r;rcases ty with ⟨rfl,xs,hq⟩ | ⟨rfl,o,hk,hc,hd⟩ | ⟨rfl,hk⟩ | ⟨rfl,S,n,hk⟩
  . obtain ⟨its,_,pl,_⟩:=I.list hq;refine ⟨pl.isList.typeIs,λa e=>?_⟩;cases e;obtain ⟨o,n,e,c,hd,_⟩:=pl;exact ⟨o,e,hd⟩
  . refine ⟨⟨o,I.kIn p o hk,hc⟩,λa e=>?_⟩;cases e;exact ⟨o,I.kIn _ o hk,hd⟩
  . have z:∃ o,s.heap.get? p=some o/\o.ExactDict:=by
      rcases hk with ⟨kvs,hk⟩ | ⟨kvs,hk⟩
      . obtain ⟨_,_,_,_,o,_,_,e,ex,_⟩:=I.hok p _ hk;exact ⟨o,e,ex⟩
      . obtain ⟨_,_,_,_,o,_,_,e,ex,_⟩:=I.hok p _ hk;exact ⟨o,e,ex⟩
    obtain ⟨o,e,ex⟩:=z;refine ⟨⟨o,e,ex.1⟩,λa e2=>?_⟩;cases e2;exact ⟨o,e,ex.2.1⟩
  . obtain ⟨o,_,_,_,e,ex,_⟩:=I.hok p _ hk;refine ⟨⟨o,e,ex.1⟩,λa e2=>?_⟩;cases e2;exact ⟨o,e,ex.2.1⟩
 | _=>exact False.elim ty
def tBM(K:Fg)(T:String)(r:V->List V->Hp->VK->Prop)(to:TE)(t:TA):TE:=λσ H Q=>to σ H λx H1=>tyV K T x H1/\t σ H1 λxs H2=>r x xs H2 Q
variable {o e:Expr}{es:List Expr}{to:TE}{t:TA}{name:Str}{apos cpos:Pos}{T id:String}{r:V->List V->Hp->VK->Prop}
theorem pe_bm(pa:PlainAttrs T)(slot:Slot T name id)(hty:typeOf (.builtin id)=pure (.type "method_descriptor"))(hm:MtR X id r)(ho:PE X o to)(ha:PA X (e::es) t)(hbase:attributeBase o name X.env (eval o X.env)=eval o X.env:=by rfl)(hfew:((backTo cpos (starEach (e::es) X.env)).all (λx=>!x.1)&&(backToKw cpos (keywordEach [] X.env)).all (λx=>x.1.isSome)&&decide ((e::es).length+([]:List Keyword).length+(if ([]:List Keyword).isEmpty then 0 else 1)<30))=true:=by rfl)(hline:(apos.endLine==cpos.line)=true:=by rfl)(hs:starEach (e::es) X.env=(false,eval e X.env)::starEach es X.env:=by rfl)(hplain:(backTo cpos (starEach es X.env)).any (·.1)=false:=by rfl):PE X (.Call (.Attribute o name apos) (e::es) [] cpos) (tBM X.K T r to t):=by
 intro aA s σ H Q I h;refine wpAny_Call_method_late hbase hfew hline rfl (thn (ho aA s σ H _ I h) λv s1 ⟨x,H1,I1,r1,ty,q1⟩=>?_);obtain ⟨h1,h2⟩:=aCF I1 r1 ty;refine ⟨T,id,pa,slot,hty,h1,h2,?_⟩;have hA:=ha cpos aA s1 σ H1 _ I1 q1;rw[hs] at hA ⊢;refine Calls.callWith_builtin (by show (false||(backTo cpos (starEach es X.env)).any (·.1))=false;rw[hplain] <;> rfl) (aSW ?_)
 exact thn hA λus s2 ⟨vs,H2,I2,r2,q2⟩=>hm aA s2 σ H2 x vs v us Q I2 r1 r2 q2
end
def MtM(X:Cx)(id:String)(r:V->List V->Hp->VK->Prop):Prop :=
 ∀ (aA:LAO) (s:Shared) (σ:St) (H:Hp) (x:V) (xs:List V) (v:Value) (us:List Value) (Q:VK),Inv X aA σ H s->aJ x v->aM xs us->r x xs H Q ->
  wpAny (model X.prog X.w) X.A (call (.builtin id) (v::us)) (EP X aA σ Q) X.xe s
theorem aM.one:∀ {x:V} {us:List Value},aM [x] us->∃ u,us=[u]/\aJ x u
 | _,_,.cons r .nil=>⟨_,rfl,r⟩
section
variable {X:Cx}{aA:LAO}{σ:St}{H:Hp}{s:Shared}{l b:Addr}{xs ys zs:List V}
theorem Inv.lset{its its':List Value}{n:Nat}{f:Array Value->Array Value}{t':Nat}(I:Inv X aA σ H s)(hH:H l=some (.lst xs))(e:s.heap.get? l=some { cls:=.type "list", data:=.seq its.toArray n })(hf:f its.toArray=its'.toArray)(hv:aM ys its')(hz:ys.length<=sizeLine):Inv X aA σ (upd H l (.lst ys)) { s with heap:=s.heap.update l (Obj.mapSeq f),toks:=t' }:=by
 have q:=PySem.IsL.update e f;rw[hf] at q;refine I.write (x:=l) (e:=l) (by rw[hH];exact trivial) (.inl rfl) (λb' u hb hu=>(Heap.get?_update_other s.heap (Obj.mapSeq f) (Ne.symm hb)).trans hu) ⟨_,q⟩ ?_
 exact ⟨hz,its',_,hv,q⟩
theorem Inv.lstM(I:Inv X aA σ H s)(hH:H l=some (.lst xs)):xs.length<=sizeLine/\∃ (its:List Value) (n:Nat),aM xs its/\xs.length=its.length/\s.heap.get? l=some { cls:=.type "list", data:=.seq its.toArray n }:=by obtain ⟨z,its,n,r,e⟩:=I.hok l _ hH;exact ⟨z,its,n,r,r.length,e⟩
end
section
variable {X:Cx}
def aCG:V->List V->Hp->VK->Prop:=λx vs H Q=>∃ l xs y,x=.ref l/\vs=[y]/\H l=some (.lst xs)/\xs.length<sizeLine/\Q .non (upd H l (.lst (xs++[y])))
theorem aCH:MtM X "list.append" aCG:=by
 intro aA s σ H x vs v us Q I rx rv h;obtain ⟨l,xs,y,rfl,rfl,hH,hz,q⟩:=h;cases rx;obtain ⟨u,rfl,ru⟩:=rv.one;obtain ⟨z,its,n,r,hl,e⟩:=I.lstM hH;refine call_meets F.slot_list_append ⟨_,e,rfl⟩ F.entry_list_append (F.args_list_append_2 _ _) (PySem.list_append l its.toArray n u (by rw[aRU];omega)) ⟨e,?_⟩
 refine ⟨.non,_,I.lset (its':=its++[u]) hH e (by simp) (r.append (.cons ru .nil)) ?_,rfl,q⟩
 rw[aSH,List.length_singleton];omega
end
section
variable {prog:Program}{w:World}{A:Around}{E:VSP}{s:Shared}
end
section
variable {X:Cx}
end
section
variable {κ:Type}[DecidableEq κ]
def dG(kvs:List (κ×V))(k:κ):Option V:=(kvs.find? λkv=>decide (kv.1=k)).map (·.2)
def cF(kvs:List (κ×V))(k:κ)(v:V):List (κ×V) :=
 if (kvs.any λkv=>decide (kv.1=k))=true then kvs.map (λkv=>if kv.1=k then (kv.1,v) else kv) else kvs++[(k,v)]
theorem lH{p:κ×V}{r:List (κ×V)}{k:κ}(e:p.1=k):dG (p::r) k=some p.2:=by simp[dG,aSX,e]
theorem lI{p:κ×V}{r:List (κ×V)}{k:κ}(e:¬ p.1=k):dG (p::r) k=dG r k:=by simp[dG,aSX,e]
theorem sV(k:κ):∀ kvs:List (κ×V),(kvs.any λkv=>decide (kv.1=k))=(dG kvs k).isSome
 | []=>rfl
 | p::r=>by
  rw[aSV];by_cases e:p.1=k
  . simp only[lH e,aSY e,Bool.true_or,Option.isSome_some]
  . rw[lI e,aQW e,Bool.false_or];exact sV k r
theorem nT(kvs:List (κ×V))(k:κ)(v:V):(cF kvs k v).length<=kvs.length+1:=by
 unfold cF;split
 . rw[aR2];omega
 . rw[aSH,aRZ,aSZ];omega
theorem cN.isSome_eq{o:Option V}{u:Option Value}(r:cN o u):o.isSome=u.isSome:=by
 cases o with
 | none=>cases u with
  | none=>rfl
  | some _=>exact (show False from r).elim
 | some _=>cases u with
  | none=>exact (show False from r).elim
  | some _=>rfl
theorem cN.getD{o:Option V}{u:Option Value}{d:V}{d':Value}(r:cN o u)(rd:aJ d d'):aJ (o.getD d) (u.getD d'):=by
 cases o with
 | none=>cases u with
  | none=>exact rd
  | some _=>exact (show False from r).elim
 | some _=>cases u with
  | none=>exact (show False from r).elim
  | some _=>exact r
theorem KV.val{kvs:List (κ×V)}{vs:List (κ×Value)}(r:KV kvs vs)(k:κ):cN (dG kvs k) (valueAt vs k):=by
 unfold KV at r
 induction r with
 | nil=>exact True.intro
 | @cons p q ps qs h t ih =>
  obtain ⟨h1,h2⟩:=h;by_cases e:p.1=k
  . have e':q.1=k:=h1.symm.trans e;have b:valueAt (q::qs) k=some q.2:=by simp[valueAt,aSX,e']
    rw[lH e,b];exact h2
  . have e':¬ q.1=k:=λz=>e (h1.trans z);have b:valueAt (q::qs) k=valueAt qs k:=by simp[valueAt,aSX,e']
    rw[lI e,b];exact ih
theorem KV.any{kvs:List (κ×V)}{vs:List (κ×Value)}(r:KV kvs vs)(k:κ):(kvs.any λkv=>decide (kv.1=k))=vs.any λkv=>decide (kv.1=k):=by
 unfold KV at r
 induction r with
 | nil=>rfl
 | cons h t ih=>rw[aSV,aSV,ih,h.1]
theorem KV.repl{kvs:List (κ×V)}{vs:List (κ×Value)}(r:KV kvs vs)(k:κ){y:V}{u:Value}(ry:aJ y u):KV (kvs.map λkv=>if kv.1=k then (kv.1,y) else kv) (vs.map λkv=>if kv.1=k then (kv.1,u) else kv):=by
 unfold KV at r ⊢
 induction r with
 | nil=>exact .nil
 | @cons p q ps qs h t ih =>
  rw[aR1,aR1];refine .cons ?_ ih;obtain ⟨h1,h2⟩:=h;by_cases e:p.1=k
  . rw[if_pos e,if_pos (h1.symm.trans e)];exact ⟨h1,ry⟩
  . rw[if_neg e,if_neg (λz=>e (h1.trans z))];exact ⟨h1,h2⟩
theorem KV.put{kvs:List (κ×V)}{vs:List (κ×Value)}(r:KV kvs vs)(k:κ){y:V}{u:Value}(ry:aJ y u):KV (cF kvs k y) (stored vs k u):=by
 unfold cF stored;rw[r.any k];by_cases e:(vs.any λkv=>decide (kv.1=k))=true
 . rw[if_pos e,if_pos e];exact r.repl k ry
 . rw[if_neg e,if_neg e];exact Paired.snoc r ⟨rfl,ry⟩
theorem KV.length{kvs:List (κ×V)}{vs:List (κ×Value)}(r:KV kvs vs):kvs.length=vs.length:=aQY r
end
theorem lJ{P:Program}{w:World}{k:Key}{u:Value}(r:aJ (kV k) u):(bV P w).is k u=true:=by
 cases k with
 | inl i=>obtain ⟨t,e⟩:=(show ∃ t,u=Value.int i t from r);subst e;exact zC P w i t
 | inr x=>obtain ⟨t,e⟩:=(show ∃ t,u=Value.str x t from r);subst e;exact zD P w x t
theorem sW{P:Program}{w:World}:∀ {ks:List Key} {us:List Value},aM (ks.map kV) us->ItemsAre (bV P w) ks us
 | [],_,r=>by rw[aS0] at r;cases r;exact .nil
 | k::ks,_,r=>by
  rw[aR1] at r;cases r with
  | cons h t=>exact .cons (lJ h) (sW t)
abbrev KT(H:Hp):List (List Key×V)->List (List Key×Addr×Value)->Prop:=Paired λp q=>p.1=q.1/\H q.2.1=some (.tup (p.1.map kV))/\aJ p.2 q.2.2
theorem KT.val{H:Hp}{kvs:List (List Key×V)}{xs:List (List Key×Addr×Value)}(r:KT H kvs xs)(k:List Key):cN (dG kvs k) ((atKey xs k).map (·.2)):=by
 induction r with
 | nil=>exact True.intro
 | @cons p q ps qs h t ih =>
  obtain ⟨h1,_,h2⟩:=h;by_cases e:p.1=k
  . have e':q.1=k:=h1.symm.trans e;have b:atKey (q::qs) k=some q.2:=by simp[atKey,aSX,e']
    rw[lH e,b];exact h2
  . have e':¬ q.1=k:=λz=>e (h1.trans z);have b:atKey (q::qs) k=atKey qs k:=by simp[atKey,aSX,e']
    rw[lI e,b];exact ih
theorem KT.repl{H:Hp}{kvs:List (List Key×V)}{xs:List (List Key×Addr×Value)}(r:KT H kvs xs)(k:List Key){y:V}{u:Value}(ry:aJ y u):KT H (kvs.map λkv=>if kv.1=k then (kv.1,y) else kv) (xs.map (putAt k u)):=by
 induction r with
 | nil=>exact .nil
 | @cons p q ps qs h t ih =>
  rw[aR1,aR1];refine .cons ?_ ih;obtain ⟨h1,h2,h3⟩:=h;unfold putAt;by_cases e:p.1=k
  . rw[if_pos e,if_pos (h1.symm.trans e)];exact ⟨h1,h2,ry⟩
  . rw[if_neg e,if_neg (λz=>e (h1.trans z))];exact ⟨h1,h2,h3⟩
theorem KT.put{H:Hp}{kvs:List (List Key×V)}{xs:List (List Key×Addr×Value)}(r:KT H kvs xs)(k:List Key){b:Addr}{y:V}{u:Value}(hb:H b=some (.tup (k.map kV)))(ry:aJ y u):KT H (cF kvs k y) (storedH xs k b u):=by
 have e:(kvs.any λkv=>decide (kv.1=k))=(atKey xs k).isSome:=by rw[sV,(r.val k).isSome_eq,Option.isSome_map]
 unfold cF storedH;rw[e];by_cases q:(atKey xs k).isSome=true
 . rw[if_pos q,if_pos q];exact r.repl k ry
 . rw[if_neg q,if_neg q];exact Paired.snoc r ⟨rfl,hb,ry⟩
theorem KT.keeps{H H':Hp}{kvs:List (List Key×V)}{xs:List (List Key×Addr×Value)}(r:KT H kvs xs)(ht:∀ b ys,H b=some (.tup ys)->H' b=some (.tup ys)):KT H' kvs xs :=
 Paired.mapP r λ_ _ z=>⟨z.1,ht _ _ z.2.1,z.2.2⟩
section
variable {P:Program}{w:World}{H:Hp}{h:Heap}{a:Addr}
theorem sX{u:HO}(ok:HOk P w H h)(e:Rd H a u):bL P w H h a u:=e.ok ok
theorem lK{kvs:List (Key×V)}(ok:HOk P w H h)(e:Rd H a (.dK kvs)):kvs.length<=sizeLine/\(a==sysModules)=false/\∃ vs,KV kvs vs/\h.DictOf (bV P w) a vs :=
 show bL P w H h a (.dK kvs) from sX ok e
theorem sY{kvs:List (Key×V)}(ok:HOk P w H h)(e:H a=some (.dK kvs)):kvs.length<=sizeLine/\(a==sysModules)=false/\∃ vs,KV kvs vs/\h.DictOf (bV P w) a vs:=lK ok (.inl e)
theorem nU{ks:List Key}(ok:HOk P w H h)(e:H a=some (.tup (ks.map kV))):(tupleKind (bV P w)).is h ks a:=by
 obtain ⟨_,its,r,o,h1,h2,_,n,h3⟩:=(show bL P w H h a (.tup (ks.map kV)) from ok a _ e)
 exact ⟨o,its.toArray,n,h1,h2,h3,by simpa using sW r⟩
theorem nV{kvs:List (List Key×V)}(ok:HOk P w H h)(e:Rd H a (.dT kvs)):kvs.length<=sizeLine/\(a==sysModules)=false/\∃ xs,KT H kvs xs/\h.DictOfH (tupleKind (bV P w)) a xs:=by
 obtain ⟨z,y,xs,r,o,es,ep,h1,h2,h3,h4,h5⟩:=(show bL P w H h a (.dT kvs) from sX ok e)
 refine ⟨z,y,xs,r,o,es,ep,h1,h2,h3,h4,λx hx=>?_,h5⟩;have all:∀ {l:List (List Key×V)} {m:List (List Key×Addr×Value)},KT H l m->∀ x∈m,(tupleKind (bV P w)).is h x.1 x.2.1:=by
  intro l m q
  induction q with
  | nil=>intro x hx;exact nomatch hx
  | @cons p q ps qs hq t ih =>
   intro x hx;rcases aRA.mp hx with e | hx
   . subst e;exact nU ok (by rw[<- hq.1];exact hq.2.1)
   . exact ih x hx
 exact all r x hx
theorem dt_of{kvs:List (List Key×V)}(ok:HOk P w H h)(e:H a=some (.dT kvs)):kvs.length<=sizeLine/\(a==sysModules)=false/\∃ xs,KT H kvs xs/\h.DictOfH (tupleKind (bV P w)) a xs:=nV ok (.inl e)
end
def nW(H:Hp)(a:Addr)(y:V)(r:Option V):Prop :=
 (∃ kvs k,Rd H a (.dK kvs)/\y=kV k/\r=dG kvs k)\/∃ kvs k b,Rd H a (.dT kvs)/\y=.ref b/\H b=some (.tup (k.map kV))/\r=dG kvs k
def DPut(H:Hp)(a:Addr)(y v:V)(H':Hp):Prop :=
 (∃ kvs k,H a=some (.dK kvs)/\y=kV k/\kvs.length<sizeLine/\H'=upd H a (.dK (cF kvs k v))) \/
 ∃ kvs k b,H a=some (.dT kvs)/\y=.ref b/\H b=some (.tup (k.map kV))/\kvs.length<sizeLine/\H'=upd H a (.dT (cF kvs k v))
section
variable {X:Cx}{aA:LAO}{σ:St}{H:Hp}{s:Shared}{a:Addr}{y v:V}{u r:Value}{o:Option V}{A:Around}{E:VSP}
theorem Inv.big(I:Inv X aA σ H s):sysModules<s.heap.objs.size:=by have h:mainGlobals<s.heap.objs.size:=(I.mod.glob.keeps I.bk).lt;exact Nat.lt_trans (by decide) h
theorem nX{h':Heap}{t':Nat}{ob:HO}(I:Inv X aA σ H s)(mu:Mut (H a))(hs:Heap.SameBut a s.heap h')(he:∃ q,h'.get? a=some q)(new:bL X.prog X.w (upd H a ob) h' a ob):Inv X aA σ (upd H a ob) { s with heap:=h',toks:=t' } :=
 I.write (x:=a) (e:=a) mu (.inl rfl) (λb q hb z=>(hs.2 b hb).trans z) he new
theorem nY{P:Program}{w:World}{H':Hp}{h':Heap}{kvs:List (Key×V)}{vs:List (Key×Value)}(z:kvs.length<=sizeLine)(hd:(a==sysModules)=false)(rel:KV kvs vs)(dd:h'.DictOf (bV P w) a vs):bL P w H' h' a (.dK kvs):=⟨z,hd,vs,rel,dd⟩
theorem aCI{H':Hp}{Q:Unit->Shared->Prop}(hu:A.units+1<cLine)(I:Inv X aA σ H s)(g:DPut H a y v H')(ry:aJ y u)(rv:aJ v r)(h:∀ s',Inv X aA σ H' s'->Q () s'):wpAny (model X.prog X.w) A (setItem (.ref a) u r) Q E s:=by
 rcases g with ⟨kvs,k,e,ey,l,eH⟩ | ⟨kvs,k,b,e,ey,eb,l,eH⟩
 . subst ey eH;obtain ⟨z,hd,vs,rel,dd⟩:=sY I.hok e;have hz:vs.length<=sizeLine:=by rw[<- rel.length];exact z
   have hl:(cF kvs k v).length<=sizeLine:=by have:=nT kvs k v;omega
   refine wpAny_setItem_pairs (hsz:=hz) (lJ ry) dd λh' dd' hs=>h _ ?_;have he:∃ q,h'.get? a=some q:=let ⟨q,_,_,hq,_⟩:=dd';⟨q,hq⟩
   exact nX I (by rw[e];exact True.intro) hs he (nY hl hd (rel.put k rv) dd')
 . subst ey eH;cases (show u=Value.ref b from ry)
   obtain ⟨z,hd,xs,rel,dd⟩:=dt_of I.hok e;have hz:xs.length<=sizeLine:=by rw[<- aQY rel];exact z
   have hl:(cF kvs k v).length<=sizeLine:=by have:=nT kvs k v;omega
   refine wpAny_setItem_heap (hsz:=hz) (tupleKind_room_in1 hu) (nU I.hok eb) dd λh' dd' hs=>h _ ?_;obtain ⟨q,es,ep,hq,h2,h3,h4,_,h5⟩:=dd';refine nX I (by rw[e];exact True.intro) hs ⟨q,hq⟩ ⟨hl,hd,_,(rel.put k eb rv).keeps λc ys ec=>?_,q,es,ep,hq,h2,h3,h4,h5⟩
   rw[aR (ne_of ec e (λz=>nomatch z))];exact ec
end
section
variable {X:Cx}{aA:LAO}{σ:St}{H:Hp}{s:Shared}{a:Addr}{kvs:List (Key×V)}{k:Key}{u:Value}{A:Around}{E:VSP}
end
def sZ(td ty tv:TE):TS:=λD σ H=>tv σ H λv H1=>td σ H1 λx H2=>ty σ H2 λy H3=>∃ a H4,x=.ref a/\DPut H3 a y v H4/\D.nx σ H4
section
variable {X:Cx}{o i e value:Expr}{pos pos' tpos:Pos}{td ty tv:TE}
theorem aCJ(hu:X.A.units+1<cLine)(ho:PE X o td)(hi:PE X i ty)(hv:PE X value tv)(hs:swapsWith value (some (.Subscript o i pos')) pos.line X.env=pure false):PS X (.Assign [.Subscript o i pos'] value pos) (sZ td ty tv):=by intro aA s σ H D I h;refine wpAny_Assign_Subscript (thn (hv aA s σ H _ I h) λr s1 ⟨v,H1,I1,rv,q1⟩=>thn (ho aA s1 σ H1 _ I1 q1) λu s2 ⟨x,H2,I2,rx,q2⟩=>thn (hi aA s2 σ H2 _ I2 q2) λiv s3 ⟨y,H3,I3,ry,a,H4,ex,g,q3⟩=>?_) hs;subst ex;obtain rfl:u=Value.ref a:=rx;exact aCI hu I3 g ry rv λs4 I4=>⟨σ,H4,I4,q3⟩
end
theorem aCK{P:Program}{w:World}{H:Hp}(h:Heap)(hb:sysModules<h.objs.size):bL P w H (h.push { cls:=.type "dict", data:=.dict #[] }) h.objs.size (.dK []) :=
 ⟨aR5 _,aQX.mpr (Ne.symm (aQ4 hb)),[],.nil,Heap.DictOf.new h⟩
section
variable {X:Cx}{pos:Pos}
end
def lL:List (TE×TE)->St->Hp->(List (V×V)->Hp->Prop)->Prop
 | [],_,H,Q=>Q [] H
 | (tk,tv)::r,σ,H,Q=>tk σ H λx H1=>tv σ H1 λy H2=>lL r σ H2 λps H3=>Q ((x,y)::ps) H3
abbrev VV:List (V×V)->List (Value×Value)->Prop:=Paired λp q=>aJ p.1 q.1/\aJ p.2 q.2
def PPs(X:Cx)(pos:Pos)(keys:List (Option Expr))(values:List Expr)(trs:List (TE×TE)):Prop :=
 ∀ (aA:LAO) (s:Shared) (σ:St) (H:Hp) (Q:List (V×V)->Hp->Prop),Inv X aA σ H s->lL trs σ H Q ->
  wpAny (model X.prog X.w) X.A (evalPairs (pairTrees keys values X.env pos)) (λvs s'=>∃ ps H',Inv X aA σ H' s'/\VV ps vs/\Q ps H') X.xe s
theorem aCL{X:Cx}{pos:Pos}:PPs X pos [] [] []:=λaA s σ H Q I h=>pairTrees_nil_walk ⟨[],H,I,.nil,h⟩
theorem aCM{X:Cx}{pos:Pos}{k v:Expr}{ks:List (Option Expr)}{vs:List Expr}{tk tv:TE}{trs:List (TE×TE)}(hk:PE X k tk)(hv:PE X v tv)(hr:PPs X pos ks vs trs):PPs X pos (some k::ks) (v::vs) ((tk,tv)::trs):=λaA s σ H Q I h =>
 pairTrees_cons_walk (thn (hk aA s σ H _ I h) λu s1 ⟨x,H1,I1,rx,q1⟩=>thn (hv aA s1 σ H1 _ I1 q1) λw2 s2 ⟨y,H2,I2,ry,q2⟩ =>
  thn (hr aA s2 σ H2 _ I2 q2) λws s3 ⟨ps,H3,I3,rel,q3⟩=>⟨(x,y)::ps,H3,I3,.cons ⟨rx,ry⟩ rel,q3⟩)
def fM(kvs more:List (Key×V)):List (Key×V):=more.foldl (λacc kv=>cF acc kv.1 kv.2) kvs
theorem KV.merge:∀ {more:List (Key×V)} {rs:List (Key×Value)} {kvs:List (Key×V)} {vs:List (Key×Value)},KV more rs->KV kvs vs->KV (fM kvs more) (merged vs rs):=by
 intro more rs kvs vs r;unfold KV at r
 induction r generalizing kvs vs with
 | nil=>intro q;exact q
 | @cons p q ps qs h t ih =>
  intro r0;have e:KV (cF kvs p.1 p.2) (stored vs q.1 q.2):=by have:=r0.put p.1 h.2;rw[<- h.1];exact this
  exact ih e
theorem tB:∀ (more kvs:List (Key×V)),(fM kvs more).length<=kvs.length+more.length
 | [],kvs=>by show kvs.length<=kvs.length+0;omega
 | p::r,kvs=>by have h1:=tB r (cF kvs p.1 p.2);have h2:=nT kvs p.1 p.2;show (fM (cF kvs p.1 p.2) r).length<=_;rw[aRZ];omega
theorem tD{P:Program}{w:World}:∀ {kvs:List (Key×V)} {ws:List (Value×Value)},VV (kvs.map λkv=>(kV kv.1,kv.2)) ws->∃ rs,Carries (bV P w) ws rs/\KV kvs rs
 | [],_,r=>by rw[aS0] at r;cases r;exact ⟨[],True.intro,.nil⟩
 | p::kvs,_,r=>by
  rw[aR1] at r;cases r with
  | @cons a b as bs h t=>obtain ⟨rs,c,q⟩:=tD (P:=P) (w:=w) t;obtain ⟨b1,b2⟩:=b;exact ⟨(p.1,b2)::rs,⟨lJ h.1,rfl,c⟩,.cons ⟨rfl,h.2⟩ q⟩
def tDisp(trs:List (TE×TE)):TE:=λσ H Q=>∀ p,H p=none->lL trs σ (upd H p (.dK [])) λps H2=>H2 p=some (.dK [])/\∃ kvs:List (Key×V),ps=kvs.map (λkv=>(kV kv.1,kv.2))/\kvs.length<=15/\Q (.ref p) (upd H2 p (.dK (fM [] kvs)))
theorem aCN{X:Cx}{pos:Pos}{keys:List (Option Expr)}{values:List Expr}{trs:List (TE×TE)}(h:PPs X pos keys values trs)(hall:keys.all (·.isSome)=true)(hl:keys.length=values.length)(h0:keys≠[])(h15:keys.length<=15):PE X (.Dict keys values pos) (tDisp trs):=by
 intro aA s σ H Q I q;have hn:=I.hok.fresh (aRN s.heap.objs.size);have I1:=I.laid (a:=s.heap.objs.size) (o:=.dK []) (h':=s.heap.push { cls:=.type "dict", data:=.dict #[] }) (t':=s.toks) (λ_ _ q=>hps q) (aRN _) (aCK s.heap I.big);refine wpAny_Dict_walk (knd:=bV X.prog X.w) hall hl h0 h15 (thn (h aA _ σ _ _ I1 (q _ hn)) λws s2 ⟨ps,H2,I2,rel,e,kvs,ep,lk,q2⟩=>?_);subst ep;obtain ⟨rs,c,rk⟩:=tD (P:=X.prog) (w:=X.w) rel;obtain ⟨z,hd,vs0,r0,dd⟩:=sY I2.hok e;cases r0;refine ⟨rs,c,dd,λh' dd' hs=>⟨.ref s.heap.objs.size,_,?_,rfl,q2⟩⟩;have hz:(fM [] kvs).length<=sizeLine:=by have h1:=tB kvs [];rw[aSZ] at h1;rw[aRT];omega
 have he:∃ q,h'.get? s.heap.objs.size=some q:=let ⟨q,_,_,hq,_⟩:=dd';⟨q,hq⟩
 exact nX I2 (by rw[e];exact True.intro) hs he (nY hz hd (rk.merge .nil) dd')
structure M1(X:Cx)(o:Expr)(m:Str)(apos:Pos)(e:Expr)(cpos:Pos):Prop where
 base:attributeBase o m X.env (eval o X.env)=eval o X.env
 few:((backTo cpos (starEach [e] X.env)).all (λx=>!x.1)&&(backToKw cpos (keywordEach [] X.env)).all (λx=>x.1.isSome)
  && decide (([e]:List Expr).length+([]:List Keyword).length+(if ([]:List Keyword).isEmpty then 0 else 1)<30))=true
 line:(apos.endLine==cpos.line)=true
 trees:backTo cpos (starEach [e] X.env)=[(false,eval e X.env)]
structure M2(X:Cx)(o:Expr)(m:Str)(apos:Pos)(e f:Expr)(cpos:Pos):Prop where
 base:attributeBase o m X.env (eval o X.env)=eval o X.env
 few:((backTo cpos (starEach [e,f] X.env)).all (λx=>!x.1)&&(backToKw cpos (keywordEach [] X.env)).all (λx=>x.1.isSome)
  && decide (([e,f]:List Expr).length+([]:List Keyword).length+(if ([]:List Keyword).isEmpty then 0 else 1)<30))=true
 line:(apos.endLine==cpos.line)=true
 trees:backTo cpos (starEach [e,f] X.env)=[(false,eval e X.env),(false,eval f X.env)]
def IsD(H:Hp)(a:Addr):Prop:=(∃ kvs,Rd H a (.dK kvs))\/∃ kvs,Rd H a (.dT kvs)
theorem aCO{X:Cx}{aA:LAO}{σ:St}{H:Hp}{s:Shared}{a:Addr}(I:Inv X aA σ H s)(d:IsD H a):s.TypeIs (.ref a) "dict" /\ (∀ b,Value.ref a=.ref b->∃ ob,s.heap.get? b=some ob/\ob.dict=none)/\(a==sysModules)=false:=by
 rcases d with ⟨kvs,e⟩ | ⟨kvs,e⟩
 . obtain ⟨_,hd,vs,_,dd⟩:=lK I.hok e;refine ⟨dd.typeIs,λb q=>?_,hd⟩;cases q;obtain ⟨ob,_,_,h1,h2,_⟩:=dd;exact ⟨ob,h1,h2.2.1⟩
 . obtain ⟨_,hd,xs,_,dd⟩:=nV I.hok e;refine ⟨dd.typeIs,λb q=>?_,hd⟩;cases q;obtain ⟨ob,_,_,h1,h2,_⟩:=dd;exact ⟨ob,h1,h2.2.1⟩
section
variable {X:Cx}{aA:LAO}{σ:St}{H:Hp}{s:Shared}{a:Addr}{y d:V}{u r:Value}{o:Option V}{A:Around}{E:VSP}
theorem aCP{Q:VSP}(hu:A.units+1<cLine)(I:Inv X aA σ H s)(g:nW H a y o)(ry:aJ y u)(rd:aJ d r)(h:∀ w' s',Inv X aA σ H s'->aJ (o.getD d) w'->Q w' s'):wpAny (model X.prog X.w) A (call (.builtin "dict.get") [.ref a,u,r]) Q E s:=by
 rcases g with ⟨kvs,k,e,ey,l⟩ | ⟨kvs,k,b,e,ey,eb,l⟩
 . subst ey;obtain ⟨z,hd,vs,rel,dd⟩:=lK I.hok e;refine call_meetsIn aS1 dd.typeIs PySem.F.entry_dict_get (PySem.F.args_dict_get_3 _ _ _) (meets_dict_get_default (bV X.prog X.w) a (lJ ry) hd r) ⟨_,dd.mapOf,h _ _ (I.tok _) ?_⟩;rw[l];exact (rel.val k).getD rd
 . subst ey;cases (show u=Value.ref b from ry)
   obtain ⟨z,hd,xs,rel,dd⟩:=nV I.hok e;refine call_meetsIn aS1 dd.typeIs PySem.F.entry_dict_get (PySem.F.args_dict_get_3 _ _ _) (meetsH_dict_get_default (tupleKind (bV X.prog X.w)) a b hd r) ⟨tupleKind_room_in1 hu,k,xs,nU I.hok eb,dd,h _ _ (I.tok _) ?_⟩;rw[l];exact (rel.val k).getD rd
end
def tE(td ty tx:TE):TE:=λσ H Q=>td σ H λx H1=>∃ a,x=.ref a/\IsD H1 a/\ty σ H1 λy H2=>tx σ H2 λz H3=>∃ o,nW H3 a y o/\Q (o.getD z) H3
section
variable {X:Cx}{o e f:Expr}{apos cpos:Pos}{td ty tx:TE}
theorem aCQ(hu:X.A.units+1<cLine)(ho:PE X o td)(he:PE X e ty)(hf:PE X f tx)(m:M2 X o "get" apos e f cpos):PE X (.Call (.Attribute o "get" apos) [e,f] [] cpos) (tE td ty tx):=by
 intro aA s σ H Q I h;refine wpAny_Call_method m.base m.few m.line PySem.F.plainAttrs_dict aS1 PySem.F.type_dict_get (thn (ho aA s σ H _ I h) λu s1 ⟨x,H1,I1,rx,a,ex,d,q1⟩=>?_);subst ex;obtain rfl:u=Value.ref a:=rx;obtain ⟨t1,t2,_⟩:=aCO I1 d;refine ⟨t1,t2,?_⟩;rw[m.trees];refine Calls.callWith_builtin rfl (aSW (aR6 (thn (he aA s1 σ H1 _ I1 q1) λiv s2 ⟨y,H2,I2,ry,q2⟩ =>
  aR6 (thn (hf aA s2 σ H2 _ I2 q2) λfv s3 ⟨z,H3,I3,rz,ov,g,q3⟩=>Calls.spliced_nil ?_))))
 exact aCP hu I3 g ry rz λw' s4 I4 rw'=>⟨_,H3,I4,rw',q3⟩
end
section
variable {X:Cx}{aA:LAO}{σ:St}{H:Hp}{s:Shared}{a:Addr}{kvs:List (Key×V)}{A:Around}{E:VSP}
theorem aCR{Q:VSP}(I:Inv X aA σ H s)(e:Rd H a (.dK kvs))(h:∀ p s',H p=none->Inv X aA σ (upd H p (.dK kvs)) s'->Q (.ref p) s'):wpAny (model X.prog X.w) A (call (.type "dict") [.ref a]) Q E s:=by
 obtain ⟨z,hd,vs,rel,dd⟩:=lK I.hok e;refine kt_call_dict hd dd (by rw[<- rel.length];exact z) λh' dd' hs=>?_
 refine h _ _ (I.hok.fresh (aRN _)) (I.laid (a:=s.heap.objs.size) (o:=.dK kvs) (t':=s.toks) (λb q hq=>?_) (aRN _) (nY z (aQX.mpr (Ne.symm (aQ4 I.big))) rel dd'));exact (hs.2 b (aQ4 (aQ1 hq))).trans (hps hq)
end
section
variable {X:Cx}{aA:LAO}{σ:St}{H:Hp}{s:Shared}{a:Addr}{y:V}{u:Value}{A:Around}{E:VSP}
end
end L2
namespace Att
open PySem PySem.W PySem.Calls PyProof.Rows
theorem aCS{P:Params}{h:Heap}:∀ (ns:List Int) (vs:List Value),WellAll P h vs (ns.map WData.int)->IntsAre vs ns:=by
 intro ns
 induction ns with
 | nil=>intro vs w;rw[aS0] at w;cases w;exact .nil
 | cons n ns ih =>
  intro vs w;rw[aR1] at w;cases w with
  | cons a b=>cases a;exact .cons _ _ (ih _ b)
theorem aCT{l:OpenLaw}{n:Nat}(hn:l.most=some n){P:Params}{h:Heap}{args:List WData}{vals:List Value}(hpre:l.row.toRowW.claim.pre args=true)(hwl:WellAll P h vals args):∃ a vs ns,vals=[Value.ref a]/\args=[WData.list (ns.map WData.int)]/\h.get? a=some { cls:=.type "list", data:=.seq vs.toArray }/\IntsAre vs ns/\ns.length<=n:=by
 have hsh:WShape.hasAll [] args [.list .int]=true:=(pre_splitW hpre).1;have hc:l.pre.holds [] { args:=args }=true:=(pre_splitW hpre).2;obtain ⟨d,r,rfl,h1,h2⟩:=hasAllW_cons hsh;obtain rfl:=hasAllW_nil h2;obtain ⟨xs,rfl,h3⟩:=hasW_list h1;obtain ⟨ns,rfl⟩:=items_int h3;have hlen:ns.length<=n:=by
  unfold OpenLaw.pre at hc;have h4:(WTm.not (.lt (.lit (.int (n:Int))) (.len (.arg 0)))).holds [] { args:=[.list (ns.map .int)] }=true:=by have h4:=(holds_andW hc).1;rw[hn] at h4;exact h4
  have h5:=condW_of h4 (w_not (w_lt w_lit (w_len_list (w_arg rfl))));rw[aR2] at h5;refine Nat.le_of_not_lt λq=>?_;have q':(n:Int)<((ns.length:Nat):Int):=by omega
  first
   | (rw[aSY q'] at h5;exact absurd h5 (by decide))
   | (simp at h5;omega)
 cases hwl with
 | cons w1 w2 =>
  cases w2;cases w1 with
  | list ho hall=>exact ⟨_,_,ns,rfl,rfl,ho,aCS ns _ hall,hlen⟩
theorem aCU(l:OpenLaw)(args:List WData):l.row.toRowW.claim.post args (.bool true) args=true :=
 postW_of (r:=l.row.toRowW) (X:=(true==true))
  (show WShape.has [] (.bool true) .bool=true by first | rfl | decide | simp[WShape.has,WShape.arms,WShape.armsAll])
  (show (WTm.eq .res (.lit (.bool true))).value [] { args:=args,res:=some (.bool true),after:=args }=some (.bool (true==true)) from w_eq_bool (w_res rfl) w_lit) rfl
theorem aCV{l:OpenLaw}{n:Nat}{q:Program}{loose:List Str}{XP:(Str->Option Value)->Heap->Prop}{YP:World->Heap->Prop}{d:DefRec}(hn:l.most=some n)(hdf:d.params.defaults=[])(call:∀ (w:World) (s₀ s₁:Shared) (mg mb:SOV) (fa:Addr) (o:Obj) (pm cd doc:Value) (a:Addr) (vs:List Value) (ns:List Int),Ground q loose [] XP w s₀ mg mb s₁.heap->YP w s₁.heap->s₁.heap.get? fa=some o->o.data=.func (docDef d.name d.params d.body d.scope pm cd doc)->s₁.heap.CodeRec cd d.name->mg d.name=some (.ref fa)->s₁.heap.get? a=some { cls:=.type "list", data:=.seq vs.toArray } -> IntsAre vs ns->ns.length<=n->s₁.gens = #[]->codeAny (model l.prog w) callerA (.call (.ref fa) ⟨[.ref a],[]⟩) (λr s'=>r=.ok (.ret (.bool true))/\OldK s₁.heap s'.heap/\s'.os=s₁.os/\AllBare s'.gens) s₁):WalkO q loose XP YP l.row.toRowW d [] (λf vs=>PySem.call f vs):=by intro w s₀ s₁ mg mb G Y fa o pm cd doc dV kV ho hd hcd hD hmg hg args vals as hpre hlay hrd hwl hlo;obtain rfl:dV=.none:=Dflts.none hD hdf;obtain rfl:kV=.none:=Dflts.noKw hD;obtain ⟨a,vs,ns,rfl,rfl,hobj,hints,hlen⟩:=aCT hn hpre hwl;refine enter_call (aS2 (call w s₀ s₁ mg mb fa o pm cd doc a vs ns G Y ho (fd_plain hd) hcd hmg hobj hints hlen hg) λr s' hq=>?_);obtain ⟨rfl,h2,h3,h4⟩:=hq;exact ⟨.inl ⟨.bool true,.bool true,[],rfl,λ_=>rfl,.bool true,aCU l _,λ_=>⟨List.Pairwise.nil,λ_ hm=>(nomatch hm)⟩⟩,h2,h3,h4⟩
section
variable {prog:Program}{w:World}{A:Around}{E:VSP}{s:Shared}{K:Frag}
def ledger(h:Heap)(L d:Addr):LAO:=(List.range h.objs.size).filterMap λa=>if a=L\/a=d then none else (h.get? a).map λo=>(a,o)
end
end Att
namespace L2
open PySem PySem.Spec PyProof.Rows
theorem tF:∀ {vs:List Value} {ns:List Int},IntsAre vs ns->aM (ns.map V.int) vs
 | _,_,.nil=>.nil
 | _,_,.cons n t h=>.cons ⟨t,rfl⟩ (tF h)
def nZ(H:Hp):Prop:=∀ b,H b=none\/∃ o xs,H b=some (.frz o (.lst xs))
theorem aCW{P:Program}{w:World}{K:Fg}{mg mb:SOV}{CX:CXT}{k:Nat}{fa a:Addr}{fd:FuncData}{x:Str}{sp:Sp}{s₁:Shared}{vs:List Value}{ns:List Int}(KX:K.In s₁.heap)(hns:s₁.heap.Ns mainGlobals mg)(hb:s₁.heap.Ns builtinsNs mb)(hbb:∀ x:Str,x ≠ "__name__" -> mb x=bootBuiltins x)(hlim:s₁.heap.NoLimit)(hg:s₁.gens = #[])(ha:s₁.heap.get? a=some { cls:=.type "list", data:=.seq vs.toArray })(hi:IntsAre vs ns)(hl:ns.length<=sizeLine)(hr:bJ k callerA)(F:∀ base:Heap,K.In base->base.Ns mainGlobals mg->cD P w K mg base CX k fa fd [x] sp)(hbind:∀ (s:Shared) (u:Value),BindsTo s fd ⟨[u],[]⟩ [(x,u)])(hsp:∀ H:Hp,nZ H->SqL K H a (ns.map V.int)->sp [.ref a] H (λv _=>v=.bl true) λ_ _ _=>False)(hCX:∀ H e s',CX [] H s₁ (λ_ _ _=>False) e s'->False):codeAny (model P w) callerA (.call (.ref fa) ⟨[.ref a],[]⟩) (λr s'=>r=.ok (.ret (.bool true))/\OldK s₁.heap s'.heap/\s'.os=s₁.os/\AllBare s'.gens) s₁:=by
 have rv := tF hi; have lenV := hi.length; have core : ∀ H : Hp, nZ H → SqL K H a (ns.map V.int) → HOk P w H s₁.heap → (∀ b, H b ≠ none → b = a) → (H a ≠ none → K.lookup a = none) →
     codeAny (model P w) callerA (.call (.ref fa) ⟨[.ref a],[]⟩) (λr s'=>r=.ok (.ret (.bool true))/\OldK s₁.heap s'.heap/\s'.os=s₁.os/\AllBare s'.gens) s₁:=by
  intro H hO hS hok hA hK;have base_of:∀ {b:Addr} {o:Obj},s₁.heap.get? b=some o->H b=none->(e7 s₁.heap H).get? b=some o:=λe n=>zG e n;have noA:∀ {b:Addr} {o:Obj} {es:Array DictEntry} {ep:Nat},s₁.heap.get? b=some o->o.data=.dict es ep->H b=none:=λ{b o es ep} e d=>by
   cases q:H b with
   | none=>rfl
   | some u =>
    have e':b=a:=hA b (by rw[q];simp)
    subst e';rw[ha] at e;cases e;have d':Data.seq vs.toArray _=Data.dict es ep:=d;cases d'
  have nsK:∀ {b:Addr} {m:SOV},s₁.heap.Ns b m->(e7 s₁.heap H).Ns b m:=λ{b m} ⟨o,es,ep,e,d,r⟩=>⟨o,es,ep,base_of e (noA e d),d,r⟩;have hKb:K.In (e7 s₁.heap H):=λb o e=>base_of (KX b o e) (by
   cases q:H b with
   | none=>rfl
   | some u =>
    have e':b=a:=hA b (by rw[q];simp)
    subst e'
    rw[hK (by rw[q];simp)] at e;cases e)
  have hM:Mod K mg (e7 s₁.heap H):=⟨hKb,nsK hns,⟨mb,nsK hb,hbb⟩,let ⟨mc,h1,h2⟩:=hlim;⟨mc,nsK h1,h2⟩⟩
  have e0:gH P w K mg (e7 s₁.heap H) callerA [] s₁ H:=⟨rfl,hM,λb o e=>zH e,Nat.le_of_eq (zF _ _),trivial,λb hb=>absurd (show b∈([]:List Addr) from hb) (by simp),hok,.of_eq hg⟩
  refine aS2 ((F _ hKb (nsK hns)).run callerA [] s₁ H ⟨[.ref a],[]⟩ [.ref a] [.ref a] _ _ hr e0 (hbind s₁ (.ref a)) (.cons rfl .nil) (hsp H hO hS)) λr s' h=>?_;cases r with
  | error e=>exact (hCX H e s' h).elim
  | ok fl =>
   cases fl with
   | next=>exact False.elim h
   | brk=>exact False.elim h
   | cont=>exact False.elim h
   | ret u =>
    obtain ⟨v,H',os,bare,un,hok',r',q⟩:=h;have q':v=.bl true:=q;subst q';obtain rfl:u=Value.bool true:=r';refine ⟨rfl,OldK.of_keep λb o e=>?_,os,bare⟩;cases q:H b with
    | none=>exact un.keep b o e q (by intro z;exact absurd (show b∈([]:List Addr) from z) (by simp)) (by simp)
    | some u =>
     rcases hO b with z | ⟨ob,xs,z⟩
     . rw[q] at z;cases z
     . have z2:=un.frzs b ob _ z;obtain ⟨e1,_⟩:=hok b _ z;obtain ⟨e2,_⟩:=hok' b _ z2;rw[e] at e1;cases e1;exact e2
 cases hk:K.lookup a with
 | some o=>have e:=KX a o hk;rw[ha] at e;cases e;refine core (λ_=>none) (λ_=>.inl rfl) (.inr ⟨_,vs.toArray,_,hk,rfl,rfl,rfl,by rw[aRU,lenV];exact hl,by simpa using rv⟩) (λb u z=>by have z':(none:Option HO)=some u:=z;cases z') (λb z=>absurd rfl z) λz=>absurd rfl z
 | none =>
  refine core (λb=>if b=a then some (.frz { cls:=.type "list", data:=.seq vs.toArray } (.lst (ns.map V.int))) else none) (λb=>?_) (.inl (.inr ⟨{ cls:=.type "list", data:=.seq vs.toArray },if_pos rfl⟩)) (λb u z=>?_) (λb z=>?_) λ_=>hk
  . by_cases hb:b=a
    . exact .inr ⟨_,_,if_pos hb⟩
    . exact .inl (if_neg hb)
  . by_cases hb:b=a
    . have z':=(if_pos hb).symm.trans z;cases z';subst hb;exact ⟨ha,by rw[aR2];exact hl,vs,_,rv,ha⟩
    . have z':=(if_neg hb).symm.trans z;cases z'
  . by_cases hb:b=a
    . exact hb
    . exact absurd (if_neg hb) z
abbrev KOf{K:Fg}{h:Heap}(_:K.In h):Fg:=K
theorem aCX{l:PySem.W.OpenLaw}{n k:Nat}{q:Program}{loose:List Str}{XP:(Str->Option Value)->Heap->Prop}{YP:World->Heap->Prop}{d:DefRec}{K:Params->Fg}{CX:World->CXT}{sp:World->Sp}{x:Str}(hn:l.most=some n)(hn2:n<=sizeLine)(hdf:d.params.defaults=[])(hr:bJ k callerA)(hY:∀ (w:World) (h:Heap),YP w h->(K w.params).In h)(F:∀ (w:World) (mg:SOV) (fa:Addr) (h:Heap),(K w.params).In h->h.Ns mainGlobals mg->mg d.name=some (.ref fa)->∃ fd:FuncData,(∀ (s:Shared) (u:Value),BindsTo s fd ⟨[u],[]⟩ [(x,u)])/\∀ base:Heap,(K w.params).In base->base.Ns mainGlobals mg->cD l.prog w (K w.params) mg base (CX w) k fa fd [x] (sp w))(hsp:∀ (w:World) (H:Hp) (a:Addr) (ns:List Int),ns.length<=n->nZ H->SqL (K w.params) H a (ns.map V.int)->sp w [.ref a] H (λv _=>v=.bl true) λ_ _ _=>False)(hCX:∀ (w:World) (H:Hp) (s:Shared) (e:Value) (s':Shared),CX w [] H s (λ_ _ _=>False) e s'->False):PySem.W.WalkO q loose XP YP l.row.toRowW d [] (λf vs=>PySem.call f vs):=by refine Att.aCV hn hdf λw s₀ s₁ mg mb fa o pm cd doc a vs ns G Y ho hd hcd hmg hobj hints hlen hg=>?_;have KX:=hY w _ Y;obtain ⟨fd,hb,hF⟩:=F w mg fa _ KX G.T.g hmg;exact aCW KX G.T.g G.T.b G.T.builtins G.T.nolimit hg hobj hints (aQ8 hlen hn2) hr hF hb (λH hO hS=>hsp w H a ns hlen hO hS) λH e s'=>hCX w H s₁ e s'
def lM(s:Stmt):Arguments:=match s with
 | .FunctionDef _ a _ _ _ _ _ _ _ _=>a
 | _=>{ posonlyargs:=[],args:=[],vararg:=none,kwonlyargs:=[],kw_defaults:=[],kwarg:=none,defaults:=[] }
def gI(s:Stmt):List Stmt:=match s with
 | .FunctionDef _ _ b _ _ _ _ _ _ _=>b
 | _=>[]
def c7(s:Stmt):Scope:=match s with
 | .FunctionDef _ _ _ _ _ _ sc _ _ _=>sc
 | _=>{ kind:=.function,names:=[],isGenerator:=false,isCoroutine:=false }
abbrev E0:XK:=λ_ _ _=>False
structure Fun(K:Fg)(x aQ:Str)(st:Stmt)(f:Addr)(fd:FuncData):Prop where
 ex:∃ (oc:Value) (od:Option Addr) (kV doc pm:Value) (an:Option Addr) (cdv ct:Value) (osl:Array (Option Value)),
  fd=PySem.W.fnOf x aQ (lM st) (gI st) (c7 st) .none kV doc pm an cdv ct/\K.lookup f=some ⟨oc,od,.func fd,osl⟩/\PySem.W.codeIn K cdv aQ=true
 kp:PySem.W.keepIn K (.ref f)=true
section
variable {P:Program}{w:World}{K:Fg}{mg:SOV}{base:Heap}
theorem aCY{x aQ:Str}{st:Stmt}{f:Addr}{oc:Value}{od an:Option Addr}{osl:Array (Option Value)}{kV doc pm cdv ct:Value}(l:K.lookup f=some ⟨oc,od,.func (PySem.W.fnOf x aQ (lM st) (gI st) (c7 st) .none kV doc pm an cdv ct),osl⟩)(c:PySem.W.codeIn K cdv aQ=true)(k:PySem.W.keepIn K (.ref f)=true):Fun K x aQ st f (PySem.W.fnOf x aQ (lM st) (gI st) (c7 st) .none kV doc pm an cdv ct):=⟨⟨oc,od,kV,doc,pm,an,cdv,ct,osl,rfl,l,c⟩,k⟩
end
section
variable {X:Cx}
end
def aD(H H':Hp):Prop:=∀ b o,H b=some o->H' b=some o
theorem aD.refl(H:Hp):aD H H:=λ_ _ h=>h
theorem aD.trans{H H1 H2:Hp}(a:aD H H1)(b:aD H1 H2):aD H H2:=λc o h=>b c o (a c o h)
theorem aD.free{H H':Hp}(e:aD H H'){l:Addr}(h:H' l=Option.none):H l=Option.none:=by
 cases q:H l with
 | none=>rfl
 | some o=>rw[e l o q] at h;cases h
theorem aD.seq{K:Fg}{H H':Hp}{a:Addr}{xs:List V}(e:aD H H')(h:SqL K H a xs):SqL K H' a xs:=by
 rcases h with (h | ⟨o,h⟩) | h
 . exact .inl (.inl (e _ _ h))
 . exact .inl (.inr ⟨o,e _ _ h⟩)
 . exact .inr h
section
variable {κ:Type}[DecidableEq κ]
end
theorem N.ind{P:N->Prop}(hi:∀ n,P (.i n))(hs:∀ x,P (.s x))(ht:∀ xs,(∀ x∈xs,P x)->P (.t xs))(k:N):P k :=
 N.rec (motive_1:=P) (motive_2:=λxs=>∀ x∈xs,P x) hi hs ht (λ_ h=>nomatch h) (λa l h1 h2 x hx=>by
  rcases aRA.mp hx with rfl | hx
  . exact h1
  . exact h2 x hx) k
mutual
def N.eq:N->N->Bool
 | .i n,.i m=>n==m
 | .s x,.s y=>x==y
 | .t xs,.t ys=>N.eqL xs ys
 | _,_=>false
def N.eqL:List N->List N->Bool
 | [],[]=>true
 | x::xs,y::ys=>N.eq x y&&N.eqL xs ys
 | _,_=>false
end
mutual
def N.py:N->PyData
 | .i n=>.int n
 | .s x=>.str x
 | .t xs=>.tuple (N.pyL xs)
def N.pyL:List N->List PyData
 | []=>[]
 | x::xs=>N.py x::N.pyL xs
end
mutual
def N.dp:N->Nat
 | .i _=>0
 | .s _=>0
 | .t xs=>N.dpL xs+1
def N.dpL:List N->Nat
 | []=>0
 | x::xs=>max (N.dp x) (N.dpL xs)
end
mutual
def IsN(h:Heap):N->Value->Prop
 | .i n,v=>∃ t,v=.int n t
 | .s x,v=>(∃ t,v=.str x t)/\PyData.strOk x=true
 | .t xs,v=>∃ a o items n,v=.ref a/\h.get? a=some o/\o.cls=.type "tuple" /\ o.data=.seq items n/\IsNL h xs items.toList
def IsNL(h:Heap):List N->List Value->Prop
 | [],vs=>vs=[]
 | x::xs,vs=>∃ v us,vs=v::us/\IsN h x v/\IsNL h xs us
end
mutual
def N.dr:N->Nat
 | .i _=>1
 | .s _=>1
 | .t xs=>N.drL xs+1
def N.drL:List N->Nat
 | []=>0
 | x::xs=>N.dr x+N.drL xs
end
section
variable {prog:Program}{w:World}{A:Around}{E:VSP}{s:Shared}
end
end L2
namespace D3
open PySem PySem.Spec PyProof.Rows L2
inductive D where
 | non | bl (b:Bool) | int (i:Int) | str (x:Str) | tup (xs:List D) | lst (xs:List D) | dct (kvs:List (Key×D)) | ty (n:String) | ob (a:Addr) | ins (c:Str) (fs:List (Str×D)) | fn (x:Str) | exn (c:Str) | set (ks:List Key) | dtn (kvs:List (N×D)) | dtf (kvs:List (N×D))
inductive Md where | fz | fr | bo
 deriving DecidableEq
inductive Res where
 | ok (m:Md) (d:D) | exc (c:Str) | stuck
def xobj(a C:Addr):HO:=.ext λh=>∃ o,h.get? a=some o/\o.cls=.ref C
mutual
def NAt(K:Fg)(F:Hp):N->V->Prop
 | .i n,v=>v=.int n
 | .s x,v=>v=.str x/\x.length<=sizeLine/\PyData.strOk x=true
 | .t xs,v=>∃ a ys,v=.ref a/\SqT K F a ys/\gJ K F xs ys
def gJ(K:Fg)(F:Hp):List N->List V->Prop
 | [],ys=>ys=[]
 | x::xs,ys=>∃ y zs,ys=y::zs/\NAt K F x y/\gJ K F xs zs
end
def tI(S:Key->Bool)(ks:List Key):Prop:=ks.Nodup/\∀ k,S k=true↔k∈ks
mutual
def aB(K:Fg)(F:Hp):D->V->Prop
 | .non,v=>v=.non
 | .bl b,v=>v=.bl b
 | .int i,v=>v=.int i
 | .str x,v=>v=.str x/\x.length<=sizeLine/\PyData.strOk x=true
 | .tup ds,v=>∃ a xs,v=.ref a/\SqT K F a xs/\aC K F ds xs
 | .lst ds,v=>∃ a xs,v=.ref a/\SqL K F a xs/\aC K F ds xs
 | .dct kvs,v=>∃ a xs,v=.ref a/\F a=some (.dK xs)/\aF K F kvs xs
 | .ty n,v=>v=.ty n
 | .ob a,v=>v=.ref a
 | .ins c fs,v=>∃ a C dx gs,v=.ref a/\PySem.W.nsIn K mainGlobals c=some (some (.ref C))/\F a=some (.ins C dx gs)/\aY K F fs gs
 | .fn x,v=>∃ a,v=.ref a/\PySem.W.nsIn K mainGlobals x=some (some (.ref a))
 | .exn c,v=>∃ a C,v=.ref a/\PySem.W.nsIn K mainGlobals c=some (some (.ref C))/\F a=some (xobj a C)
 | .set ks,v=>∃ a S,v=.ref a/\F a=some (.set S ks.length)/\tI S ks
 | .dtn kvs,v=>∃ a xs,v=.ref a/\F a=some (.dN xs)/\dL K F kvs xs
 | .dtf kvs,v=>∃ a o xs,v=.ref a/\F a=some (.frz o (.dN xs))/\dL K F kvs xs
def dL(K:Fg)(F:Hp):List (N×D)->List (N×Addr×V)->Prop
 | [],xs=>xs=[]
 | (k,d)::ds,xs=>∃ b y ys,xs=(k,b,y)::ys/\(NAt K F k (.ref b)/\k.dp<=8)/\aB K F d y/\dL K F ds ys
def aC(K:Fg)(F:Hp):List D->List V->Prop
 | [],xs=>xs=[]
 | d::ds,xs=>∃ y ys,xs=y::ys/\aB K F d y/\aC K F ds ys
def aF(K:Fg)(F:Hp):List (Key×D)->List (Key×V)->Prop
 | [],xs=>xs=[]
 | (k,d)::ds,xs=>∃ y ys,xs=(k,y)::ys/\aB K F d y/\aF K F ds ys
def aY(K:Fg)(F:Hp):List (Str×D)->List (Str×V)->Prop
 | [],xs=>xs=[]
 | (k,d)::ds,xs=>∃ y ys,xs=(k,y)::ys/\aB K F d y/\aY K F ds ys
end
theorem aD.seqT{K:Fg}{H H':Hp}{a:Addr}{xs:List V}(e:aD H H')(h:SqT K H a xs):SqT K H' a xs:=by
 rcases h with (h | ⟨o,h⟩) | h
 . exact .inl (.inl (e _ _ h))
 . exact .inl (.inr ⟨o,e _ _ h⟩)
 . exact .inr h
section
variable {K:Fg}{F F':Hp}
theorem gJ.map:∀ {xs:List N} {ys:List V},gJ K F xs ys->(∀ x∈xs,∀ v,NAt K F x v->NAt K F' x v)->gJ K F' xs ys
 | [],_,h,_=>by simpa only [gJ] using h
 | x::xs,ys,h,k=>by simp only[gJ] at h ⊢;obtain ⟨y,zs,e,q,r⟩:=h;exact ⟨y,zs,e,k x mcs y q,r.map λz hz=>k z (mcm hz)⟩
theorem NAt.mono(s:aD F F')(k:N):∀ v,NAt K F k v->NAt K F' k v:=by
 induction k using N.ind with
 | hi n=>intro v h;simpa only [NAt] using h
 | hs x=>intro v h;simpa only [NAt] using h
 | ht xs ih=>intro v h;simp only[NAt] at h ⊢;obtain ⟨a,ys,e,q,r⟩:=h;exact ⟨a,ys,e,aD.seqT s q,r.map ih⟩
mutual
theorem aB.mono(s:aD F F'):∀ (d:D) (v:V),aB K F d v->aB K F' d v
 | .non,_,h=>by simpa only [aB] using h
 | .bl _,_,h=>by simpa only [aB] using h
 | .int _,_,h=>by simpa only [aB] using h
 | .str _,_,h=>by simpa only [aB] using h
 | .tup ds,v,h=>by simp only[aB] at h ⊢;obtain ⟨a,xs,e,q,r⟩:=h;exact ⟨a,xs,e,aD.seqT s q,aC.mono s ds xs r⟩
 | .lst ds,v,h=>by simp only[aB] at h ⊢;obtain ⟨a,xs,e,q,r⟩:=h;exact ⟨a,xs,e,s.seq q,aC.mono s ds xs r⟩
 | .dct ds,v,h=>by simp only[aB] at h ⊢;obtain ⟨a,xs,e,q,r⟩:=h;exact ⟨a,xs,e,s _ _ q,aF.mono s ds xs r⟩
 | .ty _,_,h=>by simpa only [aB] using h
 | .ob _,_,h=>by simpa only [aB] using h
 | .fn _,_,h=>by simpa only [aB] using h
 | .exn _,_,h=>by simp only[aB] at h ⊢;obtain ⟨a,C,e,n,q⟩:=h;exact ⟨a,C,e,n,s _ _ q⟩
 | .set _,_,h=>by simp only[aB] at h ⊢;obtain ⟨a,S,e,q,r⟩:=h;exact ⟨a,S,e,s _ _ q,r⟩
 | .dtn ds,v,h=>by simp only[aB] at h ⊢;obtain ⟨a,xs,e,q,r⟩:=h;exact ⟨a,xs,e,s _ _ q,dL.mono s ds xs r⟩
 | .dtf ds,v,h=>by simp only[aB] at h ⊢;obtain ⟨a,o,xs,e,q,r⟩:=h;exact ⟨a,o,xs,e,s _ _ q,dL.mono s ds xs r⟩
 | .ins c fs,v,h=>by simp only[aB] at h ⊢;obtain ⟨a,C,dx,gs,e,n,q,r⟩:=h;exact ⟨a,C,dx,gs,e,n,s _ _ q,aY.mono s fs gs r⟩
theorem aC.mono(s:aD F F'):∀ (ds:List D) (xs:List V),aC K F ds xs->aC K F' ds xs
 | [],_,h=>by simpa only [aC] using h
 | d::ds,xs,h=>by simp only[aC] at h ⊢;obtain ⟨y,ys,e,q,r⟩:=h;exact ⟨y,ys,e,aB.mono s d y q,aC.mono s ds ys r⟩
theorem aF.mono(s:aD F F'):∀ (ds:List (Key×D)) (xs:List (Key×V)),aF K F ds xs->aF K F' ds xs
 | [],_,h=>by simpa only [aF] using h
 | (k,d)::ds,xs,h=>by simp only[aF] at h ⊢;obtain ⟨y,ys,e,q,r⟩:=h;exact ⟨y,ys,e,aB.mono s d y q,aF.mono s ds ys r⟩
theorem dL.mono(s:aD F F'):∀ (ds:List (N×D)) (xs:List (N×Addr×V)),dL K F ds xs->dL K F' ds xs
 | [],_,h=>by simpa only [dL] using h
 | (k,d)::ds,xs,h=>by simp only[dL] at h ⊢;obtain ⟨b,y,ys,e,n,q,r⟩:=h;exact ⟨b,y,ys,e,⟨NAt.mono s k _ n.1,n.2⟩,aB.mono s d y q,dL.mono s ds ys r⟩
theorem aY.mono(s:aD F F'):∀ (ds:List (Str×D)) (xs:List (Str×V)),aY K F ds xs->aY K F' ds xs
 | [],_,h=>by simpa only [aY] using h
 | (k,d)::ds,xs,h=>by simp only[aY] at h ⊢;obtain ⟨y,ys,e,q,r⟩:=h;exact ⟨y,ys,e,aB.mono s d y q,aY.mono s ds ys r⟩
end
theorem aY.look:∀ {ds:List (Str×D)} {xs:List (Str×V)} {f:Str} {d:D},aY K F ds xs->ds.lookup f=some d->∃ v,xs.lookup f=some v/\aB K F d v
 | [],_,_,_,h,e=>by cases e
 | (k,d')::ds,_,f,d,h,e=>by
  simp only[aY] at h;obtain ⟨y,ys,rfl,q,r⟩:=h;rw[aS3] at e ⊢;split at e
  . cases e;exact ⟨y,rfl,q⟩
  . exact aY.look r e
theorem aY.lookN:∀ {ds:List (Str×D)} {xs:List (Str×V)} {f:Str},aY K F ds xs->ds.lookup f=none->xs.lookup f=none
 | [],_,_,h,e=>by simp only[aY] at h;subst h;rfl
 | (k,d')::ds,_,f,h,e=>by
  simp only[aY] at h;obtain ⟨y,ys,rfl,q,r⟩:=h;rw[aS3] at e ⊢;split at e
  . cases e
  . exact aY.lookN r e
theorem aY.length:∀ {ds:List (Str×D)} {xs:List (Str×V)},aY K F ds xs->xs.length=ds.length
 | [],_,h=>by simp only[aY] at h;subst h;rfl
 | (k,d')::ds,_,h=>by simp only[aY] at h;obtain ⟨y,ys,rfl,q,r⟩:=h;rw[aRZ,aRZ,aY.length r]
theorem aC.length:∀ {ds:List D} {xs:List V},aC K F ds xs->xs.length=ds.length
 | [],_,h=>by simp only[aC] at h;subst h;rfl
 | d::ds,_,h=>by simp only[aC] at h;obtain ⟨y,ys,rfl,_,r⟩:=h;rw[aRZ,aRZ,aC.length r]
theorem aC.get:∀ {ds:List D} {xs:List V} {i:Nat} {x:V},aC K F ds xs->xs[i]? = some x->∃ d,ds[i]? = some d/\aB K F d x
 | [],_,_,_,h,e=>by simp only[aC] at h;subst h;simp at e
 | d::ds,_,0,_,h,e=>by simp only[aC] at h;obtain ⟨y,ys,rfl,r,_⟩:=h;simp at e;subst e;exact ⟨d,rfl,r⟩
 | d::ds,_,i+1,_,h,e=>by
  simp only[aC] at h;obtain ⟨y,ys,rfl,_,r⟩:=h;obtain ⟨d',e',r'⟩:=aC.get (i:=i) r (by simpa using e)
  exact ⟨d',by simpa using e',r'⟩
theorem aC.get':∀ {ds:List D} {xs:List V} {i:Nat} {d:D},aC K F ds xs->ds[i]? = some d->∃ x,xs[i]? = some x/\aB K F d x
 | [],_,_,_,h,e=>by simp at e
 | d::ds,_,0,_,h,e=>by simp only[aC] at h;obtain ⟨y,ys,rfl,r,_⟩:=h;simp at e;subst e;exact ⟨y,rfl,r⟩
 | d::ds,_,i+1,_,h,e=>by
  simp only[aC] at h;obtain ⟨y,ys,rfl,_,r⟩:=h;obtain ⟨d',e',r'⟩:=aC.get' (i:=i) r (by simpa using e)
  exact ⟨d',by simpa using e',r'⟩
theorem aC.append:∀ {ds es:List D} {xs ys:List V},aC K F ds xs->aC K F es ys->aC K F (ds++es) (xs++ys)
 | [],_,_,_,h,r=>by simp only[aC] at h;subst h;exact r
 | d::ds,_,_,_,h,r=>by simp only[aC] at h;obtain ⟨y,ys,rfl,q,t⟩:=h;show aC K F (d::(ds++_)) (y::(ys++_));simp only[aC];exact ⟨y,_,rfl,q,aC.append t r⟩
theorem aC.nil:aC K F [] []:=by simp only[aC]
theorem aC.cons{d:D}{ds:List D}{x:V}{xs:List V}(h:aB K F d x)(r:aC K F ds xs):aC K F (d::ds) (x::xs):=by simp only[aC];exact ⟨x,xs,rfl,h,r⟩
end
def Top(K:Fg)(F H:Hp)(a:Addr):D->Prop
 | .lst ds=>∃ xs,H a=some (.lst xs)/\aC K F ds xs
 | .dct ds=>∃ xs,H a=some (.dK xs)/\aF K F ds xs
 | .ins c fs=>∃ C dx gs,PySem.W.nsIn K mainGlobals c=some (some (.ref C))/\H a=some (.ins C dx gs)/\aY K F fs gs
 | .set ks=>∃ S,H a=some (.set S ks.length)/\tI S ks
 | .dtn ds=>∃ xs,H a=some (.dN xs)/\dL K F ds xs
 | _=>False
def Rp(K:Fg)(F H:Hp)(m:Md)(d:D)(v:V):Prop :=
 match m with
 | .fz=>aB K F d v
 | _=>∃ a,v=.ref a/\F a=none/\Top K F H a d
structure aI(F H F' H':Hp):Prop where
 same:aD H H'
 fsame:aD F F'
 sub:aD F' H'
 new:∀ a,F a=none->H a≠none->F' a=none
theorem aI.refl{F H:Hp}(h:aD F H):aI F H F H:=⟨aD.refl _,aD.refl _,h,λ_ h _=>h⟩
theorem aI.trans{F H F1 H1 F2 H2:Hp}(a:aI F H F1 H1)(b:aI F1 H1 F2 H2):aI F H F2 H2 :=
 ⟨a.same.trans b.same,a.fsame.trans b.fsame,b.sub,λx h1 h2=>b.new x (a.new x h1 h2) (by
  cases e:H x with
  | none=>exact absurd e h2
  | some o=>rw[a.same x o e];exact λz=>nomatch z)⟩
theorem aI.laid{F H:Hp}{p:Addr}(o:HO)(h:aD F H)(hp:H p=none):aI F H (upd F p o) (upd H p o):=by
 have hf:F p=none:=h.free hp;refine ⟨λb u e=>?_,λb u e=>?_,λb u e=>?_,λa h1 h2=>?_⟩
 . rw[aR (cB e hp)];exact e
 . rw[aR (cB e hf)];exact e
 . by_cases hb:b=p
   . subst hb;rw[bI] at e ⊢;exact e
   . rw[aR hb] at e ⊢;exact h b u e
 . have:a≠p:=by rintro rfl;exact h2 hp
   rw[aR this];exact h1
theorem aI.fresh{F H:Hp}{p:Addr}(o:HO)(h:aD F H)(hp:H p=none):aI F H F (upd H p o):=by
 refine ⟨λb u e=>?_,aD.refl _,λb u e=>?_,λa h1 _=>h1⟩
 . rw[aR (cB e hp)];exact e
 . rw[aR (cB (h b u e) hp)];exact h b u e
theorem Top.step{K:Fg}{F H F' H':Hp}{a:Addr}{d:D}(st:aI F H F' H')(h:Top K F H a d):Top K F' H' a d:=by
 cases d with
 | lst ds=>obtain ⟨xs,e,r⟩:=h;exact ⟨xs,st.same _ _ e,r.mono st.fsame _ _⟩
 | dct ds=>obtain ⟨xs,e,r⟩:=h;exact ⟨xs,st.same _ _ e,r.mono st.fsame _ _⟩
 | ins c fs=>obtain ⟨C,dx,gs,n,e,r⟩:=h;exact ⟨C,dx,gs,n,st.same _ _ e,r.mono st.fsame _ _⟩
 | set ks=>obtain ⟨S,e,r⟩:=h;exact ⟨S,st.same _ _ e,r⟩
 | dtn ds=>obtain ⟨xs,e,r⟩:=h;exact ⟨xs,st.same _ _ e,r.mono st.fsame _ _⟩
 | _=>exact h.elim
theorem Top.there{K:Fg}{F H:Hp}{a:Addr}{d:D}(h:Top K F H a d):H a≠none:=by
 cases d with
 | lst ds=>obtain ⟨xs,e,r⟩:=h;rw[e];exact λz=>nomatch z
 | dct ds=>obtain ⟨xs,e,r⟩:=h;rw[e];exact λz=>nomatch z
 | ins c fs=>obtain ⟨C,dx,gs,n,e,r⟩:=h;rw[e];exact λz=>nomatch z
 | set ks=>obtain ⟨S,e,r⟩:=h;rw[e];exact λz=>nomatch z
 | dtn ds=>obtain ⟨xs,e,r⟩:=h;rw[e];exact λz=>nomatch z
 | _=>exact h.elim
theorem Rp.step{K:Fg}{F H F' H':Hp}{m:Md}{d:D}{v:V}(st:aI F H F' H')(h:Rp K F H m d v):Rp K F' H' m d v:=by
 cases m with
 | fz=>exact aB.mono st.fsame d v h
 | fr=>obtain ⟨a,e,n,t⟩:=h;exact ⟨a,e,st.new a n t.there,t.step st⟩
 | bo=>obtain ⟨a,e,n,t⟩:=h;exact ⟨a,e,st.new a n t.there,t.step st⟩
theorem Rp.seqL{K:Fg}{F H:Hp}{m:Md}{ds:List D}{v:V}(s:aD F H)(h:Rp K F H m (.lst ds) v):∃ a xs,v=.ref a/\SqL K H a xs/\aC K F ds xs:=by
 cases m with
 | fz=>have h:aB K F (.lst ds) v:=h;simp only[aB] at h;obtain ⟨a,xs,e,q,r⟩:=h;exact ⟨a,xs,e,s.seq q,r⟩
 | fr=>obtain ⟨a,e,n,xs,q,r⟩:=h;exact ⟨a,xs,e,SqL.of q,r⟩
 | bo=>obtain ⟨a,e,n,xs,q,r⟩:=h;exact ⟨a,xs,e,SqL.of q,r⟩
theorem Rp.seqT{K:Fg}{F H:Hp}{m:Md}{ds:List D}{v:V}(s:aD F H)(h:Rp K F H m (.tup ds) v):∃ a xs,v=.ref a/\SqT K H a xs/\aC K F ds xs:=by
 cases m with
 | fz=>have h:aB K F (.tup ds) v:=h;simp only[aB] at h;obtain ⟨a,xs,e,q,r⟩:=h;exact ⟨a,xs,e,aD.seqT s q,r⟩
 | fr=>obtain ⟨a,e,n,q⟩:=h;exact q.elim
 | bo=>obtain ⟨a,e,n,q⟩:=h;exact q.elim
theorem Rp.dict{K:Fg}{F H:Hp}{m:Md}{ds:List (Key×D)}{v:V}(s:aD F H)(h:Rp K F H m (.dct ds) v):∃ a xs,v=.ref a/\H a=some (.dK xs)/\aF K F ds xs:=by
 cases m with
 | fz=>have h:aB K F (.dct ds) v:=h;simp only[aB] at h;obtain ⟨a,xs,e,q,r⟩:=h;exact ⟨a,xs,e,s _ _ q,r⟩
 | fr=>obtain ⟨a,e,n,xs,q,r⟩:=h;exact ⟨a,xs,e,q,r⟩
 | bo=>obtain ⟨a,e,n,xs,q,r⟩:=h;exact ⟨a,xs,e,q,r⟩
theorem Rp.ins{K:Fg}{F H:Hp}{m:Md}{c:Str}{fs:List (Str×D)}{v:V}(s:aD F H)(h:Rp K F H m (.ins c fs) v):∃ a C dx gs,v=.ref a/\PySem.W.nsIn K mainGlobals c=some (some (.ref C))/\H a=some (.ins C dx gs)/\aY K F fs gs:=by
 cases m with
 | fz=>have h:aB K F (.ins c fs) v:=h;simp only[aB] at h;obtain ⟨a,C,dx,gs,e,n,q,r⟩:=h;exact ⟨a,C,dx,gs,e,n,s _ _ q,r⟩
 | fr=>obtain ⟨a,e,n,C,dx,gs,z,q,r⟩:=h;exact ⟨a,C,dx,gs,e,z,q,r⟩
 | bo=>obtain ⟨a,e,n,C,dx,gs,z,q,r⟩:=h;exact ⟨a,C,dx,gs,e,z,q,r⟩
theorem Rp.int{K:Fg}{F H:Hp}{m:Md}{i:Int}{v:V}(h:Rp K F H m (.int i) v):v=.int i:=by
 cases m with
 | fz=>have h:aB K F (.int i) v:=h;simpa only [aB] using h
 | fr=>obtain ⟨a,e,n,q⟩:=h;exact q.elim
 | bo=>obtain ⟨a,e,n,q⟩:=h;exact q.elim
theorem Rp.bl{K:Fg}{F H:Hp}{m:Md}{i:Bool}{v:V}(h:Rp K F H m (.bl i) v):v=.bl i:=by
 cases m with
 | fz=>have h:aB K F (.bl i) v:=h;simpa only [aB] using h
 | fr=>obtain ⟨a,e,n,q⟩:=h;exact q.elim
 | bo=>obtain ⟨a,e,n,q⟩:=h;exact q.elim
theorem Rp.non{K:Fg}{F H:Hp}{m:Md}{v:V}(h:Rp K F H m .non v):v=.non:=by
 cases m with
 | fz=>have h:aB K F .non v:=h;simpa only [aB] using h
 | fr=>obtain ⟨a,e,n,q⟩:=h;exact q.elim
 | bo=>obtain ⟨a,e,n,q⟩:=h;exact q.elim
theorem Rp.str{K:Fg}{F H:Hp}{m:Md}{x:Str}{v:V}(h:Rp K F H m (.str x) v):v=.str x/\x.length<=sizeLine/\PyData.strOk x=true:=by
 cases m with
 | fz=>have h:aB K F (.str x) v:=h;simpa only [aB] using h
 | fr=>obtain ⟨a,e,n,q⟩:=h;exact q.elim
 | bo=>obtain ⟨a,e,n,q⟩:=h;exact q.elim
theorem Rp.ty{K:Fg}{F H:Hp}{m:Md}{n:String}{v:V}(h:Rp K F H m (.ty n) v):v=.ty n:=by
 cases m with
 | fz=>have h:aB K F (.ty n) v:=h;simpa only [aB] using h
 | fr=>obtain ⟨a,e,n,q⟩:=h;exact q.elim
 | bo=>obtain ⟨a,e,n,q⟩:=h;exact q.elim
theorem Rp.ob{K:Fg}{F H:Hp}{m:Md}{n:Addr}{v:V}(h:Rp K F H m (.ob n) v):v=.ref n:=by
 cases m with
 | fz=>have h:aB K F (.ob n) v:=h;simpa only [aB] using h
 | fr=>obtain ⟨a,e,n,q⟩:=h;exact q.elim
 | bo=>obtain ⟨a,e,n,q⟩:=h;exact q.elim
theorem rp_ty{K:Fg}{F H:Hp}(i:String):Rp K F H .fz (.ty i) (.ty i):=by show aB K F _ _;simp only[aB]
theorem bQ{K:Fg}{F H:Hp}(i:Int):Rp K F H .fz (.int i) (.int i):=by show aB K F _ _;simp only[aB]
theorem cA{K:Fg}{F H:Hp}(i:Bool):Rp K F H .fz (.bl i) (.bl i):=by show aB K F _ _;simp only[aB]
theorem tJ{K:Fg}{F H:Hp}:Rp K F H .fz .non .non:=by show aB K F _ _;simp only[aB]
theorem fB{K:Fg}{F H:Hp}{x:Str}(h:x.length<=sizeLine/\PyData.strOk x=true):Rp K F H .fz (.str x) (.str x):=by show aB K F _ _;simp only[aB,true_and];exact h
abbrev Rho:=List (Option (Bool×D))
structure aX(K:Fg)(F0 H0 F H:Hp)(σ:L2.St)(ρ:Rho):Prop where
 st:aI F0 H0 F H
 slot:∀ (i:Nat) (m:Bool) (d:D),ρ[i]? = some (some (m,d))->∃ v,σ[i]? = some (some v)/\Rp K F H (if m then .bo else .fz) d v/\(m=true->∀ a,v=.ref a->H0 a=none)
 apart:∀ (i j:Nat) (d d':D) (a:Addr),i≠j->ρ[i]? = some (some (true,d))->ρ[j]? = some (some (true,d'))->σ[i]? = some (some (.ref a))->σ[j]? = some (some (.ref a))->False
 len:σ.length=ρ.length
theorem aX.step{K:Fg}{F0 H0 F H F' H':Hp}{σ:L2.St}{ρ:Rho}(r:aX K F0 H0 F H σ ρ)(st:aI F H F' H'):aX K F0 H0 F' H' σ ρ :=
 ⟨r.st.trans st,λi m d e=>by obtain ⟨v,e1,e2,e3⟩:=r.slot i m d e;exact ⟨v,e1,e2.step st,e3⟩,r.apart,r.len⟩
theorem aX.sub{K:Fg}{F0 H0 F H:Hp}{σ:L2.St}{ρ:Rho}(r:aX K F0 H0 F H σ ρ):aD F H:=r.st.sub
abbrev XE:=Str->L2.St->Hp->Prop
structure Cw where
 K:Fg
 F0:Hp
 H0:Hp
 EE:XE
def tG(C:Cw)(g:Rho->Res):TE:=λσ H Q=>∃ ρ F,aX C.K C.F0 C.H0 F H σ ρ/\match g ρ with
 | .ok m d=>∀ v F' H',aI F H F' H'->Rp C.K F' H' m d v->(m=.fr->∀ a,v=.ref a->H a=none)->Q v H'
 | .exc c=>∀ F' H',aI F H F' H'->C.EE c σ H'
 | .stuck=>False
abbrev Cw.at(C:Cw)(X:Cx):Cw:={ C with K:=X.K }
def PV(C:Cw)(X:Cx)(e:Expr)(g:Rho->Res):Prop:=PE X e (tG (C.at X) g)
theorem PE.imp{X:Cx}{e:Expr}{t t':TE}(h:PE X e t)(i:∀ σ H Q,t' σ H Q->t σ H Q):PE X e t':=λaA s σ H Q I q=>h aA s σ H Q I (i σ H Q q)
def Res.thn(r:Res)(k:Md->D->Res):Res:=match r with
 | .ok m d=>k m d
 | .exc c=>.exc c
 | .stuck=>.stuck
@[simp] theorem Res.thn_ok(m:Md)(d:D)(k:Md->D->Res):(Res.ok m d).thn k=k m d:=rfl
@[simp] theorem Res.thn_exc(c:Str)(k:Md->D->Res):(Res.exc c).thn k=.exc c:=rfl
@[simp] theorem Res.thn_stuck(k:Md->D->Res):Res.stuck.thn k=.stuck:=rfl
def Res.of:Option (Md×D)->Res
 | some (m,d)=>.ok m d
 | none=>.stuck
@[simp] theorem Res.of_some(m:Md)(d:D):Res.of (some (m,d))=.ok m d:=rfl
@[simp] theorem Res.of_none:Res.of none=.stuck:=rfl
def aS(C:Cw)(F H:Hp)(σ:L2.St)(r:Res)(Q:VK):Prop:=match r with
 | .ok m d=>∀ v F' H',aI F H F' H'->Rp C.K F' H' m d v->(m=.fr->∀ a,v=.ref a->H a=none)->Q v H'
 | .exc c=>∀ F' H',aI F H F' H'->C.EE c σ H'
 | .stuck=>False
theorem aU{C:Cw}{g:Rho->Res}{σ:L2.St}{H:Hp}{Q:VK}:tG C g σ H Q=∃ ρ F,aX C.K C.F0 C.H0 F H σ ρ/\aS C F H σ (g ρ) Q:=by unfold tG aS;rfl
theorem aS.step{C:Cw}{F H F1 H1:Hp}{σ:L2.St}{r:Res}{Q:VK}(st:aI F H F1 H1)(h:aS C F H σ r Q):aS C F1 H1 σ r Q:=by
 cases r with
 | ok m d=>exact λv F' H' s2 rp hf=>h v F' H' (st.trans s2) rp λe a ea=>st.same.free (hf e a ea)
 | exc c=>exact λF' H' s2=>h F' H' (st.trans s2)
 | stuck=>exact h
section
variable {C:Cw}{X:Cx}{a b:Expr}{ga gb:Rho->Res}{pos:Pos}
def eR(ρ:Rho)(i:Nat):Res:=match ρ[i]? with
 | some (some (false,d))=>.ok .fz d
 | some (some (true,d))=>.ok .bo d
 | _=>.stuck
theorem aCZ(i:Nat){x:Str}(h:PE X (.Name x pos) (k7 i)):PV C X (.Name x pos) (λρ=>eR ρ i):=by
 refine PE.imp h λσ H Q q=>?_;rw[aU] at q;obtain ⟨ρ,F,R,w⟩:=q;unfold eR at w;cases e:ρ[i]? with
 | none=>rw[e] at w;exact w.elim
 | some o =>
  cases o with
  | none=>rw[e] at w;exact w.elim
  | some p =>
   obtain ⟨m,d⟩:=p;obtain ⟨v,e1,r,_⟩:=R.slot i m d e;rw[e] at w;cases m with
   | false=>exact ⟨v,e1,w v F H (.refl R.sub) r (by intro z;cases z)⟩
   | true=>exact ⟨v,e1,w v F H (.refl R.sub) r (by intro z;cases z)⟩
theorem gK{e:Expr}{v:V}(d:D)(h:PE X e (tC v))(r:∀ F H,Rp X.K F H .fz d v):PV C X e (λ_=>.ok .fz d):=by refine PE.imp h λσ H Q q=>?_;rw[aU] at q;obtain ⟨ρ,F,R,w⟩:=q;exact w v F H (.refl R.sub) (r F H) (by intro z;cases z)
theorem aC0{i j}:PV C X (.Constant (.int i) j pos) (λ_=>.ok .fz (.int i)):=gK _ zJ λ_ _=>bQ i
theorem pv_bl{i j}:PV C X (.Constant (.bool i) j pos) (λ_=>.ok .fz (.bl i)):=gK _ pe_bl λ_ _=>cA i
theorem aC1{j}:PV C X (.Constant .none j pos) (λ_=>.ok .fz .non):=gK _ zK λ_ _=>tJ
theorem aC2{x:Str}{j}(h:(decide (x.length<=sizeLine)&&PyData.strOk x)=true:=by decide +kernel):PV C X (.Constant (.str x) j pos) (λ_=>.ok .fz (.str x)) :=
 gK _ zL λ_ _=>fB (by rw[aSR,aS4] at h;exact h)
def op2(φ:Md->D->Md->D->Option (Md×D))(x y:Res):Res:=x.thn λm d=>y.thn λn e=>Res.of (φ m d n e)
def OpD(C:Cw)(X:Cx)(f:Value->Value->Sem Value)(φ:Md->D->Md->D->Option (Md×D)):Prop :=
 ∃ r:R2,OpR X f r/\∀ F H m x n y v u k d Q,aD F H->Rp X.K F H m x v->Rp X.K F H n y u->φ m x n y=some (k,d) ->
  (∀ v' F' H',aI F H F' H'->Rp X.K F' H' k d v'->(k=.fr->∀ a,v'=.ref a->H a=none)->Q v' H')->r v u H Q
theorem lN{φ:Md->D->Md->D->Option (Md×D)}{r:R2}(h:∀ F H m x n y v u k d Q,aD F H->Rp C.K F H m x v->Rp C.K F H n y u->φ m x n y=some (k,d)->(∀ v' F' H',aI F H F' H'->Rp C.K F' H' k d v'->(k=.fr->∀ a,v'=.ref a->H a=none)->Q v' H')->r v u H Q){σ:L2.St}{H:Hp}{Q:VK}(q:tG C (λρ=>op2 φ (ga ρ) (gb ρ)) σ H Q):tOp r (tG C ga) (tG C gb) σ H Q:=by
 unfold tOp;rw[aU] at q ⊢;obtain ⟨ρ,F,R,w⟩:=q;refine ⟨ρ,F,R,?_⟩;cases ea:ga ρ with
 | stuck=>simp only[op2,ea,Res.thn] at w;exact w
 | exc c=>simp only[op2,ea,Res.thn] at w;exact w
 | ok m d =>
  intro v F1 H1 s1 r1 _;rw[aU];refine ⟨ρ,F1,R.step s1,?_⟩;have w1:=w.step s1;simp only[op2,ea,Res.thn] at w1;cases eb:gb ρ with
  | stuck=>rw[eb] at w1;exact w1
  | exc c=>rw[eb] at w1;exact w1
  | ok n e =>
   rw[eb] at w1;intro u F2 H2 s2 r2 _;have w2:aS C F2 H2 σ (Res.of (φ m d n e)) Q:=aS.step s2 w1;cases ef:φ m d n e with
   | none=>rw[ef] at w2;exact w2.elim
   | some kd=>obtain ⟨k,d'⟩:=kd;rw[ef] at w2;exact h F2 H2 m d n e v u k d' Q s2.sub (r1.step s2) r2 ef w2
theorem pv_op{op:Operator}{φ}(o:OpD C X (binaryOp op) φ)(ha:PV C X a ga)(hb:PV C X b gb):PV C X (.BinOp a op b pos) (λρ=>op2 φ (ga ρ) (gb ρ)):=by obtain ⟨r,h1,h2⟩:=o;exact PE.imp (pe_op h1 ha hb) λσ H Q q=>lN h2 q
theorem aC3{op:CmpOp}{φ}(o:OpD C X (compareOp op) φ)(ha:PV C X a ga)(hb:PV C X b gb)(hm:behindInMarks op b=false):PV C X (.Compare a [op] [b] pos) (λρ=>op2 φ (ga ρ) (gb ρ)):=by obtain ⟨r,h1,h2⟩:=o;exact PE.imp (aAU h1 ha hb hm) λσ H Q q=>lN h2 q
def orO(φ ψ:Md->D->Md->D->Option (Md×D)):Md->D->Md->D->Option (Md×D):=λm x n y=>(φ m x n y).orElse λ_=>ψ m x n y
theorem OpD.or{f:Value->Value->Sem Value}{φ ψ}(h:OpD C X f φ)(h':OpD C X f ψ):OpD C X f (orO φ ψ):=by
 obtain ⟨r,h1,h2⟩:=h;obtain ⟨r',h1',h2'⟩:=h';refine ⟨_,h1.or h1',λF H m x n y v u k d Q s rx ry e w=>?_⟩;unfold orO at e;cases e1:φ m x n y with
 | none=>rw[e1] at e;exact .inr (h2' F H m x n y v u k d Q s rx ry e w)
 | some p=>rw[e1] at e;cases e;exact .inl (h2 F H m x n y v u k d Q s rx ry e1 w)
def fI(c:Int->Int->Bool)(g:Int->Int->D):Md->D->Md->D->Option (Md×D):=λ_ x _ y=>match x,y with
 | .int i,.int j=>if c i j=true then some (.fz,g i j) else none
 | _,_=>none
theorem hW{f:Value->Value->Sem Value}{Cc:Int->Int->Prop}{c:Int->Int->Bool}{g:Int->Int->V}{g':Int->Int->D}(o:OpR X f (rI Cc g))(hc:∀ i j,c i j=true->Cc i j)(hg:∀ F H i j,Rp X.K F H .fz (g' i j) (g i j)):OpD C X f (fI c g'):=by
 refine ⟨_,o,λF H m x n y v u k d Q s rx ry e w=>?_⟩;unfold fI at e;split at e
 . rename_i i j;cases rx.int;cases ry.int;split at e
   . rename_i hcc;cases e;exact ⟨i,j,rfl,rfl,hc i j hcc,w _ F H (.refl s) (hg F H i j) (by intro z;cases z)⟩
   . cases e
 . cases e
theorem fN{f:Value->Value->Sem Value}{g:Int->Int->V}{g':Int->Int->D}(o:OpR X f (rI0 g))(hg:∀ F H i j,Rp X.K F H .fz (g' i j) (g i j)):OpD C X f (fI (λ_ _=>true) g'):=by
 refine ⟨_,o,λF H m x n y v u k d Q s rx ry e w=>?_⟩;unfold fI at e;split at e
 . rename_i i j;cases rx.int;cases ry.int;rw[if_pos rfl] at e;cases e;exact ⟨i,j,rfl,rfl,w _ F H (.refl s) (hg F H i j) (by intro z;cases z)⟩
 . cases e
def bA(i:Int):Bool:=decide (i.natAbs.log2<9000)
theorem aC4:OpD C X (binaryOp .Add) (fI (λ_ _=>true) λi j=>.int (i+j)):=fN aAI λ_ _ i j=>bQ _
theorem aC5:OpD C X (binaryOp .Sub) (fI (λ_ _=>true) λi j=>.int (i-j)):=fN aAJ λ_ _ i j=>bQ _
theorem aC6{i j:Int}(h:(bA i&&bA j)=true):IntMulOk i j:=by
 rw[aSR] at h;have b:∀ {i:Int},bA i=true->Builtin.Int.intBits i<=2 ^ 20:=λ{i} h=>by
  unfold bA at h;have:=aS5 h;unfold Builtin.Int.intBits;split
  . exact aR5 _
  . have e:(2:Nat) ^ 20=1048576:=by decide
    omega
 exact IntMulOk.of_bits (b h.1) (b h.2)
def w64(i:Int):Bool:=decide (i.natAbs<2 ^ 63)
theorem tK{i:Int}(h:w64 i=true):Builtin.Int.intBits i<=64:=by
 have h:=aS5 h;unfold Builtin.Int.intBits;split
 . exact aR5 _
 . rename_i hz;have:i.natAbs.log2<63:=(Nat.log2_lt (by simpa using hz)).mpr h
   omega
theorem aC7:OpD C X (binaryOp .Mult) (fI (λi j=>(bA i&&bA j)||(w64 i||w64 j)) λi j=>.int (i * j)) :=
 hW (Cc:=λi j=>IntMulOk i j) (opI λ_ _ _ _ _ _ _ hc q=>mul_int q hc) (λi j h=>by
  rcases (aS6 _ _).mp h with h | h
  . exact aC6 h
  . rcases (aS6 _ _).mp h with h | h
    . exact IntMulOk.of_left (tK h)
    . exact IntMulOk.of_right (tK h)) λ_ _ i j=>bQ _
theorem aC8:OpD C X (binaryOp .Mod) (fI (λ_ j=>decide (0<j)) λi j=>.int (i % j)):=hW aAK (λi j h=>aS5 h) λ_ _ i j=>bQ _
theorem aC9:OpR X (binaryOp .FloorDiv) (rI (λ_ j=>0<j/\bA j=true) λi j=>.int (i / j)):=opI λi j _ _ _ _ _ hc q=>by
 obtain ⟨h1,h2⟩:=hc;refine floordiv_int (by omega) ?_ (.inl (PyProof.noPylong_of_log2 (aS5 h2)))
 rw[Int.fdiv_eq_ediv_of_nonneg i (by omega)]
 exact q
theorem aDA:OpD C X (binaryOp .FloorDiv) (fI (λ_ j=>decide (0<j)&&bA j) λi j=>.int (i / j)):=hW aC9 (λi j h=>by rw[aSR,aS4] at h;exact h) λ_ _ i j=>bQ _
theorem aDB:OpD C X (binaryOp .Pow) (fI (λi j=>decide (0<=j)&&decide (j<=1000000)&&decide (i.natAbs<2 ^ 64)) λi j=>.int (i ^ j.toNat)) :=
 hW aAL (λi j h=>by simp only[aSR,aS4] at h;exact ⟨h.1.1,h.1.2,h.2⟩) λ_ _ i j=>bQ _
theorem aDC:OpD C X (compareOp .Lt) (fI (λ_ _=>true) λi j=>.bl (decide (i<j))):=fN op_lt λ_ _ i j=>cA _
theorem aDD:OpD C X (compareOp .LtE) (fI (λ_ _=>true) λi j=>.bl (decide (i<=j))):=fN op_le λ_ _ i j=>cA _
theorem aDE:OpD C X (compareOp .Gt) (fI (λ_ _=>true) λi j=>.bl (decide (j<i))):=fN op_gt λ_ _ i j=>cA _
theorem aDF:OpD C X (compareOp .GtE) (fI (λ_ _=>true) λi j=>.bl (decide (j<=i))):=fN op_ge λ_ _ i j=>cA _
def fS(c:Str->Str->Bool)(g:Str->Str->D):Md->D->Md->D->Option (Md×D):=λ_ x _ y=>match x,y with
 | .str i,.str j=>if c i j=true then some (.fz,g i j) else none
 | _,_=>none
theorem n0{x y:Str}(hx:PyData.strOk x=true)(hy:PyData.strOk y=true):PyData.strOk (x++y)=true:=by unfold PyData.strOk at *;show (x.cps++y.cps).all _=true;rw[Array.all_append,hx,hy];rfl
theorem aDG:OpD C X (binaryOp .Add) (fS (λi j=>decide (i.length+j.length<=sizeLine)) λi j=>.str (i++j)):=by
 refine ⟨_,aAZ,λF H m x n y v u k d Q s rx ry e w=>?_⟩;unfold fS at e;split at e
 . rename_i i j;obtain ⟨rfl,h1⟩:=rx.str;obtain ⟨rfl,h2⟩:=ry.str;split at e
   . rename_i hc;cases e;have hc:=aS5 hc;exact ⟨i,j,rfl,rfl,hc,w _ F H (.refl s) (fB ⟨by rw[strLen_append];exact hc,n0 h1.2 h2.2⟩) (by intro z;cases z)⟩
   . cases e
 . cases e
def hX(i j:Str):Bool:=!(Builtin.Str.occurrences j i 0 j.length 1).isEmpty
theorem aDH:OpD C X (compareOp .In) (fS (λ_ _=>true) λi j=>.bl (hX i j)):=by
 refine ⟨_,aAQ,λF H m x n y v u k d Q s rx ry e w=>?_⟩;unfold fS at e;split at e
 . rename_i i j;obtain ⟨rfl,h1⟩:=rx.str;obtain ⟨rfl,h2⟩:=ry.str;rw[if_pos rfl] at e;cases e;exact ⟨i,j,rfl,rfl,w _ F H (.refl s) (cA _) (by intro z;cases z)⟩
 . cases e
theorem aDI:OpD C X (compareOp .NotIn) (fS (λ_ _=>true) λi j=>.bl (!hX i j)):=by
 refine ⟨_,aAT,λF H m x n y v u k d Q s rx ry e w=>?_⟩;unfold fS at e;split at e
 . rename_i i j;obtain ⟨rfl,h1⟩:=rx.str;obtain ⟨rfl,h2⟩:=ry.str;rw[if_pos rfl] at e;cases e;exact ⟨i,j,rfl,rfl,w _ F H (.refl s) (cA _) (by intro z;cases z)⟩
 . cases e
end
section
variable {C:Cw}{X:Cx}{a b c e:Expr}{ga gb gc g:Rho->Res}{pos:Pos}
def bB:Res->Res
 | .ok .bo _=>.stuck
 | .ok _ d=>.ok .fz d
 | r=>r
theorem aI.freeze{F H F' H':Hp}{x:Addr}{o:HO}(st:aI F H F' H')(hx:H x=none)(hx':F' x=none)(ho:H' x=some o):aI F H (upd F' x o) H':=by
 refine ⟨st.same,λb u q=>?_,λb u q=>?_,λy h1 h2=>?_⟩
 . rw[aR (cB (st.fsame b u q) hx')];exact st.fsame b u q
 . by_cases hb:b=x
   . subst hb;rw[bI] at q;rw[<- q];exact ho
   . rw[aR hb] at q;exact st.sub b u q
 . have:y≠x:=by rintro rfl;exact h2 hx
   rw[aR this];exact st.new y h1 h2
theorem Top.freeze{K:Fg}{F H:Hp}{x:Addr}{d:D}(hx:F x=none)(h:Top K F H x d):∃ o,H x=some o/\aB K (upd F x o) d (.ref x):=by
 have s:∀ o,aD F (upd F x o):=λo b u q=>by rw[aR (cB q hx)];exact q
 cases d with
 | lst ds=>obtain ⟨xs,q,r⟩:=h;refine ⟨_,q,?_⟩;simp only[aB];exact ⟨x,xs,rfl,SqL.of bI,r.mono (s _) _ _⟩
 | dct ds=>obtain ⟨xs,q,r⟩:=h;refine ⟨_,q,?_⟩;simp only[aB];exact ⟨x,xs,rfl,bI,r.mono (s _) _ _⟩
 | ins c fs=>obtain ⟨C,dx,gs,n,q,r⟩:=h;refine ⟨_,q,?_⟩;simp only[aB];exact ⟨x,C,dx,gs,rfl,n,bI,r.mono (s _) _ _⟩
 | set ks=>obtain ⟨S,q,r⟩:=h;refine ⟨_,q,?_⟩;simp only[aB];exact ⟨x,S,rfl,bI,r⟩
 | dtn ds=>obtain ⟨xs,q,r⟩:=h;refine ⟨_,q,?_⟩;simp only[aB];exact ⟨x,xs,rfl,bI,r.mono (s _) _ _⟩
 | _=>exact h.elim
theorem aS.frz{F H:Hp}{σ:L2.St}{r:Res}{Q:VK}(w:aS C F H σ (bB r) Q):aS C F H σ r Q:=by
 cases r with
 | exc c=>exact w
 | stuck=>exact w
 | ok m d =>
  cases m with
  | fz=>exact w
  | bo=>exact (show False from w).elim
  | fr=>intro v F' H' st rp fr;obtain ⟨x,rfl,n,t⟩:=rp;obtain ⟨o,ho,r⟩:=t.freeze n;exact w (.ref x) (upd F' x o) H' (st.freeze (fr rfl x rfl) n ho) r (by intro z;cases z)
theorem fO(h:PV C X e g):PV C X e (λρ=>bB (g ρ)):=PE.imp h λσ H Q q=>by
 rw[aU] at q ⊢;obtain ⟨ρ,F,R,w⟩:=q
 try dsimp only at w
 exact ⟨ρ,F,R,w.frz⟩
def gM(C:Cw)(F H:Hp)(σ:L2.St)(r:Res)(Q:Bool->Hp->Prop):Prop:=match r with
 | .ok _ (.bl b)=>∀ F' H',aI F H F' H'->Q b H'
 | .exc c=>∀ F' H',aI F H F' H'->C.EE c σ H'
 | _=>False
theorem gM.step{F H F1 H1:Hp}{σ:L2.St}{r:Res}{Q:Bool->Hp->Prop}(st:aI F H F1 H1)(h:gM C F H σ r Q):gM C F1 H1 σ r Q:=by
 cases r with
 | ok m d =>
  cases d with
  | bl b=>exact λF' H' s2=>h F' H' (st.trans s2)
  | _=>exact h
 | exc c=>exact λF' H' s2=>h F' H' (st.trans s2)
 | stuck=>exact h
def tT(C:Cw)(g:Rho->Res):TT:=λσ H Q=>∃ ρ F,aX C.K C.F0 C.H0 F H σ ρ/\gM C F H σ (g ρ) Q
def PTv(C:Cw)(X:Cx)(e:Expr)(g:Rho->Res):Prop:=PT X e (tT (C.at X) g)
def PWv(C:Cw)(X:Cx)(e:Expr)(g:Rho->Res):Prop:=PW X e (tT (C.at X) g)
theorem PT.imp{X:Cx}{e:Expr}{t t':TT}(h:PT X e t)(i:∀ σ H Q,t' σ H Q->t σ H Q):PT X e t':=λaA s σ H Q I q=>h aA s σ H Q I (i σ H Q q)
theorem PW.imp{X:Cx}{e:Expr}{t t':TT}(h:PW X e t)(i:∀ σ H Q,t' σ H Q->t σ H Q):PW X e t':=λcJ aA s σ H Q I q=>h cJ aA s σ H Q I (i σ H Q q)
def lO:D->Option Bool
 | .non=>some false
 | .bl b=>some b
 | .int i=>some (i != 0)
 | .str x=>some ((x.length:Int) != 0)
 | .tup ds=>some (!ds.isEmpty)
 | .lst ds=>some (!ds.isEmpty)
 | .dct ds=>some (!ds.isEmpty)
 | _=>none
def jH(r:Res):Res:=r.thn λ_ d=>match lO d with | some b=>.ok .fz (.bl b) | none=>.stuck
theorem aC.isEmpty{K:Fg}{F:Hp}{ds:List D}{xs:List V}(h:aC K F ds xs):ds.isEmpty=xs.isEmpty:=by
 cases ds with
 | nil=>simp only[aC] at h;subst h;rfl
 | cons d ds=>simp only[aC] at h;obtain ⟨y,ys,rfl,_⟩:=h;rfl
theorem aF.isEmpty{K:Fg}{F:Hp}{ds:List (Key×D)}{xs:List (Key×V)}(h:aF K F ds xs):ds.isEmpty=xs.isEmpty:=by
 cases ds with
 | nil=>simp only[aF] at h;subst h;rfl
 | cons d ds=>obtain ⟨k,d⟩:=d;simp only[aF] at h;obtain ⟨y,ys,rfl,_⟩:=h;rfl
theorem aDJ{K:Fg}{F H:Hp}{m:Md}{d:D}{v:V}{k:Bool}(s:aD F H)(h:Rp K F H m d v)(e:lO d=some k):nO K v H k:=by
 cases d with
 | non=>cases h.non;cases e;rfl
 | bl b=>cases h.bl;cases e;rfl
 | int i=>cases h.int;cases e;rfl
 | str x=>obtain ⟨rfl,hl,_⟩:=h.str;cases e;exact ⟨hl,rfl⟩
 | tup ds=>obtain ⟨a,xs,rfl,q,r⟩:=h.seqT s;cases e;exact .inr (.inl ⟨xs,q,by rw[r.isEmpty]⟩)
 | lst ds=>obtain ⟨a,xs,rfl,q,r⟩:=h.seqL s;cases e;exact .inl ⟨xs,q,by rw[r.isEmpty]⟩
 | dct ds=>obtain ⟨a,xs,rfl,q,r⟩:=h.dict s;cases e;exact .inr (.inr ⟨xs,q,by rw[r.isEmpty]⟩)
 | ty n=>cases e
 | ob n=>cases e
 | ins n=>cases e
 | fn n=>cases e
 | exn n=>cases e
 | set n=>cases e
 | dtn n=>cases e
 | dtf n=>cases e
theorem aDK(h:PV C X e g)(he:∀ cJ,isTrue e X.env cJ=(do let v <- cJ;standAt e.pos;holding [v] (truthy v)):=by intro _;rfl):PTv C X e (λρ=>jH (g ρ)):=by
 refine PT.imp (aAY h he) λσ H Q q=>?_;obtain ⟨ρ,F,R,w⟩:=q
 try dsimp only at w
 rw[aU];refine ⟨ρ,F,R,?_⟩;cases er:g ρ with
 | stuck=>rw[er] at w;exact w
 | exc c=>rw[er] at w;exact w
 | ok m d =>
  rw[er] at w;intro v F' H' st rp _;have w:gM (C.at X) F H σ (match lO d with | some b=>.ok .fz (.bl b) | none=>.stuck) Q:=w
  cases ed:lO d with
  | none=>rw[ed] at w;exact w.elim
  | some k=>rw[ed] at w;exact ⟨k,aDJ st.sub rp ed,w F' H' st⟩
theorem aDL{op:CmpOp}{φ}(o:OpD C X (compareOp op) φ)(hb':∀ m x n y k d,φ m x n y=some (k,d)->∃ t,k=.fz/\d=.bl t)(ha:PV C X a ga)(hb:PV C X b gb)(hm:behindInMarks op b=false):PTv C X (.Compare a [op] [b] pos) (λρ=>op2 φ (ga ρ) (gb ρ)):=by
 obtain ⟨r,h1,h2⟩:=o;refine PT.imp (aAV h1 ha hb hm) λσ H Q q=>?_;obtain ⟨ρ,F,R,w⟩:=q
 try dsimp only at w
 unfold rZ;refine lN h2 ?_;rw[aU];refine ⟨ρ,F,R,?_⟩;cases er:op2 φ (ga ρ) (gb ρ) with
 | stuck=>rw[er] at w;exact w
 | exc c=>rw[er] at w;exact w
 | ok m d =>
  rw[er] at w;have:∃ t,m=.fz/\d=.bl t:=by
   unfold op2 at er;cases e1:ga ρ with
   | stuck=>rw[e1] at er;cases er
   | exc c=>rw[e1] at er;cases er
   | ok m1 d1 =>
    cases e2:gb ρ with
    | stuck=>rw[e1,e2] at er;cases er
    | exc c=>rw[e1,e2] at er;cases er
    | ok m2 d2 =>
     rw[e1,e2] at er;have er:Res.of (φ m1 d1 m2 d2)=.ok m d:=er;cases e3:φ m1 d1 m2 d2 with
     | none=>rw[e3] at er;cases er
     | some kd=>rw[e3] at er;obtain ⟨k,d'⟩:=kd;cases er;exact hb' _ _ _ _ _ _ e3
  obtain ⟨t,rfl,rfl⟩:=this;intro v F' H' st rp _;cases rp.bl;exact ⟨t,rfl,w F' H' st⟩
def dH(x:Res)(y:Res):Res:=x.thn λ_ d=>match d with | .bl true=>y | .bl false=>.ok .fz (.bl false) | _=>.stuck
def orR(x:Res)(y:Res):Res:=x.thn λ_ d=>match d with | .bl true=>.ok .fz (.bl true) | .bl false=>y | _=>.stuck
def jI(x:Res):Res:=x.thn λ_ d=>match d with | .bl b=>.ok .fz (.bl (!b)) | _=>.stuck
theorem aDM(ha:PTv C X a ga):PTv C X (.UnaryOp .Not a pos) (λρ=>jI (ga ρ)):=by
 refine PT.imp (zQ ha) λσ H Q q=>?_;obtain ⟨ρ,F,R,w⟩:=q
 try dsimp only at w
 refine ⟨ρ,F,R,?_⟩;cases er:ga ρ with
 | stuck=>rw[er] at w;exact w
 | exc c=>rw[er] at w;exact w
 | ok m d =>
  rw[er] at w;cases d with
  | bl b=>exact w
  | _=>exact w
theorem tL{op:BoolOp}(h:PTv C X a ga):PWv C X (.BoolOp op [a] pos) ga:=by
 cases op with
 | And=>exact zN h
 | Or=>exact zO h
theorem tM{σ:L2.St}{H:Hp}{Q:Bool->Hp->Prop}(q:tT C (λρ=>dH (ga ρ) (gb ρ)) σ H Q):nI (tT C ga) (tT C gb) σ H Q:=by
 obtain ⟨ρ,F,R,w⟩:=q
 try dsimp only at w
 refine ⟨ρ,F,R,?_⟩;cases er:ga ρ with
 | stuck=>rw[er] at w;exact w
 | exc c=>rw[er] at w;exact w
 | ok m d =>
  rw[er] at w;cases d with
  | bl b =>
   intro F' H' st;cases b with
   | true=>rw[if_pos rfl];exact ⟨ρ,F',R.step st,gM.step st w⟩
   | false=>rw[if_neg aRW];exact w F' H' st
  | _=>exact w
theorem tT_or{σ:L2.St}{H:Hp}{Q:Bool->Hp->Prop}(q:tT C (λρ=>orR (ga ρ) (gb ρ)) σ H Q):tOr (tT C ga) (tT C gb) σ H Q:=by
 obtain ⟨ρ,F,R,w⟩:=q
 try dsimp only at w
 refine ⟨ρ,F,R,?_⟩;cases er:ga ρ with
 | stuck=>rw[er] at w;exact w
 | exc c=>rw[er] at w;exact w
 | ok m d =>
  rw[er] at w;cases d with
  | bl b =>
   intro F' H' st;cases b with
   | true=>rw[if_pos rfl];exact w F' H' st
   | false=>rw[if_neg aRW];exact ⟨ρ,F',R.step st,gM.step st w⟩
  | _=>exact w
theorem aDN{a9:List Expr}(ha:PTv C X a ga)(hb:PWv C X (.BoolOp .And (b::a9) pos) gb):PWv C X (.BoolOp .And (a::b::a9) pos) (λρ=>dH (ga ρ) (gb ρ)):=PW.imp (zP ha hb) λ_ _ _ q=>tM q
theorem aDO{a9:List Expr}(ha:PTv C X a ga)(hb:PWv C X (.BoolOp .Or (b::a9) pos) gb):PWv C X (.BoolOp .Or (a::b::a9) pos) (λρ=>orR (ga ρ) (gb ρ)):=PW.imp (pw_or ha hb) λ_ _ _ q=>tT_or q
theorem pt_w(h:PWv C X e g):PTv C X e g:=PW.pt h
theorem tN{op}(h:PV C X a ga):PV C X (.BoolOp op [a] pos) ga:=zR h
theorem aDP{a9:List Expr}(ha:PV C X a ga)(hb:PV C X (.BoolOp .And (b::a9) pos) gb):PV C X (.BoolOp .And (a::b::a9) pos) (λρ=>dH (ga ρ) (gb ρ)):=by
 refine PE.imp (zS ha hb) λσ H Q q=>?_;unfold rS;rw[aU] at q ⊢;obtain ⟨ρ,F,R,w⟩:=q
 try dsimp only at w
 refine ⟨ρ,F,R,?_⟩;cases er:ga ρ with
 | stuck=>rw[er] at w;exact w
 | exc c=>rw[er] at w;exact w
 | ok m d =>
  rw[er] at w;cases d with
  | bl k =>
   intro v F' H' st rp _;cases rp.bl;refine ⟨k,rfl,?_⟩;cases k with
   | true=>rw[if_pos rfl,aU];exact ⟨ρ,F',R.step st,aS.step st w⟩
   | false=>rw[if_neg aRW];exact w (.bl false) F' H' st (cA _) (by intro z;cases z)
  | _=>exact w.elim
theorem aDQ{a9:List Expr}(ha:PV C X a ga)(hb:PV C X (.BoolOp .Or (b::a9) pos) gb):PV C X (.BoolOp .Or (a::b::a9) pos) (λρ=>orR (ga ρ) (gb ρ)):=by
 refine PE.imp (pe_or ha hb) λσ H Q q=>?_;unfold tOrV;rw[aU] at q ⊢;obtain ⟨ρ,F,R,w⟩:=q
 try dsimp only at w
 refine ⟨ρ,F,R,?_⟩;cases er:ga ρ with
 | stuck=>rw[er] at w;exact w
 | exc c=>rw[er] at w;exact w
 | ok m d =>
  rw[er] at w;cases d with
  | bl k =>
   intro v F' H' st rp _;cases rp.bl;refine ⟨k,rfl,?_⟩;cases k with
   | true=>rw[if_pos rfl];exact w (.bl true) F' H' st (cA _) (by intro z;cases z)
   | false=>rw[if_neg aRW,aU];exact ⟨ρ,F',R.step st,aS.step st w⟩
  | _=>exact w.elim
theorem aDR(ha:PV C X a ga):PV C X (.UnaryOp .Not a pos) (λρ=>jI (ga ρ)):=by
 refine PE.imp (zT ha) λσ H Q q=>?_;unfold rT;rw[aU] at q ⊢;obtain ⟨ρ,F,R,w⟩:=q
 try dsimp only at w
 refine ⟨ρ,F,R,?_⟩;cases er:ga ρ with
 | stuck=>rw[er] at w;exact w
 | exc c=>rw[er] at w;exact w
 | ok m d =>
  rw[er] at w;cases d with
  | bl k=>intro v F' H' st rp _;cases rp.bl;exact ⟨k,rfl,w _ F' H' st (cA _) (by intro z;cases z)⟩
  | _=>exact w.elim
def lQ(x:Res):Res:=x.thn λ_ d=>match d with | .int i=>.ok .fz (.int (-i)) | _=>.stuck
theorem aDS(ha:PV C X a ga):PV C X (.UnaryOp .USub a pos) (λρ=>lQ (ga ρ)):=by
 refine PE.imp (pe_un aAP ha) λσ H Q q=>?_;unfold tUn;rw[aU] at q ⊢;obtain ⟨ρ,F,R,w⟩:=q
 try dsimp only at w
 refine ⟨ρ,F,R,?_⟩;cases er:ga ρ with
 | stuck=>rw[er] at w;exact w
 | exc c=>rw[er] at w;exact w
 | ok m d =>
  rw[er] at w;cases d with
  | int i=>intro v F' H' st rp _;cases rp.int;exact ⟨i,rfl,w _ F' H' st (bQ _) (by intro z;cases z)⟩
  | _=>exact w.elim
def ixD:Md->D->Md->D->Option (Md×D):=λ_ x _ y=>match x,y with
 | .lst ds,.int i=>(atI ds i).map λd=>(.fz,d)
 | .tup ds,.int i=>(atI ds i).map λd=>(.fz,d)
 | .str z,.int i=>(atI z.cps.toList i).map λc=>(.fz,.str ⟨#[c]⟩)
 | _,_=>none
theorem aC.atI{K:Fg}{F:Hp}{ds:List D}{xs:List V}{i:Int}{d:D}(h:aC K F ds xs)(e:atI ds i=some d):∃ x,L2.atI xs i=some x/\aB K F d x:=by
 unfold L2.atI at *;rw[h.length];cases q:ixN ds.length i with
 | none=>rw[q] at e;cases e
 | some j=>rw[q] at e;exact h.get' e
theorem aDT{F H:Hp}{m n k:Md}{x y d:D}{v u:V}{Q:VK}(s:aD F H)(rx:Rp X.K F H m x v)(ry:Rp X.K F H n y u)(e:ixD m x n y=some (k,d))(w:∀ v' F' H',aI F H F' H'->Rp X.K F' H' k d v'->(k=.fr->∀ a,v'=.ref a->H a=none)->Q v' H'):rIx X.K v u H Q:=by
 unfold ixD at e;split at e
 . rename_i ds i;cases ry.int;obtain ⟨p,xs,rfl,hq,r⟩:=rx.seqL s;cases ei:atI ds i with
   | none=>rw[ei] at e;cases e
   | some d'=>rw[ei] at e;cases e;obtain ⟨x',ex,rx'⟩:=r.atI ei;exact .inl ⟨p,xs,i,x',rfl,rfl,hq,ex,w x' F H (.refl s) rx' (by intro z;cases z)⟩
 . rename_i ds i;cases ry.int;obtain ⟨p,xs,rfl,hq,r⟩:=rx.seqT s;cases ei:atI ds i with
   | none=>rw[ei] at e;cases e
   | some d'=>rw[ei] at e;cases e;obtain ⟨x',ex,rx'⟩:=r.atI ei;exact .inr (.inl ⟨p,xs,i,x',rfl,rfl,hq,ex,w x' F H (.refl s) rx' (by intro z;cases z)⟩)
 . rename_i z i;cases ry.int;obtain ⟨rfl,hl,hk⟩:=rx.str;cases ei:atI z.cps.toList i with
   | none=>rw[ei] at e;cases e
   | some c =>
    rw[ei] at e;cases e;refine .inr (.inr ⟨z,i,c,rfl,rfl,hl,ei,w _ F H (.refl s) (fB ⟨?_,?_⟩) (by intro z;cases z)⟩)
    . show 1<=sizeLine;decide
    . obtain ⟨j,_,hj,_⟩:=lG ei;unfold PyData.strOk at hk ⊢;rw[aS7] at hk;have hc:=hk c (by rw[<- aRV];exact aSG hj)
      simpa using hc
 . cases e
theorem pv_ix(ha:PV C X a ga)(hb:PV C X b gb)(hs:nS b:=by intro _ _;rfl):PV C X (.Subscript a b pos) (λρ=>op2 ixD (ga ρ) (gb ρ)):=by exact PE.imp (pe_ix aB6 ha hb hs) λσ H Q q=>lN (λF H m x n y v u k d Q s rx ry e w=>aDT s rx ry e w) q
theorem aDU:SlR X (λx lo hi H Q=>∃ z,x=.str z/\z.length<=sizeLine/\Q (.str (Txt.slice z lo hi)) H):=by
 intro aA s σ H x v vl vu lo hi sl Q I rx hs pl pu h;obtain ⟨z,rfl,hz,q⟩:=h;obtain ⟨t,rfl⟩:=rx;refine ⟨"str", _,PySem.F.slot_str_getitem.lookup,typeIs_str _ _ _,?_⟩;have fin:∀ t' k,EP X aA σ Q (.str (Txt.slice z lo hi) t') { s with toks:=k }:=λt' k=>⟨.str (Txt.slice z lo hi),H,I.tok _,⟨_,rfl⟩,q⟩
 cases pl with
 | none =>
  cases pu with
  | none=>exact aS8 (l:=none) (u:=none) (st:=none) hs rfl (aS9 ⟨aQ8 (aTA z _ _) hz,λt' k=>fin t' k⟩)
  | int j tj=>exact aS8 (l:=none) (u:=some (j,tj)) (st:=none) hs rfl (aS9 ⟨aQ8 (aTA z _ _) hz,λt' k=>fin t' k⟩)
 | int i ti =>
  cases pu with
  | none=>exact aS8 (l:=some (i,ti)) (u:=none) (st:=none) hs rfl (aS9 ⟨aQ8 (aTA z _ _) hz,λt' k=>fin t' k⟩)
  | int j tj=>exact aS8 (l:=some (i,ti)) (u:=some (j,tj)) (st:=none) hs rfl (aS9 ⟨aQ8 (aTA z _ _) hz,λt' k=>fin t' k⟩)
theorem aDV{z:Str}{lo hi:Option Int}(h:PyData.strOk z=true):PyData.strOk (Txt.slice z lo hi)=true:=by
 unfold Txt.slice;split
 . exact h
 . unfold PyData.strOk at *;rw[aS7] at h ⊢;intro c hc;rw[<- aRV,List.toList_toArray,aRQ] at hc;obtain ⟨j,_,hj⟩:=hc;exact h c (aTB hj)
def POv(C:Cw)(X:Cx):Option Expr->Option (Rho->Res)->Prop
 | none,none=>True
 | some e,some g=>PV C X e g
 | _,_=>False
def tO(C:Cw):Option (Rho->Res)->TO
 | none=>sR
 | some g=>lF (tG C g)
theorem tP{e:Option Expr}{g:Option (Rho->Res)}(h:POv C X e g):PO X e (tO (C.at X) g):=by
 cases e with
 | none=>cases g with
  | none=>exact aBY
  | some g=>exact h.elim
 | some e=>cases g with
  | none=>exact h.elim
  | some g=>exact aBZ h
def cG(g:Option (Rho->Res))(ρ:Rho)(k:Option Int->Res):Res:=match g with
 | none=>k none
 | some g=>(g ρ).thn λ_ d=>match d with | .int i=>k (some i) | _=>.stuck
theorem hZ{F H:Hp}{σ:L2.St}{g:Option (Rho->Res)}{ρ:Rho}{k:Option Int->Res}{Q:VK}{R:Option Int->Hp->Prop}(RS:aX C.K C.F0 C.H0 F H σ ρ)(w:aS C F H σ (cG g ρ k) Q)(h:∀ i F' H',aI F H F' H'->aX C.K C.F0 C.H0 F' H' σ ρ->aS C F' H' σ (k i) Q->R i H'):tO C g σ H R:=by
 cases g with
 | none=>exact h none F H (.refl RS.sub) RS w
 | some g =>
  show lF (tG C g) σ H R;unfold lF;rw[aU];refine ⟨ρ,F,RS,?_⟩;have w:aS C F H σ ((g ρ).thn λ_ d=>match d with | .int i=>k (some i) | _=>.stuck) Q:=w
  cases er:g ρ with
  | stuck=>rw[er] at w;exact w
  | exc c=>rw[er] at w;exact w
  | ok m d =>
   rw[er] at w;intro v F' H' st rp _;cases d with
   | int i=>cases rp.int;exact ⟨i,rfl,h (some i) F' H' st (RS.step st) (aS.step st w)⟩
   | _=>exact (show False from w).elim
end
inductive aG where
 | ok (xs:List (Md×D)) | exc (c:Str) | stuck
def RpL(K:Fg)(F H:Hp):List (Md×D)->List V->Prop
 | [],vs=>vs=[]
 | (m,d)::r,vs=>∃ v us,vs=v::us/\Rp K F H m d v/\RpL K F H r us
def aG.thn(r:aG)(k:List (Md×D)->Res):Res:=match r with
 | .ok xs=>k xs
 | .exc c=>.exc c
 | .stuck=>.stuck
@[simp] theorem aG.thn_ok(xs:List (Md×D))(k:List (Md×D)->Res):(aG.ok xs).thn k=k xs:=rfl
@[simp] theorem aG.thn_exc(c:Str)(k:List (Md×D)->Res):(aG.exc c).thn k=.exc c:=rfl
@[simp] theorem aG.thn_stuck(k:List (Md×D)->Res):aG.stuck.thn k=.stuck:=rfl
def jJ(C:Cw)(F H:Hp)(σ:L2.St)(r:aG)(Q:List V->Hp->Prop):Prop:=match r with
 | .ok xs=>∀ vs F' H',aI F H F' H'->RpL C.K F' H' xs vs->Q vs H'
 | .exc c=>∀ F' H',aI F H F' H'->C.EE c σ H'
 | .stuck=>False
theorem jJ.step{C:Cw}{F H F1 H1:Hp}{σ:L2.St}{r:aG}{Q:List V->Hp->Prop}(st:aI F H F1 H1)(h:jJ C F H σ r Q):jJ C F1 H1 σ r Q:=by
 cases r with
 | ok m=>exact λv F' H' s2 rp=>h v F' H' (st.trans s2) rp
 | exc c=>exact λF' H' s2=>h F' H' (st.trans s2)
 | stuck=>exact h
def tAv(C:Cw)(g:Rho->aG):TA:=λσ H Q=>∃ ρ F,aX C.K C.F0 C.H0 F H σ ρ/\jJ C F H σ (g ρ) Q
def PAv(C:Cw)(X:Cx)(es:List Expr)(g:Rho->aG):Prop:=PA X es (tAv (C.at X) g)
theorem PA.imp{X:Cx}{e:List Expr}{t t':TA}(h:PA X e t)(i:∀ σ H Q,t' σ H Q->t σ H Q):PA X e t':=λp aA s σ H Q I q=>h p aA s σ H Q I (i σ H Q q)
def aN(x:Res)(y:aG):aG:=match x with
 | .ok m d=>(match y with | .ok r=>.ok ((m,d)::r) | .exc c=>.exc c | .stuck=>.stuck)
 | .exc c=>.exc c
 | .stuck=>.stuck
@[simp] theorem aDW(m:Md)(d:D)(r:List (Md×D)):aN (.ok m d) (.ok r)=.ok ((m,d)::r):=rfl
section
variable {C:Cw}{X:Cx}{a b c e:Expr}{es:List Expr}{ga gb gc g:Rho->Res}{gs:Rho->aG}{pos p:Pos}{x:Str}
theorem iA:PAv C X [] (λ_=>.ok []):=PA.imp aBK λσ H Q q=>by obtain ⟨ρ,F,R,w⟩:=q;exact w [] F H (.refl R.sub) rfl
theorem gN(ha:PV C X e g)(hr:PAv C X es gs)(hs:starEach (e::es) X.env=(false,eval e X.env)::starEach es X.env:=by rfl):PAv C X (e::es) (λρ=>aN (g ρ) (gs ρ)):=by
 refine PA.imp (aBL ha hr hs) λσ H Q q=>?_;unfold sD;obtain ⟨ρ,F,R,w⟩:=q;dsimp only at w;rw[aU];refine ⟨ρ,F,R,?_⟩;cases er:g ρ with
 | stuck=>rw[er] at w;exact w
 | exc c=>rw[er] at w;exact w
 | ok m d =>
  rw[er] at w;intro v F1 H1 s1 r1 _;refine ⟨ρ,F1,R.step s1,?_⟩;have w1:=jJ.step s1 w;cases es':gs ρ with
  | stuck=>rw[es'] at w1;exact w1
  | exc c=>rw[es'] at w1;exact w1
  | ok r=>rw[es'] at w1;intro vs F2 H2 s2 r2;exact w1 (v::vs) F2 H2 s2 ⟨v,vs,rfl,r1.step s2,r2⟩
def bX:List (Md×D)->Option (List D)
 | []=>some []
 | (.fz,d)::r=>(bX r).map (d :: ·)
 | _::_=>none
theorem RpL.fz{K:Fg}{F H:Hp}:∀ {xs:List (Md×D)} {vs:List V} {ds:List D},RpL K F H xs vs->bX xs=some ds->aC K F ds vs
 | [],_,_,h,e=>by cases e;rw[show _=[] from h];exact aC.nil
 | (.fz,d)::r,_,_,h,e=>by
  obtain ⟨v,us,rfl,r1,r2⟩:=h;unfold bX at e;cases q:bX r with
  | none=>rw[q] at e;cases e
  | some ds'=>rw[q] at e;cases e;exact aC.cons r1 (RpL.fz r2 q)
 | (.fr,d)::r,_,_,h,e=>by cases e
 | (.bo,d)::r,_,_,h,e=>by cases e
def gO(r:aG):Res:=r.thn λxs=>match bX xs with | some ds=>if ds.length<=sizeLine then .ok .fz (.tup ds) else .stuck | none=>.stuck
def dM(r:aG):Res:=r.thn λxs=>match bX xs with | some ds=>if ds.length<=sizeLine then .ok .fr (.lst ds) else .stuck | none=>.stuck
theorem aB.tup_of{K:Fg}{F:Hp}{p:Addr}{ds:List D}{xs:List V}(hp:F p=none)(r:aC K F ds xs):aB K (upd F p (.tup xs)) (.tup ds) (.ref p):=by simp only[aB];exact ⟨p,xs,rfl,SqT.of bI,r.mono (λb u q=>by rw[aR (cB q hp)];exact q) _ _⟩
theorem aDX{x1}(h:PAv C X es gs):PV C X (.Tuple es x1 pos) (λρ=>gO (gs ρ)):=by
 refine PE.imp (aBM h) λσ H Q q=>?_;unfold tTup;rw[aU] at q;obtain ⟨ρ,F,R,w⟩:=q;refine ⟨ρ,F,R,?_⟩;cases er:gs ρ with
 | stuck=>rw[er] at w;exact w
 | exc c=>rw[er] at w;exact w
 | ok xs =>
  rw[er] at w;intro vs F1 H1 s1 r1;have w1:aS (C.at X) F1 H1 σ (match bX xs with | some ds=>if ds.length<=sizeLine then .ok .fz (.tup ds) else .stuck | none=>.stuck) Q:=aS.step s1 w
  cases ef:bX xs with
  | none=>rw[ef] at w1;exact w1.elim
  | some ds =>
   rw[ef] at w1;dsimp only at w1;split at w1
   . rename_i hl;have r2:=r1.fz ef;refine ⟨by rw[r2.length];exact hl,λp hp=>?_⟩
     exact w1 (.ref p) _ _ (aI.laid (.tup vs) s1.sub hp) (aB.tup_of (s1.sub.free hp) r2) (by intro z;cases z)
   . exact w1.elim
theorem aDY(h:PAv C X es gs):PV C X (.List es pos) (λρ=>dM (gs ρ)):=by
 refine PE.imp (aBN h) λσ H Q q=>?_;unfold tLst;rw[aU] at q;obtain ⟨ρ,F,R,w⟩:=q;refine ⟨ρ,F,R,?_⟩;cases er:gs ρ with
 | stuck=>rw[er] at w;exact w
 | exc c=>rw[er] at w;exact w
 | ok xs =>
  rw[er] at w;intro vs F1 H1 s1 r1;have w1:aS (C.at X) F1 H1 σ (match bX xs with | some ds=>if ds.length<=sizeLine then .ok .fr (.lst ds) else .stuck | none=>.stuck) Q:=aS.step s1 w
  cases ef:bX xs with
  | none=>rw[ef] at w1;exact w1.elim
  | some ds =>
   rw[ef] at w1;dsimp only at w1;split at w1
   . rename_i hl;have r2:=r1.fz ef;refine ⟨by rw[r2.length];exact hl,λp hp=>?_⟩
     refine w1 (.ref p) F1 _ (aI.fresh (.lst vs) s1.sub hp) ⟨p,rfl,s1.sub.free hp,vs,bI,r2⟩ λ_ a ea=>by cases ea;exact hp
   . exact w1.elim
def fP:D->Option Key
 | .int i=>some (.inl i)
 | .str x=>some (.inr x)
 | _=>none
theorem n5{K:Fg}{F H:Hp}{m:Md}{d:D}{k:Key}{v:V}(e:fP d=some k)(r:Rp K F H m d v):v=kV k:=by
 cases d with
 | int i=>cases e;exact r.int
 | str x=>cases e;exact r.str.1
 | _=>cases e
def aZ(X:Cx)(f:Value)(φ:List (Md×D)->Option (Md×D)):Prop :=
 ∃ r:List V->Hp->VK->Prop,cC X f r/\∀ F H xs vs k d Q,aD F H->RpL X.K F H xs vs->φ xs=some (k,d) ->
  (∀ v' F' H',aI F H F' H'->Rp X.K F' H' k d v'->(k=.fr->∀ a,v'=.ref a->H a=none)->Q v' H')->r vs H Q
def c8(φ:List (Md×D)->Option (Md×D))(r:aG):Res:=r.thn λxs=>Res.of (φ xs)
theorem tQ{φ:List (Md×D)->Option (Md×D)}{r:List V->Hp->VK->Prop}(h:∀ F H xs vs k d Q,aD F H->RpL C.K F H xs vs->φ xs=some (k,d)->(∀ v' F' H',aI F H F' H'->Rp C.K F' H' k d v'->(k=.fr->∀ a,v'=.ref a->H a=none)->Q v' H')->r vs H Q){σ:L2.St}{H:Hp}{Q:VK}(q:tG C (λρ=>c8 φ (gs ρ)) σ H Q):tCB r (tAv C gs) σ H Q:=by
 unfold tCB;rw[aU] at q;obtain ⟨ρ,F,R,w⟩:=q;refine ⟨ρ,F,R,?_⟩;cases er:gs ρ with
 | stuck=>rw[er] at w;exact w
 | exc c=>rw[er] at w;exact w
 | ok xs =>
  rw[er] at w;intro vs F1 H1 s1 r1;have w1:aS C F1 H1 σ (Res.of (φ xs)) Q:=aS.step s1 w;cases ef:φ xs with
  | none=>rw[ef] at w1;exact w1.elim
  | some kd=>obtain ⟨k,d⟩:=kd;rw[ef] at w1;exact h F1 H1 xs vs k d Q s1.sub r1 ef w1
theorem n6{id:String}{φ}(o:aZ X (.builtin id) φ)(hg:Gl X x)(hm:X.mg x=none)(hv:bootBuiltins x=some (.builtin id))(ha:PAv C X (e::es) gs)(hn:x ≠ "__name__" := by decide)(hdb:(x==("__debug__" : Str))=false:=by decide)(he:starEach (e::es) X.env=(false,eval e X.env)::starEach es X.env:=by rfl)(hpl:(backTo pos (starEach es X.env)).any (·.1)=false:=by rfl):PV C X (.Call (.Name x p) (e::es) [] pos) (λρ=>c8 φ (gs ρ)):=by obtain ⟨r,h1,h2⟩:=o;exact PE.imp (aBP h1 hg hm hv ha hn hdb he hpl) λσ H Q q=>tQ h2 q
def aZ.or'(φ ψ:List (Md×D)->Option (Md×D)):List (Md×D)->Option (Md×D):=λxs=>(φ xs).orElse λ_=>ψ xs
theorem aZ.or{f:Value}{φ ψ}(h:aZ X f φ)(h':aZ X f ψ):aZ X f (aZ.or' φ ψ):=by
 obtain ⟨r,h1,h2⟩:=h;obtain ⟨r',h1',h2'⟩:=h';refine ⟨_,cC.or h1 h1',λF H xs vs k d Q s rx e w=>?_⟩;unfold aZ.or' at e;cases e1:φ xs with
 | none=>rw[e1] at e;exact .inr (h2' F H xs vs k d Q s rx e w)
 | some p=>rw[e1] at e;cases e;exact .inl (h2 F H xs vs k d Q s rx e1 w)
def fQ:List (Md×D)->Option (Md×D)
 | [(_,.str z)]=>some (.fz,.int z.length)
 | [(_,.lst ds)]=>some (.fz,.int ds.length)
 | [(_,.tup ds)]=>some (.fz,.int ds.length)
 | _=>none
theorem RpL.one{K:Fg}{F H:Hp}{m:Md}{d:D}{vs:List V}(h:RpL K F H [(m,d)] vs):∃ v,vs=[v]/\Rp K F H m d v:=by obtain ⟨v,us,rfl,r,e⟩:=h;exact ⟨v,by rw[show us=[] from e],r⟩
theorem RpL.two{K:Fg}{F H:Hp}{m n:Md}{d e:D}{vs:List V}(h:RpL K F H [(m,d),(n,e)] vs):∃ v u,vs=[v,u]/\Rp K F H m d v/\Rp K F H n e u:=by obtain ⟨v,us,rfl,r,v',us',rfl,r',e⟩:=h;exact ⟨v,v',by rw[show us'=[] from e],r,r'⟩
theorem aDZ:aZ X (.builtin "len") fQ:=by
 refine ⟨_,aA3,λF H xs vs k d Q s rx e w=>?_⟩;unfold fQ at e;split at e
 . rename_i m z;cases e;obtain ⟨v,rfl,r⟩:=rx.one;obtain ⟨rfl,hz,_⟩:=r.str;exact ⟨_,z.length,rfl,⟨hz,rfl⟩,w _ F H (.refl s) (bQ _) (by intro z;cases z)⟩
 . rename_i m ds;cases e;obtain ⟨v,rfl,r⟩:=rx.one;obtain ⟨a,xs,rfl,q,rl⟩:=r.seqL s;exact ⟨_,xs.length,rfl,.inl ⟨xs,q,rfl⟩,by rw[rl.length];exact w _ F H (.refl s) (bQ _) (by intro z;cases z)⟩
 . rename_i m ds;cases e;obtain ⟨v,rfl,r⟩:=rx.one;obtain ⟨a,xs,rfl,q,rl⟩:=r.seqT s;exact ⟨_,xs.length,rfl,.inr ⟨xs,q,rfl⟩,by rw[rl.length];exact w _ F H (.refl s) (bQ _) (by intro z;cases z)⟩
 . cases e
def tyN:D->Option String
 | .non=>some "NoneType" | .bl _=>some "bool" | .int _=>some "int" | .str _=>some "str" | .tup _=>some "tuple" | .lst _=>some "list" | .dct _=>some "dict" | _=>none
def jK(t c:String):Option Bool:=if ["int", "bool", "str", "list", "tuple", "dict"].contains c=true then some (t==c||(t == "bool" && c == "int")) else none
def cH:List (Md×D)->Option (Md×D)
 | [(_,d),(_,.ty c)]=>match tyN d with | some t=>(jK t c).map λb=>(.fz,.bl b) | none=>none
 | _=>none
theorem aD0{K:Fg}{d:D}{t c:String}{b:Bool}(ht:tyN d=some t)(e:jK t c=some b):PySem.W.kitOne K (.type t) (.type c)=some b:=by
 unfold jK at e;split at e
 . rename_i hc;simp only[List.contains_cons,List.contains_nil,Bool.or_false,aS6,aRY] at hc;cases e;have ht':t = "NoneType" \/ t = "bool" \/ t = "int" \/ t = "str" \/ t = "tuple" \/ t = "list" \/ t = "dict" := by cases d <;> cases ht <;> simp
   rcases hc with rfl | rfl | rfl | rfl | rfl | rfl <;> rcases ht' with rfl | rfl | rfl | rfl | rfl | rfl | rfl <;> rfl
 . cases e
theorem aD1:aZ X (.builtin "isinstance") cH:=by
 refine ⟨λvs H Q=>∃ (F:Hp) (m:Md) (d:D) (v:V) (t c:String) (b:Bool),aD F H/\Rp X.K F H m d v/\vs=[v,.ty c]/\tyN d=some t/\jK t c=some b/\Q (.bl b) H,?_,?_⟩
 . intro aA s σ H xs us Q I r h;obtain ⟨F,m,d,v,t,c,b,sF,rp,rfl,ht,hb,q⟩:=h;obtain ⟨u,u',rfl,ru,ru'⟩:=r8 r;cases (show u'=Value.type c from ru')
   have e:=aD0 (K:=X.K) ht hb;have fin:∀ tk,EP X aA σ Q (.bool b) { s with toks:=tk }:=λtk=>⟨.bl b,H,I.tok _,rfl,q⟩
   cases d with
   | non=>cases rp.non;cases ht;cases (show u=Value.none from ru);exact aTC PySem.W.kitx_none I.kIn True.intro e (λz=>nomatch z) fin
   | bl y=>cases rp.bl;cases ht;cases (show u=Value.bool y from ru);exact aTC PySem.W.kitx_bool I.kIn True.intro e (λz=>nomatch z) fin
   | int i=>cases rp.int;cases ht;obtain ⟨t,q⟩:=(show ∃ t,u=Value.int i t from ru);cases q;exact aTC PySem.W.kitx_int I.kIn True.intro e (λz=>nomatch z) fin
   | str y=>obtain ⟨rfl,_⟩:=rp.str;cases ht;obtain ⟨t,q⟩:=(show ∃ t,u=Value.str y t from ru);cases q;exact aTC PySem.W.kitx_str I.kIn True.intro e (λz=>nomatch z) fin
   | tup ds =>
    obtain ⟨a,xs,rfl,hq,_⟩:=rp.seqT sF;cases ht;cases (show u=Value.ref a from ru)
    obtain ⟨its,_,⟨o,h1,h2,_⟩,_⟩:=I.tuple hq;exact aTC PySem.W.kitx_tuple I.kIn ⟨o,h1,h2⟩ e (λz=>nomatch z) fin
   | lst ds =>
    obtain ⟨a,xs,rfl,hq,_⟩:=rp.seqL sF;cases ht;cases (show u=Value.ref a from ru)
    obtain ⟨its,_,⟨o,n,h1,h2,_⟩,_⟩:=I.list hq;exact aTC PySem.W.kitx_list I.kIn ⟨o,h1,h2⟩ e (λz=>nomatch z) fin
   | dct ds =>
    obtain ⟨a,xs,rfl,hq,_⟩:=rp.dict sF;cases ht;cases (show u=Value.ref a from ru)
    obtain ⟨_,_,vs,_,p⟩:=(show bL X.prog X.w H s.heap a (.dK xs) from I.hok a _ hq)
    obtain ⟨o,es,ep,h1,h2,_⟩:=p;exact aTC PySem.W.kitx_dict I.kIn ⟨o,h1,h2.1⟩ e (λz=>nomatch z) fin
   | _=>cases ht
 . intro F H xs vs k d Q s rx e w;unfold cH at e;split at e
   . rename_i m d' n c;obtain ⟨v,u,rfl,r1,r2⟩:=rx.two;cases r2.ty;cases et:tyN d' with
     | none=>rw[et] at e;cases e
     | some t =>
      rw[et] at e;dsimp only at e;cases eb:jK t c with
      | none=>rw[eb] at e;cases e
      | some b=>rw[eb] at e;cases e;exact ⟨F,m,d',v,t,c,b,s,r1,rfl,et,eb,w _ F H (.refl s) (cA _) (by intro z;cases z)⟩
   . cases e
theorem pv_ty{T:String}(hg:Gl X x)(hm:X.mg x=none)(hv:bootBuiltins x=some (.type T))(hn:x ≠ "__name__" := by decide)(hd:(x==("__debug__" : Str))=false:=by decide):PV C X (.Name x pos) (λ_=>.ok .fz (.ty T)) :=
 gK _ (zM (v:=.ty T) hg hm hv rfl hn hd) λ_ _=>rp_ty T
theorem aD2{y:Str}{t:Tok}(hg:Gl X x)(hm:X.mg x=some (.str y t))(h:(decide (y.length<=sizeLine)&&PyData.strOk y)=true:=by decide +kernel)(hd:(x==("__debug__" : Str))=false:=by decide):PV C X (.Name x pos) (λ_=>.ok .fz (.str y)) :=
 gK _ (rR (v:=.str y) hg hm ⟨t,rfl⟩ hd) λ_ _=>fB (by rw[aSR,aS4] at h;exact h)
theorem aD3{y:Int}{t:Tok}(hg:Gl X x)(hm:X.mg x=some (.int y t))(hd:(x==("__debug__" : Str))=false:=by decide):PV C X (.Name x pos) (λ_=>.ok .fz (.int y)) :=
 gK _ (rR (v:=.int y) hg hm ⟨t,rfl⟩ hd) λ_ _=>bQ _
def eS:List D->Option (List Bool)
 | []=>some []
 | .bl b::r=>(eS r).map (b :: ·)
 | _=>none
def jL:List (Md×D)->Option (Md×D)
 | [(_,.lst ds)]=>(eS ds).map λbs=>(.fz,.bl (bs.all id))
 | _=>none
theorem tR{K:Fg}{F:Hp}:∀ {ds:List D} {xs:List V} {bs:List Bool},aC K F ds xs->eS ds=some bs->xs=bs.map V.bl
 | [],_,_,h,e=>by cases e;simp only[aC] at h;exact h
 | d::ds,_,_,h,e=>by
  simp only[aC] at h;obtain ⟨y,ys,rfl,r,t⟩:=h;cases d with
  | bl b =>
   unfold eS at e;cases q:eS ds with
   | none=>rw[q] at e;cases e
   | some bs=>rw[q] at e;cases e;simp only[aB] at r;subst r;rw[tR t q];rfl
  | _=>cases e
theorem aD4(bs:List Bool):(List.range bs.length).all (λi=>bs.getD i true)=bs.all id:=by
 rw[Bool.eq_iff_iff,aTD,aTD];constructor
 . intro h b hb;obtain ⟨i,hi,e⟩:=List.getElem_of_mem hb;have:=h i (aQ7.mpr hi);rw[aTE,aTF hi] at this;rw[<- e];exact this
 . intro h i hi;have hi:=aQ7.mp hi;rw[aTE,aTF hi];exact h _ (aTG hi)
theorem aD5{prog:Program}{w:World}{aA:LAO}{σ:L2.St}{H:Hp}{s:Shared}{a:Addr}{bs:List Bool}(hc:X.calm=true)(I:Inv X aA σ H s)(hq:SqL X.K H a (bs.map V.bl)){E:VSP}{Q:VSP}(h:∀ (it:Value) (s2:Shared),(∃ I' fp wr n P St tr,it=.ref I'/\Walks prog w X.A.in1 I' fp wr n P St/\St 0 s2.heap/\TruthOf prog w X.A.in1 P tr/\n=bs.length/\(∀ i,tr i=bs.getD i true)/\∀ h' tk,(∀ b o,b∉wr->s2.heap.get? b=some o->h'.get? b=some o)->∃ s3:Shared,s3={ s2 with heap:=h',toks:=tk }/\Inv X aA σ H s3)->Q it s2):wpAny (model prog w) X.A.in1 (pyIter (.ref a)) Q E s:=by
 obtain ⟨its,rv,p,hz⟩:=I.list hq;have hlen:=rv.length;rw[aR2] at hlen;refine aRM p.isList (h _ _ ⟨s.heap.objs.size,_,_,_,_,_,λi=>bs.getD i true,rfl,Walks.list (by show X.A.handled=none;exact I.ok.hd hc) s.heap.objs.size a ?_ its.toArray,⟨⟨_,aQ0 _ rfl,rfl,rfl⟩,?_⟩,?_,?_,λ_=>rfl,?_⟩)
 . obtain ⟨o,n,e,_⟩:=p;exact aQ4 (aQ1 e)
 . obtain ⟨o,n,e,c,d,dd⟩:=p;exact ⟨o,hps e,c,n,dd⟩
 . intro i v s' Q' E' hP hQ;have hv:its[i]? = some v:=by simpa using hP
   have hi:i<bs.length:=by rw[hlen];exact (aRC.mp hv).1
   have hx:(bs.map V.bl)[i]? = some (V.bl bs[i]):=by rw[aSF,aTF hi];rfl
   obtain ⟨u,hu,ru⟩:=rv.get hx;rw[hv] at hu;cases hu;cases (show v=Value.bool _ from ru)
   have hQ:Q' (bs.getD i true) s':=hQ;rw[aTE,aTF hi] at hQ;exact aRH hQ
 . rw[aRU,hlen]
 . intro h' tk hk;refine ⟨_,rfl,?_⟩;refine (I.kept (t':=tk) (h':=h') λb o e=>?_)
   refine hk b o (by intro hb; have : b = s.heap.objs.size := by simpa using hb
                     subst this;exact absurd (aQ1 e) (aQ3 _)) (hps e)
theorem aD6(hc:X.calm=true):aZ X (.builtin "all") jL:=by
 refine ⟨λvs H Q=>∃ (a:Addr) (bs:List Bool),vs=[.ref a]/\SqL X.K H a (bs.map V.bl)/\Q (.bl (bs.all id)) H,?_,?_⟩
 . intro aA s σ H xs us Q I r h;obtain ⟨a,bs,rfl,hq,q⟩:=h;obtain ⟨u,rfl,ru⟩:=cO r;cases (show u=Value.ref a from ru)
   refine call_all_walk (aD5 hc I hq λit s2 hh=>?_);obtain ⟨I',fp,wr,n,P,St,tr,rfl,W,st,T,rfl,htr,fin⟩:=hh;refine ⟨I',fp,wr,_,P,St,tr,rfl,W,st,T,λh' tk hk=>?_⟩;obtain ⟨s3,rfl,I3⟩:=fin h' tk hk;have e:(List.range bs.length).all tr=bs.all id:=by rw[<- aD4];congr 1;funext i;exact htr i
   rw[e];exact ⟨.bl (bs.all id),H,I3,rfl,q⟩
 . intro F H xs vs k d Q s rx e w;unfold jL at e;split at e
   . rename_i m ds;obtain ⟨v,rfl,r⟩:=rx.one;obtain ⟨a,xs,rfl,hq,rl⟩:=r.seqL s;cases eb:eS ds with
     | none=>rw[eb] at e;cases e
     | some bs=>rw[eb] at e;cases e;have:=tR rl eb;subst this;exact ⟨a,bs,rfl,hq,w _ F H (.refl s) (cA _) (by intro z;cases z)⟩
   . cases e
end
inductive aK where
 | nx (ρ:Rho) | rt (m:Md) (d:D) | bk (ρ:Rho) | ct (ρ:Rho) | exc (c:Str) (ρ:Rho) | stuck
def bY(C:Cw)(Fa:Hp)(r:aK)(E:d8):Prop:=match r with
 | .nx ρ=>∀ σ F H,aD Fa F->aX C.K C.F0 C.H0 F H σ ρ->E.nx σ H
 | .bk ρ=>∀ σ F H,aD Fa F->aX C.K C.F0 C.H0 F H σ ρ->E.bk σ H
 | .ct ρ=>∀ σ F H,aD Fa F->aX C.K C.F0 C.H0 F H σ ρ->E.ct σ H
 | .exc c ρ=>∀ σ F H,aD Fa F->aX C.K C.F0 C.H0 F H σ ρ->C.EE c σ H
 | .rt m d=>∀ v F H,aI C.F0 C.H0 F H->Rp C.K F H m d v->(m=.fr->∀ a,v=.ref a->C.H0 a=none)->E.rt v H
 | .stuck=>False
theorem bY.mono{C:Cw}{F F1:Hp}{r:aK}{E:d8}(s:aD F F1)(w:bY C F r E):bY C F1 r E:=by
 cases r with
 | nx ρ=>exact λσ F' H' z R=>w σ F' H' (s.trans z) R
 | bk ρ=>exact λσ F' H' z R=>w σ F' H' (s.trans z) R
 | ct ρ=>exact λσ F' H' z R=>w σ F' H' (s.trans z) R
 | exc c ρ=>exact λσ F' H' z R=>w σ F' H' (s.trans z) R
 | rt m d=>exact w
 | stuck=>exact w
def tH(C:Cw)(g:Rho->aK):TS:=λE σ H=>∃ ρ F,aX C.K C.F0 C.H0 F H σ ρ/\bY C F (g ρ) E
def PSv(C:Cw)(X:Cx)(st:Stmt)(g:Rho->aK):Prop:=PS X st (tH (C.at X) g)
def PBv(C:Cw)(X:Cx)(st:List Stmt)(g:Rho->aK):Prop:=PSs X st (tH (C.at X) g)
theorem PS.imp{X:Cx}{e:Stmt}{t t':TS}(h:PS X e t)(i:∀ E σ H,t' E σ H->t E σ H):PS X e t':=λaA s σ H E I q=>h aA s σ H E I (i E σ H q)
theorem PSs.imp{X:Cx}{e:List Stmt}{t t':TS}(h:PSs X e t)(i:∀ E σ H,t' E σ H->t E σ H):PSs X e t':=λaA s σ H E I q=>h aA s σ H E I (i E σ H q)
def aK.thn(r:aK)(k:Rho->aK):aK:=match r with
 | .nx ρ=>k ρ
 | r=>r
@[simp] theorem aK.thn_nx(ρ:Rho)(k:Rho->aK):(aK.nx ρ).thn k=k ρ:=rfl
@[simp] theorem aK.thn_rt(m:Md)(d:D)(k:Rho->aK):(aK.rt m d).thn k=.rt m d:=rfl
@[simp] theorem aK.thn_bk(ρ:Rho)(k:Rho->aK):(aK.bk ρ).thn k=.bk ρ:=rfl
@[simp] theorem aK.thn_ct(ρ:Rho)(k:Rho->aK):(aK.ct ρ).thn k=.ct ρ:=rfl
@[simp] theorem aK.thn_exc(c:Str)(ρ:Rho)(k:Rho->aK):(aK.exc c ρ).thn k=.exc c ρ:=rfl
@[simp] theorem aK.thn_stuck(k:Rho->aK):aK.stuck.thn k=.stuck:=rfl
section
variable {C:Cw}{X:Cx}{a b c e:Expr}{es:List Expr}{ga gb gc g:Rho->Res}{gs:Rho->aG}{pos p:Pos}{x:Str}{st:Stmt}{sts:List Stmt}{h1 h2:Rho->aK}
theorem aD7:PBv C X [] (λρ=>.nx ρ):=PSs.imp nJ λE σ H q=>by obtain ⟨ρ,F,R,w⟩:=q;exact w σ F H (aD.refl _) R
theorem aD8{E:d8}{σ:L2.St}{H:Hp}(q:tH C (λρ=>(h1 ρ).thn h2) E σ H):tSeq (tH C h1) (tH C h2) E σ H:=by
 obtain ⟨ρ,F,R,w⟩:=q;refine ⟨ρ,F,R,?_⟩;dsimp only at w;cases er:h1 ρ with
 | nx ρ'=>rw[er] at w;exact λσ' F' H' z R'=>⟨ρ',F',R',bY.mono z w⟩
 | rt m d=>rw[er] at w;exact w
 | bk ρ'=>rw[er] at w;exact w
 | ct ρ'=>rw[er] at w;exact w
 | exc c ρ'=>rw[er] at w;exact w
 | stuck=>rw[er] at w;exact w
theorem aD9(ha:PSv C X st h1)(hb:PBv C X sts h2):PBv C X (st::sts) (λρ=>(h1 ρ).thn h2):=PSs.imp (nK ha hb) λE σ H q=>aD8 q
def Res.thS(r:Res)(ρ:Rho)(k:Md->D->aK):aK:=match r with
 | .ok m d=>k m d
 | .exc c=>.exc c ρ
 | .stuck=>.stuck
@[simp] theorem Res.thS_ok(m:Md)(d:D)(ρ:Rho)(k:Md->D->aK):(Res.ok m d).thS ρ k=k m d:=rfl
@[simp] theorem Res.thS_exc(c:Str)(ρ:Rho)(k:Md->D->aK):(Res.exc c).thS ρ k=.exc c ρ:=rfl
@[simp] theorem Res.thS_stuck(ρ:Rho)(k:Md->D->aK):Res.stuck.thS ρ k=.stuck:=rfl
theorem lR{F:Hp}{σ:L2.St}{H:Hp}{ρ:Rho}{k:Md->D->aK}{E:d8}{Q:VK}(R:aX C.K C.F0 C.H0 F H σ ρ)(w:bY C F ((g ρ).thS ρ k) E)(h:∀ m d v F' H',bY C F' (k m d) E->aI F H F' H'->aX C.K C.F0 C.H0 F' H' σ ρ->Rp C.K F' H' m d v->(m=.fr->∀ a,v=.ref a->H a=none)->Q v H'):tG C g σ H Q:=by
 rw[aU];refine ⟨ρ,F,R,?_⟩;cases er:g ρ with
 | stuck=>rw[er] at w;exact w
 | exc c=>rw[er] at w;exact λF' H' s=>w σ F' H' s.fsame (R.step s)
 | ok m d=>rw[er] at w;exact λv F' H' s rp fr=>h m d v F' H' (bY.mono s.fsame w) s (R.step s) rp fr
def iB(r:Res)(ρ:Rho):aK:=r.thS ρ λm d=>match m with | .bo=>.stuck | m=>.rt m d
theorem aEA(he:PV C X e g):PSv C X (.Return (some e) pos) (λρ=>iB (g ρ) ρ):=PS.imp (rV he) λE σ H q=>by
 obtain ⟨ρ,F,R,w⟩:=q;refine lR R w λm d v F' H' w' s R' rp fr=>?_;cases m with
 | bo=>exact (show False from w').elim
 | fz=>exact w' v F' H' R'.st rp (by intro z;cases z)
 | fr=>exact w' v F' H' R'.st rp λ_ a ea=>R.st.same.free (fr rfl a ea)
def eT(ρ:Rho)(i:Nat):aK:=match ρ[i]? with
 | some (some (false,d))=>.rt .fz d
 | some (some (true,d))=>.rt .fr d
 | _=>.stuck
theorem aEB(i:Nat)(h:PE X (.Name x p) (k7 i)):PSv C X (.Return (some (.Name x p)) pos) (λρ=>eT ρ i):=PS.imp (rV h) λE σ H q=>by
 obtain ⟨ρ,F,R,w⟩:=q;dsimp only at w;unfold eT at w;cases e:ρ[i]? with
 | none=>rw[e] at w;exact w.elim
 | some o =>
  cases o with
  | none=>rw[e] at w;exact w.elim
  | some q =>
   obtain ⟨m,d⟩:=q;obtain ⟨v,e1,r,hh⟩:=R.slot i m d e;rw[e] at w;cases m with
   | false=>exact ⟨v,e1,w v F H R.st r (by intro z;cases z)⟩
   | true=>exact ⟨v,e1,w v F H R.st r λ_=>hh rfl⟩
def ifS(t:Res)(ρ:Rho)(x y:aK):aK:=t.thS ρ λ_ d=>match d with | .bl true=>x | .bl false=>y | _=>.stuck
theorem aEC{s1 s2:List Stmt}(hc:PTv C X c gc)(ha:PBv C X s1 h1)(hb:PBv C X s2 h2):PSv C X (.If c s1 s2 pos) (λρ=>ifS (gc ρ) ρ (h1 ρ) (h2 ρ)):=by
 refine PS.imp (rW hc ha hb) λE σ H q=>?_;obtain ⟨ρ,F,R,w⟩:=q;dsimp only at w;refine ⟨ρ,F,R,?_⟩;cases er:gc ρ with
 | stuck=>rw[er] at w;exact w
 | exc c=>rw[er] at w;exact λF' H' s=>w σ F' H' s.fsame (R.step s)
 | ok m d =>
  rw[er] at w;cases d with
  | bl k =>
   intro F' H' s;cases k with
   | true=>rw[if_pos rfl];exact ⟨ρ,F',R.step s,bY.mono s.fsame w⟩
   | false=>rw[if_neg aRW];exact ⟨ρ,F',R.step s,bY.mono s.fsame w⟩
  | _=>exact w.elim
def dO(ρ:Rho)(i:Nat)(r:Res):aK:=r.thS ρ λm d=>match m with
 | .fz=>.nx (ρ.set i (some (false,d)))
 | .fr=>.nx (ρ.set i (some (true,d)))
 | .bo=>.stuck
theorem aX.set{K:Fg}{F0 H0 F H F' H':Hp}{σ:L2.St}{ρ:Rho}{i:Nat}{m:Bool}{d:D}{v:V}(R0:aX K F0 H0 F H σ ρ)(s:aI F H F' H')(rp:Rp K F' H' (if m then .bo else .fz) d v)(fr:m=true->∀ a,v=.ref a->H a=none):aX K F0 H0 F' H' (σ.set i (some v)) (ρ.set i (some (m,d))):=by
 have R:=R0.step s;refine ⟨R.st,λj m' d' e=>?_,λj k d1 d2 a hjk e1 e2 q1 q2=>?_,by rw[aTH,aTH];exact R.len⟩
 . by_cases hj:j=i
   . subst hj;rw[aTI] at e;by_cases hl:j<ρ.length
     . rw[if_pos rfl,if_pos hl] at e;cases e;refine ⟨v,by rw[aTI,if_pos rfl,if_pos (by rw[R.len];exact hl)],rp,λz a ea=>R0.st.same.free (fr z a ea)⟩
     . rw[if_pos rfl,if_neg hl] at e;cases e
   . rw[aRF (λz=>hj z.symm)] at e ⊢;exact R.slot j m' d' e
 . have old:∀ (l:Nat) (d:D) (b:Addr),l≠i->ρ[l]? = some (some (true,d))->σ[l]? = some (some (.ref b))->H b≠none:=λl d b hl e q=>by obtain ⟨u,q',r,_⟩:=R0.slot l true d e;rw[q] at q';cases q';obtain ⟨b',eb,_,t⟩:=r;cases eb;exact t.there
   by_cases hj:j=i
   . subst hj;rw[aRF hjk] at e2 q2;rw[aTI] at e1 q1;by_cases hl:j<ρ.length
     . rw[if_pos rfl,if_pos hl] at e1;rw[if_pos rfl,if_pos (by rw[R.len];exact hl)] at q1
       cases e1;cases q1;exact old k d2 a (λz=>hjk z.symm) e2 q2 (fr rfl a rfl)
     . rw[if_pos rfl,if_neg hl] at e1;cases e1
   . by_cases hk:k=i
     . subst hk;rw[aRF (λz=>hjk z.symm)] at e1 q1;rw[aTI] at e2 q2;by_cases hl:k<ρ.length
       . rw[if_pos rfl,if_pos hl] at e2;rw[if_pos rfl,if_pos (by rw[R.len];exact hl)] at q2
         cases e2;cases q2;exact old j d1 a hjk e1 q1 (fr rfl a rfl)
       . rw[if_pos rfl,if_neg hl] at e2;cases e2
     . rw[aRF (λz=>hj z.symm)] at e1 q1;rw[aRF (λz=>hk z.symm)] at e2 q2;exact R.apart j k d1 d2 a hjk e1 e2 q1 q2
theorem n9{g:Rho->Res}{i:Nat}{E:d8}{σ:L2.St}{H:Hp}(q:tH (C.at X) (λρ=>dO ρ i (g ρ)) E σ H):k9 (tG (C.at X) g) (jB i) E σ H:=by
 obtain ⟨ρ,F,R,w⟩:=q;dsimp only at w;refine lR R w λm d v F' H' w' s R' rp fr=>?_;cases m with
 | bo=>exact (show False from w').elim
 | fz=>exact w' _ F' H' (aD.refl _) (R.set (m:=false) s rp (by intro z;cases z))
 | fr=>exact w' _ F' H' (aD.refl _) (R.set (m:=true) s rp λ_ a ea=>fr rfl a ea)
theorem aED{i:Nat}{pos':Pos}(hN:X.N.Nodup)(hi:X.N[i]? = some x)(hx:Loc X.env.scope x)(he:PV C X e g)(hs:swapsWith e (some (.Name x pos')) pos.line X.env=pure false:=by rfl)(hf:X.fn x=true\/X.env.scope.names.lookup x=some .local:=by first | exact .inl rfl | exact .inr rfl | assumption):PSv C X (.Assign [.Name x pos'] e pos) (λρ=>dO ρ i (g ρ)):=PS.imp (zY hN hi hx he hs hf) λE σ H q=>n9 q
end
def Its(x:Str):It:=⟨λi _=>i<x.cps.size,λi H v H'=>H'=H/\∃ c,x.cps[i]? = some c/\v=.str ⟨#[c]⟩,λi _=>x.cps.size<=i⟩
theorem tU{P:Program}{w:World}{K:Fg}{tg:Expr}(it:Addr)(x:Str)(t:Tok)(ty:String)(hty:["enumerate", "zip", "dict_itemiterator", "dict_reverseitemiterator", "odict_iterator", "itertools.zip_longest", "itertools.pairwise"].contains ty=false)(W:∀ A':Around,A'.handled=none->Walks P w A' it [it] [it] x.cps.size (SignAt x) (λi h=>h.IsStrIter it ty x t i))(Sf:∀ (A:Around) (i:Nat) (s:Shared) (Q:VSP) (E:VSP),s.heap.IsStrIter it ty x t i->Q (.ref it) s->wpAny (model P w) A (pyIter (.ref it)) Q E s):e8 P w K tg (Its x) [it] it (λi h=>i<=x.cps.size/\h.IsStrIter it ty x t i) where
 mem:=by simp
 obj:=λi h st b hb=>by
  have e:b=it:=by simpa using hb
  subst e;obtain ⟨_,o,e,c,d⟩:=st;exact ⟨o,e,λv z=>by rw[d] at z;cases z⟩
 keep:=λi h h' st k=>⟨st.1,let ⟨o,e,r⟩:=st.2;⟨o,k it (by simp) o e,r⟩⟩
 item:=by
  intro X hP hw hK hc i aA s σ H E I hf st hg;subst hP hw hK;obtain ⟨f0,f1,f2,f3,f4,f5⟩:=hf it (by simp)
  refine (W X.A (I.ok.hd hc)).item i s _ _ hg st.2 λv h' tk hv st' kk=>?_;obtain ⟨c,u,hc',rfl⟩:=hv;have I1:Inv X aA σ H { s with heap:=h',toks:=tk }:=I.turned (λb o hb e=>kk b o (by simpa using hb) e) f0 f1 f3 f4 f5
  obtain ⟨o,e,oc,d⟩:=id st';exact ⟨_,rfl,lA (s:={ s with heap:=h',toks:=tk }) e oc d hty ⟨.str ⟨#[c]⟩,H,I1,⟨u,rfl⟩,⟨rfl,c,hc',rfl⟩,⟨hg,st'⟩,λb hb=>(hf b hb).1⟩⟩
 done:=by
  intro X hP hw hK hc i aA s σ H E I hf st hg;subst hP hw hK;obtain ⟨f0,f1,f2,f3,f4,f5⟩:=hf it (by simp)
  have e:i=x.cps.size:=Nat.le_antisymm st.1 hg;subst e;exact (W X.A (I.ok.hd hc)).done s _ _ st.2 λh' tk kk=>⟨rfl,I.turned (λb o hb e=>kk b o (by simpa using hb) e) f0 f1 f3 f4 f5⟩
 self:=λA i s Q E st h=>Sf A i s Q E st.2 h
def iStr(te:TE):TI:=λσ H R=>te σ H λx H1=>∃ z,x=.str z/\R (Its z) H1
theorem aEE{X:Cx}{tg l:Expr}{tl:TE}(hl:PE X l tl):PI X tg l (iStr tl):=by
 intro aA s σ H R I h;refine thn (hl aA s σ H _ I h) λv s1 ⟨x,H1,I1,r1,q1⟩=>?_;obtain ⟨z,e,q⟩:=q1;subst e;obtain ⟨t,rfl⟩:=r1;have fin:∀ (ty:String) (o:Obj),o={ cls:=.type ty,data:=.fields #[.str z t,.int ((0:Nat):Int) 0] } -> (∀ b:Addr,b∈[s1.heap.objs.size]->dF X aA H1 b)/\Inv X aA σ H1 { s1 with heap:=s1.heap.push o }/\(s1.heap.push o).IsStrIter s1.heap.objs.size ty z t 0:=λty o eo=>by
  refine ⟨λb hb=>?_,I1.kept (t':=s1.toks) λb o e=>hps e,⟨o,aQ0 _ (by rw[eo];rfl),by rw[eo],by rw[eo]⟩⟩
  have e:b=s1.heap.objs.size:=by simpa using hb
  subst e;exact I1.fpOk (aRN _) (I1.hok.fresh (aRN _))
 cases ha:z.cps.all (· < 128)
 . refine wpAny_pyIter_wide ha ?_;obtain ⟨f1,f2,f3⟩:=fin "str_iterator" _ rfl;exact ⟨s1.heap.objs.size,[s1.heap.objs.size],_,Its z,H1,rfl,f2,tU _ z t "str_iterator" (by decide) (λA' hA=>Walks.strWide hA _ z t) (λA i s Q E st h=>wpAny_pyIter_striter_wide st h),⟨aR5 _,f3⟩,f1,q⟩
 . refine wpAny_pyIter_ascii ha ?_;obtain ⟨f1,f2,f3⟩:=fin "str_ascii_iterator" _ rfl;exact ⟨s1.heap.objs.size,[s1.heap.objs.size],_,Its z,H1,rfl,f2,tU _ z t "str_ascii_iterator" (by decide) (λA' hA=>Walks.strAscii hA _ z t) (λA i s Q E st h=>wpAny_pyIter_striter_ascii st h),⟨aR5 _,f3⟩,f1,q⟩
theorem PI.imp{X:Cx}{tg e:Expr}{t t':TI}(h:PI X tg e t)(i:∀ σ H R,t' σ H R->t σ H R):PI X tg e t':=λaA s σ H R I q=>h aA s σ H R I (i σ H R q)
theorem PI.or{X:Cx}{tg e:Expr}{t t':TI}(h:PI X tg e t)(h':PI X tg e t'):PI X tg e (λσ H R=>t σ H R\/t' σ H R):=λaA s σ H R I q=>by
 rcases q with q | q
 . exact h aA s σ H R I q
 . exact h' aA s σ H R I q
structure iC(K:Fg)(F:Hp)(J:It)(ds:List D):Prop where
 go:∀ i H,aD F H->i<ds.length->J.go i H
 stop:∀ i H,aD F H->ds.length<=i->J.stop i H
 yld:∀ i Fc H x H',aD F Fc->aD Fc H->i<ds.length->J.yld i H x H'->∃ F' d,ds[i]? = some d/\aI Fc H F' H'/\aB K F' d x
def WantI(C:Cw)(F H:Hp)(σ:L2.St)(r:Res)(R:It->Hp->Prop):Prop:=match r with
 | .ok _ (.lst ds)=>∀ J F' H',aI F H F' H'->iC C.K F' J ds->R J H'
 | .exc c=>∀ F' H',aI F H F' H'->C.EE c σ H'
 | _=>False
def tIv(C:Cw)(g:Rho->Res):TI:=λσ H R=>∃ ρ F,aX C.K C.F0 C.H0 F H σ ρ/\WantI C F H σ (g ρ) R
def PIv(C:Cw)(X:Cx)(tg e:Expr)(g:Rho->Res):Prop:=PI X tg e (tIv (C.at X) g)
def iD(z:Str):List D:=z.cps.toList.map λc=>.str ⟨#[c]⟩
def iE(r:Res):Res:=r.thn λ_ d=>match d with
 | .lst ds=>.ok .fz (.lst ds)
 | .tup ds=>.ok .fz (.lst ds)
 | .str z=>.ok .fz (.lst (iD z))
 | _=>.stuck
section
variable {C:Cw}{X:Cx}{tg e:Expr}{g:Rho->Res}{gs:Rho->aG}{pos p:Pos}
theorem aEF{K:Fg}{F:Hp}{a:Addr}{ds:List D}{xs:List V}(hq:SqT K F a xs)(r:aC K F ds xs):iC K F (Itt K a) ds where
 go:=λi H s hi=>by
  have hl:i<xs.length:=by rw[r.length];exact hi
  exact ⟨xs,xs[i],aD.seqT s hq,by simp[hl]⟩
 stop:=λi H s hi=>⟨xs,aD.seqT s hq,by rw[r.length];exact hi⟩
 yld:=λi Fc H x H' s1 s2 hi y=>by obtain ⟨rfl,y⟩:=y;have hx:=y xs (aD.seqT s2 (aD.seqT s1 hq));obtain ⟨d,e,rd⟩:=r.get hx;exact ⟨Fc,d,e,.refl s2,rd.mono s1 _ _⟩
theorem aEG{K:Fg}{F:Hp}{z:Str}(hk:PyData.strOk z=true):iC K F (Its z) (iD z) where
 go:=λi H s hi=>by simpa[iD,Its] using hi
 stop:=λi H s hi=>by simpa[iD,Its] using hi
 yld:=λi Fc H x H' s1 s2 hi y=>by
  obtain ⟨rfl,c,hc,rfl⟩:=y;refine ⟨Fc,.str ⟨#[c]⟩,by simp[iD,hc],.refl s2,?_⟩
  simp only[aB,true_and];refine ⟨by show 1<=sizeLine;decide,?_⟩
  unfold PyData.strOk at hk ⊢;rw[aS7] at hk;simpa using hk c (aTB hc)
theorem aEH(h:PV C X e g):PIv C X tg e (λρ=>iE (bB (g ρ))):=by
 have h:=fO h;refine PI.imp (PI.or (aAB h) (PI.or (aAC h) (aEE h))) λσ H R q=>?_;obtain ⟨ρ,F,RS,w⟩:=q;dsimp only at w;cases er:bB (g ρ) with
 | stuck=>rw[er] at w;exact w.elim
 | exc c=>refine .inl ?_;unfold nL;rw[aU];refine ⟨ρ,F,RS,?_⟩;rw[er] at w ⊢;exact w
 | ok m d =>
  rw[er] at w;have hm:m=.fz:=by
   cases h:g ρ with
   | ok m' d'=>rw[h] at er;cases m' <;> cases er <;> rfl
   | exc c=>rw[h] at er;cases er
   | stuck=>rw[h] at er;cases er
  subst hm;cases d with
  | lst ds =>
   refine .inl ?_; unfold nL; rw [aU]; refine ⟨ρ, F, RS, ?_⟩; rw [er]; intro v F' H' st rp _; have rp : aB X.K F' (.lst ds) v := rp; simp only [aB] at rp; obtain ⟨a, xs, rfl, hq, r⟩ := rp; exact ⟨a, rfl, ⟨xs, st.sub.seq hq⟩, w _ F' H' st ⟨fun i H s hi => by
       have hl:i<xs.length:=by rw[r.length];exact hi
       exact ⟨xs,xs[i],s.seq hq,by simp[hl]⟩,λi H s hi=>⟨xs,s.seq hq,by rw[r.length];exact hi⟩,λi Fc H x H' s1 s2 hi y=>by
       obtain ⟨rfl,y⟩:=y;have hx:=y xs (s2.seq (s1.seq hq));obtain ⟨d,e,rd⟩:=r.get hx;exact ⟨Fc,d,e,.refl s2,rd.mono s1 _ _⟩⟩⟩
  | tup ds=>refine .inr (.inl ?_);unfold iTup;rw[aU];refine ⟨ρ,F,RS,?_⟩;rw[er];intro v F' H' st rp _;have rp:aB X.K F' (.tup ds) v:=rp;simp only[aB] at rp;obtain ⟨a,xs,rfl,hq,r⟩:=rp;exact ⟨a,rfl,⟨xs,aD.seqT st.sub hq⟩,w _ F' H' st (aEF hq r)⟩
  | str z=>refine .inr (.inr ?_);unfold iStr;rw[aU];refine ⟨ρ,F,RS,?_⟩;rw[er];intro v F' H' st rp _;obtain ⟨rfl,hz,hk⟩:=Rp.str rp;exact ⟨z,rfl,w _ F' H' st (aEG hk)⟩
  | _=>exact w.elim
def bP(lo hi:Int):List D:=(List.range (hi-lo).toNat).map λi=>.int (lo+(i:Nat))
def gP(r:aG):Res:=r.thn λxs=>match xs with
 | [(_,.int n)]=>if (decide (-(2 ^ 62)<=n)&&decide (n<2 ^ 62))=true then .ok .fz (.lst (bP 0 n)) else .stuck
 | _=>.stuck
theorem aEI{K:Fg}{F:Hp}{lo hi:Int}:iC K F (Itr lo (hi-lo).toNat) (bP lo hi) where
 go:=λi H s h=>by simpa[bP,Itr] using h
 stop:=λi H s h=>by simpa[bP,Itr] using h
 yld:=λi Fc H x H' s1 s2 h y=>by
  obtain ⟨rfl,rfl⟩:=y;have h':i<(hi-lo).toNat:=by simpa[bP] using h
  refine ⟨Fc,.int (lo+i),?_,.refl s2,by simp only[aB]⟩
  simp only[bP,aSF,List.getElem?_range h',aTJ]
theorem aEJ{a:Expr}(hg:Gl X "range")(hm:X.mg "range" = none)(ha:PAv C X [a] gs)(hs:starEach [a] X.env=[(false,eval a X.env)]:=by rfl):PIv C X tg (.Call (.Name "range" p) [a] [] pos) (λρ=>gP (gs ρ)):=by
 refine PI.imp (aAE hg hm ha hs) λσ H R q=>?_;obtain ⟨ρ,F,RS,w⟩:=q;dsimp only at w;unfold rY;refine ⟨ρ,F,RS,?_⟩;cases er:gs ρ with
 | stuck=>rw[er] at w;exact w
 | exc c=>rw[er] at w;exact w
 | ok xs =>
  rw[er] at w;intro vs F' H' st rp;unfold gP at w;rw[aG.thn_ok] at w;split at w
  . rename_i m n;split at w
    . rename_i hc;rw[aSR,aS4,aS4] at hc;obtain ⟨v,rfl,r⟩:=rp.one;cases r.int;have:=aEI (K:=X.K) (F:=F') (lo:=0) (hi:=n);rw[Int.sub_zero] at this;exact ⟨n,rfl,hc.1,hc.2,w _ F' H' st this⟩
    . exact w.elim
  . exact w.elim
def PGv(C:Cw)(X:Cx)(tg:Expr)(k:D->Rho->Option Rho):Prop:=∃ t:TG,PG X tg t/\∀ F H σ ρ ρ' d v Q,aX X.K C.F0 C.H0 F H σ ρ->aB X.K F d v->k d ρ=some ρ' ->
 (∀ σ' F' H',aD F F'->aX X.K C.F0 C.H0 F' H' σ' ρ'->Q σ' H')->t v σ H Q
def fC(k:D->Rho->Option Rho)(body:Rho->aK):List D->Rho->aK
 | [],ρ=>.nx ρ
 | d::ds,ρ=>match k d ρ with
  | none=>.stuck
  | some ρ1=>match body ρ1 with
   | .nx ρ2=>fC k body ds ρ2
   | .ct ρ2=>fC k body ds ρ2
   | .bk ρ2=>.nx ρ2
   | r=>r
def lS(r:Res)(ρ:Rho)(k:D->Rho->Option Rho)(body:Rho->aK):aK:=r.thS ρ λ_ d=>match d with | .lst ds=>fC k body ds ρ | _=>.stuck
theorem aEK{body:List Stmt}{k:D->Rho->Option Rho}{h1:Rho->aK}(hp:PassesOwn (model X.prog X.w) X.A X.env X.xe)(hc:X.calm=true)(hi:PIv C X tg e g)(hg:PGv C X tg k)(hb:PBv C X body h1)(hs:∀ x,foldedSetIterable e X.env x=pure x:=by intro _;rfl):PSv C X (.For tg e body [] pos) (λρ=>lS (g ρ) ρ k h1):=by
 obtain ⟨t,ht,hk⟩:=hg;refine PS.imp (aAG hp hc hi ht hb hs) λE σ H q=>?_;obtain ⟨ρ,F,RS,w⟩:=q;dsimp only at w;unfold tFor;refine ⟨ρ,F,RS,?_⟩;cases er:g ρ with
 | stuck=>rw[er] at w;exact w
 | exc c=>rw[er] at w;exact λF' H' s=>w σ F' H' s.fsame (RS.step s)
 | ok m d =>
  rw[er] at w;cases d with
  | lst ds =>
   intro J F1 H1 s1 hJ;have w:bY (C.at X) F1 (fC k h1 ds ρ) E:=bY.mono s1.fsame w;refine ⟨λi m σ' H'=>m=ds.length-i/\i<=ds.length/\∃ ρ' F',aD F1 F'/\aX X.K C.F0 C.H0 F' H' σ' ρ'/\bY (C.at X) F' (fC k h1 (ds.drop i) ρ') E,⟨ds.length,by simp,aR5 _,ρ,F1,aD.refl _,RS.step s1,by simpa using w⟩,?_⟩
   rintro i m σ' H' ⟨rfl,hi,ρ',F',sF,R',w'⟩;by_cases hlt:i<ds.length
   . refine .inr ⟨hJ.go i H' (sF.trans R'.sub) hlt,λσ2 H2=>∃ ρ2 F2,aD F1 F2/\aX X.K C.F0 C.H0 F2 H2 σ2 ρ2/\bY (C.at X) F2 (fC k h1 (ds.drop (i+1)) ρ2) E,λσ2 H2 ⟨ρ2,F2,a,b,c⟩=>⟨ds.length-(i+1),by omega,rfl,hlt,ρ2,F2,a,b,c⟩,λx H2 y=>?_⟩
     obtain ⟨F2,d,ed,s2,rd⟩:=hJ.yld i F' H' x H2 sF R'.sub hlt y;have hd:ds.drop i=d::ds.drop (i+1):=by rw[List.drop_eq_getElem_cons hlt];rw[aTF hlt] at ed;cases ed;rfl
     rw[hd] at w';unfold fC at w';cases ek:k d ρ' with
     | none=>rw[ek] at w';exact w'.elim
     | some ρ1 =>
      rw[ek] at w';dsimp only at w';refine hk F2 H2 σ' ρ' ρ1 d x _ (R'.step s2) rd ek λσ3 F3 H3 z3 R3=>?_;have z13:aD F1 F3:=(sF.trans s2.fsame).trans z3;have w3:=bY.mono (s2.fsame.trans z3) w';refine ⟨ρ1,F3,R3,?_⟩;cases eb:h1 ρ1 with
      | nx ρ2=>rw[eb] at w3;exact λσ4 F4 H4 z4 R4=>⟨ρ2,F4,z13.trans z4,R4,bY.mono z4 w3⟩
      | ct ρ2=>rw[eb] at w3;exact λσ4 F4 H4 z4 R4=>⟨ρ2,F4,z13.trans z4,R4,bY.mono z4 w3⟩
      | bk ρ2=>rw[eb] at w3;exact λσ4 F4 H4 z4 R4=>w3 σ4 F4 H4 z4 R4
      | rt m d=>rw[eb] at w3;exact w3
      | exc c ρ2=>rw[eb] at w3;exact w3
      | stuck=>rw[eb] at w3;exact w3
   . have ei:i=ds.length:=by omega
     subst ei;refine .inl ⟨hJ.stop _ H' (sF.trans R'.sub) (aRN _),?_⟩;rw[List.drop_length] at w';exact w' σ' F' H' (aD.refl _) R'
  | _=>exact w.elim
end
end D3
namespace L2
open PySem PySem.Spec PyProof.Rows
theorem oA {env : Env} : ∀ (names : List (Str × NameKind)) (acc : List (Str × Addr)), (∀ y ∈ names, y.2 = .free → ∃ c, env.cells.lookup y.1 = some c) → (∀ y c, acc.lookup y = some c → env.cells.lookup y = some c) →
    ∃ cl,(forIn names acc λ(x:Str×NameKind) (cs:List (Str×Addr))=>(if x.2 == .free then (do let c <- cellOf env x.1;pure (ForInStep.yield ((x.1,c)::cs))) else pure (ForInStep.yield cs):Sem (ForInStep (List (Str×Addr)))))=pure cl /\
     (∀ y c,cl.lookup y=some c->env.cells.lookup y=some c)/\(∀ y c,acc.lookup y=some c->cl.lookup y=some c)/\∀ y,(y,NameKind.free)∈names->∃ c,cl.lookup y=some c
 | [],acc,_,ha=>⟨acc,by rw[aTK],ha,λ_ _ h=>h,λ_ h=>by cases h⟩
 | (n,k)::r,acc,h,ha=>by
  rw[aTL];by_cases hk:k=.free
  . subst hk;obtain ⟨c,ec⟩:=h (n,.free) mcs rfl;have hc:cellOf env n=pure c:=by unfold cellOf;rw[ec]
    have e:((if (NameKind.free==NameKind.free)=true then (do let c <- cellOf env n;pure (ForInStep.yield ((n,c)::acc))) else pure (ForInStep.yield acc)):Sem (ForInStep (List (Str×Addr))))=pure (ForInStep.yield ((n,c)::acc)):=by rw[if_pos (by decide),hc,aTM]
    obtain ⟨cl,e1,e2,e3,e4⟩:=oA (env:=env) r ((n,c)::acc) (λy hy=>h y (mcm hy)) (λy c' q=>by
     rw[aS3] at q;cases hyn:y==n with
     | true=>rw[hyn] at q;cases q;rw[aRY.mp hyn];exact ec
     | false=>rw[hyn] at q;exact ha y c' q)
    refine ⟨cl,?_,e2,λy c' q=>?_,λy hy=>?_⟩
    . dsimp only;rw[e,aTM];exact e1
    . cases hyn:y==n with
      | true=>have:=aRY.mp hyn;subst this;have q':=ha y c' q;rw[ec] at q';cases q';exact e3 y c (by rw[aS3,hyn])
      | false=>exact e3 y c' (by rw[aS3,hyn];exact q)
    . rcases aRA.mp hy with z | z
      . cases z;exact ⟨c,e3 n c (by rw[aS3,aTN])⟩
      . exact e4 y z
  . have e:((if (k==NameKind.free)=true then (do let c <- cellOf env n;pure (ForInStep.yield ((n,c)::acc))) else pure (ForInStep.yield acc)):Sem (ForInStep (List (Str×Addr))))=pure (ForInStep.yield acc):=by rw[if_neg (by simpa using hk)]
    obtain ⟨cl,e1,e2,e3,e4⟩:=oA (env:=env) r acc (λy hy=>h y (mcm hy)) ha;refine ⟨cl,?_,e2,e3,λy hy=>?_⟩
    . dsimp only;rw[e,aTM];exact e1
    . rcases aRA.mp hy with z | z
      . cases z;exact absurd rfl hk
      . exact e4 y z
theorem aEL{scope:Scope}{env:Env}(h:∀ y∈scope.names,y.2=.free->∃ c,env.cells.lookup y.1=some c):∃ cl,closureFor scope env=pure cl/\(∀ y c,cl.lookup y=some c->env.cells.lookup y=some c)/\∀ y,(y,NameKind.free)∈scope.names->∃ c,cl.lookup y=some c:=by
 obtain ⟨cl,e1,e2,_,e4⟩:=oA (env:=env) scope.names [] h (λy c q=>by simp at q)
 refine ⟨cl,?_,e2,e4⟩;unfold closureFor;rw[bind_pure];exact e1
theorem aEM{scope:Scope}{env:Env}(cM:∀ y∈scope.names,y.2 ≠ .cell){x:Str}(h:(relabel scope env).names.lookup x=some .cell\/(relabel scope env).names.lookup x=some .free):(x,NameKind.free)∈scope.names:=by
 unfold relabel at h;dsimp only at h;have go:∀ (l:List (Str×NameKind)),(∀ y∈l,y.2 ≠ .cell)->((l.map λ(n,k)=>if (k==NameKind.free&&env.scope.kind == .function&&env.kindOf n==some .cell) then (n,NameKind.cell) else (n,k)).lookup x=some .cell\/(l.map λ(n,k)=>if (k==NameKind.free&&env.scope.kind == .function&&env.kindOf n==some .cell) then (n,NameKind.cell) else (n,k)).lookup x=some .free)->(x,NameKind.free)∈l:=by
  intro l
  induction l with
  | nil=>intro _ h;simp at h
  | cons y l ih =>
   intro hc h;obtain ⟨n,k⟩:=y;rw[aR1] at h;by_cases hx:x=n
   . subst hx;have hk:k=.free:=by
       by_cases hk:k=.free
       . exact hk
       . have e:(k==NameKind.free&&env.scope.kind == .function&&env.kindOf x==some .cell)=false:=by
           have:(k==NameKind.free)=false:=by simpa using hk
           rw[this];rfl
         simp only[e,aTO,aSK,aS3,aTN] at h;rcases h with h | h
         . cases h;exact absurd rfl (hc _ mcs)
         . cases h;exact absurd rfl hk
     subst hk;exact mcs
   . have hb:(x==n)=false:=by simpa using hx
     have hh:∀ (kk:NameKind) (l':List (Str×NameKind)),((n,kk)::l').lookup x=l'.lookup x:=λkk l'=>by rw[aS3,hb]
     by_cases hcond:(k==NameKind.free&&env.scope.kind == .function&&env.kindOf n==some .cell)=true
     . dsimp only at h;rw[if_pos hcond,hh] at h;exact mcm (ih (λy hy=>hc y (mcm hy)) h)
     dsimp only at h;rw[if_neg hcond,hh] at h;exact mcm (ih (λy hy=>hc y (mcm hy)) h)
 exact go scope.names cM h
def bF(X:Cx)(scope:Scope)(N:List Str)(cl:List (Str×Addr))(C:Addr)(fp:List Addr)(s3:Shared)(H3:Hp):Cx where
 prog:=X.prog
 w:=X.w
 K:=X.K
 mg:=X.mg
 base:=X.base
 A:=X.A
 N:=N
 s₀:=s3
 H₀:=H3
 env:=compEnvC scope cl C X.env
 outer:=X.stack
 stack:=X.stack
 ex:=fp
 fn:=λ_=>false
 calm:=X.calm
 pn:=[]
 xe:=λ_ _=>False
def cW(X:Cx)(cs:List Expr)(t:TT):Prop :=
 ∀ (aA:LAO) (s:Shared) (σ:St) (H:Hp) (Q:Bool->Hp->Prop),Inv X aA σ H s->t σ H Q ->
  wpAny (model X.prog X.w) X.A (forIn cs true λc r=>if r=true then do let ok <- isTrue c X.env (eval c X.env);pure (ForInStep.yield ok) else pure (ForInStep.yield r)) (TP X aA σ Q) X.xe s
theorem aEN{X:Cx}:cW X [] (λ_ H Q=>Q true H):=λaA s σ H Q I h=>by rw[aTK];exact aRK ⟨H,I,h⟩
theorem tV{X:Cx}:∀ cs:List Expr,(forIn cs false λc r=>if r=true then do let ok <- isTrue c X.env (eval c X.env);pure (ForInStep.yield ok) else pure (ForInStep.yield r):Sem Bool)=pure false
 | []=>by rw[aTK]
 | c::cs=>by rw[aTL,if_neg aRW,aTM];exact tV cs
theorem aEO{X:Cx}{c:Expr}{cs:List Expr}{t u:TT}(hc:PT X c t)(hr:cW X cs u):cW X (c::cs) (nI t u):=λaA s σ H Q I h=>by
 rw[aTL,if_pos rfl];refine aRL (aRL (thn (hc aA s σ H _ I h) λb s1 ⟨H1,I1,q1⟩=>aRK ?_));cases b with
 | true=>rw[if_pos rfl] at q1;exact hr aA s1 σ H1 Q I1 q1
 | false=>rw[if_neg aRW] at q1;dsimp only;rw[tV];exact aRK ⟨H1,I1,q1⟩
section
variable {prog:Program}{w:World}{A:Around}{R:Result->Shared->Prop}{s:Shared}
theorem aEP {elt target aP : Expr} {ifs : List Expr} {scope : Scope} {pos : Pos} {it acc : Value} {env : Env} (I : Nat → Shared → Prop) (turn : ∀ n s, I n s → wpAny (model prog w) A (pyNext it) (fun r s1 => match r with
      | none=>R (.ok .next) s1
      | some v => wpAny (model prog w) A (letOwnedTupleGo target it v) (fun _ s1' => wpAny (model prog w) A (assign target env v) (fun _ s2 =>
          wpAny (model prog w) A (forIn ifs true λc r=>if r=true then do let ok <- isTrue c env (eval c env);pure (ForInStep.yield ok) else pure (ForInStep.yield r)) (λok s3 =>
           if ok=true then wpAny (model prog w) A (eval elt env) (λx s4 =>
            wpAny (model prog w) A (call (.builtin "list.append") [acc,x]) (λ_ s5=>∃ m,m<n/\I m s5) (λ_ _=>False) s4) (λ_ _=>False) s3
           else ∃ m, m < n ∧ I m s3) (fun _ _ => False) s2) (fun _ _ => False) s1') (fun _ _ => False) s1) (fun _ _ => False) s)
    (n:Nat) (h:I n s) :
    codeAny (model prog w) A (.compLoop (.ListComp elt [⟨target,aP,ifs,0⟩] scope pos) 0 it acc env) R s:=by
 refine codeAny_loop rfl I (λn s hI=>?_) n h;show wpAny _ A ((compTurn (.ListComp elt [⟨target,aP,ifs,0⟩] scope pos) 0 it acc env).onRaise (λx=>do noteFrame x env;theTreesLotGoes x)) _ _ s
 refine wpAny_noted ?_;rw[compTurn_list];refine aRL (wpAny_standAt (aRL (aRG (turn n s hI) (λr s1 h1=>?_) λ_ _ h'=>h'.elim)));cases r with
 | none=>exact aRK h1
 | some v =>
  refine aRL (aRG h1 (λ_ s1' h1'=>?_) λ_ _ h'=>h'.elim);refine aRL (aRG h1' (λ_ s2 h2=>aRL (aRG h2 (λok s3 h3=>?_) λ_ _ h'=>h'.elim)) λ_ _ h'=>h'.elim);cases ok with
  | false=>exact aRK ⟨rfl,h3⟩
  | true=>exact aRL (aRL (aRG h3 (λx s4 h4=>aRL (aRG h4 (λ_ s5 h5=>aRK (aRK ⟨rfl,h5⟩)) λ_ _ h'=>h'.elim)) λ_ _ h'=>h'.elim))
end
def c9(aE:List Nat)(σ:St):St:=aE.map λi=>(σ[i]?).getD none
def Weak(σ σ':St):Prop:=σ.length=σ'.length/\∀ (j:Nat) v,σ[j]? = some (some v)->σ'[j]? = some (some v)
def jM(aE:List Nat)(k:Nat)(wi:TI)(gt:TG)(tt:TT)(te:TE):TE:=λσ H Q=>wi σ H λJ H1=>∀ D,H1 D=none ->
 ∃ W:Nat->Nat->List V->Hp->Prop,(∃ m,W 0 m [] (upd H1 D (.lst [])))/\∀ i m ys H,W i m ys H->H D=some (.lst ys) /\
  ((J.stop i H/\Q (.ref D) H)\/(J.go i H/\ys.length<sizeLine/\∀ x H',J.yld i H x H'->gt x (c9 aE σ++List.replicate k none) H' λσ2 H2=>Weak (c9 aE σ++List.replicate k none) σ2/\tt σ2 H2 λb H3 =>
   if b=true then te σ2 H3 λy H4=>H4 D=some (.lst ys)/\∃ m',m'<m/\W (i+1) m' (ys++[y]) (upd H4 D (.lst (ys++[y]))) else ∃ m',m'<m/\W (i+1) m' ys H3))
theorem tW{X:Cx}{elt aP tg:Expr}{ifs:List Expr}{scope:Scope}{pos:Pos}{aE:List Nat}{aH tgN:List Str}{wi:TI}{gt:TG}{tt:TT}{te:TE}{use:Option (Value->Sem Unit)}{QQ:VSP}{aA:LAO}{s:Shared}{σ:St}{H:Hp}{Q:VK}(hc:X.calm=true)(hi:PI X tg aP wi)(cM:∀ y∈scope.names,y.2 ≠ .cell)(cY:scope.kind=.function)(eM:∀ y∈scope.names,y.2=.local->scope.names.lookup y.1=some .local)(cZ:∀ y∈scope.names,y.2=.free->X.env.kindOf y.1=some .cell\/X.env.kindOf y.1=some .free)(dJ:aH.map some=aE.map λi=>X.N[i]?)(eO:∀ y∈aH,(y,NameKind.free)∈scope.names)(eN:∀ y∈aH,(relabel scope X.env).names.lookup y=some .cell\/(relabel scope X.env).names.lookup y=some .free)(hg:∀ cl C fp s3 H3,PG (bF X scope (aH++tgN) cl C fp s3 H3) tg gt)(hf:∀ cl C fp s3 H3,cW (bF X scope (aH++tgN) cl C fp s3 H3) ifs tt)(he:∀ cl C fp s3 H3,PE (bF X scope (aH++tgN) cl C fp s3 H3) elt te)(hs:∀ x,foldedSetIterable aP X.env x=pure x)(I:Inv X aA σ H s)(h:jM aE tgN.length wi gt tt te σ H Q)(hend:∀ (D Z:Addr) (s6:Shared) (H5:Hp),(∃ m,s6.heap.Ns Z m)->(∀ h'',Heap.SameBut Z s6.heap h''->Inv X aA σ H5 { s6 with heap:=h'' })->H5 Z=none->X.s₀.heap.objs.size<=Z->Z≠X.env.locals->(∀ x c,X.env.cells.lookup x=some c->c≠Z)->(∀ p∈X.pn++aA,p.1≠Z)->Q (.ref D) H5->compPost (model X.prog X.w) X.A X.xe use QQ (.ref D) Z (.ok .next) s6):wpAny (model X.prog X.w) X.A (comprehension (.ListComp elt [⟨tg,aP,ifs,0⟩] scope pos) scope X.env (firstIterPos [⟨tg,aP,ifs,0⟩] pos) (newList []) (firstAsync [⟨tg,aP,ifs,0⟩]) (firstIter [⟨tg,aP,ifs,0⟩] X.env) use) QQ X.xe s:=by
 obtain ⟨cl,hclos,clsub,clhas⟩:=aEL (scope:=scope) (env:=X.env) λy hy hk=>I.ok.has y.1 (cZ y hy hk);refine wpAny_comprehension_free (use:=use) rfl hs hclos cY eM (thn (hi aA s σ H _ I h) λv s1 h1=>thn h1 λitv s2 h2=>?_);obtain ⟨it,fp,tn,J,H2,e,I2,T,st2,f2,q⟩:=h2;subst e;refine aSS ?_;have hn:H2 s2.heap.objs.size=none:=I2.hok.fresh (aRN _);obtain ⟨W,⟨m0,w0⟩,turn⟩:=q s2.heap.objs.size hn;have I3:Inv X aA σ (upd H2 s2.heap.objs.size (.lst [])) { s2 with heap:=s2.heap.push { cls:=.type "list", dict:=none,data:=.seq ([]:List Value).toArray } } :=
  I2.laid (t':=s2.toks) (λb u e=>hps e) (aRN _) ⟨aR5 _,[],0,.nil,aQ0 _ rfl⟩
 generalize hs3:({ s2 with heap:=s2.heap.push { cls:=.type "list", dict:=none,data:=.seq ([]:List Value).toArray } }:Shared)=s3 at I3 ⊢
 generalize hH3:upd H2 s2.heap.objs.size (.lst [])=H3 at I3 w0;have fpl:∀ b∈fp,b<s2.heap.objs.size:=λb hb=>by obtain ⟨o,eo,_⟩:=T.obj 0 _ st2 b hb;exact aQ1 eo
 have sz3:s3.heap.objs.size=s2.heap.objs.size+1:=by rw[<- hs3];exact aR3 _ _
 have keep23:∀ b o,s2.heap.get? b=some o->s3.heap.get? b=some o:=λb o e=>by rw[<- hs3];exact hps e
 have hDf:s2.heap.objs.size∉fp:=λhb=>aQ3 _ (fpl _ hb);refine wpAny_newFunctionEnv cM (by intro y hy;simp at hy) (λh4 hns hsb=>?_) cY
 try dsimp only at hns hsb ⊢
 have keep34:∀ b o,s3.heap.get? b=some o->h4.get? b=some o:=λb o e=>hsb.extBut b o (aQ4 (aQ1 e)) (hps e);have nostk:∀ b∈fp,b∉frs X.stack:=λb hb z=>by
  obtain ⟨_,f1,f2',_⟩:=f2 b hb;rcases aRA.mp (I2.stkSub b z) with q | q
  . exact f1 q
  . exact f2' q
 have okc:(bF X scope (aH++tgN) cl s3.heap.objs.size fp s3 H3).Ok :=
  { mod:=I3.ok.mod
    kind:=cY
    glob:=I3.ok.glob
    blt:=I3.ok.blt
    above:=aRN _
    inj:=λx y c h1 h2=>I3.ok.inj x y c (clsub x c h1) (clsub y c h2)
    has:=λx hx=>clhas x (aEM cM hx)
    cab:=λx c z=>by cases z
    hd:=I3.ok.hd
    frames:=I3.ok.frames
    stk:=.inl rfl
    exf:=λb hb=>⟨aQ4 (by show b<s3.heap.objs.size;rw[sz3];exact aTP (fpl b hb)),λx c e=>(f2 b hb).2.2.2.2.1 x c (clsub x c e)⟩
    bs:=I3.bs
    bsz:=aQ8 I3.ok.bsz I3.sz
    noex:=λb o e hb=>by
     obtain ⟨_,_,_,f3,_⟩:=f2 b hb;rcases f3 with z | z
     . exact I2.ok.noex b o e z
     . exact absurd (aQ1 (I2.ok.bs b o e).1) (Nat.not_lt.mpr z)
    exfs:=nostk
    funs:=I3.stack
    frf:=I3.stkFree }
 have capLen:aH.length=aE.length:=by have:=congrArg List.length dJ;simpa using this
 generalize hσ0:c9 aE σ++List.replicate tgN.length none=σ0 at turn;have Ic:Inv (bF X scope (aH++tgN) cl s3.heap.objs.size fp s3 H3) [] σ0 H3 { s3 with heap:=h4,toks:=s3.toks+([]:List (Str×Value)).length }:=by
  refine ⟨okc,rfl,I3.bare,Un.kept keep34,⟨_,hns,λi y v h1 h2 h3=>?_⟩,λx c e=>?_,I3.hok.fresh (aRN _),λx c e=>I3.freeC x c (clsub x c e),λp hp=>absurd (show p∈([]:LAO) from hp) (by simp),I3.hok.kept keep34,?_⟩
  . by_cases hi:i<aE.length
    . have ey:aH[i]? = some y:=by have h1:(aH++tgN)[i]? = some y:=h1;rw[aSE (by rw[capLen];exact hi)] at h1;exact h1
      have hj:X.N[aE[i]]? = some y:=by
       have e1:(aH.map some)[i]? = (aE.map λi=>X.N[i]?)[i]?:=by rw[dJ]
       rw[aSF,aSF,ey,aTF hi] at e1;simpa using e1.symm
      have ev:σ[aE[i]]? = some (some v):=by
       rw[<- hσ0,aSE (by simpa[c9] using hi)] at h2
       unfold c9 at h2;rw[aSF,aTF hi] at h2;simp only[aTJ,Option.some.injEq] at h2;cases z:σ[aE[i]]? with
       | none=>rw[z] at h2;cases h2
       | some o=>rw[z] at h2;exact congrArg some h2
      have hyf:=eO y (aSG ey);have hkX:=cZ _ hyf rfl;obtain ⟨m,_,hl⟩:=I3.loc;obtain ⟨u,ru,lk⟩:=hl aE[i] y v hj ev (by rcases hkX with z | z;exact .inr (.inl z);exact .inr (.inr z))
      refine ⟨u,ru,.inr ⟨eN y (aSG ey),?_⟩⟩;rcases lk with ⟨hk,_⟩ | ⟨_,c,ec,ic⟩
      . rcases hkX with z | z
        . rw[show X.env.kindOf y=some .cell from z] at hk;cases hk
        . rw[show X.env.kindOf y=some .free from z] at hk;cases hk
      . obtain ⟨c',ec'⟩:=clhas y hyf;have:=clsub y c' ec';rw[ec] at this;cases this;exact ⟨c,ec',ic.keeps keep34⟩
    . rw[<- hσ0,aSC (by simpa[c9] using hi),aSD] at h2
      split at h2 <;> cases h2
  . obtain ⟨v,q⟩:=I3.cell x c (clsub x c e);exact ⟨v,q.keeps keep34⟩
  . rw[<- hσ0];show (c9 aE σ++List.replicate tgN.length none).length=(aH++tgN).length;simp[c9,capLen]
 have fpc:∀ {H':Hp},(∀ b∈fp,H' b=none)->∀ b∈fp,dF (bF X scope (aH++tgN) cl s3.heap.objs.size fp s3 H3) [] H' b:=λhn b hb =>
  ⟨hn b hb,(okc.exf b hb).1,nostk b hb,.inl hb,(okc.exf b hb).2,λp hp=>absurd (show p∈([]:LAO) from hp) (by simp)⟩
 have loop:codeAny (model X.prog X.w) X.A (.compLoop (.ListComp elt [⟨tg,aP,ifs,0⟩] scope pos) 0 (.ref it) (.ref s2.heap.objs.size) (compEnvC scope cl s3.heap.objs.size X.env)) (compPost (model X.prog X.w) X.A X.xe use QQ (.ref s2.heap.objs.size) s3.heap.objs.size) { s3 with heap:=h4,toks:=s3.toks+([]:List (Str×Value)).length }:=by
  refine aEP (λn s'=>∃ i ys H',Inv (bF X scope (aH++tgN) cl s3.heap.objs.size fp s3 H3) [] σ0 H' s'/\tn i s'.heap/\(∀ b∈fp,H' b=none)/\W i n ys H') ?_ m0
   ⟨0,[],H3,Ic,T.keep _ _ _ st2 (λb hb o e=>keep34 b o (keep23 b o e)),λb hb=>by rw[<- hH3,aR (by intro z;rw[z] at hb;exact hDf hb)];exact (f2 b hb).1,w0⟩
  rintro n s5 ⟨i,ys,H5,I5,st5,fr5,w5⟩;obtain ⟨hD,hw⟩:=turn i n ys H5 w5;rcases hw with ⟨stop,qq⟩ | ⟨go,hlen,step⟩
  . refine thn (T.done (bF X scope (aH++tgN) cl s3.heap.objs.size fp s3 H3) rfl rfl rfl hc i [] s5 σ0 H5 _ I5 (fpc fr5) st5 stop) λr s6 ⟨hr,I6⟩=>?_;subst hr;obtain ⟨m,hm,_⟩:=id I6.loc;refine hend s2.heap.objs.size s3.heap.objs.size s6 H5 ⟨m,hm⟩ (λh'' hsb2=>?_) I6.free I3.sz (λz=>?_) (λx c ec z=>?_) (λp hp z=>?_) qq;rotate_left
    . obtain ⟨m,⟨o,es,ep,ho,_⟩,_⟩:=id I3.loc;rw[<- z] at ho;exact aQ3 _ (aQ1 ho)
    . obtain ⟨v,o,ho,_⟩:=I3.cell x c ec;rw[z] at ho;exact aQ3 _ (aQ1 ho)
    . have:=(I3.pin p hp).1;rw[z] at this;exact aQ3 _ (aQ1 this)
    have u:=I6.base;have neC:∀ b o,s3.heap.get? b=some o->b≠s3.heap.objs.size:=λb o e=>aQ4 (aQ1 e);have un:Un (frs X.stack) fp H3 H5 s3.heap h'':=by
     refine ⟨λb o e n hb hx=>hsb2.extBut b o (neC b o e) (u.keep b o e n hb hx),λb o e n hb hx=>?_,u.free,λb o e hx=>?_,u.tups,u.frzs,u.tbls⟩
     . obtain ⟨sl,q⟩:=u.slot b o e n hb hx;exact ⟨sl,hsb2.extBut b _ (neC b o e) q⟩
     . obtain ⟨o',q⟩:=u.there b o e hx;exact ⟨o',hsb2.extBut b _ (neC b o e) q⟩
    have hok : HOk X.prog X.w H5 h'' := fun a o e => (I6.hok a o e).stay (fun b v hb q => hsb2.extBut b v (by
        intro z;have fr:=I6.free;rcases hb with hb | hb
        . rw[hb] at z;rw[z] at e;rw[show H5 s3.heap.objs.size=none from fr] at e;cases e
        . rw[z,show H5 s3.heap.objs.size=none from fr] at hb;cases hb) q) (λ_ q=>q) λ_ _ q=>q
    have os6:=I6.os;obtain ⟨hh,g6,d6,t6,o6⟩:=s6;obtain rfl:o6=s3.os:=os6;have I8:=I3.call (h':=h'') (g':=g6) (d':=d6) (t':=t6) (ch:=fp) un hok I6.bare λb hb=>by obtain ⟨_,f1,_,f3,f4,f5⟩:=f2 b hb;exact ⟨f3,f1,f4,f5⟩
    exact I8
  . refine thn (T.item (bF X scope (aH++tgN) cl s3.heap.objs.size fp s3 H3) rfl rfl rfl hc i [] s5 σ0 H5 _ I5 (fpc fr5) st5 go) λr s6 ⟨u,hr,h6⟩=>?_;subst hr;refine thn h6 λ_ s7 ⟨x,H7,I7,r7,y7,st7,fr7⟩=>?_;have I7':=I7.pinned (fpc fr7) (T.obj _ _ st7);refine thn (hg cl s3.heap.objs.size fp s3 H3 _ s7 σ0 H7 x u _ I7' r7 (step x H7 y7)) λ_ s8 ⟨σ8,H8,I8,wk,q8⟩=>?_;have back:∀ {H':Hp} {s':Shared} {m':Nat} {ys':List V},Inv (bF X scope (aH++tgN) cl s3.heap.objs.size fp s3 H3) ([]++jC fp s7.heap) σ8 H' s'->m'<n->W (i+1) m' ys' H' ->
        ∃ m,m<n/\∃ i ys H',Inv (bF X scope (aH++tgN) cl s3.heap.objs.size fp s3 H3) [] σ0 H' s'/\tn i s'.heap/\(∀ b∈fp,H' b=none)/\W i m ys H':=λ{H' s' m' ys'} I' hm w'=>by
      have pinned:∀ b∈fp,∀ o,s7.heap.get? b=some o->s'.heap.get? b=some o/\H' b=none:=λb hb o e=>by have:=I'.pin (b,o) (aRR _ (aRR _ (nM hb e)));exact ⟨this.1,this.2.1⟩
      refine ⟨m',hm,i+1,ys',H',I'.unpinned.weak wk.1 wk.2,T.keep _ _ _ st7 λb hb o e=>(pinned b hb o e).1,λb hb=>?_,w'⟩;obtain ⟨o,e,_⟩:=T.obj _ _ st7 b hb;exact (pinned b hb o e).2
    refine thn (hf cl s3.heap.objs.size fp s3 H3 _ s8 σ8 H8 _ I8 q8) λb s9 ⟨H9,I9,q9⟩=>?_;cases b with
    | false=>rw[if_neg aRW] at q9 ⊢;obtain ⟨m',hm,w9⟩:=q9;exact back I9 hm w9
    | true =>
     rw[if_pos rfl] at q9 ⊢;refine thn (he cl s3.heap.objs.size fp s3 H3 _ s9 σ8 H9 _ I9 q9) λy s10 ⟨yv,H10,I10,r10,hD10,m',hm,w10⟩=>?_;refine thn (aCH (X:=bF X scope (aH++tgN) cl s3.heap.objs.size fp s3 H3) _ s10 σ8 H10 (.ref s2.heap.objs.size) [yv] (.ref s2.heap.objs.size) [y] (λv H'=>v=.non/\H'=upd H10 s2.heap.objs.size (.lst (ys++[yv]))) I10 rfl (.cons r10 .nil)
      ⟨s2.heap.objs.size,ys,yv,rfl,rfl,hD10,hlen,rfl,rfl⟩) λ_ s11 ⟨v,H11,I11,_,_,e11⟩=>?_
     subst e11;exact back I11 hm w10
 exact codeAny_compStart_list loop (T.self _ 0 _ _ _ (T.keep _ _ _ st2 (λb hb o e=>keep34 b o (keep23 b o e))) loop)
theorem aEQ{X:Cx}{elt aP tg:Expr}{ifs:List Expr}{scope:Scope}{pos:Pos}{aE:List Nat}{aH tgN:List Str}{wi:TI}{gt:TG}{tt:TT}{te:TE}(hc:X.calm=true)(hi:PI X tg aP wi)(cM:∀ y∈scope.names,y.2 ≠ .cell)(cY:scope.kind=.function)(eM:∀ y∈scope.names,y.2=.local->scope.names.lookup y.1=some .local)(cZ:∀ y∈scope.names,y.2=.free->X.env.kindOf y.1=some .cell\/X.env.kindOf y.1=some .free)(dJ:aH.map some=aE.map λi=>X.N[i]?)(eO:∀ y∈aH,(y,NameKind.free)∈scope.names)(eN:∀ y∈aH,(relabel scope X.env).names.lookup y=some .cell\/(relabel scope X.env).names.lookup y=some .free)(hg:∀ cl C fp s3 H3,PG (bF X scope (aH++tgN) cl C fp s3 H3) tg gt)(hf:∀ cl C fp s3 H3,cW (bF X scope (aH++tgN) cl C fp s3 H3) ifs tt)(he:∀ cl C fp s3 H3,PE (bF X scope (aH++tgN) cl C fp s3 H3) elt te)(hs:∀ x,foldedSetIterable aP X.env x=pure x:=by intro _;rfl):PE X (.ListComp elt [⟨tg,aP,ifs,0⟩] scope pos) (jM aE tgN.length wi gt tt te):=by intro aA s σ H Q I h;rw[eval_ListComp];exact tW (use:=none) hc hi cM cY eM cZ dJ eO eN hg hf he hs I h λD Z s6 H5 hm hI _ _ _ _ _ q=>by obtain ⟨m,hm⟩:=hm;exact ⟨m,hm,λh'' hs=>⟨.ref D,H5,hI h'' hs,rfl,q⟩⟩
theorem Inv.dropped{X:Cx}{aA:LAO}{σ:St}{H:Hp}{s:Shared}{h'':Heap}{Z:Addr}(I:Inv X aA σ H s)(hs:Heap.SameBut Z s.heap h'')(hz:H Z=none)(h0:X.s₀.heap.objs.size<=Z)(h1:Z≠X.env.locals)(h2:∀ x c,X.env.cells.lookup x=some c->c≠Z)(h3:∀ p∈X.pn++aA,p.1≠Z):Inv X aA σ H { s with heap:=h'' }:=by
 have un:Un (frs X.stack) [Z] H H s.heap h'':=by
  have k:∀ b o,s.heap.get? b=some o->b∉[Z]->h''.get? b=some o:=λb o e hb=>hs.extBut b o (λz=>hb (by rw[z];exact mcs)) e
  exact ⟨λb o e _ _ hx=>k b o e hx,λb o e _ _ hx=>⟨o.slots,k b o e hx⟩,λ_ _ _ n _=>n,λb o e hx=>⟨o,k b o e hx⟩,λ_ _ q=>q,λ_ _ _ q=>q,λ_ ps q=>⟨#[],by simpa using q⟩⟩
 have hok:HOk X.prog X.w H h'':=λa o e=>(I.hok a o e).stay (λb v hb q=>hs.extBut b v (by
  rintro rfl;rcases hb with hb | hb
  . rw[hb,e] at hz;cases hz
  . rw[hz] at hb;cases hb) q) (λ_ q=>q) λ_ _ q=>q
 obtain ⟨hh,g,d,t,o⟩:=s;exact I.call (g':=g) (d':=d) (t':=t) (ch:=[Z]) un hok I.bare λb hb=>by
  obtain rfl:b=Z:=by simpa using hb
  exact ⟨.inr h0,h1,h2,h3⟩
theorem aER{i:Nat}{x:Str}{pos' spos:Pos}{X:Cx}{elt aP tg:Expr}{ifs:List Expr}{scope:Scope}{pos:Pos}{aE:List Nat}{aH tgN:List Str}{wi:TI}{gt:TG}{tt:TT}{te:TE}(hc:X.calm=true)(hi:PI X tg aP wi)(cM:∀ y∈scope.names,y.2 ≠ .cell)(cY:scope.kind=.function)(eM:∀ y∈scope.names,y.2=.local->scope.names.lookup y.1=some .local)(cZ:∀ y∈scope.names,y.2=.free->X.env.kindOf y.1=some .cell\/X.env.kindOf y.1=some .free)(dJ:aH.map some=aE.map λi=>X.N[i]?)(eO:∀ y∈aH,(y,NameKind.free)∈scope.names)(eN:∀ y∈aH,(relabel scope X.env).names.lookup y=some .cell\/(relabel scope X.env).names.lookup y=some .free)(hg:∀ cl C fp s3 H3,PG (bF X scope (aH++tgN) cl C fp s3 H3) tg gt)(hf:∀ cl C fp s3 H3,cW (bF X scope (aH++tgN) cl C fp s3 H3) ifs tt)(he:∀ cl C fp s3 H3,PE (bF X scope (aH++tgN) cl C fp s3 H3) elt te)(hN:X.N.Nodup)(hx:X.N[i]? = some x)(hk:X.env.scope.names.lookup x=some .local)(hsw:swapsWith (.ListComp elt [⟨tg,aP,ifs,0⟩] scope pos) (some (.Name x pos')) spos.line X.env=pure true)(hs:∀ x,foldedSetIterable aP X.env x=pure x:=by intro _;rfl):PS X (.Assign [.Name x pos'] (.ListComp elt [⟨tg,aP,ifs,0⟩] scope pos) spos) (k9 (jM aE tgN.length wi gt tt te) (jB i)):=by
 intro aA s σ H En I h;rw[exec_Assign_Name_used _ _ _ _ hsw];refine aRL (wpAny_standAt (aRL ?_));show wpAny _ X.A (comprehension (.ListComp elt [⟨tg,aP,ifs,0⟩] scope pos) scope X.env (firstIterPos [⟨tg,aP,ifs,0⟩] pos) (newList []) (firstAsync [⟨tg,aP,ifs,0⟩]) (firstIter [⟨tg,aP,ifs,0⟩] X.env) (some (assign (.Name x pos') X.env)) >>= _) _ _ s;refine aRL (tW (use:=some (assign (.Name x pos') X.env)) hc hi cM cY eM cZ dJ eO eN hg hf he hs I h λD Z s6 H5 hm hI hz h0 h1 h2 h3 q=>?_);obtain ⟨m,hm⟩:=hm;have I6:=hI s6.heap (Heap.SameBut.refl _ _);refine wpAny_assign_Name (rP I6 hN hx (.inl hk) (show aJ (.ref D) (.ref D) from rfl) (λs' I' hch=>?_) (.inr hk))
 obtain ⟨a,sb,ha⟩:=hch;have na:Z≠a:=by
  rcases ha with rfl | ha
  . exact h1
  . exact λz=>h2 x a ha z.symm
 exact ⟨m,hm.sameBut sb na,λh'' hs2=>aRK (aRK ⟨_,H5,I'.dropped hs2 hz h0 h1 h2 h3,q⟩)⟩
end L2
namespace D3
open PySem PySem.Spec PyProof.Rows L2
def cX(aE:List Nat)(ρ:Rho):Rho:=aE.map λi=>match ρ[i]? with | some (some (false,d))=>some (false,d) | _=>none
def eC(k:D->Rho->Option Rho)(t e:Rho->Res)(ρ0:Rho):List D->Option (List D)
 | []=>some []
 | d::ds=>match k d ρ0 with
  | none=>none
  | some ρ1=>match t ρ1 with
   | .ok _ (.bl true)=>(match bB (e ρ1) with | .ok _ y=>(eC k t e ρ0 ds).map (y :: ·) | _=>none)
   | .ok _ (.bl false)=>eC k t e ρ0 ds
   | _=>none
def bN(src:Res)(ρ:Rho)(aE:List Nat)(n:Nat)(k:D->Rho->Option Rho)(t e:Rho->Res):Res:=src.thn λ_ d=>match d with
 | .lst ds=>if ds.length<sizeLine then (match eC k t e (cX aE ρ++List.replicate n none) ds with | some ys=>.ok .fr (.lst ys) | none=>.stuck) else .stuck
 | _=>.stuck
abbrev Cw.nox(C:Cw):Cw:={ C with EE:=λ_ _ _=>False }
theorem aI.upd{F H F' H':Hp}{x:Addr}{o:HO}(st:aI F H F' H')(hx:H x=none)(hx':F' x=none):aI F H F' (L2.upd H' x o) :=
 ⟨λb u q=>by rw[aR (cB q hx)];exact st.same b u q,st.fsame,λb u q=>by rw[aR (cB q hx')];exact st.sub b u q,st.new⟩
section
variable {C:Cw}{X:Cx}{e:Expr}{g:Rho->Res}{pos p:Pos}
theorem aES:cW X [] (tT (C.at X) λ_=>.ok .fz (.bl true)):=λaA s σ H Q I h=>by obtain ⟨ρ,F,R,w⟩:=h;exact aEN aA s σ H Q I (w F H (.refl R.sub))
theorem aET{c:Expr}{cs:List Expr}{ga gb:Rho->Res}(hc:PTv C X c ga)(hr:cW X cs (tT (C.at X) gb)):cW X (c::cs) (tT (C.at X) λρ=>dH (ga ρ) (gb ρ)):=λaA s σ H Q I h =>
 aEO hc hr aA s σ H Q I (tM h)
theorem aEU{K:Fg}{F0 H0 F H:Hp}{σ:L2.St}{ρ:Rho}(aE:List Nat)(n:Nat)(R:aX K F0 H0 F H σ ρ):aX K F0 H0 F H (c9 aE σ++List.replicate n none) (cX aE ρ++List.replicate n none):=by
 have low:∀ (i:Nat) (m:Bool) (d:D),(cX aE ρ++List.replicate n none)[i]? = some (some (m,d))->m=false/\∃ v,(c9 aE σ++List.replicate n none)[i]? = some (some v)/\aB K F d v:=λi m d e=>by
  by_cases hi:i<aE.length
  . rw[aSE (by simpa[cX] using hi)] at e
    rw[aSE (by simpa[c9] using hi)]
    unfold cX at e;unfold c9;rw[aSF,aTF hi] at e ⊢;simp only[aTJ,Option.some.injEq] at e;cases z:ρ[aE[i]]? with
    | none=>rw[z] at e;cases e
    | some o =>
     rw[z] at e;cases o with
     | none=>cases e
     | some q =>
      obtain ⟨b,d'⟩:=q;cases b with
      | true=>cases e
      | false=>cases e;obtain ⟨v,e1,r,_⟩:=R.slot _ _ _ z;exact ⟨rfl,v,by simp[e1],r⟩
  . rw[aSC (by simpa[cX] using hi),aSD] at e
    split at e <;> cases e
 refine ⟨R.st,λi m d e=>?_,λi j d d' a _ e1 _ _ _=>?_,by simp[c9,cX]⟩
 . obtain ⟨rfl,v,e1,r⟩:=low i m d e;exact ⟨v,e1,r,by intro z;cases z⟩
 . have:=(low i true d e1).1;cases this
end
mutual
def aT:D->Option PyData
 | .non=>some .none
 | .bl b=>some (.bool b)
 | .int i=>some (.int i)
 | .str x=>some (.str x)
 | .tup ds=>(bR ds).map .tuple
 | .lst ds=>(bR ds).map .list
 | _=>none
def bR:List D->Option (List PyData)
 | []=>some []
 | d::ds=>match aT d,bR ds with
  | some p,some ps=>some (p::ps)
  | _,_=>none
end
section
variable {X:Cx}{aA:LAO}{σ:L2.St}{F H:Hp}{s:Shared}
mutual
theorem tX(I:Inv X aA σ H s)(sF:aD F H):∀ (d:D) (p:PyData) (v:V) (u:Value),aB X.K F d v->aJ v u->aT d=some p->(∃ as,Reads s.heap u p as)/\p.canLay0=true
 | .non,p,v,u,h,r,e=>by simp only[aB] at h;subst h;cases r;simp only[aT] at e;cases e;exact ⟨⟨_,.none⟩,rfl⟩
 | .bl b,p,v,u,h,r,e=>by simp only[aB] at h;subst h;cases r;simp only[aT] at e;cases e;exact ⟨⟨_,.bool b⟩,rfl⟩
 | .int i,p,v,u,h,r,e=>by simp only[aB] at h;subst h;obtain ⟨t,rfl⟩:=r;simp only[aT] at e;cases e;exact ⟨⟨_,.int i t⟩,rfl⟩
 | .str x,p,v,u,h,r,e=>by simp only[aB] at h;obtain ⟨rfl,_,hk⟩:=h;obtain ⟨t,rfl⟩:=r;simp only[aT] at e;cases e;exact ⟨⟨_,.str x t⟩,by simpa only [PyData.canLay0] using hk⟩
 | .tup ds,p,v,u,h,r,e=>by
  simp only[aB] at h;obtain ⟨a,xs,rfl,q,rl⟩:=h;cases r;simp only[aT] at e;cases ep:bR ds with
  | none=>rw[ep] at e;cases e
  | some ps=>rw[ep] at e;cases e;obtain ⟨its,rv,⟨o,h1,h2,n,h3⟩,_⟩:=I.tuple (aD.seqT sF q);obtain ⟨⟨as,ra⟩,hc⟩:=lT I sF ds ps xs its rl rv ep;exact ⟨⟨_,.tuple h1 h2 h3 (by simpa using ra)⟩,by simpa only [PyData.canLay0] using hc⟩
 | .lst ds,p,v,u,h,r,e=>by
  simp only[aB] at h;obtain ⟨a,xs,rfl,q,rl⟩:=h;cases r;simp only[aT] at e;cases ep:bR ds with
  | none=>rw[ep] at e;cases e
  | some ps=>rw[ep] at e;cases e;obtain ⟨its,rv,⟨o,n,h1,h2,_,h3⟩,_⟩:=I.list (sF.seq q);obtain ⟨⟨as,ra⟩,hc⟩:=lT I sF ds ps xs its rl rv ep;exact ⟨⟨_,.list h1 h2 h3 (by simpa using ra)⟩,by simpa only [PyData.canLay0] using hc⟩
 | .dct _,p,v,u,h,r,e=>by simp only[aT] at e;cases e
 | .ty _,p,v,u,h,r,e=>by simp only[aT] at e;cases e
 | .ob _,p,v,u,h,r,e=>by simp only[aT] at e;cases e
 | .ins _ _,p,v,u,h,r,e=>by simp only[aT] at e;cases e
 | .fn _,p,v,u,h,r,e=>by simp only[aT] at e;cases e
 | .exn _,p,v,u,h,r,e=>by simp only[aT] at e;cases e
 | .set _,p,v,u,h,r,e=>by simp only[aT] at e;cases e
 | .dtn _,p,v,u,h,r,e=>by simp only[aT] at e;cases e
 | .dtf _,p,v,u,h,r,e=>by simp only[aT] at e;cases e
theorem lT(I:Inv X aA σ H s)(sF:aD F H):∀ (ds:List D) (ps:List PyData) (xs:List V) (us:List Value),aC X.K F ds xs->aM xs us->bR ds=some ps->(∃ as,ReadsAll s.heap us ps as)/\PyData.canLayAll0 ps=true
 | [],ps,xs,us,h,r,e=>by simp only[aC] at h;subst h;cases r;simp only[bR] at e;cases e;exact ⟨⟨_,.nil⟩,rfl⟩
 | d::ds,ps,xs,us,h,r,e=>by
  simp only[aC] at h;obtain ⟨y,ys,rfl,hd,hl⟩:=h;cases r with
  | cons r1 r2 =>
   simp only[bR] at e;cases e1:aT d with
   | none=>rw[e1] at e;cases e
   | some p =>
    cases e2:bR ds with
    | none=>rw[e1,e2] at e;cases e
    | some ps'=>rw[e1,e2] at e;cases e;obtain ⟨⟨as,ra⟩,hc⟩:=tX I sF d p y _ hd r1 e1;obtain ⟨⟨bs,rb⟩,hc'⟩:=lT I sF ds ps' ys _ hl r2 e2;exact ⟨⟨_,.cons ra rb⟩,by simp only[PyData.canLayAll0,hc,hc',Bool.and_self]⟩
end
theorem tY(I:Inv X aA σ H s)(sF:aD F H){m:Md}{d:D}{p:PyData}{v:V}{u:Value}(h:Rp X.K F H m d v)(r:aJ v u)(e:aT d=some p):(∃ as,Reads s.heap u p as)/\p.canLay0=true:=by
 cases m with
 | fz=>exact tX I sF d p v u h r e
 | _ =>
  obtain ⟨a,rfl,n,t⟩:=h;cases d with
  | lst ds =>
   obtain ⟨xs,q,rl⟩:=t;cases r;simp only[aT] at e;cases ep:bR ds with
   | none=>rw[ep] at e;cases e
   | some ps=>rw[ep] at e;cases e;obtain ⟨its,rv,⟨o,n,h1,h2,_,h3⟩,_⟩:=I.list (SqL.of q);obtain ⟨⟨as,ra⟩,hc⟩:=lT I sF ds ps xs its rl rv ep;exact ⟨⟨_,.list h1 h2 h3 (by simpa using ra)⟩,by simpa only [PyData.canLay0] using hc⟩
  | dct ds=>simp only[aT] at e;cases e
  | ins _ _=>simp only[aT] at e;cases e
  | set _=>simp only[aT] at e;cases e
  | dtn _=>simp only[aT] at e;cases e
  | dtf _=>simp only[aT] at e;cases e
  | _=>exact t.elim
end
def jN(p:PyData):Bool:=decide (p.depth<=50)
def eqF(neg:Bool):Md->D->Md->D->Option (Md×D):=λ_ x _ y=>match aT x,aT y with
 | some p,some q=>if (jN p&&jN q)=true then some (.fz,.bl (if neg then !PyData.eqv p q else PyData.eqv p q)) else none
 | _,_=>none
section
variable {C:Cw}{X:Cx}
theorem tZ{f:Value->Value->Sem Value}{neg:Bool}(hu:X.A.units+64<cLine)(rule:∀ (s:Shared) (a b:Value) (da db:PyData) (as bs:List Addr) (Q:VSP),Reads s.heap a da as->Reads s.heap b db bs->da.canLay0=true->db.canLay0=true->X.A.units+min da.depth db.depth<cLine->Q (.bool (if neg then !PyData.eqv da db else PyData.eqv da db)) s->wpAny (model X.prog X.w) X.A (f a b) Q X.xe s):OpD C X f (eqF neg):=by
 refine ⟨λx y H Q=>∃ F m n d e p q,aD F H/\Rp X.K F H m d x/\Rp X.K F H n e y/\aT d=some p/\aT e=some q/\(jN p&&jN q)=true/\Q (.bl (if neg then !PyData.eqv p q else PyData.eqv p q)) H,?_,?_⟩
 . intro aA s σ H x y v u Q I rx ry h;obtain ⟨F,m,n,d,e,p,q,sF,hd,he,ep,eq,hs,hQ⟩:=h;obtain ⟨⟨as,ra⟩,ca⟩:=tY I sF hd rx ep;obtain ⟨⟨bs,rb⟩,cb⟩:=tY I sF he ry eq;rw[aSR] at hs;have h1:=aS5 hs.1;refine rule s v u p q as bs _ ra rb ca cb (by have:=Nat.min_le_left p.depth q.depth;omega) ⟨.bl _,H,I,rfl,hQ⟩
 . intro F H m x n y v u k d Q s rx ry e w;unfold eqF at e;split at e
   . rename_i p q ep eq;split at e
     . rename_i hc;cases e;exact ⟨F,m,n,x,y,p,q,s,rx,ry,ep,eq,hc,w _ F H (.refl s) (cA _) (by intro z;cases z)⟩
     . cases e
   . cases e
theorem aEV(hu:X.A.units+64<cLine):OpD C X (compareOp .Eq) (eqF false):=tZ hu λs a b da db as bs Q ra rb ca cb hd q=>SeqAt.compareEq_reads ra rb ca cb hd q
theorem aEW(hu:X.A.units+64<cLine):OpD C X (compareOp .NotEq) (eqF true):=tZ hu λs a b da db as bs Q ra rb ca cb hd q=>SeqAt.compareNe_reads ra rb ca cb hd q
end
def MtD(X:Cx)(id:String)(φ:Md->D->List (Md×D)->Option (Md×D)):Prop :=
 ∃ r:V->List V->Hp->VK->Prop,MtR X id r/\∀ F H m x xs v vs k d Q,aD F H->Rp X.K F H m x v->RpL X.K F H xs vs->φ m x xs=some (k,d) ->
  (∀ v' F' H',aI F H F' H'->Rp X.K F' H' k d v'->(k=.fr->∀ a,v'=.ref a->H a=none)->Q v' H')->r v vs H Q
def jO(T:String)(d:D):Bool:=tyN d==some T
def lU(T:String)(φ:Md->D->List (Md×D)->Option (Md×D))(o:Res)(r:aG):Res:=o.thn λm x=>if jO T x=true then r.thn λxs=>Res.of (φ m x xs) else .stuck
section
variable {C:Cw}{X:Cx}{o e:Expr}{es:List Expr}{go:Rho->Res}{gs:Rho->aG}{apos cpos:Pos}{T id:String}{name:Str}
theorem aEX{K:Fg}{F H:Hp}{m:Md}{d:D}{v:V}(s:aD F H)(r:Rp K F H m d v)(h:jO T d=true):T = "str" \/ T = "list" -> tyV K T v H:=by
 have h:tyN d=some T:=by simpa[jO] using h
 intro hT;cases d with
 | str x=>cases h;obtain ⟨rfl,_⟩:=r.str;exact rfl
 | lst ds=>cases h;obtain ⟨a,xs,rfl,q,_⟩:=r.seqL s;exact .inl ⟨rfl,xs,q⟩
 | tup ds=>cases h;rcases hT with z | z <;> exact absurd z (by decide)
 | non=>cases h;rcases hT with z | z <;> exact absurd z (by decide)
 | bl b=>cases h;rcases hT with z | z <;> exact absurd z (by decide)
 | int b=>cases h;rcases hT with z | z <;> exact absurd z (by decide)
 | dct b=>cases h;rcases hT with z | z <;> exact absurd z (by decide)
 | ty b=>cases h
 | ob b=>cases h
 | ins b _=>cases h
 | dtn b=>cases h
 | dtf b=>cases h
 | fn b=>cases h
 | exn b=>cases h
 | set b=>cases h
theorem lV{φ}(hT:T = "str" \/ T = "list")(pa:PlainAttrs T)(slot:Slot T name id)(hty:typeOf (.builtin id)=pure (.type "method_descriptor"))(hm:MtD X id φ)(ho:PV C X o go)(ha:PAv C X (e::es) gs)(hbase:attributeBase o name X.env (eval o X.env)=eval o X.env:=by rfl)(hfew:((backTo cpos (starEach (e::es) X.env)).all (λx=>!x.1)&&(backToKw cpos (keywordEach [] X.env)).all (λx=>x.1.isSome)&&decide ((e::es).length+([]:List Keyword).length+(if ([]:List Keyword).isEmpty then 0 else 1)<30))=true:=by rfl)(hline:(apos.endLine==cpos.line)=true:=by rfl)(hs:starEach (e::es) X.env=(false,eval e X.env)::starEach es X.env:=by rfl)(hplain:(backTo cpos (starEach es X.env)).any (·.1)=false:=by rfl):PV C X (.Call (.Attribute o name apos) (e::es) [] cpos) (λρ=>lU T φ (go ρ) (gs ρ)):=by
 obtain ⟨r,h1,h2⟩:=hm;refine PE.imp (pe_bm pa slot hty h1 ho ha hbase hfew hline hs hplain) λσ H Q q=>?_;unfold tBM;rw[aU] at q ⊢;obtain ⟨ρ,F,R,w⟩:=q;refine ⟨ρ,F,R,?_⟩;cases er:go ρ with
 | stuck=>rw[er] at w;exact w
 | exc c=>rw[er] at w;exact w
 | ok m d =>
  rw[er] at w;intro v F1 H1 s1 r1 _;have w1:aS (C.at X) F1 H1 σ (if jO T d=true then (gs ρ).thn λxs=>Res.of (φ m d xs) else .stuck) Q:=aS.step s1 w;split at w1
  . rename_i ht;refine ⟨aEX s1.sub r1 ht hT,ρ,F1,R.step s1,?_⟩;cases es':gs ρ with
    | stuck=>rw[es'] at w1;exact w1
    | exc c=>rw[es'] at w1;exact w1
    | ok xs =>
     rw[es'] at w1;intro vs F2 H2 s2 r2;have w2:aS (C.at X) F2 H2 σ (Res.of (φ m d xs)) Q:=aS.step s2 w1;cases ef:φ m d xs with
     | none=>rw[ef] at w2;exact w2.elim
     | some kd=>obtain ⟨k,d'⟩:=kd;rw[ef] at w2;exact h2 F2 H2 m d xs v vs k d' Q s2.sub (r1.step s2) r2 ef w2
  . exact w1.elim
def fR:List D->Option (List Str)
 | []=>some []
 | .str x::r=>(fR r).map (x :: ·)
 | _=>none
def iF:Md->D->List (Md×D)->Option (Md×D):=λ_ x xs=>match x,xs with
 | .str z,[(_,.lst ds)]=>(match fR ds with
  | some ys=>if (ys.map (·.length)).sum+ys.length * z.length<=sizeLine then some (.fz,.str (Txt.join z ys)) else none
  | none=>none)
 | _,_=>none
theorem t0{K:Fg}{F:Hp}:∀ {ds:List D} {xs:List V} {ys:List Str},aC K F ds xs->fR ds=some ys->xs=ys.map V.str/\∀ y∈ys,PyData.strOk y=true
 | [],_,_,h,e=>by cases e;simp only[aC] at h;exact ⟨h,λ_ z=>by cases z⟩
 | d::ds,_,_,h,e=>by
  simp only[aC] at h;obtain ⟨y,ys,rfl,r,t⟩:=h;cases d with
  | str b =>
   unfold fR at e;cases q:fR ds with
   | none=>rw[q] at e;cases e
   | some bs =>
    rw[q] at e;cases e;simp only[aB] at r;obtain ⟨rfl,_,hk⟩:=r;obtain ⟨rfl,hh⟩:=t0 t q;refine ⟨rfl,λy hy=>?_⟩;rcases aRA.mp hy with rfl | hy
    . exact hk
    . exact hh y hy
  | _=>cases e
theorem jP:∀ {ys:List Str} {us:List Value},aM (ys.map V.str) us->StrsAre us ys
 | [],_,h=>by cases h;exact .nil
 | y::ys,_,h=>by
  cases h with
  | cons r t=>obtain ⟨tk,rfl⟩:=r;exact .cons y tk (jP t)
theorem oB{z:Str}(hz:PyData.strOk z=true):∀ {ys:List Str},(∀ y∈ys,PyData.strOk y=true)->PyData.strOk (Str.join z ys)=true
 | [],_=>by show PyData.strOk Str.empty=true;decide +kernel
 | [x],h=>h x mcs
 | x::y::r,h=>by show PyData.strOk (x++z++Str.join z (y::r))=true;exact n0 (n0 (h x mcs) hz) (oB hz λw hw=>h w (mcm hw))
theorem lW(z:Str)(ys:List Str):Txt.join z ys=Str.join z ys:=StrLaws.glued_eq_join z ys
theorem aEY:MtD X "str.join" iF:=by
 refine ⟨λv vs H Q=>∃ (z:Str) (a:Addr) (ys:List Str),v=.str z/\vs=[.ref a]/\SqL X.K H a (ys.map V.str)/\(ys.map (·.length)).sum+ys.length * z.length<=sizeLine/\Q (.str (Txt.join z ys)) H,?_,?_⟩
 . intro aA s σ H x xs v us Q I rx r h;obtain ⟨z,a,ys,rfl,rfl,hq,hl,q⟩:=h;obtain ⟨t,rfl⟩:=rx;obtain ⟨u,rfl,ru⟩:=cO r;cases (show u=Value.ref a from ru)
   obtain ⟨its,rv,p,hz⟩:=I.list hq;have hs:sizeLine=16777216:=aRT;exact join_list p.isList (by simpa using jP rv) (by omega) λt' k=>⟨.str (Txt.join z ys),H,I.tok _,⟨_,rfl⟩,q⟩
 . intro F H m x xs v vs k d Q s rx rl e w;unfold iF at e;split at e
   . rename_i z m' ds;obtain ⟨rfl,hz,hk⟩:=rx.str;obtain ⟨u,rfl,r⟩:=rl.one;obtain ⟨a,ws,rfl,hq,rr⟩:=r.seqL s;split at e
     . rename_i ys ey;split at e
       . rename_i hl;cases e;obtain ⟨rfl,hys⟩:=t0 rr ey;refine ⟨z,a,ys,rfl,rfl,hq,hl,w _ F H (.refl s) (fB ⟨?_,?_⟩) (by intro z;cases z)⟩
         . rw[lW];exact aQ8 (StrLaws.join_length_le z ys) hl
         . rw[lW];exact oB hk hys
       . cases e
     . cases e
   . cases e
end
def spV(K:Fg)(mg:SOV)(n:Nat)(Φ:List D->Res):Sp:=λvs H Q E=>vs.length=n/\∃ F ds,aD F H/\aC K F ds vs/\match Φ ds with
 | .ok m d=>m ≠ .bo/\∀ v F' H',aI F H F' H'->Rp K F' H' m d v->(m=.fr->∀ a,v=.ref a->H a=none)->Q v H'
 | .exc c=>∀ F' H' u,aI F H F' H'->mg c=some u->E u none H'
 | .stuck=>False
structure FnV(P:Program)(w:World)(K:Fg)(mg:SOV)(base:Heap)(CX:CXT)(k:Nat)(x:Str)(n:Nat)(Φ:List D->Res):Prop where
 ex:∃ f fd ps,cD P w K mg base CX k f fd ps (spV K mg n Φ)/\mg x=some (.ref f)/\PySem.W.keepIn K (.ref f)=true/\d9 K fd ps []
def aL(n:Nat)(Φ:List D->Res)(r:aG):Res:=r.thn λxs=>match bX xs with
 | some ds=>if ds.length=n then (match Φ ds with | .ok .bo _=>.stuck | r=>r) else .stuck
 | none=>.stuck
def XOk(CX:CXT)(C:Cw)(X:Cx):Prop:=∀ (aA:LAO) (σ:L2.St) (H:Hp) (s:Shared) (e:Value) (s':Shared),Inv X aA σ H s->CX X.stack H s (λu _ H'=>∃ c,X.mg c=some u/\C.EE c σ H') e s'->X.xe e s'
section
variable {C:Cw}{X:Cx}{e:Expr}{es:List Expr}{gs:Rho->aG}{p pos:Pos}{x:Str}{k n:Nat}{Φ:List D->Res}{CX:CXT}
theorem t4{f:Addr}{fd:FuncData}{ps:List Str}{aA:LAO}{σ:L2.St}{H:Hp}{s:Shared}{Q:VK}{us:List Value}{vs:List V}{E:XK}(F:cD X.prog X.w X.K X.mg X.base CX k f fd ps (spV X.K X.mg n Φ))(hr:bJ k X.A)(hb:d9 X.K fd ps [])(hx:∀ e s',CX X.stack H s E e s'->X.xe e s')(I:Inv X aA σ H s)(r:aM vs us)(h:spV X.K X.mg n Φ vs H Q E):wpAny (model X.prog X.w) X.A (call (.ref f) us) (EP X aA σ Q) X.xe s:=by
 have hl:(us++[]).length=ps.length:=by rw[aR7,<- r.length];exact F.len _ _ _ _ h
 have hb':=hb s us I.kIn hl;rw[aR7] at hb';refine wpAny_call (aS2 (F.run X.A X.stack s H ⟨us,[]⟩ us vs Q E hr I.env0 hb' r h) λr s' hq=>?_);cases r with
 | error e=>exact hx e s' hq
 | ok fl =>
  cases fl with
  | ret u=>exact I.after hq
  | next=>exact False.elim hq
  | brk=>exact False.elim hq
  | cont=>exact False.elim hq
theorem aEZ(F:FnV X.prog X.w X.K X.mg X.base CX k x n Φ)(hr:bJ k X.A)(hx:XOk CX (C.at X) X)(hg:Gl X x)(ha:PAv C X (e::es) gs)(hdb:(x==("__debug__" : Str))=false:=by decide)(he:starEach (e::es) X.env=(false,eval e X.env)::starEach es X.env:=by rfl)(hpl:(backTo pos (starEach es X.env)).any (·.1)=false:=by rfl):PV C X (.Call (.Name x p) (e::es) [] pos) (λρ=>aL n Φ (gs ρ)):=by
 obtain ⟨f,fd,ps,FF,hm,hk,hb⟩:=F.ex;intro aA s σ H Q I h;rw[aU] at h;obtain ⟨ρ,F,R,w⟩:=h;refine aSI (jA I hg hm ?_ hdb);refine aTQ (h₀:=X.base) I.ok.mod.kin hk (thn (ha pos aA s σ H (λvs H1=>spV X.K X.mg n Φ vs H1 Q λu _ H'=>∃ c,X.mg c=some u/\C.EE c σ H') I ?_) λus s1 ⟨vs,H1,I1,r,q⟩=>⟨I1.kIn,t4 FF hr hb (λe s' hc=>hx aA σ H1 s1 e s' I1 hc) I1 r q⟩) he hpl;refine ⟨ρ,F,R,?_⟩;cases er:gs ρ with
 | stuck=>rw[er] at w;exact w
 | exc c=>rw[er] at w;exact w
 | ok xs =>
  rw[er] at w;intro vs F1 H1 s1 r1;have w1:aS (C.at X) F1 H1 σ (aL n Φ (.ok xs)) Q:=aS.step s1 w;unfold aL at w1;rw[aG.thn_ok] at w1;cases ef:bX xs with
  | none=>rw[ef] at w1;exact w1.elim
  | some ds =>
   rw[ef] at w1;dsimp only at w1;split at w1
   . rename_i hn;have rl:=r1.fz ef;refine ⟨by rw[rl.length];exact hn,F1,ds,s1.sub,rl,?_⟩
     cases ep:Φ ds with
     | stuck=>rw[ep] at w1;exact w1
     | exc c=>rw[ep] at w1;exact λF' H' u st hu=>⟨c,hu,w1 F' H' st⟩
     | ok m d =>
      rw[ep] at w1;cases m with
      | bo=>exact w1.elim
      | fz=>exact ⟨by decide,w1⟩
      | fr=>exact ⟨by decide,w1⟩
   . exact w1.elim
end
def endR:aK->Res
 | .nx _=>.ok .fz .non
 | .rt m d=>.ok m d
 | .exc c _=>.exc c
 | _=>.stuck
def dC(n:Nat)(ds:List D):Rho:=ds.map (λd=>some (false,d))++List.replicate (n-ds.length) none
theorem aE0{K:Fg}{F H:Hp}{N:List Str}{ds:List D}{vs:List V}(s:aD F H)(r:aC K F ds vs):aX K F H F H (cE N vs) (dC N.length ds):=by
 have low:∀ (i:Nat) (m:Bool) (d:D),(dC N.length ds)[i]? = some (some (m,d))->m=false/\∃ v,(cE N vs)[i]? = some (some v)/\aB K F d v:=λi m d e=>by
  unfold dC at e;unfold L2.cE;by_cases hi:i<ds.length
  . rw[aSE (by simpa using hi),aSF,aTF hi] at e
    cases e;obtain ⟨v,ev,rv⟩:=r.get' (aTF hi);exact ⟨rfl,v,by rw[aSE (by simpa[r.length] using hi),aSF,ev];rfl,rv⟩
  . rw[aSC (by simpa using hi),aSD] at e
    split at e <;> cases e
 refine ⟨.refl s,λi m d e=>?_,λi j d d' a _ e1 _ _ _=>?_,by simp[L2.cE,dC,r.length]⟩
 . obtain ⟨rfl,v,e1,rv⟩:=low i m d e;exact ⟨v,e1,rv,by intro z;cases z⟩
 . have:=(low i true d e1).1;cases this
def lX(ns:List Int):List D:=[.lst (ns.map .int)]
theorem t5{K:Fg}{F:Hp}:∀ ns:List Int,aC K F (ns.map D.int) (ns.map V.int)
 | []=>aC.nil
 | n::ns=>aC.cons (by simp only[aB]) (t5 ns)
def noK:Md->D->Md->D->Option (Md×D):=λ_ _ _ _=>none
abbrev fAdd:Md->D->Md->D->Option (Md×D):=orO (fI (λ_ _=>true) λi j=>.int (i+j)) (fS (λi j=>decide (i.length+j.length<=sizeLine)) λi j=>.str (i++j))
abbrev fSub:Md->D->Md->D->Option (Md×D):=fI (λ_ _=>true) λi j=>.int (i-j)
abbrev fMul:Md->D->Md->D->Option (Md×D):=orO (fI (λi j=>(bA i&&bA j)||(w64 i||w64 j)) λi j=>.int (i * j)) noK
abbrev fMod:Md->D->Md->D->Option (Md×D):=fI (λ_ j=>decide (0<j)) λi j=>.int (i % j)
abbrev fDiv:Md->D->Md->D->Option (Md×D):=fI (λ_ j=>decide (0<j)&&bA j) λi j=>.int (i / j)
abbrev fPow:Md->D->Md->D->Option (Md×D):=fI (λi j=>decide (0<=j)&&decide (j<=1000000)&&decide (i.natAbs<2 ^ 64)) λi j=>.int (i ^ j.toNat)
abbrev fLt:Md->D->Md->D->Option (Md×D):=fI (λ_ _=>true) λi j=>.bl (decide (i<j))
abbrev fLe:Md->D->Md->D->Option (Md×D):=fI (λ_ _=>true) λi j=>.bl (decide (i<=j))
abbrev fGt:Md->D->Md->D->Option (Md×D):=fI (λ_ _=>true) λi j=>.bl (decide (j<i))
abbrev fGe:Md->D->Md->D->Option (Md×D):=fI (λ_ _=>true) λi j=>.bl (decide (j<=i))
abbrev fEq:Md->D->Md->D->Option (Md×D):=orO (eqF false) noK
abbrev fNe:Md->D->Md->D->Option (Md×D):=orO (eqF true) noK
abbrev fIn:Md->D->Md->D->Option (Md×D):=fS (λ_ _=>true) λi j=>.bl (hX i j)
abbrev aE1:Md->D->Md->D->Option (Md×D):=fS (λ_ _=>true) λi j=>.bl (!hX i j)
def IsB(φ:Md->D->Md->D->Option (Md×D)):Prop:=∀ m x n y k d,φ m x n y=some (k,d)->∃ t,k=.fz/\d=.bl t
theorem lY{c:Int->Int->Bool}{g:Int->Int->Bool}:IsB (fI c λi j=>.bl (g i j)):=λm x n y k d e=>by
 unfold fI at e;split at e
 . split at e
   . cases e;exact ⟨_,rfl,rfl⟩
   . cases e
 . cases e
theorem t7{c:Str->Str->Bool}{g:Str->Str->Bool}:IsB (fS c λi j=>.bl (g i j)):=λm x n y k d e=>by
 unfold fS at e;split at e
 . split at e
   . cases e;exact ⟨_,rfl,rfl⟩
   . cases e
 . cases e
theorem jQ{φ ψ}(h:IsB φ)(h':IsB ψ):IsB (orO φ ψ):=λm x n y k d e=>by
 unfold orO at e;cases e1:φ m x n y with
 | none=>rw[e1] at e;exact h' _ _ _ _ _ _ e
 | some p=>rw[e1] at e;cases e;exact h _ _ _ _ _ _ e1
theorem t9{neg:Bool}:IsB (eqF neg):=λm x n y k d e=>by
 unfold eqF at e;split at e
 . split at e
   . cases e;exact ⟨_,rfl,rfl⟩
   . cases e
 . cases e
section
variable {C:Cw}{X:Cx}
theorem iG{f:Value->Value->Sem Value}:OpD C X f noK:=⟨λ_ _ _ _=>False,λ_ _ _ _ _ _ _ _ _ _ _ _ h=>h.elim,λ_ _ _ _ _ _ _ _ _ _ _ _ _ _ e _=>by cases e⟩
theorem o_add:OpD C X (binaryOp .Add) fAdd:=aC4.or aDG
theorem o_mul:OpD C X (binaryOp .Mult) fMul:=aC7.or iG
theorem o_eq(hu:X.A.units+64<cLine):OpD C X (compareOp .Eq) fEq:=(aEV hu).or iG
theorem o_ne(hu:X.A.units+64<cLine):OpD C X (compareOp .NotEq) fNe:=(aEW hu).or iG
def phi(n N:Nat)(g:Rho->aK):List D->Res:=λds=>if ds.length=n then endR (g (dC N ds)) else .stuck
end
def jR(scope sc:Scope):List (Str×NameKind):=scope.names.map λ(n,k)=>if (k == .free&&sc.kind == .function&&sc.names.lookup n==some .cell) then (n,.cell) else (n,k)
theorem aE2:bootBuiltins "len" = some (.builtin "len"):=by decide +kernel
theorem aE3:bootBuiltins "isinstance" = some (.builtin "isinstance"):=by decide +kernel
theorem aE4:bootBuiltins "all" = some (.builtin "all"):=by decide +kernel
theorem aE5:bootBuiltins "int" = some (.type "int"):=by decide +kernel
theorem aE6:bootBuiltins "bool" = some (.type "bool"):=by decide +kernel
theorem aE7:bootBuiltins "str" = some (.type "str"):=by decide +kernel
theorem aE8:bootBuiltins "tuple" = some (.type "tuple"):=by decide +kernel
theorem aE9:bootBuiltins "list" = some (.type "list"):=by decide +kernel
theorem aFA:bootBuiltins "dict" = some (.type "dict"):=by decide +kernel
structure CI where
 name:Str
 ups:List Str
 flds:List Str
 meths:List (Str×Str×Nat)
def bS:Expr->Bool | .Starred ..=>false | _=>true
def fT:Expr->Bool | .Call (.Name x _) [] [] _=>x != "super" | _=>true
theorem bH{x:Expr}{es:List Expr}{env:Env}(h:bS x=true):starEach (x::es) env=(false,eval x env)::starEach es env:=by cases x <;> first | rfl | cases h
theorem eD(pos:Pos)(env:Env):∀ {es:List Expr},(∀ x∈es,bS x=true)->(backTo pos (starEach es env)).any (·.1)=false
 | [],_=>rfl
 | x::es,h=>by rw[bH (h x mcs)];show ((false||(backTo pos (starEach es env)).any (·.1))=false);rw[eD pos env λy hy=>h y (mcm hy)];rfl
theorem gQ(pos:Pos)(env:Env):∀ {es:List Expr},(∀ x∈es,bS x=true)->(backTo pos (starEach es env)).all (λx=>!x.1)=true
 | [],_=>rfl
 | x::es,h=>by rw[bH (h x mcs)];show ((true&&(backTo pos (starEach es env)).all (λx=>!x.1))=true);rw[gQ pos env λy hy=>h y (mcm hy)];rfl
theorem gR{o:Expr}{n:Str}{env:Env}{w:Sem Value}(h:fT o=true):attributeBase o n env w=w:=by
 cases o with
 | Call f as ks pos =>
  cases f with
  | Name x p =>
   cases as with
   | nil =>
    cases ks with
    | nil=>show (if x != "super" || n == "__class__" || env.kindOf "super" != some .globalImplicit||env.kindOf "__class__" != some .free then w else _)=w;have:(x != ("super" : Str))=true:=h;rw[if_pos (by rw[this];rfl)]
    | cons _ _=>rfl
   | cons _ _=>rfl
  | _=>rfl
 | _=>rfl
theorem aFB {o : Expr} {m : Str} {apos pos : Pos} {args : List Expr} {env : Env} (hb : fT o = true) (hst : ∀ x ∈ args, bS x = true) (hn : args.length < 30) (hl : apos.endLine = pos.line) :
    eval (.Call (.Attribute o m apos) args [] pos) env=(do
     let ov <- eval o env
     standAt apos.atName
     let (f,first) <- holding [ov] (getMethod ov m (do return (<- importBound o env).getD true))
     callWith pos f first (backTo pos (starEach args env)) (backToKw pos (keywordEach [] env))):=by
 have few:methodCallForm (args.length+([]:List Keyword).length) (backTo pos (starEach args env)) (backToKw pos (keywordEach [] env))=true:=by unfold methodCallForm;rw[gQ pos env hst];show (true&&true&&decide (args.length+0+0<30))=true;rw[aSY (by omega)];rfl
 show (do
  let ov <- attributeBase o m env (eval o env)
  standAt apos.atName
  methodCall o m apos pos env ov (args.length+([]:List Keyword).length) (backTo pos (starEach args env)) (backToKw pos (keywordEach [] env)))=_
 rw[gR hb];unfold methodCall;rw[few];have hp:methodCallPos true o env apos pos=pure pos:=by unfold methodCallPos;rw[if_pos (by rw[hl];simp)]
 rw[hp];show (do
  let ov <- eval o env
  standAt apos.atName
  let (f,first) <- holding [ov] (getMethod ov m (do return (<- importBound o env).getD true))
  let callPos <- pure pos
  callWith callPos f first (backTo pos (starEach args env)) (backToKw pos (keywordEach [] env)))=_
 simp only[aTM]
structure MtV(P:Program)(w:World)(K:Fg)(mg:SOV)(base:Heap)(CX:CXT)(k:Nat)(c m:Str)(n:Nat)(Φ:List D->Res):Prop where
 ex:∃ C f fd ps,PySem.W.nsIn K mainGlobals c=some (some (.ref C))/\Cls K C/\jE K C m f/\cD P w K mg base CX k f fd ps (spV K mg n Φ)/\d9 K fd ps []
structure FlV(K:Fg)(c f:Str):Prop where
 ex:∃ C,PySem.W.nsIn K mainGlobals c=some (some (.ref C))/\Cls K C/\e9 K C f
def CI.meth(cl:List CI)(c m:Str):Option (Str×Nat):=match cl.find? (λi=>i.name==c) with
 | some i=>i.meths.lookup m
 | none=>none
def fD(cl:List CI)(f:Str)(r:Res):Res:=r.thn λ_ d=>match d with
 | .ins c fs=>(match cl.find? (λi=>i.name==c) with
  | some i=>if i.flds.contains f=true then (match fs.lookup f with | some d=>.ok .fz d | none=>.stuck) else .stuck
  | none=>.stuck)
 | _=>.stuck
def aV(cl:List CI)(Φ:Str->List D->Res)(m:Str)(o:Res)(as:aG):Res:=o.thn λmd d=>match md,d with
 | .fz,.ins c fs=>(match CI.meth cl c m with
  | some (key,n)=>if fs.lookup m=none then aL n (Φ key) (aN (.ok .fz (.ins c fs)) as) else .stuck
  | none=>.stuck)
 | _,_=>.stuck
section
variable {C:Cw}{X:Cx}{o e:Expr}{es:List Expr}{go:Rho->Res}{gs:Rho->aG}{apos pos:Pos}{m f:Str}{k:Nat}{Φ:Str->List D->Res}{CX:CXT}{cl:List CI}
theorem aFC(hF:∀ i f,i∈cl->f∈i.flds->FlV X.K i.name f)(ho:PV C X o go)(hb:fT o=true):PV C X (.Attribute o f pos) (λρ=>fD cl f (go ρ)):=by
 refine PE.imp (aBF ho (gR hb)) λσ H Q q=>?_;unfold tFld;rw[aU] at q ⊢;obtain ⟨ρ,F,R,w⟩:=q;refine ⟨ρ,F,R,?_⟩;cases er:go ρ with
 | stuck=>rw[er] at w;exact w
 | exc c=>rw[er] at w;exact w
 | ok md d =>
  rw[er] at w;intro v F1 H1 s1 r1 _;have w1:aS (C.at X) F1 H1 σ (fD cl f (.ok md d)) Q:=aS.step s1 w;unfold fD at w1;rw[Res.thn_ok] at w1;cases d with
  | ins c fs =>
   dsimp only at w1;cases ef:cl.find? (λi=>i.name==c) with
   | none=>rw[ef] at w1;exact w1.elim
   | some i =>
    rw[ef] at w1;dsimp only at w1;split at w1
    . rename_i hf;cases el:fs.lookup f with
      | none=>rw[el] at w1;exact w1.elim
      | some d' =>
       rw[el] at w1;have hi:i.name=c:=by simpa using aTR ef
       obtain ⟨C',n1,cl',na⟩:=(hF i f (aTS ef) (by simpa using hf)).ex
       rw[hi] at n1;obtain ⟨a,C2,dx,gs',ev,n2,ea,rf⟩:=r1.ins s1.sub;rw[n1] at n2;cases n2;obtain ⟨u,lu,ru⟩:=rf.look el;exact ⟨a,C',dx,gs',u,ev,ea,cl',na,lu,w1 u F1 H1 (.refl s1.sub) ru (by intro z;cases z)⟩
    . exact w1.elim
  | _=>exact w1.elim
theorem aFD(hM:∀ c m key n,CI.meth cl c m=some (key,n)->MtV X.prog X.w X.K X.mg X.base CX k c m n (Φ key))(hr:bJ k X.A)(hx:XOk CX (C.at X) X)(ho:PV C X o go)(ha:PAv C X es gs)(hb:fT o=true)(hst:∀ x∈es,bS x=true)(hn:es.length<30)(hl:apos.endLine=pos.line)(hes:es=[]->gs=λ_=>.ok []):PV C X (.Call (.Attribute o m apos) es [] pos) (λρ=>aV cl Φ m (go ρ) (gs ρ)):=by
 intro aA s σ H Q I q;rw[aU] at q;obtain ⟨ρ,F,R,w⟩:=q;refine aBH (pl:=(do return (<- importBound o X.env).getD true)) ho I ?_ (aFB hb hst hn hl)
 show tG (C.at X) go σ H _;rw[aU];refine ⟨ρ,F,R,?_⟩;cases er:go ρ with
 | stuck=>rw[er] at w;exact w
 | exc c=>rw[er] at w;exact w
 | ok md d =>
  rw[er] at w;intro v F1 H1 s1 r1 _;have w1:aS (C.at X) F1 H1 σ (aV cl Φ m (.ok md d) (gs ρ)) Q:=aS.step s1 w;unfold aV at w1;rw[Res.thn_ok] at w1;cases md with
  | fr=>exact w1.elim
  | bo=>exact w1.elim
  | fz =>
  cases d with
  | ins c fs =>
   dsimp only at w1;cases em:CI.meth cl c m with
   | none=>rw[em] at w1;exact w1.elim
   | some kn =>
    obtain ⟨key,n⟩:=kn;rw[em] at w1;dsimp only at w1;split at w1
    . rename_i hnl;obtain ⟨C',f',fd,ps,n1,cl',me,FO,hbd⟩:=(hM c m key n em).ex;have r1':=r1;obtain ⟨a,C2,dx,gs',ev,n2,ea,rf⟩:=r1.ins s1.sub;rw[n1] at n2;cases n2;subst ev;refine ⟨a,C',dx,gs',f',rfl,ea,cl',me,rf.lookN hnl,λs1' I1=>?_⟩;have fin:∀ (vs:List V) (us:List Value) (s2:Shared) (F2 H2:Hp) (xs:List (Md×D)),aI F1 H1 F2 H2->RpL X.K F2 H2 xs vs->Inv X aA σ H2 s2->aM vs us->gs ρ=.ok xs->wpAny (model X.prog X.w) X.A (call (.ref f') (.ref a::us)) (EP X aA σ Q) X.xe s2:=by
        intro vs us s2 F2 H2 xs s2' rl I2 rv eg;rw[eg] at w1;have w2:aS (C.at X) F2 H2 σ (aL n (Φ key) (aN (.ok .fz (.ins c fs)) (.ok xs))) Q:=aS.step s2' w1;rw[aDW] at w2;unfold aL at w2;rw[aG.thn_ok] at w2;have rl2:RpL X.K F2 H2 ((.fz,.ins c fs)::xs) (.ref a::vs):=⟨_,_,rfl,r1'.step s2',rl⟩;cases ef:bX ((.fz,.ins c fs)::xs) with
        | none=>rw[ef] at w2;exact w2.elim
        | some ds =>
         rw[ef] at w2;dsimp only at w2;split at w2
         . rename_i hnn;have rl3:=rl2.fz ef;refine t4 (E:=λu _ H'=>∃ c,X.mg c=some u/\C.EE c σ H') (vs:=.ref a::vs) (us:=.ref a::us) FO hr hbd (λe s' hc=>hx aA σ H2 s2 e s' I2 hc) I2 (.cons rfl rv) ⟨by rw[rl3.length];exact hnn,F2,ds,s2'.sub,rl3,?_⟩
           cases ep:Φ key ds with
           | stuck=>rw[ep] at w2;exact w2
           | exc c=>rw[ep] at w2;exact λF' H' u st hu=>⟨c,hu,w2 F' H' st⟩
           | ok m d =>
            rw[ep] at w2;cases m with
            | bo=>exact w2.elim
            | fz=>exact ⟨by decide,w2⟩
            | fr=>exact ⟨by decide,w2⟩
         . exact w2.elim
      cases es with
      | nil =>
       refine PySem.W.callWith_K0 (first:=[.ref a]) I1.kIn me.kp ?_
       have eg:gs ρ=.ok []:=by rw[hes rfl]
       exact fin [] [] s1' F1 H1 [] (.refl s1.sub) rfl I1 .nil eg
      | cons e es =>
       refine aTQ (first:=[.ref a]) (h₀:=X.base) I.ok.mod.kin me.kp (thn (ha pos aA s1' σ H1 (λvs H2=>∃ F2 xs,aI F1 H1 F2 H2/\RpL X.K F2 H2 xs vs/\gs ρ=.ok xs) I1 ?_) λus s2 ⟨vs,H2,I2,r,F2,xs,st2,rl,eg⟩=>⟨I2.kIn,?_⟩) (bH (hst e mcs)) (eD _ _ λy hy=>hst y (mcm hy))
       . refine ⟨ρ,F1,R.step s1,?_⟩;cases eg:gs ρ with
         | stuck=>rw[eg] at w1;exact w1
         | exc c=>rw[eg] at w1;exact w1
         | ok xs=>exact λvs F2 H2 s2 rl=>⟨F2,xs,s2,rl,rfl⟩
       . exact fin vs us s2 F2 H2 xs st2 rl I2 r eg
    . exact w1.elim
  | _=>exact w1.elim
end
theorem aX.mut{K:Fg}{F0 H0 F H:Hp}{σ:L2.St}{ρ:Rho}{i:Nat}{d d':D}{a:Addr}{o:HO}(R:aX K F0 H0 F H σ ρ)(e:ρ[i]? = some (some (true,d)))(ev:σ[i]? = some (some (.ref a)))(t:Top K F (upd H a o) a d'):aX K F0 H0 F (upd H a o) σ (ρ.set i (some (true,d'))):=by
 obtain ⟨v,ev',rp,hn⟩:=R.slot i true d e;rw[ev] at ev';cases ev';have h0:H0 a=none:=hn rfl a rfl;obtain ⟨a',ea,hf,tt⟩:=rp;cases ea;have hl:i<ρ.length:=(aRC.mp e).1;have st:aI F0 H0 F (upd H a o):=⟨λb u q=>by rw[aR (cB q h0)];exact R.st.same b u q,R.st.fsame,λb u q=>by rw[aR (cB q hf)];exact R.st.sub b u q,R.st.new⟩
 refine ⟨st,λj m d2 e2=>?_,λj l d1 d2 b hjl e1 e2 q1 q2=>?_,by rw[aTH];exact R.len⟩
 . by_cases hj:j=i
   . subst hj;rw[aRE hl] at e2;cases e2;exact ⟨.ref a,ev,⟨a,rfl,hf,t⟩,λ_ b eb=>by cases eb;exact h0⟩
   . rw[aRF (λz=>hj z.symm)] at e2;obtain ⟨u,eu,ru,hu⟩:=R.slot j m d2 e2;refine ⟨u,eu,?_,hu⟩;cases m with
     | false=>exact ru
     | true =>
      obtain ⟨b,eb,hb,tb⟩:=ru;subst eb;have hba:b≠a:=λz=>by subst z;exact R.apart j i d2 d b hj e2 e eu ev
      refine ⟨b,rfl,hb,?_⟩;cases d2 with
      | lst ds=>obtain ⟨xs,q,r⟩:=tb;exact ⟨xs,by rw[aR hba];exact q,r⟩
      | dct ds=>obtain ⟨xs,q,r⟩:=tb;exact ⟨xs,by rw[aR hba];exact q,r⟩
      | ins c fs=>obtain ⟨C,dx,gs,n,q,r⟩:=tb;exact ⟨C,dx,gs,n,by rw[aR hba];exact q,r⟩
      | set ks=>obtain ⟨S,q,r⟩:=tb;exact ⟨S,by rw[aR hba];exact q,r⟩
      | dtn ds=>obtain ⟨xs,q,r⟩:=tb;exact ⟨xs,by rw[aR hba];exact q,r⟩
      | _=>exact tb.elim
 . have back:∀ (l:Nat) (d2:D),(ρ.set i (some (true,d')))[l]? = some (some (true,d2))->∃ d3,ρ[l]? = some (some (true,d3)):=λl d2 q=>by
     by_cases hl':l=i
     . subst hl';exact ⟨d,e⟩
     . rw[aRF (λz=>hl' z.symm)] at q;exact ⟨d2,q⟩
   obtain ⟨d3,q3⟩:=back j d1 e1;obtain ⟨d4,q4⟩:=back l d2 e2;exact R.apart j l d3 d4 b hjl q3 q4 q1 q2
def jS(f:Str)(v:D):List (Str×D)->List (Str×D)
 | []=>[(f,v)]
 | (g,u)::r=>if g=f then (g,v)::r else (g,u)::jS f v r
theorem aY.put{K:Fg}{F:Hp}{f:Str}{d:D}{v:V}(rv:aB K F d v):∀ {fs:List (Str×D)} {gs:List (Str×V)},aY K F fs gs->aY K F (jS f d fs) (bW f v gs)
 | [],_,h=>by simp only[aY] at h;subst h;show aY K F [(f,d)] [(f,v)];simp only[aY];exact ⟨v,[],rfl,rv,rfl⟩
 | (g,u)::r,_,h=>by
  simp only[aY] at h;obtain ⟨y,ys,rfl,q,t⟩:=h;unfold jS bW;by_cases hg:g=f
  . rw[if_pos hg,if_pos hg];simp only[aY];exact ⟨v,ys,rfl,rv,t⟩
  . rw[if_neg hg,if_neg hg];simp only[aY];exact ⟨y,_,rfl,q,aY.put rv t⟩
section
variable {C:Cw}{X:Cx}{e:Expr}{g:Rho->Res}{pos p pos':Pos}{f x:Str}{cl:List CI}
end
structure oC(K:Fg)(mg:SOV)(c:Str):Prop where
 ex:∃ C,PySem.W.nsIn K mainGlobals c=some (some (.ref C))/\mg c=some (.ref C)/\PySem.W.makesIn K C=true/\PySem.W.findIn K (.ref C) "__init__" = some (some (.builtin "object.__init__"))/\PySem.W.keepIn K (.ref C)=true
theorem aFE{X:Cx}{C:Addr}{x:Str}{p pos:Pos}(hm:X.mg x=some (.ref C))(h1:PySem.W.makesIn X.K C=true)(h2:PySem.W.findIn X.K (.ref C) "__init__" = some (some (.builtin "object.__init__")))(h3:PySem.W.keepIn X.K (.ref C)=true)(hg:Gl X x)(hdb:(x==("__debug__" : Str))=false):PE X (.Call (.Name x p) [] [] pos) (λσ H Q=>∀ a dx,H a=none->H dx=none->dx≠a->Q (.ref a) (upd (upd H dx (.own a)) a (.ins C dx []))):=by
 intro aA s σ H Q I h;refine aSI (jA I hg hm ?_ hdb);refine PySem.W.callWith_K0 I.kIn h3 (wpAny_call (aA9 I.kIn h1 h2 (λself=>PySem.W.Looks.of_pure (PySem.W.oi_bind self)) ?_));have I2:=Inv.made (C:=C) I;have Y:=aR0 (M:=model X.prog X.w) I.kIn h1;have hh:((s.heap.push PySem.W.emptyDict).push (PySem.W.instObj C s.heap.objs.size)).get? (s.heap.objs.size+1)=some (PySem.W.instObj C s.heap.objs.size):=by
  have:=aQ0 (s.heap.push PySem.W.emptyDict) (o:=PySem.W.instObj C s.heap.objs.size) rfl
  rwa [aR3] at this
 have t1:PySem.W.Looks (model X.prog X.w) ((s.heap.push PySem.W.emptyDict).push (PySem.W.instObj C s.heap.objs.size)) (typeOf (.ref (s.heap.objs.size+1))) (.ref C):=(PySem.W.Looks.ld hh).andThen .now;have t2:PySem.W.Looks (model X.prog X.w) ((s.heap.push PySem.W.emptyDict).push (PySem.W.instObj C s.heap.objs.size)) (isInstance (.ref (s.heap.objs.size+1)) (.type "object")) true:=t1.andThen (Y.top.keeps λb o e=>hps (hps e));refine codeAny_call_builtin PySem.W.oi_plain PySem.W.entry_oi (@PySem.W.check_slot (model X.prog X.w) _ _ _ "object.__init__" "object" "__init__" (.ref (s.heap.objs.size+1)) [] [] _ PySem.W.oi_kind PySem.W.oi_split t2 (PySem.W.oi_args (.ref (s.heap.objs.size+1))) ?_);rw[PySem.W.oi_run];refine aRK (And.intro rfl ⟨.ref (s.heap.objs.size+1),_,I2,rfl,?_⟩);exact h (s.heap.objs.size+1) s.heap.objs.size (I.hok.fresh (aTT _)) (I.hok.fresh (aRN _)) (aQ4 (aR4 _))
theorem uA{F H:Hp}{a dx C:Addr}(s:aD F H)(ha:H a=none)(hd:H dx=none)(hne:dx≠a):aI F H F (upd (upd H dx (.own a)) a (.ins C dx [])):=by have s1:=aI.fresh (.own a) s hd;refine s1.trans (aI.fresh _ s1.sub ?_);rw[aR (λz=>hne z.symm)];exact ha
theorem aFF{C:Cw}{X:Cx}{c:Str}{p pos:Pos}(M:oC X.K X.mg c)(hg:Gl X c)(hdb:(c==("__debug__" : Str))=false):PV C X (.Call (.Name c p) [] [] pos) (λ_=>.ok .fr (.ins c [])):=by
 obtain ⟨C',n,hm,h1,h2,h3⟩:=M.ex;refine PE.imp (aFE hm h1 h2 h3 hg hdb) λσ H Q q=>?_;rw[aU] at q;obtain ⟨ρ,F,R,w⟩:=q;intro a dx ha hd hne;refine w (.ref a) F _ (uA R.sub ha hd hne) ⟨a,rfl,R.sub.free ha,C',dx,[],n,bI,?_⟩ λ_ b eb=>by cases eb;exact ha
 simp only[aY]
def spI(K:Fg)(mg:SOV)(c:Str)(n:Nat)(Φ:List D->Res):Sp:=λvs H Q E=>∃ x us dx C H1 F ds,vs=.ref x::us/\us.length=n/\PySem.W.nsIn K mainGlobals c=some (some (.ref C)) /\
 H=upd (upd H1 dx (.own x)) x (.ins C dx [])/\H1 x=none/\H1 dx=none/\dx≠x/\aD F H1/\aC K F ds us/\match Φ ds with
 | .ok _ d=>∀ F' H',aI F H1 F' H'->Rp K F' H' .fr d (.ref x)->Q .non H'
 | .exc c=>∀ F' H' u,aI F H1 F' H'->mg c=some u->E u none H'
 | .stuck=>False
structure InV(P:Program)(w:World)(K:Fg)(mg:SOV)(base:Heap)(CX:CXT)(k:Nat)(c:Str)(n:Nat)(Φ:List D->Res):Prop where
 ex:∃ C f fd ps,PySem.W.nsIn K mainGlobals c=some (some (.ref C))/\mg c=some (.ref C)/\Mk K C f/\cD P w K mg base CX k f fd ps (spI K mg c n Φ)/\d9 K fd ps []
def dP(n:Nat)(Φ:List D->Res)(r:aG):Res:=r.thn λxs=>match bX xs with
 | some ds=>if ds.length=n then (match Φ ds with | .ok _ d=>.ok .fr d | r=>r) else .stuck
 | none=>.stuck
section
variable {C:Cw}{X:Cx}{e:Expr}{es:List Expr}{gs:Rho->aG}{p pos:Pos}{x c:Str}{k n:Nat}{Φ:List D->Res}{CX:CXT}
theorem aFG{C' f:Addr}{fd:FuncData}{ps:List Str}{aA:LAO}{σ:L2.St}{F H:Hp}{s:Shared}{Q:VK}{us:List Value}{vs:List V}{ds:List D}(ns:PySem.W.nsIn X.K mainGlobals c=some (some (.ref C')))(M:Mk X.K C' f)(FO:cD X.prog X.w X.K X.mg X.base CX k f fd ps (spI X.K X.mg c n Φ))(hr:bJ (k+1) X.A)(hb:d9 X.K fd ps [])(hx:XOk CX (C.at X) X)(I:Inv X aA σ H s)(r:aM vs us)(sF:aD F H)(rl:aC X.K F ds vs)(hn:ds.length=n)(w:aS (C.at X) F H σ (match Φ ds with | .ok _ d=>.ok .fr d | r=>r) Q):wpAny (model X.prog X.w) X.A (call (.ref C') us) (EP X aA σ Q) X.xe s:=by
 have hfx:H (s.heap.objs.size+1)=none:=I.hok.fresh (aTT _);have hfd:H s.heap.objs.size=none:=I.hok.fresh (aRN _);have hne:s.heap.objs.size≠s.heap.objs.size+1:=aQ4 (aR4 _);have I2:=Inv.made (C:=C') I;have hsp:spI X.K X.mg c n Φ (V.ref (s.heap.objs.size+1)::vs) (upd (upd H s.heap.objs.size (.own (s.heap.objs.size+1))) (s.heap.objs.size+1) (.ins C' s.heap.objs.size [])) (λv H2=>v=.non/\Q (.ref (s.heap.objs.size+1)) H2) (λu _ H'=>∃ c,X.mg c=some u/\C.EE c σ H'):=by
  refine ⟨_,vs,s.heap.objs.size,C',H,F,ds,rfl,by rw[rl.length];exact hn,ns,rfl,hfx,hfd,hne,sF,rl,?_⟩
  cases ep:Φ ds with
  | stuck=>rw[ep] at w;exact w
  | exc c=>rw[ep] at w;exact λF' H' u st hu=>⟨c,hu,w F' H' st⟩
  | ok m d=>rw[ep] at w;exact λF' H' st rp=>⟨rfl,w _ F' H' st rp λ_ a ea=>by cases ea;exact hfx⟩
 have r2:aM (V.ref (s.heap.objs.size+1)::vs) (Value.ref (s.heap.objs.size+1)::us):=.cons rfl r;have hl:(Value.ref (s.heap.objs.size+1)::us++[]).length=ps.length:=by have e:=r2.length;rw[FO.len _ _ _ _ hsp] at e;rw[aR7];exact e.symm
 have hb':=hb _ (Value.ref (s.heap.objs.size+1)::us) I2.kIn hl;rw[aR7] at hb';refine wpAny_call (aA8 (f:=f) I.kIn M.makes M.init (aRY.mp M.fn) (aS2 (FO.run _ X.stack _ _ ⟨Value.ref (s.heap.objs.size+1)::us,[]⟩ (Value.ref (s.heap.objs.size+1)::us) _ _ _ (hr.make C' us [])
  (I2.env0.make C' us []) hb' r2 hsp) λr s' hq'=>?_))
 cases r with
 | error e=>exact hx aA σ _ _ e s' I2 hq'
 | ok fl =>
  cases fl with
  | ret u=>obtain ⟨v,H',I3,rv,ev,q3⟩:=I2.after hq';subst ev;exact ⟨rv,⟨V.ref (s.heap.objs.size+1),H',I3,rfl,q3⟩⟩
  | next=>exact False.elim hq'
  | brk=>exact False.elim hq'
  | cont=>exact False.elim hq'
theorem aFH(M:InV X.prog X.w X.K X.mg X.base CX k c n Φ)(hr:bJ (k+1) X.A)(hx:XOk CX (C.at X) X)(hg:Gl X c)(ha:PAv C X (e::es) gs)(hdb:(c==("__debug__" : Str))=false)(hst:∀ x∈e::es,bS x=true):PV C X (.Call (.Name c p) (e::es) [] pos) (λρ=>dP n Φ (gs ρ)):=by
 obtain ⟨C',f,fd,ps,ns,hm,M,FO,hb⟩:=M.ex;intro aA s σ H Q I h;rw[aU] at h;obtain ⟨ρ,F,R,w⟩:=h;refine aSI (jA I hg hm ?_ hdb);refine aTQ (h₀:=X.base) I.ok.mod.kin M.kp (thn (ha pos aA s σ H (λvs H1=>∃ F1 xs,aI F H F1 H1/\RpL X.K F1 H1 xs vs/\gs ρ=.ok xs) I ?_) λus s1 ⟨vs,H1,I1,r,F1,xs,st1,rl,eg⟩=>⟨I1.kIn,?_⟩) (bH (hst e mcs)) (eD _ _ λy hy=>hst y (mcm hy))
 . refine ⟨ρ,F,R,?_⟩;cases eg:gs ρ with
   | stuck=>rw[eg] at w;exact w
   | exc c=>rw[eg] at w;exact w
   | ok xs=>exact λvs F2 H2 s2 rl=>⟨F2,xs,s2,rl,rfl⟩
 . rw[eg] at w;have w1:aS (C.at X) F1 H1 σ (dP n Φ (.ok xs)) Q:=aS.step st1 w;unfold dP at w1;rw[aG.thn_ok] at w1;cases ef:bX xs with
   | none=>rw[ef] at w1;exact w1.elim
   | some ds =>
    rw[ef] at w1;dsimp only at w1;split at w1
    . rename_i hn;exact aFG ns M FO hr hb hx I1 r st1.sub (rl.fz ef) hn w1
    . exact w1.elim
end
structure IsV(K:Fg)(mg:SOV)(cl:List CI)(c:Str):Prop where
 ex:∃ C,mg c=some (.ref C)/\(∀ t∈["NoneType", "bool", "int", "str", "tuple", "list", "dict"],PySem.W.kitOne K (.type t) (.ref C)=some false) /\
  ∀ i∈cl,∃ C',PySem.W.nsIn K mainGlobals i.name=some (some (.ref C'))/\Cls K C'/\PySem.W.findIn K (.ref C') "__class__" = some (some (.builtin "object.__class__")) /\
   PySem.W.specialIn K (.builtin "object.__class__") "__get__" = some (some (.builtin "getset_descriptor.__get__"))/\PySem.W.takesIn K (.builtin "object.__class__")=some true/\PySem.W.mroIn K C' (.type "object")=some true /\
   PySem.W.kitOne K (.ref C') (.ref C)=some (i.ups.contains c)
section
variable {C:Cw}{X:Cx}{e:Expr}{g:Rho->Res}{p q pos:Pos}{c:Str}{cl:List CI}
end
section
variable {C:Cw}{X:Cx}{a b c e:Expr}{ga gb gc g:Rho->Res}{gs:Rho->aG}{pos:Pos}
def eE:D->Bool | .non=>true | _=>false
theorem uB{K:Fg}{F H:Hp}{m:Md}{d:D}{v:V}(s:aD F H)(r:Rp K F H m d v):decide (v=.non)=eE d:=by
 cases d with
 | non=>cases r.non;rfl
 | bl _=>cases r.bl;rfl
 | int _=>cases r.int;rfl
 | str _=>cases r.str.1;rfl
 | tup _=>obtain ⟨_,_,rfl,_⟩:=r.seqT s;rfl
 | lst _=>obtain ⟨_,_,rfl,_⟩:=r.seqL s;rfl
 | dct _=>obtain ⟨_,_,rfl,_⟩:=r.dict s;rfl
 | ty _=>cases r.ty;rfl
 | ob _=>cases r.ob;rfl
 | ins _ _=>obtain ⟨_,_,_,_,rfl,_⟩:=r.ins s;rfl
 | fn _ =>
  cases m with
  | fz=>have r:aB K F _ v:=r;simp only[aB] at r;obtain ⟨_,rfl,_⟩:=r;rfl
  | fr=>obtain ⟨_,_,_,q⟩:=r;exact q.elim
  | bo=>obtain ⟨_,_,_,q⟩:=r;exact q.elim
 | exn _ =>
  cases m with
  | fz=>have r:aB K F _ v:=r;simp only[aB] at r;obtain ⟨_,_,rfl,_⟩:=r;rfl
  | fr=>obtain ⟨_,_,_,q⟩:=r;exact q.elim
  | bo=>obtain ⟨_,_,_,q⟩:=r;exact q.elim
 | set _ =>
  cases m with
  | fz=>have r:aB K F _ v:=r;simp only[aB] at r;obtain ⟨_,_,rfl,_⟩:=r;rfl
  | fr=>obtain ⟨_,rfl,_,_⟩:=r;rfl
  | bo=>obtain ⟨_,rfl,_,_⟩:=r;rfl
 | dtn _ =>
  cases m with
  | fz=>have r:aB K F _ v:=r;simp only[aB] at r;obtain ⟨_,_,rfl,_⟩:=r;rfl
  | fr=>obtain ⟨_,rfl,_,_⟩:=r;rfl
  | bo=>obtain ⟨_,rfl,_,_⟩:=r;rfl
 | dtf _ =>
  cases m with
  | fz=>have r:aB K F _ v:=r;simp only[aB] at r;obtain ⟨_,_,_,rfl,_⟩:=r;rfl
  | fr=>obtain ⟨_,rfl,_,_⟩:=r;rfl
  | bo=>obtain ⟨_,rfl,_,_⟩:=r;rfl
def fIs(neg:Bool):Md->D->Md->D->Option (Md×D):=λ_ x _ y=>match y with
 | .non=>some (.fz,.bl (if neg then !eE x else eE x))
 | _=>none
theorem aFI:OpD C X (compareOp .Is) (fIs false):=by
 refine ⟨_,aAR,λF H m x n y v u k d Q s rx ry e w=>?_⟩;unfold fIs at e;split at e
 . cases e;cases ry.non;exact ⟨rfl,by rw[uB s rx];exact w _ F H (.refl s) (cA _) (by intro z;cases z)⟩
 . cases e
theorem aFJ:OpD C X (compareOp .IsNot) (fIs true):=by
 refine ⟨_,aAS,λF H m x n y v u k d Q s rx ry e w=>?_⟩;unfold fIs at e;split at e
 . cases e;cases ry.non;exact ⟨rfl,by rw[uB s rx];exact w _ F H (.refl s) (cA _) (by intro z;cases z)⟩
 . cases e
theorem uC{neg:Bool}:IsB (fIs neg):=λm x n y k d e=>by
 unfold fIs at e;split at e
 . cases e;exact ⟨_,rfl,rfl⟩
 . cases e
def dQ:D->Bool | .non | .bl _ | .int _ | .str _=>true | _=>false
def eqD:D->D->Bool
 | .non,.non=>true
 | .bl a,.bl b=>a==b
 | .bl a,.int b=>(if a then 1 else 0)==b
 | .int a,.bl b=>a==(if b then 1 else 0)
 | .int a,.int b=>a==b
 | .str a,.str b=>a==b
 | _,_=>false
def iH(neg:Bool):Md->D->Md->D->Option (Md×D):=λ_ x _ y=>match y with
 | .lst ys=>if (dQ x&&ys.all dQ)=true then some (.fz,.bl (if neg then !(ys.any λy=>eqD y x) else (ys.any λy=>eqD y x))) else none
 | .tup ys=>if (dQ x&&ys.all dQ)=true then some (.fz,.bl (if neg then !(ys.any λy=>eqD y x) else (ys.any λy=>eqD y x))) else none
 | _=>none
def vOf:D->V | .non=>.non | .bl b=>.bl b | .int i=>.int i | .str x=>.str x | _=>.non
theorem oE{K:Fg}{F H:Hp}{m:Md}{d:D}{v:V}(h:dQ d=true)(r:Rp K F H m d v):v=vOf d:=by
 cases d with
 | non=>exact r.non
 | bl _=>exact r.bl
 | int _=>exact r.int
 | str _=>exact r.str.1
 | _=>cases h
theorem oF{K:Fg}{F:Hp}:∀ {ds:List D} {xs:List V},ds.all dQ=true->aC K F ds xs->xs=ds.map vOf
 | [],_,_,r=>by simp only[aC] at r;exact r
 | d::ds,_,h,r=>by simp only[aC] at r;obtain ⟨y,ys,rfl,r1,r2⟩:=r;rw[aSU,aSR] at h;rw[aR1,oE (H:=F) (m:=.fz) h.1 r1,oF h.2 r2]
theorem oG{d:D}(h:dQ d=true):eQ (vOf d)=true:=by cases d <;> first | rfl | cases h
theorem aFK{x y:D}(hx:dQ x=true)(hy:dQ y=true):eqV (vOf x) (vOf y)=eqD x y:=by cases x <;> cases y <;> first | rfl | (cases hx;done) | (cases hy;done)
theorem oH{x:D}(hx:dQ x=true):∀ {ds:List D},ds.all dQ=true->inV (vOf x) (ds.map vOf)=ds.any λy=>eqD y x
 | [],_=>rfl
 | d::ds,h=>by rw[aSU,aSR] at h;show (eqV (vOf d) (vOf x)||inV (vOf x) (ds.map vOf))=(eqD d x||ds.any _);rw[aFK h.1 hx,oH hx h.2]
theorem oI:∀ {ds:List D},ds.all dQ=true->(ds.map vOf).all eQ=true
 | [],_=>rfl
 | d::ds,h=>by rw[aSU,aSR] at h;rw[aR1,aSU,oG h.1,oI h.2];rfl
theorem uD{neg:Bool}{f:Value->Value->Sem Value}(o:OpR X f (rIn X.K neg)):OpD C X f (iH neg):=by
 refine ⟨_,o,λF H m x n y v u k d Q s rx ry e w=>?_⟩;unfold iH at e;split at e
 . rename_i ys;split at e
   . rename_i hf;rw[aSR] at hf;cases e;obtain ⟨b,vs,rfl,q2,r2⟩:=ry.seqL s;have ev:=oE hf.1 rx;have es:=oF hf.2 r2;subst ev;subst es;exact ⟨b,_,rfl,.inl q2,oG hf.1,oI hf.2,by rw[oH hf.1 hf.2];exact w _ F H (.refl s) (cA _) (by intro z;cases z)⟩
   . cases e
 . rename_i ys;split at e
   . rename_i hf;rw[aSR] at hf;cases e;obtain ⟨b,vs,rfl,q2,r2⟩:=ry.seqT s;have ev:=oE hf.1 rx;have es:=oF hf.2 r2;subst ev;subst es;exact ⟨b,_,rfl,.inr q2,oG hf.1,oI hf.2,by rw[oH hf.1 hf.2];exact w _ F H (.refl s) (cA _) (by intro z;cases z)⟩
   . cases e
 . cases e
theorem uE{neg:Bool}:IsB (iH neg):=λm x n y k d e=>by
 unfold iH at e;split at e
 . split at e
   . cases e;exact ⟨_,rfl,rfl⟩
   . cases e
 . split at e
   . cases e;exact ⟨_,rfl,rfl⟩
   . cases e
 . cases e
def iI:List (Md×D)->Option (Md×D)
 | [(_,.lst ds)]=>some (.fz,.tup ds)
 | [(.fz,.tup ds)]=>some (.fz,.tup ds)
 | _=>none
def iJ:List (Md×D)->Option (Md×D)
 | [(_,.lst ds)]=>some (.fr,.lst ds)
 | [(_,.tup ds)]=>some (.fr,.lst ds)
 | _=>none
def oJ:List (Md×D)->Option (Md×D)
 | [(_,.int i)]=>some (.fz,.int i)
 | [(_,.bl b)]=>some (.fz,.int (if b then 1 else 0))
 | _=>none
def oK(i:Int):Bool:=decide (i.natAbs.log2<1920)
def oM(i:Int):Str:=Str.ofString (toString i)
def jT:List (Md×D)->Option (Md×D)
 | [(_,.int i)]=>if oK i=true then some (.fz,.str (oM i)) else none
 | _=>none
theorem aFL:aZ X (.type "tuple") iI:=by
 refine ⟨_,aCE,λF H xs vs k d Q s rx e w=>?_⟩;unfold iI at e;split at e
 . rename_i m ds;cases e;obtain ⟨v,rfl,r⟩:=rx.one;obtain ⟨a,xs,rfl,q,rl⟩:=r.seqL s;exact ⟨a,xs,rfl,.inl ⟨q,λl hl=>w (.ref l) _ _ (aI.laid (.tup xs) s hl) (aB.tup_of (s.free hl) rl) (by intro z;cases z)⟩⟩
 . rename_i ds;cases e;obtain ⟨v,rfl,r⟩:=rx.one;have r0:=r;obtain ⟨a,xs,rfl,q,rl⟩:=r.seqT s;exact ⟨a,xs,rfl,.inr ⟨q,w (.ref a) F H (.refl s) r0 (by intro z;cases z)⟩⟩
 . cases e
theorem aFM:aZ X (.type "list") iJ:=by
 refine ⟨_,aCD,λF H xs vs k d Q s rx e w=>?_⟩;unfold iJ at e;split at e
 . rename_i m ds;cases e;obtain ⟨v,rfl,r⟩:=rx.one;obtain ⟨a,xs,rfl,q,rl⟩:=r.seqL s;exact ⟨a,xs,rfl,.inl q,λl hl=>w (.ref l) F _ (aI.fresh _ s hl) ⟨l,rfl,s.free hl,xs,bI,rl⟩ λ_ a ea=>by cases ea;exact hl⟩
 . rename_i m ds;cases e;obtain ⟨v,rfl,r⟩:=rx.one;obtain ⟨a,xs,rfl,q,rl⟩:=r.seqT s;exact ⟨a,xs,rfl,.inr q,λl hl=>w (.ref l) F _ (aI.fresh _ s hl) ⟨l,rfl,s.free hl,xs,bI,rl⟩ λ_ a ea=>by cases ea;exact hl⟩
 . cases e
theorem aFN:aZ X (.type "int") oJ:=by
 refine ⟨_,aA1,λF H xs vs k d Q s rx e w=>?_⟩;unfold oJ at e;split at e
 . cases e;obtain ⟨v,rfl,r⟩:=rx.one;cases r.int;exact .inl ⟨_,rfl,w _ F H (.refl s) (bQ _) (by intro z;cases z)⟩
 . cases e;obtain ⟨v,rfl,r⟩:=rx.one;cases r.bl;exact .inr ⟨_,rfl,w _ F H (.refl s) (bQ _) (by intro z;cases z)⟩
 . cases e
def jU:List (Md×D)->Option (Md×D)
 | [(_,.int i),(_,.int j)]=>some (.fz,.int (if j<i then j else i))
 | _=>none
theorem aFO(hc:X.calm=true):aZ X (.builtin "min") jU:=by
 refine ⟨_,aA0 hc,λF H xs vs k d Q s rx e w=>?_⟩;unfold jU at e;split at e
 . cases e;obtain ⟨v,u,rfl,r,r'⟩:=rx.two;cases r.int;cases r'.int;exact ⟨_,_,rfl,w _ F H (.refl s) (bQ _) (by intro z;cases z)⟩
 . cases e
end
theorem aFP(i:Int):PyData.strOk (Str.ofString (toString i))=true:=by
 unfold PyData.strOk;rw[aS7];intro c hc;have hc':c∈(Str.ofString (toString i)).cps.toList:=by rw[aRV];exact hc
 have:¬ (c≠45/\(c<48\/57<c)):=λh=>int_text_free' c h i hc';have hb:c<58:=by omega
 simp;omega
section
variable {X:Cx}
theorem aFQ:aZ X (.type "str") jT:=by
 refine ⟨_,aA2,λF H xs vs k d Q s rx e w=>?_⟩;unfold jT at e;split at e
 . rename_i m i;split at e
   . rename_i hs;cases e;obtain ⟨v,rfl,r⟩:=rx.one;cases r.int;have hl:i.natAbs.log2<1920:=aS5 hs;have h1:(oM i).length<=1921:=int_text_len_1921 hl;have hz:sizeLine=16777216:=aRT;exact ⟨i,rfl,hl,w _ F H (.refl s) (fB ⟨by omega,aFP i⟩) (by intro z;cases z)⟩
   . cases e
 . cases e
end
theorem aFR:bootBuiltins "min" = some (.builtin "min"):=by decide +kernel
theorem aFS{C:Cw}{X:Cx}{T:String}{φ}{x:Str}{e:Expr}{es:List Expr}{gs:Rho->aG}{p pos:Pos}(o:aZ X (.type T) φ)(hg:Gl X x)(hm:X.mg x=none)(hv:bootBuiltins x=some (.type T))(ha:PAv C X (e::es) gs)(hn:x ≠ "__name__")(hdb:(x==("__debug__" : Str))=false)(hst:∀ x∈e::es,bS x=true):PV C X (.Call (.Name x p) (e::es) [] pos) (λρ=>c8 φ (gs ρ)):=by obtain ⟨r,h1,h2⟩:=o;exact PE.imp (aBQ h1 hg hm hv ha hn hdb (bH (hst e mcs)) (eD _ _ λy hy=>hst y (mcm hy))) λσ H Q q=>tQ h2 q
section
variable {prog:Program}{w:World}{A:Around}{E:VSP}{s:Shared}
theorem aFT{l:Addr}{items:Array Value}{Q:List Value->Shared->Prop}(hA:A.handled=none)(ht:s.heap.IsList l items)(h:∀ h',Heap.ExtBut s.heap.objs.size s.heap h'->∀ tk,Q items.toList { s with heap:=h',toks:=tk }):wpAny (model prog w) A (unpackItems (.ref l) items.size none) Q E s:=by
 unfold unpackItems notIterableAtAll;refine aRL (aRL (wpAny_specialOf ht.typeIs PySem.F.slot_list_iter.lookup ?_));refine aRK ?_;dsimp only;rw[if_neg aRW];refine aRL (aSN (aRM ht ?_));have hlt:l<s.heap.objs.size:=by obtain ⟨o,e,_⟩:=ht;exact aQ1 e
 have hne:l≠s.heap.objs.size:=aQ4 hlt;have keep:∀ b o,s.heap.get? b=some o->(s.heap.push { cls:=Value.type "list_iterator", data:=Data.fields #[Value.ref l,Value.int 0 0] }).get? b=some o:=λb o q=>hps q;have ht':(s.heap.push { cls:=Value.type "list_iterator", data:=Data.fields #[Value.ref l,Value.int 0 0] }).IsList l items:=by obtain ⟨o,e,c⟩:=ht;exact ⟨o,keep l o e,c⟩
 have hi':(s.heap.push { cls:=Value.type "list_iterator", data:=Data.fields #[Value.ref l,Value.int 0 0] }).IsListIter s.heap.objs.size l 0:=⟨_,aQ0 _ rfl,rfl,rfl⟩;refine aRL (aSN (PySem.W.kun_draw hne items.size 0 _ _ hi' ht' (by omega) λh' hi hsb=>?_))
 have ei:List.take items.size (List.drop 0 items.toList)=items.toList:=by rw[aTU];exact List.take_of_length_le (by simp)
 rw[ei];rw[if_neg (by simp)]
 have hl2:h'.IsList l items:=by obtain ⟨o,e,c⟩:=ht';exact ⟨o,by rw[hsb.2 l hne];exact e,c⟩
 rw[Nat.zero_add] at hi;refine aRL (aSN ((Walks.list hA s.heap.objs.size l hne items).done _ _ _ ⟨hi,hl2⟩ λh2 tk k2=>?_));rw[if_neg (by simp)]
 refine aRK (h h2 (λb o hb e=>k2 b o (by simpa using hb) ?_) tk)
 show h'.get? b=some o;rw[hsb.2 b hb];exact keep b o e
theorem aFU{env:Env}{elts:List Expr}{k:Nat}{pos:Pos}{l:Addr}{items:Array Value}{Q:Unit->Shared->Prop}(hA:A.handled=none)(ht:s.heap.IsList l items)(hn:(assignEach elts env).length=items.size)(hst:(assignEach elts env).findIdx? (·.1)=none)(h:∀ h',Heap.ExtBut s.heap.objs.size s.heap h'->∀ tk,wpAny (model prog w) A (assignInOrder ((assignEach elts env).map (·.2)) items.toList) Q E { s with heap:=h',toks:=tk }):wpAny (model prog w) A (assign (.Tuple elts k pos) env (.ref l)) Q E s:=by rw[assign_Tuple];refine aRL (wpAny_standAt ?_);unfold unpack;rw[hst,hn];exact aRL (aSN (aFT hA ht h))
theorem aFV{t sl:Addr}{items:Array Value}{vl vu:Value}{lo hi:Option Int}{Q:VSP}(ht:IsTup s.heap t items)(hs:s.heap.IsSliceOf sl vl vu .none)(pl:IsPart vl lo)(pu:IsPart vu hi)(h0:HT.sIx items.size 0 lo=0)(h1:HT.sIx items.size items.size hi=items.size)(h:Q (.ref t) s):wpAny (model prog w) A (getItem (.ref t) (.ref sl)) Q E s:=by
 obtain ⟨os,hos,hcs,hds⟩:=id hs;have tS:s.TypeIs (.ref sl) "slice" := ⟨os,hos,hcs⟩;unfold getItem
 try with_reducible refine aSN ?_
 first | refine aRL (aRK ?_) | skip
 refine aRL (wpAny_sequenceKey ht.typeIs (by decide) (aRL (aSO (name:=Str.ofString "__getitem__") ht.typeIs aSP (aSQ aSP ht.typeIs entry_tuple_getitem ?_ (args_tuple_getitem _ _)))))
 show wpAny _ _ (Builtin.Tuple.tupleItemsOf (.ref t) >>= _) _ _ s;refine aRL (tupleItemsOf_ ht (aRL (wpAny_typeOf tS ?_)));rw[if_pos (by decide)]
 refine aRL (HT.sQ hs pl pu ?_);have yes:(((HT.sIx items.size 0 lo:Nat):Int)==0&&(1:Int)==1&&(HT.sIx items.size items.size hi-HT.sIx items.size 0 lo)==items.size)=true:=by rw[h0,h1];simp
 show wpAny _ _ (if (((HT.sIx items.size 0 lo:Nat):Int)==0&&(1:Int)==1&&(HT.sIx items.size items.size hi-HT.sIx items.size 0 lo)==items.size)=true then _ else _) _ _ s;rw[if_pos yes];unfold Builtin.Tuple.tupleIsExact;refine aRL (aRL (wpAny_typeOf ht.typeIs (aRK ?_)));rw[if_pos (by decide)]
 refine aRL (wpAny_rule ?_)
 first
  | exact aRK ⟨_,rfl,aRK h⟩
  | exact ⟨_,rfl,aRK h⟩
end
section
variable {X:Cx}{pos:Pos}
def rSlW(K:Fg):V->Option Int->Option Int->Hp->VK->Prop:=λx lo hi H Q=>∃ a xs,x=.ref a/\SqT K H a xs/\(HT.sIx xs.length 0 lo=0/\HT.sIx xs.length xs.length hi=xs.length)/\Q x H
theorem aFW:SlR X (rSlW X.K):=by
 intro aA s σ H x v vl vu lo hi sl Q I rx hs pl pu h;obtain ⟨a,xs,rfl,hx,hw,q⟩:=h;cases rx;obtain ⟨its,r,ht,hz⟩:=I.tuple hx;have hlen:its.toArray.size=xs.length:=by rw[aRU];exact r.length.symm
 exact ⟨"tuple", _,PyProof.Rows.slot_tuple_getitem.lookup,ht.typeIs,aFV ht hs pl pu (by rw[hlen];exact hw.1) (by rw[hlen];exact hw.2) ⟨.ref a,H,I,rfl,q⟩⟩
def gSeq(K:Fg)(n:Nat)(t:TGs):TG:=λv σ H Q=>∃ a xs,v=.ref a/\(SqT K H a xs\/SqL K H a xs)/\xs.length=n/\t xs σ H Q
theorem aFX{es:List Expr}{k:Nat}{t:TGs}{n:Nat}(hc:X.calm=true)(h:PGs X es t)(hn:(assignEach es X.env).length=n)(hst:(assignEach es X.env).findIdx? (·.1)=none):PG X (.Tuple es k pos) (gSeq X.K n t):=by
 intro aA s σ H v u Q I r hw;obtain ⟨a,xs,e1,hq,hl,hw⟩:=hw;rcases hq with hq | hq
 . exact zX hc h hn hst aA s σ H v u Q I r ⟨a,xs,e1,hq,hl,hw⟩
 . subst e1;cases r;obtain ⟨its,rv,ht,hz⟩:=I.list hq;refine aFU (I.ok.hd hc) ht.isList (by simp[hn,<- hl,rv.length]) hst λh' hx tk=>?_
   have I1:Inv X aA σ H { s with heap:=h',toks:=tk }:=I.kept (t':=tk) λb o e=>hx b o (aQ4 (aQ1 e)) e
   exact h aA _ σ H xs _ Q I1 (by simpa using rv) hw
end
inductive Tg where
 | nm (i:Nat) | tp (ts:List Tg)
mutual
def aW:Tg->D->Rho->Option Rho
 | .nm i,d,ρ=>some (ρ.set i (some (false,d)))
 | .tp ts,d,ρ=>match d with
  | .tup ds=>cP ts ds ρ
  | .lst ds=>cP ts ds ρ
  | _=>none
def cP:List Tg->List D->Rho->Option Rho
 | [],ds,ρ=>if ds.isEmpty then some ρ else none
 | t::ts,ds,ρ=>match ds with
  | d::ds=>(match aW t d ρ with | some ρ1=>cP ts ds ρ1 | none=>none)
  | []=>none
end
mutual
def eF:Tg->List Nat
 | .nm i=>[i]
 | .tp ts=>lZ ts
def lZ:List Tg->List Nat
 | []=>[]
 | t::ts=>eF t++lZ ts
end
mutual
def gOf(K:Fg):Tg->TG
 | .nm i=>jB i
 | .tp ts=>gSeq K ts.length (fU K ts)
def fU(K:Fg):List Tg->TGs
 | []=>gNil
 | t::ts=>rX (gOf K t) (fU K ts)
end
def PGw(X:Cx)(tg:Expr)(t:Tg):Prop:=PG X tg (gOf X.K t)
def gS(X:Cx)(tgs:List Expr)(ts:List Tg):Prop:=PGs X tgs (fU X.K ts)
def iK:Expr->Bool | .Starred ..=>false | _=>true
theorem uF{e:Expr}{es:List Expr}{env:Env}(h:iK e=true):assignEach (e::es) env=(false,assign e env)::assignEach es env:=by cases e <;> first | rfl | cases h
theorem oN:∀ {ts:List Tg} {ds:List D} {ρ ρ':Rho},cP ts ds ρ=some ρ'->ds.length=ts.length
 | [],ds,ρ,ρ',e=>by
  simp only[cP] at e;split at e
  . rename_i h;have:ds=[]:=by simpa using h
    subst this;rfl
  . cases e
 | t::ts,ds,ρ,ρ',e=>by
  simp only[cP] at e;split at e
  . split at e
    . rw[aRZ,aRZ,oN e]
    . cases e
  . cases e
mutual
theorem oO{K:Fg}{F0 H0:Hp}:∀ (t:Tg) {F H:Hp} {σ:L2.St} {ρ ρ':Rho} {d:D} {v:V} {Q:L2.St->Hp->Prop},aX K F0 H0 F H σ ρ->aB K F d v->aW t d ρ=some ρ'->(∀ σ',aX K F0 H0 F H σ' ρ'->σ'.length=σ.length->(∀ j,j∉eF t->σ'[j]? = σ[j]?)->Q σ' H)->gOf K t v σ H Q
 | .nm i,F,H,σ,ρ,ρ',d,v,Q,R,r,e,w=>by
  simp only[aW] at e;cases e;simp only[gOf];refine w _ (R.set (m:=false) (.refl R.sub) r (by intro z;cases z)) (by rw[aTH]) λj hj=>?_
  simp only[eF,List.mem_singleton] at hj;rw[aRF (λz=>hj z.symm)]
 | .tp ts,F,H,σ,ρ,ρ',d,v,Q,R,r,e,w=>by
  simp only[aW] at e;split at e
  . rename_i ds;simp only[aB] at r;obtain ⟨a,xs,rfl,hq,rl⟩:=r;simp only[gOf];refine ⟨a,xs,rfl,.inl (aD.seqT R.sub hq),by rw[rl.length];exact oN e,oP ts R rl e ?_⟩
    simp only[eF] at w;exact w
  . rename_i ds;simp only[aB] at r;obtain ⟨a,xs,rfl,hq,rl⟩:=r;simp only[gOf];refine ⟨a,xs,rfl,.inr (R.sub.seq hq),by rw[rl.length];exact oN e,oP ts R rl e ?_⟩
    simp only[eF] at w;exact w
  . cases e
theorem oP{K:Fg}{F0 H0:Hp}:∀ (ts:List Tg) {F H:Hp} {σ:L2.St} {ρ ρ':Rho} {ds:List D} {vs:List V} {Q:L2.St->Hp->Prop},aX K F0 H0 F H σ ρ->aC K F ds vs->cP ts ds ρ=some ρ'->(∀ σ',aX K F0 H0 F H σ' ρ'->σ'.length=σ.length->(∀ j,j∉lZ ts->σ'[j]? = σ[j]?)->Q σ' H)->fU K ts vs σ H Q
 | [],F,H,σ,ρ,ρ',ds,vs,Q,R,r,e,w=>by
  simp only[cP] at e;split at e
  . cases e;rename_i hd;have:ds=[]:=by simpa using hd
    subst this;simp only[aC] at r;simp only[fU];exact ⟨r,w σ R rfl λ_ _=>rfl⟩
  . cases e
 | t::ts,F,H,σ,ρ,ρ',ds,vs,Q,R,r,e,w=>by
  simp only[cP] at e;split at e
  . rename_i d ds';split at e
    . rename_i ρ1 e1;simp only[aC] at r;obtain ⟨y,ys,rfl,r1,r2⟩:=r;simp only[fU];refine ⟨y,ys,rfl,oO t R r1 e1 λσ1 R1 l1 k1=>oP ts R1 r2 e λσ2 R2 l2 k2=>w σ2 R2 (l2.trans l1) λj hj=>?_⟩;simp only[lZ,aRB,not_or] at hj;rw[k2 j hj.2,k1 j hj.1]
    . cases e
  . cases e
end
section
variable {C:Cw}{X:Cx}{pos:Pos}
theorem aFY{x:Str}{i:Nat}(hN:X.N.Nodup)(hi:X.N[i]? = some x)(hx:L2.Loc X.env.scope x)(hf:X.fn x=true\/X.env.scope.names.lookup x=some .local):PGw X (.Name x pos) (.nm i):=by unfold PGw;simp only[gOf];exact zU hN hi hx hf
theorem aFZ:gS X [] []:=by unfold gS;simp only[fU];exact zV
theorem aF0{e:Expr}{es:List Expr}{t:Tg}{ts:List Tg}(h1:PGw X e t)(h2:gS X es ts)(hs:iK e=true):gS X (e::es) (t::ts):=by unfold gS;simp only[fU];exact zW h1 h2 (by rw[uF hs];rfl)
theorem aF1{es:List Expr}{env:Env}(hs:∀ e∈es,iK e=true):(assignEach es env).length=es.length/\(assignEach es env).findIdx? (·.1)=none:=by
 induction es with
 | nil=>exact ⟨rfl,rfl⟩
 | cons e es ih =>
  obtain ⟨h1,h2⟩:=ih λx hx=>hs x (mcm hx);rw[uF (hs e mcs)];refine ⟨by rw[aRZ,aRZ,h1],?_⟩
  rw[List.findIdx?_cons];simp[h2]
theorem aF2{es:List Expr}{ts:List Tg}{k:Nat}(hc:X.calm=true)(h:gS X es ts)(hs:∀ e∈es,iK e=true)(hl:es.length=ts.length):PGw X (.Tuple es k pos) (.tp ts):=by have st:=aF1 (env:=X.env) hs;unfold PGw;simp only[gOf];exact aFX (n:=ts.length) hc h (by rw[st.1,hl]) st.2
theorem aF3{tg:Expr}{t:Tg}(h:PGw X tg t):PGv C X tg (aW t) :=
 ⟨_,h,λF H σ ρ ρ' d v Q R r e w=>oO t R r e λσ' R' _ _=>w σ' F H (aD.refl _) R'⟩
end
section
variable {C:Cw}{X:Cx}{e:Expr}{g:Rho->Res}{pos p:Pos}
theorem uG{t:Tg}{tgN:List Str}{aE:List Nat}{gi gt ge:Rho->Res}(hsl:∀ j∈eF t,aE.length<=j){σ:L2.St}{H:Hp}{Q:VK}(q:tG (C.at X) (λρ=>bN (gi ρ) ρ aE tgN.length (aW t) gt ge) σ H Q):jM aE tgN.length (tIv (C.at X) gi) (gOf X.K t) (tT (C.nox.at X) gt) (tG (C.nox.at X) λρ=>bB (ge ρ)) σ H Q:=by
 rw[aU] at q;obtain ⟨ρ,F,RS,w⟩:=q;unfold jM;refine ⟨ρ,F,RS,?_⟩;cases er:gi ρ with
 | stuck=>rw[er] at w;exact w
 | exc c=>rw[er] at w;exact w
 | ok m d =>
  rw[er] at w;cases d with
  | lst ds =>
   unfold bN at w;rw[Res.thn_ok] at w;dsimp only at w;split at w
   . rename_i hsz;intro J F1 H1 s1 hJ Da hDa;cases et:eC (aW t) gt ge (cX aE ρ++List.replicate tgN.length none) ds with
     | none=>rw[et] at w;exact w.elim
     | some total =>
      rw[et] at w;have hD0:H Da=none:=s1.same.free hDa;have hF1:F1 Da=none:=s1.sub.free hDa;have R0:=aEU aE tgN.length RS;refine ⟨λi m ys H'=>m=ds.length-i/\i<=ds.length/\H' Da=some (.lst ys)/\∃ F' zs,aI F H F' H'/\aD F1 F'/\F' Da=none/\aC X.K F' zs ys/\zs.length<=i /\
       ∃ a9,eC (aW t) gt ge (cX aE ρ++List.replicate tgN.length none) (ds.drop i)=some a9/\total=zs++a9,
       ⟨ds.length,by simp,aR5 _,bI,F1,[],s1.upd hD0 hF1,aD.refl _,hF1,aC.nil,aRN _,total,by simpa using et,rfl⟩,?_⟩
      rintro i m ys H' ⟨rfl,hile,hD,F',zs,st,sF,hFD,rz,hzl,a9,ec,etot⟩;refine ⟨hD,?_⟩;by_cases hlt:i<ds.length
      . refine .inr ⟨hJ.go i H' (sF.trans st.sub) hlt,by rw[rz.length];omega,λv H2 y=>?_⟩
        obtain ⟨F2,d,ed,s2,rd⟩:=hJ.yld i F' H' v H2 sF st.sub hlt y;have hd:ds.drop i=d::ds.drop (i+1):=by rw[List.drop_eq_getElem_cons hlt];rw[aTF hlt] at ed;cases ed;rfl
        rw[hd] at ec;unfold eC at ec;have hD2:H2 Da=some (.lst ys):=s2.same _ _ hD;have hF2:F2 Da=none:=s2.new _ hFD (by rw[hD];exact λz=>nomatch z)
        cases eg:aW t d (cX aE ρ++List.replicate tgN.length none) with
        | none=>rw[eg] at ec;cases ec
        | some ρ1 =>
        rw[eg] at ec;dsimp only at ec;have R2:=(R0.step st).step s2;refine oO t R2 rd eg λσ1 R1 len1 keep1=>?_;refine ⟨⟨len1.symm,λj u ej=>?_⟩,ρ1,F2,R1,?_⟩
        . by_cases hj:j∈eF t
          . have:=hsl j hj;rw[aSC (by simpa[c9] using this),aSD] at ej
            split at ej <;> cases ej
          . rw[keep1 j hj];exact ej
        cases ett:gt ρ1 with
        | stuck=>rw[ett] at ec;cases ec
        | exc c=>rw[ett] at ec;cases ec
        | ok mt dt =>
         cases dt with
         | bl b =>
          rw[ett] at ec;intro F3 H3 s3;have hD3:H3 Da=some (.lst ys):=s3.same _ _ hD2;have hF3:F3 Da=none:=s3.new _ hF2 (by rw[hD2];exact λz=>nomatch z)
          cases b with
          | false=>rw[if_neg aRW];exact ⟨ds.length-(i+1),by omega,rfl,hlt,hD3,F3,zs,(st.trans s2).trans s3,(sF.trans s2.fsame).trans s3.fsame,hF3,rz.mono (s2.fsame.trans s3.fsame) _ _,Nat.le_succ_of_le hzl,a9,ec,etot⟩
          | true =>
           rw[if_pos rfl,aU];refine ⟨_,F3,R1.step s3,?_⟩;dsimp only at ec;cases ee:bB (ge ρ1) with
           | stuck=>rw[ee] at ec;cases ec
           | exc c=>rw[ee] at ec;cases ec
           | ok me ye =>
            rw[ee] at ec;dsimp only at ec;have hme:me=.fz:=by
             cases h:ge ρ1 with
             | ok m' d'=>rw[h] at ee;cases m' <;> cases ee <;> rfl
             | exc c=>rw[h] at ee;cases ee
             | stuck=>rw[h] at ee;cases ee
            subst hme;cases er2:eC (aW t) gt ge (cX aE ρ++List.replicate tgN.length none) (ds.drop (i+1)) with
            | none=>rw[er2] at ec;cases ec
            | some rest' =>
             rw[er2] at ec;cases ec;intro u F4 H4 s4 ru _;have hD4:H4 Da=some (.lst ys):=s4.same _ _ hD3;have hF4:F4 Da=none:=s4.new _ hF3 (by rw[hD3];exact λz=>nomatch z)
             refine ⟨hD4,ds.length-(i+1),by omega,rfl,hlt,bI,F4,zs++[ye],(((st.trans s2).trans s3).trans s4).upd hD0 hF4,((sF.trans s2.fsame).trans s3.fsame).trans s4.fsame,hF4,?_,by simp;omega,rest',er2,by rw[etot];simp⟩
             exact aC.append (rz.mono ((s2.fsame.trans s3.fsame).trans s4.fsame) _ _) (aC.cons ru aC.nil)
         | _=>rw[ett] at ec;cases ec
      . have ei:i=ds.length:=by omega
        subst ei;rw[List.drop_length] at ec;cases ec;rw[aR7] at etot;subst etot;exact .inl ⟨hJ.stop _ H' (sF.trans st.sub) (aRN _),w (.ref Da) F' H' st ⟨Da,rfl,hFD,ys,hD,rz⟩ λ_ a ea=>by cases ea;exact hD0⟩
   . exact w.elim
  | _=>exact w.elim
theorem aF4{aP elt tg:Expr}{t:Tg}{tgN:List Str}{ifs:List Expr}{scope:Scope}{aE:List Nat}{aH:List Str}{gi gt ge:Rho->Res}(hc:X.calm=true)(hi:PIv C X tg aP gi)(cM:∀ y∈scope.names,y.2 ≠ .cell)(cY:scope.kind=.function)(eM:∀ y∈scope.names,y.2=.local->scope.names.lookup y.1=some .local)(cZ:∀ y∈scope.names,y.2=.free->X.env.kindOf y.1=some .cell\/X.env.kindOf y.1=some .free)(dJ:aH.map some=aE.map λi=>X.N[i]?)(eO:∀ y∈aH,(y,NameKind.free)∈scope.names)(eN:∀ y∈aH,(relabel scope X.env).names.lookup y=some .cell\/(relabel scope X.env).names.lookup y=some .free)(hsl:∀ j∈eF t,aE.length<=j)(hg:∀ cl A fp s3 H3,PGw (bF X scope (aH++tgN) cl A fp s3 H3) tg t)(hf:∀ cl A fp s3 H3,cW (bF X scope (aH++tgN) cl A fp s3 H3) ifs (tT (C.nox.at X) gt))(he:∀ cl A fp s3 H3,PV C.nox (bF X scope (aH++tgN) cl A fp s3 H3) elt ge)(hs:∀ x,foldedSetIterable aP X.env x=pure x:=by intro _;rfl):PV C X (.ListComp elt [⟨tg,aP,ifs,0⟩] scope pos) (λρ=>bN (gi ρ) ρ aE tgN.length (aW t) gt ge):=by
 have capLen:aH.length=aE.length:=by simpa using congrArg List.length dJ
 refine PE.imp (aEQ (aH:=aH) (tgN:=tgN) (gt:=gOf X.K t) (tt:=tT (C.nox.at X) gt) (te:=tG (C.nox.at X) λρ=>bB (ge ρ)) hc hi cM cY eM cZ dJ eO eN
  hg hf (λcl A fp s3 H3=>fO (he cl A fp s3 H3)) hs) λσ H Q q=>uG hsl q
theorem aF5(fz:Bool){i:Nat}{x:Str}{pos' spos:Pos}{aP elt tg:Expr}{t:Tg}{tgN:List Str}{ifs:List Expr}{scope:Scope}{aE:List Nat}{aH:List Str}{gi gt ge:Rho->Res}(hc:X.calm=true)(hi:PIv C X tg aP gi)(cM:∀ y∈scope.names,y.2 ≠ .cell)(cY:scope.kind=.function)(eM:∀ y∈scope.names,y.2=.local->scope.names.lookup y.1=some .local)(cZ:∀ y∈scope.names,y.2=.free->X.env.kindOf y.1=some .cell\/X.env.kindOf y.1=some .free)(dJ:aH.map some=aE.map λi=>X.N[i]?)(eO:∀ y∈aH,(y,NameKind.free)∈scope.names)(eN:∀ y∈aH,(relabel scope X.env).names.lookup y=some .cell\/(relabel scope X.env).names.lookup y=some .free)(hsl:∀ j∈eF t,aE.length<=j)(hg:∀ cl A fp s3 H3,PGw (bF X scope (aH++tgN) cl A fp s3 H3) tg t)(hf:∀ cl A fp s3 H3,cW (bF X scope (aH++tgN) cl A fp s3 H3) ifs (tT (C.nox.at X) gt))(he:∀ cl A fp s3 H3,PV C.nox (bF X scope (aH++tgN) cl A fp s3 H3) elt ge)(hN:X.N.Nodup)(hx:X.N[i]? = some x)(hk:X.env.scope.names.lookup x=some .local)(hsw:swapsWith (.ListComp elt [⟨tg,aP,ifs,0⟩] scope pos) (some (.Name x pos')) spos.line X.env=pure true)(hs:∀ x,foldedSetIterable aP X.env x=pure x:=by intro _;rfl):PSv C X (.Assign [.Name x pos'] (.ListComp elt [⟨tg,aP,ifs,0⟩] scope pos) spos) (λρ=>dO ρ i (if fz=true then bB (bN (gi ρ) ρ aE tgN.length (aW t) gt ge) else bN (gi ρ) ρ aE tgN.length (aW t) gt ge)):=by
 refine PS.imp (aER (aH:=aH) (tgN:=tgN) (gt:=gOf X.K t) (tt:=tT (C.nox.at X) gt) (te:=tG (C.nox.at X) λρ=>bB (ge ρ)) hc hi cM cY eM cZ dJ eO eN
  hg hf (λcl A fp s3 H3=>fO (he cl A fp s3 H3)) hN hx hk hsw hs) λE σ H q=>uG hsl ?_
 cases fz with
 | false=>exact n9 q
 | true=>have q:=n9 q;unfold k9 at q;rw[aU] at q ⊢;obtain ⟨ρ,F,R,w⟩:=q;exact ⟨ρ,F,R,aS.frz w⟩
end
section
variable {C:Cw}{X:Cx}{e:Expr}{g:Rho->Res}{pos p:Pos}
end
inductive PVL(C:Cw)(X:Cx):List Expr->List (Rho->Res)->Prop where
 | nil:PVL C X [] []
 | cons {e:Expr} {g:Rho->Res} {es:List Expr} {gs:List (Rho->Res)} (h:PV C X e g) (r:PVL C X es gs):PVL C X (e::es) (g::gs)
section
open PySem.SeqAt
open PySem.AutoSeq1 (wpAny_loadPart')
open PySem.MeetsSeq PySem.MeetsSeq2 PySem.MeetsSeq3
end
section
variable {prog:Program}{w:World}{A:Around}{E:VSP}{s:Shared}
end
section
variable {C:Cw}{X:Cx}
def iL:List (Md×D)->Option (Md×D):=λxs=>match xs with
 | [(_,.str z)]=>if z.length<=640 then (PySem.intText? z).map λn=>(.fz,.int n) else none
 | _=>oJ xs
theorem aF6:aZ X (.type "int") iL:=by
 obtain ⟨r,h1,h2⟩:=aFN (X:=X);refine ⟨λxs H Q=>r xs H Q\/∃ z n,xs=[.str z]/\z.length<=640/\PySem.intText? z=some n/\Q (.int n) H,?_,λF H xs vs k d Q s rx e w=>?_⟩
 . intro aA s σ H xs us Q I rr h;rcases h with h | ⟨z,n,rfl,hl,hn,q⟩
   . exact h1 aA s σ H xs us Q I rr h
   . obtain ⟨u,rfl,t,rfl⟩:=cO rr;exact PySem.W.KIN.call_text hn hl ⟨.int n,H,I.tok _,⟨_,rfl⟩,q⟩
 . unfold iL at e;split at e
   . rename_i m z;split at e
     . rename_i hl;cases en:PySem.intText? z with
       | none=>rw[en] at e;cases e
       | some n=>rw[en] at e;cases e;obtain ⟨v,rfl,r0⟩:=rx.one;obtain ⟨rfl,_⟩:=r0.str;exact .inr ⟨z,n,rfl,hl,en,w _ F H (.refl s) (bQ _) (by intro z;cases z)⟩
     . cases e
   . exact .inl (h2 F H xs vs k d Q s rx e w)
end
section
open PySem.SeqAt
open PySem.AutoSeq1 (wpAny_loadPart')
open PySem.MeetsSeq PySem.MeetsSeq2 PySem.MeetsSeq3
variable {prog:Program}{w:World}{A:Around}{E:VSP}{s:Shared}
theorem l0{it t:Addr}{i:Nat}{xs:Array Value}{x:Value}{Q:VSP}(hi:s.heap.IsTupleIter it t i)(ht:IsTup s.heap t xs)(hx:xs[i]? = some x)(q:∀ h',h'.IsTupleIter it t (i+1)->Heap.SameBut it s.heap h'->Q x { s with heap:=h' }):wpAny (model prog w) A (Builtin.SmallTypes.nextOf (.ref it)) Q E s:=by
 have ty:=hi.typeIs;obtain ⟨o,ho,hc,hd⟩:=hi;obtain ⟨p,hp,_,n,hs⟩:=ht
 delta Builtin.SmallTypes.nextOf
 apply aRL;apply aSO (name:=Str.ofString "__next__") ty aTV;refine aSQ aTV ty aTW ?w (aTX _)
 case w =>
  refine aRL (m:=field (.ref it) 0) (aSM ho hd (x:=.ref t) rfl ?_);rw[show (Value.ref t==Value.none)=false from rfl,if_neg aRW]
  refine aRL (m:=field (.ref it) 1) (aSM ho hd (x:=.int i 0) rfl ?_);apply aRL;apply aTY hp hs;rw[aSJ];simp only[hx];apply aRL;apply wpAny_setField ho hd (by simp)
  refine aRK ⟨x,rfl,aRK (q _ ⟨_,Heap.get?_update_self _ ho (Obj.isFreed_of_fields (Obj.data_mapFields hd _)),?_,?_⟩ (Heap.SameBut.update ..))⟩
  . rw[Obj.cls_mapFields,hc]
  . rw[Obj.data_mapFields hd];simp[rawInt]
theorem l3{it t:Addr}{i:Nat}{xs:Array Value}{Q:VSP}(h0:A.handled=none)(hi:s.heap.IsTupleIter it t i)(ht:IsTup s.heap t xs)(hx:xs[i]? = none)(q:∀ h' e,Heap.ExtBut it s.heap h'->(∃ o,h'.get? e=some o/\o.cls=.type "StopIteration")->E (.ref e) { s with heap:=h' }):wpAny (model prog w) A (Builtin.SmallTypes.nextOf (.ref it)) Q E s:=by
 have ty:=hi.typeIs;obtain ⟨o,ho,hc,hd⟩:=hi;obtain ⟨p,hp,_,n,hs⟩:=ht
 delta Builtin.SmallTypes.nextOf
 apply aRL;apply aSO (name:=Str.ofString "__next__") ty aTV;refine aSQ aTV ty aTW ?w (aTX _)
 case w =>
  refine aRL (m:=field (.ref it) 0) (aSM ho hd (x:=.ref t) rfl ?_);rw[show (Value.ref t==Value.none)=false from rfl,if_neg aRW]
  refine aRL (m:=field (.ref it) 1) (aSM ho hd (x:=.int i 0) rfl ?_);apply aRL;apply aTY hp hs;rw[aSJ];simp only[hx];apply aRL;apply wpAny_rule;apply aRL;apply wpAny_setField ho hd (by simp)
  refine aRL (m:=newExc (.type "StopIteration") []) ?_;simp only[newExc,newTuple];apply aRL;refine aSS ?_ (by size_fits)
  apply aRL (m:=firstArgMember _ _);refine wpAny_of_eq (a:=.none) ?_ ?_
  . first | rfl | (unfold firstArgMember;rfl)
  refine aSS (hd:=by size_fits) ?_
  simp only[raiseNew];apply aRL;apply wpAny_handled
  first | rw[show A.in1.handled=none from h0] | rw[h0]
  refine wpAny_throw ?_;exact q _ _ ((Heap.SameBut.extBut (Heap.SameBut.update ..)).push _ |>.push _) ⟨_,aQ0 _ rfl,rfl⟩
theorem iM{h h':Heap}{a:Addr}{xs:Array Value}(x:IsTup h a xs)(k:∀ o,h.get? a=some o->h'.get? a=some o):IsTup h' a xs:=by obtain ⟨o,ho,r⟩:=x;exact ⟨o,k o ho,r⟩
theorem aF7{z TI TO i j l m:Addr}{ki kj:Nat}{xs ys:Array Value}{x y a b:Value}{Q:VSP}(D:ZipApart z TI TO i j l m)(hz:IsZip s.heap z TI TO .none)(hI:IsPair s.heap TI (.ref i) (.ref j))(hO:IsPair s.heap TO a b)(hi:s.heap.IsTupleIter i l ki)(hj:s.heap.IsTupleIter j m kj)(hl:IsTup s.heap l xs)(hm:IsTup s.heap m ys)(hx:xs[ki]? = some x)(hy:ys[kj]? = some y)(q:∀ h',IsZip h' z TI TO (rawInt s.heap.objs.size)->IsPair h' TO x y->h'.IsTupleIter i l (ki+1)->h'.IsTupleIter j m (kj+1)->IsPair h' s.heap.objs.size x y->h'.objs.size=s.heap.objs.size+1->(∀ c o,c≠z->c≠TO->c≠i->c≠j->s.heap.get? c=some o->h'.get? c=some o)->Q (.ref s.heap.objs.size) { s with heap:=h' }):wpAny (model prog w) A (Builtin.«zip.__next__» ⟨[.ref z],[]⟩) (λf s'=>∃ v,f=.done (.ret v)/\Q v s') E s:=by
 refine aRL (m:=field (.ref z) 2) (aSM hz rfl (x:=.bool false) rfl ?_);refine aRL (m:=field (.ref z) 3) (aSM hz rfl (x:=.ref TI) rfl ?_);apply aRL;apply aTY hI rfl;refine aRL (m:=Builtin.SmallTypes.ownedTupleIsFree (.ref z)) ?_
 delta Builtin.SmallTypes.ownedTupleIsFree
 apply aRL;refine aSM hz rfl (x:=.none) rfl ?_;apply aRK;simp only[aSL];apply aRL;apply wpAny_rule;apply aRL;refine aSM hz rfl (x:=.ref TO) rfl ?_;apply aRL;refine aTZ hz (by simp) λH1 z1 s1=>?_
 have z1:IsZip H1 z TI TO .ellipsis:=z1;apply aRL;simp only[List.zipIdx_cons,List.zipIdx_nil,aTL,aTK];apply aRL;apply aRL;apply aT0;refine aRL (m:=Builtin.SmallTypes.nextOf (.ref i)) ?_;refine l0 (hi.extBut s1.extBut D.i1z) (iM hl λo e=>s1.extBut _ o D.l1z e) hx λH2 i2 s2=>?_;apply aRK;have o2:IsPair H2 TO a b:=s2.extBut _ _ D.TOi1 (s1.extBut _ _ D.TOz hO);apply aRL;apply aTY o2 rfl;apply aRL;refine aT1 o2 λH3 o3 s3=>?_;have o3:IsPair H3 TO x b:=o3;apply aRL;apply wpAny_letGo;apply aRK;apply aRL;apply aRL;apply aT0;refine aRL (m:=Builtin.SmallTypes.nextOf (.ref j)) ?_;have j3:H3.IsTupleIter j m kj:=((hj.extBut s1.extBut D.i2z).extBut s2.extBut D.i12.symm).extBut s3.extBut D.TOi2.symm;have m3:IsTup H3 m ys:=iM hm λo e=>s3.extBut _ o D.l2TO (s2.extBut _ o D.l2i1 (s1.extBut _ o D.l2z e));refine l0 j3 m3 hy λH4 j4 s4=>?_;apply aRK;have o4:IsPair H4 TO x b:=s4.extBut _ _ D.TOi2 o3;apply aRL;apply aTY o4 rfl;apply aRL;refine aT1 o4 λH5 o5 s5=>?_;have o5:IsPair H5 TO x y:=o5;apply aRL;apply wpAny_letGo;refine aRK (aRK ?_);apply aRL;apply aTY o5 rfl;apply aRL;refine wpAny_newTuple ?_;have sz:H5.objs.size=s.heap.objs.size:=by rw[s5.1,s4.1,s3.1,s2.1,s1.1]
 have z5:IsZip H5 z TI TO .ellipsis:=s5.extBut _ _ D.TOz.symm (s4.extBut _ _ D.i2z.symm (s3.extBut _ _ D.TOz.symm (s2.extBut _ _ D.i1z.symm z1)));have k5:∀ c o,c≠z->c≠TO->c≠i->c≠j->s.heap.get? c=some o->H5.get? c=some o:=λc o c1 c2 c3 c4 e =>
  s5.extBut _ _ c2 (s4.extBut _ _ c4 (s3.extBut _ _ c2 (s2.extBut _ _ c3 (s1.extBut _ _ c1 e))))
 have i5:H5.IsTupleIter i l (ki+1):=((i2.extBut s3.extBut D.TOi1.symm).extBut s4.extBut D.i12).extBut s5.extBut D.TOi1.symm;have j5:H5.IsTupleIter j m (kj+1):=j4.extBut s5.extBut D.TOi2.symm;have zl:z<H5.objs.size:=aQ1 z5;refine aRL (m:=Builtin.SmallTypes.ownedTupleHandOut (.ref z) (.ref H5.objs.size)) ?_
 delta Builtin.SmallTypes.ownedTupleHandOut
 have z6:IsZip (H5.push { cls:=.type "tuple", data:=.seq #[x,y] }) z TI TO .ellipsis:=hps z5;apply aRL;refine aTZ z6 (by simp) λH7 z7 s7=>?_
 have z7:IsZip H7 z TI TO (rawInt H5.objs.size):=z7;refine aTZ z7 (by simp) λH8 z8 s8=>?_
 have z8:IsZip H8 z TI TO (rawInt H5.objs.size):=z8;have up:∀ c o,c≠z->H5.get? c=some o->H8.get? c=some o:=λc o c1 e=>s8.extBut _ _ c1 (s7.extBut _ _ c1 (hps e));have t8:IsPair H8 H5.objs.size x y:=s8.extBut _ _ (aRJ zl) (s7.extBut _ _ (aRJ zl) (aQ0 _ rfl));have n8:H8.objs.size=H5.objs.size+1:=by rw[s8.1,s7.1,aR3]
 rw[sz] at z8 t8 n8;apply aRK;refine ⟨_,rfl,?_⟩;show Q (.ref H5.objs.size) _;rw[sz];exact q H8 z8 (up _ _ D.TOz o5) (i5.at λo e=>up _ o D.i1z e) (j5.at λo e=>up _ o D.i2z e) t8 n8 λc o c1 c2 c3 c4 e=>up c o c1 (k5 c o c1 c2 c3 c4 e)
theorem aF8{z TI TO i j l m:Addr}{ki kj:Nat}{xs ys:Array Value}{a b:Value}{Q:Fin->Shared->Prop}(h0:A.handled=none)(D:ZipApart z TI TO i j l m)(hz:IsZip s.heap z TI TO .none)(hI:IsPair s.heap TI (.ref i) (.ref j))(hO:IsPair s.heap TO a b)(hi:s.heap.IsTupleIter i l ki)(hj:s.heap.IsTupleIter j m kj)(hl:IsTup s.heap l xs)(hm:IsTup s.heap m ys)(hn:xs[ki]? = none\/ys[kj]? = none)(q:∀ h' e,(∀ c o,c≠z->c≠TO->c≠i->c≠j->s.heap.get? c=some o->h'.get? c=some o)->(∃ o,h'.get? e=some o/\o.cls=.type "StopIteration")->E (.ref e) { s with heap:=h' }):wpAny (model prog w) A (Builtin.«zip.__next__» ⟨[.ref z],[]⟩) Q E s:=by
 refine aRL (m:=field (.ref z) 2) (aSM hz rfl (x:=.bool false) rfl ?_);refine aRL (m:=field (.ref z) 3) (aSM hz rfl (x:=.ref TI) rfl ?_);apply aRL;apply aTY hI rfl;refine aRL (m:=Builtin.SmallTypes.ownedTupleIsFree (.ref z)) ?_
 delta Builtin.SmallTypes.ownedTupleIsFree
 apply aRL;refine aSM hz rfl (x:=.none) rfl ?_;apply aRK;simp only[aSL];apply aRL;apply wpAny_rule;apply aRL;refine aSM hz rfl (x:=.ref TO) rfl ?_;apply aRL;refine aTZ hz (by simp) λH1 z1 s1=>?_
 have z1:IsZip H1 z TI TO .ellipsis:=z1;apply aRL;simp only[List.zipIdx_cons,List.zipIdx_nil,aTL,aTK];apply aRL;apply aRL;apply aT0;refine aRL (m:=Builtin.SmallTypes.nextOf (.ref i)) ?_;have i1:=hi.extBut s1.extBut D.i1z;have l1:IsTup H1 l xs:=iM hl λo e=>s1.extBut _ o D.l1z e;cases hx:xs[ki]? with
 | none =>
  refine l3 h0 i1 l1 hx λH2 e s2 he=>?_;obtain ⟨oe,g,c⟩:=he;have z2:IsZip H2 z TI TO .ellipsis:=s2 _ _ D.i1z.symm z1;have ez:e≠z:=by rintro rfl;rw[z2] at g;cases g;simp at c
  refine aTZ z2 (by simp) λH3 _ s3=>?_
  exact q H3 e (λc o c1 _ c3 _ x=>s3.extBut _ _ c1 (s2 _ _ c3 (s1.extBut _ _ c1 x))) ⟨oe,s3.extBut _ _ ez g,c⟩
 | some x =>
  have hy:ys[kj]? = none:=by
   rcases hn with h | h
   . rw[hx] at h;cases h
   . exact h
  refine l0 i1 l1 hx λH2 i2 s2=>?_;apply aRK;have o2:IsPair H2 TO a b:=s2.extBut _ _ D.TOi1 (s1.extBut _ _ D.TOz hO);apply aRL;apply aTY o2 rfl;apply aRL;refine aT1 o2 λH3 o3 s3=>?_;apply aRL;apply wpAny_letGo;apply aRK;apply aRL;apply aRL;apply aT0;refine aRL (m:=Builtin.SmallTypes.nextOf (.ref j)) ?_;have j3:H3.IsTupleIter j m kj:=((hj.extBut s1.extBut D.i2z).extBut s2.extBut D.i12.symm).extBut s3.extBut D.TOi2.symm;have m3:IsTup H3 m ys:=iM hm λo e=>s3.extBut _ o D.l2TO (s2.extBut _ o D.l2i1 (s1.extBut _ o D.l2z e));refine l3 h0 j3 m3 hy λH4 e s4 he=>?_;obtain ⟨oe,g,c⟩:=he;have z4:IsZip H4 z TI TO .ellipsis:=s4 _ _ D.i2z.symm (s3.extBut _ _ D.TOz.symm (s2.extBut _ _ D.i1z.symm z1));have ez:e≠z:=by rintro rfl;rw[z4] at g;cases g;simp at c
  refine aTZ z4 (by simp) λH5 _ s5=>?_
  exact q H5 e (λc o c1 c2 c3 c4 x=>s5.extBut _ _ c1 (s4 _ _ c4 (s3.extBut _ _ c2 (s2.extBut _ _ c3 (s1.extBut _ _ c1 x))))) ⟨oe,s5.extBut _ _ ez g,c⟩
theorem aF9{z TI TO i j l m:Addr}{ki kj:Nat}{xs ys:Array Value}{x y a b:Value}{Q:Option Value->Shared->Prop}(D:ZipApart z TI TO i j l m)(hz:IsZip s.heap z TI TO .none)(hI:IsPair s.heap TI (.ref i) (.ref j))(hO:IsPair s.heap TO a b)(hi:s.heap.IsTupleIter i l ki)(hj:s.heap.IsTupleIter j m kj)(hl:IsTup s.heap l xs)(hm:IsTup s.heap m ys)(hx:xs[ki]? = some x)(hy:ys[kj]? = some y)(q:∀ h',IsZip h' z TI TO (rawInt s.heap.objs.size)->IsPair h' TO x y->h'.IsTupleIter i l (ki+1)->h'.IsTupleIter j m (kj+1)->IsPair h' s.heap.objs.size x y->h'.objs.size=s.heap.objs.size+1->(∀ c o,c≠z->c≠TO->c≠i->c≠j->s.heap.get? c=some o->h'.get? c=some o)->Q (some (.ref s.heap.objs.size)) { s with heap:=h' }):wpAny (model prog w) A (pyNext (.ref z)) Q E s:=by
 have ty:s.TypeIs (.ref z) "zip" := ⟨_,hz,rfl⟩
 delta pyNext
 apply aRL;apply wpAny_attempt;apply aSO (name:=Str.ofString "__next__") ty aT2;refine aSQ aT2 ty F.entry_zip_next ?w (F.args_zip_next_1 _)
 case w=>exact aF7 D hz hI hO hi hj hl hm hx hy λh' a1 a2 a3 a4 a5 a6 a7=>aRK (q h' a1 a2 a3 a4 a5 a6 a7)
theorem aGA{z TI TO i j l m:Addr}{ki kj:Nat}{xs ys:Array Value}{a b:Value}{Q:Option Value->Shared->Prop}(h0:A.handled=none)(D:ZipApart z TI TO i j l m)(hz:IsZip s.heap z TI TO .none)(hI:IsPair s.heap TI (.ref i) (.ref j))(hO:IsPair s.heap TO a b)(hi:s.heap.IsTupleIter i l ki)(hj:s.heap.IsTupleIter j m kj)(hl:IsTup s.heap l xs)(hm:IsTup s.heap m ys)(hn:xs[ki]? = none\/ys[kj]? = none)(q:∀ h',(∀ c o,c≠z->c≠TO->c≠i->c≠j->s.heap.get? c=some o->h'.get? c=some o)->Q none { s with heap:=h' }):wpAny (model prog w) A (pyNext (.ref z)) Q E s:=by
 have ty:s.TypeIs (.ref z) "zip" := ⟨_,hz,rfl⟩
 delta pyNext
 apply aRL;apply wpAny_attempt;apply aSO (name:=Str.ofString "__next__") ty aT2;refine aSQ aT2 ty F.entry_zip_next ?w (F.args_zip_next_1 _)
 case w=>refine aF8 h0 D hz hI hO hi hj hl hm hn λh' e k he=>?_;obtain ⟨o,g,c⟩:=he;apply aRL;refine wpAny_isInstance (T := "StopIteration") (b:=true) ⟨o,g,c⟩ isSubtype_stop ?_;exact aRK (q _ k)
def tIt(l:Addr):Obj:={ cls:=.type "tuple_iterator", data:=.fields #[.ref l,.int 0 0] }
def zp2(h:Heap)(l m:Addr):Heap:=(h.push (tIt l)).push (tIt m)
def zp3(h:Heap)(l m:Addr):Heap:=(zp2 h l m).push { cls:=.type "tuple", data:=.seq #[.ref h.objs.size,.ref (h.push (tIt l)).objs.size] }
def zp4(h:Heap)(l m:Addr):Heap:=(zp3 h l m).push { cls:=.type "tuple", data:=.seq #[.none,.none] }
def zp5(h:Heap)(l m:Addr):Heap:=(zp4 h l m).push { cls:=.type "zip", data:=.fields #[.none,.bool false,.bool false,.ref (zp2 h l m).objs.size,.ref (zp3 h l m).objs.size] }
theorem zs2(h:Heap)(l m:Addr):(zp2 h l m).objs.size=h.objs.size+2:=by unfold zp2;rw[aR3,aR3]
theorem zs3(h:Heap)(l m:Addr):(zp3 h l m).objs.size=h.objs.size+3:=by unfold zp3;rw[aR3,zs2]
theorem zs4(h:Heap)(l m:Addr):(zp4 h l m).objs.size=h.objs.size+4:=by unfold zp4;rw[aR3,zs3]
theorem zs5(h:Heap)(l m:Addr):(zp5 h l m).objs.size=h.objs.size+5:=by unfold zp5;rw[aR3,zs4]
theorem aGB(l m:Addr)(xs ys:Array Value):Meets (Builtin.«zip.__new__» ⟨[.type "zip", .ref l,.ref m],[]⟩) (λ_ R s=>s.heap.IsTuple l xs/\s.heap.IsTuple m ys/\R (.ok (.ret (.ref (zp4 s.heap l m).objs.size))) { s with heap:=zp5 s.heap l m }) :=
 .of_wp λprog w A R s h=>by
  obtain ⟨hp,g,d,tk,os⟩:=s;obtain ⟨hl,hm,h⟩:=h;have f:=sub_zip;have e1:Heap.IsTuple (Shared.heap ⟨hp,g,d,tk,os⟩) l xs:=hl;have e2:Heap.IsTuple (Shared.heap ⟨hp.push { cls:=.type "tuple_iterator", data:=.fields #[.ref l,.int 0 0] },g,d,tk,os⟩) m ys:=Heap.IsTuple.push hm _
  wp_walk using aRO e1,aRO e2
  exact ⟨_,rfl,h⟩
theorem aGC{l m:Addr}{xs ys:Array Value}{Q:VSP}(hl:s.heap.IsTuple l xs)(hm:s.heap.IsTuple m ys)(q:∀ h',IsZip h' (s.heap.objs.size+4) (s.heap.objs.size+2) (s.heap.objs.size+3) .none->IsPair h' (s.heap.objs.size+2) (.ref s.heap.objs.size) (.ref (s.heap.objs.size+1))->IsPair h' (s.heap.objs.size+3) .none .none->h'.IsTupleIter s.heap.objs.size l 0->h'.IsTupleIter (s.heap.objs.size+1) m 0->h'.objs.size=s.heap.objs.size+5->(∀ c o,s.heap.get? c=some o->h'.get? c=some o)->Q (.ref (s.heap.objs.size+4)) { s with heap:=h' }):wpAny (model prog w) A (call (.type "zip") [.ref l,.ref m]) Q E s:=by
 have p4:∀ {c:Addr} {o:Obj},(zp4 s.heap l m).get? c=some o->(zp5 s.heap l m).get? c=some o:=λe=>hps e;have p3:∀ {c:Addr} {o:Obj},(zp3 s.heap l m).get? c=some o->(zp5 s.heap l m).get? c=some o:=λe=>p4 (hps e);have p2:∀ {c:Addr} {o:Obj},(zp2 s.heap l m).get? c=some o->(zp5 s.heap l m).get? c=some o:=λe=>p3 (hps e);have p1:∀ {c:Addr} {o:Obj},(s.heap.push (tIt l)).get? c=some o->(zp5 s.heap l m).get? c=some o:=λe=>p2 (hps e);have w1:(s.heap.push (tIt l)).objs.size=s.heap.objs.size+1:=aR3 ..;have g5:(zp5 s.heap l m).get? (zp4 s.heap l m).objs.size=some _:=aQ0 _ rfl;have g4:(zp5 s.heap l m).get? (zp3 s.heap l m).objs.size=some _:=p4 (aQ0 _ rfl);have g3:(zp5 s.heap l m).get? (zp2 s.heap l m).objs.size=some _:=p3 (aQ0 _ rfl);have g2:(zp5 s.heap l m).get? (s.heap.push (tIt l)).objs.size=some (tIt m):=p2 (aQ0 _ rfl);have g1:(zp5 s.heap l m).get? s.heap.objs.size=some (tIt l):=p1 (aQ0 _ rfl);refine callType_new F.called_zip (by decide) (F.typeCall_zip_2 _ _) (F.newCall_zip_2 _ _) (λobj=>F.args_object_init_3 obj _ _) F.entry_zip_new (aGB l m xs ys) ⟨hl,hm,?_⟩
 show _/\_;rw[zs2,zs3,zs4] at g5;rw[w1,zs2] at g3;rw[zs3] at g4;rw[w1] at g2;rw[zs4];refine ⟨⟨_,g5,rfl⟩,q _ g5 g3 g4 ⟨_,g1,rfl,rfl⟩ ⟨_,g2,rfl,rfl⟩ (zs5 ..) λc o x=>p1 (hps x)⟩
end
section
variable {X:Cx}{aA:LAO}{σ:L2.St}{H:Hp}{s:Shared}{h':Heap}
theorem uH{t':Nat}{its:List Addr}{n:Addr}{xs:List V}(I:Inv X aA σ H s)(k:∀ b o,b∉its->s.heap.get? b=some o->h'.get? b=some o)(hf:∀ b∈its,dF X aA H b)(hn:s.heap.objs.size<=n)(new:∃ us,aM xs us/\e6 h' n us.toArray)(hz:xs.length<=sizeLine):Inv X aA σ (upd H n (.tup xs)) { s with heap:=h',toks:=t' }:=by
 have fr:H n=none:=I.hok.fresh hn;have lt:∀ {b o},s.heap.get? b=some o->b≠n:=λe z=>absurd (aQ1 e) (by rw[z];exact Nat.not_lt.mpr hn)
 have nb:∀ {b u},H b=some u->b≠n:=λe z=>by rw[z,fr] at e;cases e
 have ni:∀ {b u},H b=some u->b∉its:=λe z=>by rw[(hf _ z).1] at e;cases e
 refine I.call (g':=s.gens) (d':=s.drawn) (ch:=its) ⟨λb o e _ _ hx=>k b o hx e,λb o e _ _ hx=>⟨o.slots,k b o hx e⟩,λb o e h0 _=>by rw[aR (lt e)];exact h0,λb o e hx=>⟨o,k b o hx e⟩,
  λb u e=>by rw[aR (nb e)];exact e,λb u v e=>by rw[aR (nb e)];exact e,λb u e=>⟨#[],by rw[aR (nb e),e];simp⟩⟩ (λb u e=>?_) I.bare λb hb=>?_
 . by_cases hb:b=n
   . subst hb;rw[bI] at e;cases e;exact ⟨hz,new⟩
   . rw[aR hb] at e;refine (I.hok b u e).stay (λc v hc q=>k c v ?_ q) (λc q=>?_) λc v q=>?_
     . rcases hc with z | z
       . rw[z];exact ni e
       . exact ni z
     . rw[aR (nb q)];exact q
     . rw[aR (nb q)];exact q
 . obtain ⟨f0,f1,f2,f3,f4,f5⟩:=hf b hb;exact ⟨f3,f1,f4,f5⟩
theorem uI{t':Nat}{its:List Addr}(I:Inv X aA σ H s)(k:∀ b o,b∉its->s.heap.get? b=some o->h'.get? b=some o)(hf:∀ b∈its,dF X aA H b):Inv X aA σ H { s with heap:=h',toks:=t' }:=by
 have ni:∀ {b u},H b=some u->b∉its:=λe z=>by rw[(hf _ z).1] at e;cases e
 refine I.call (g':=s.gens) (d':=s.drawn) (ch:=its) ⟨λb o e _ _ hx=>k b o hx e,λb o e _ _ hx=>⟨o.slots,k b o hx e⟩,λb o e h0 _=>h0,λb o e hx=>⟨o,k b o hx e⟩,
  λb u e=>e,λb u v e=>e,λb u e=>⟨#[],by rw[e];simp⟩⟩ (λb u e=>?_) I.bare λb hb=>?_
 . refine (I.hok b u e).stay (λc v hc q=>k c v ?_ q) (λ_ q=>q) λ_ _ q=>q;rcases hc with z | z
   . rw[z];exact ni e
   . exact ni z
 . obtain ⟨f0,f1,f2,f3,f4,f5⟩:=hf b hb;exact ⟨f3,f1,f4,f5⟩
def Itz(K:Fg)(a b:Addr):It :=
 ⟨fun i H => ∃ xs ys x y, SqT K H a xs ∧ SqT K H b ys ∧ xs[i]? = some x ∧ ys[i]? = some y,
  λi H v H'=>∃ p x y,v=.ref p/\H p=none/\H'=upd H p (.tup [x,y])/\(∀ xs,SqT K H a xs->xs[i]? = some x)/\∀ ys,SqT K H b ys->ys[i]? = some y,
  λi H=>∃ xs ys,SqT K H a xs/\SqT K H b ys/\(xs.length<=i\/ys.length<=i)⟩
theorem aGD{P:Program}{w:World}{K:Fg}{elts:List Expr}{cx}{pos:Pos}(z TI TO i j l m:Addr)(D:ZipApart z TI TO i j l m):e8 P w K (.Tuple elts cx pos) (Itz K l m) [z,TI,TO,i,j] z (λk h=>IsZip h z TI TO .none/\IsPair h TI (.ref i) (.ref j)/\(∃ a b,IsPair h TO a b)/\h.IsTupleIter i l k/\h.IsTupleIter j m k) where
 mem:=by simp
 obj:=λk h st b hb=>by
  obtain ⟨hz,hI,⟨a,c,hO⟩,hi,hj⟩:=st;simp only[aRA,aT3,aT4] at hb;rcases hb with rfl | rfl | rfl | rfl | rfl
  . exact ⟨_,hz,λv e=>by cases e⟩
  . exact ⟨_,hI,λv e=>by cases e⟩
  . exact ⟨_,hO,λv e=>by cases e⟩
  . obtain ⟨o,e,_,d⟩:=hi;exact ⟨o,e,λv q=>by rw[d] at q;cases q⟩
  . obtain ⟨o,e,_,d⟩:=hj;exact ⟨o,e,λv q=>by rw[d] at q;cases q⟩
 keep:=λk h h' st q=>by obtain ⟨hz,hI,⟨a,c,hO⟩,hi,hj⟩:=st;exact ⟨q z (by simp) _ hz,q TI (by simp) _ hI,⟨a,c,q TO (by simp) _ hO⟩,hi.at λo e=>q i (by simp) o e,hj.at λo e=>q j (by simp) o e⟩
 item:=by
  intro X hP hw hK hc k aA s σ H E I hf st hg;subst hP hw hK;obtain ⟨hz,hI,⟨a,c,hO⟩,hi,hj⟩:=st;obtain ⟨xs,ys,x,y,ql,qm,hx,hy⟩:=hg;obtain ⟨us,r1,p1,_⟩:=I.tuple ql;obtain ⟨vs,r2,p2,_⟩:=I.tuple qm;obtain ⟨u,hu,ru⟩:=r1.get hx;obtain ⟨v,hv,rv⟩:=r2.get hy;refine aF9 D hz hI hO hi hj p1 p2 (x:=u) (y:=v) (by simpa using hu) (by simpa using hv) λh' a1 a2 a3 a4 a5 a6 a7=>?_
  refine ⟨_,rfl,wpAny_letOwnedTupleGo_zip (s:={ s with heap:=h' }) a1 λh2 b1 b2=>?_⟩
  have zn:s.heap.objs.size≠z:=λq=>absurd (aQ1 hz) (by rw[<- q];exact aQ3 _)
  have up:∀ b o,b∉[z,TI,TO,i,j]->s.heap.get? b=some o->h2.get? b=some o:=λb o hb e=>by simp only[aRA,aT3,aT4,not_or] at hb;exact b2.extBut _ _ hb.1 (a7 b o hb.1 hb.2.2.1 hb.2.2.2.1 hb.2.2.2.2 e)
  have I2:=uH (t':=s.toks) (xs:=[x,y]) I up hf (aRN _) ⟨[u,v],.cons ru (.cons rv .nil),⟨_,b2.extBut _ _ zn a5,rfl,rfl,_,rfl⟩⟩ (show 2<=sizeLine by decide +kernel)
  refine ⟨.ref s.heap.objs.size,_,I2,rfl,⟨_,x,y,rfl,I.hok.fresh (aRN _),rfl,λzs q=>by rw[I.tuple_inj q ql];exact hx,λzs q=>by rw[I.tuple_inj q qm];exact hy⟩,?_,λb hb=>?_⟩
  . exact ⟨b1,b2.extBut _ _ D.TIz (a7 _ _ D.TIz D.TITO D.TIi1 D.TIi2 hI),⟨_,_,b2.extBut _ _ D.TOz a2⟩,a3.extBut b2.extBut D.i1z,a4.extBut b2.extBut D.i2z⟩
  . have hb0:=hb;obtain ⟨o,e,_⟩:∃ o,s.heap.get? b=some o/\True:=by
      simp only[aRA,aT3,aT4] at hb;rcases hb with rfl | rfl | rfl | rfl | rfl
      . exact ⟨_,hz,trivial⟩
      . exact ⟨_,hI,trivial⟩
      . exact ⟨_,hO,trivial⟩
      . obtain ⟨o,e,_⟩:=hi;exact ⟨o,e,trivial⟩
      . obtain ⟨o,e,_⟩:=hj;exact ⟨o,e,trivial⟩
    rw[aR λq=>absurd (aQ1 e) (by rw[q];exact aQ3 _)]
    exact (hf b hb0).1
 done:=by
  intro X hP hw hK hc k aA s σ H E I hf st hg;subst hP hw hK;obtain ⟨hz,hI,⟨a,c,hO⟩,hi,hj⟩:=st;obtain ⟨xs,ys,ql,qm,hn⟩:=hg;obtain ⟨us,r1,p1,_⟩:=I.tuple ql;obtain ⟨vs,r2,p2,_⟩:=I.tuple qm;have e1:=r1.length;have e2:=r2.length;refine aGA (I.ok.hd hc) D hz hI hO hi hj p1 p2 (hn.imp (λq=>by simp;omega) λq=>by simp;omega) λh' a7=>⟨rfl,?_⟩
  exact uI (t':=s.toks) I (λb o hb e=>by
   simp only[aRA,aT3,aT4,not_or] at hb;exact a7 b o hb.1 hb.2.2.1 hb.2.2.2.1 hb.2.2.2.2 e) hf
 self:=λ_ _ _ _ _ st h=>wpAny_pyIter_zip st.1 h
end
section
variable {C:Cw}{X:Cx}{tg e:Expr}{g:Rho->Res}{gs:Rho->aG}{pos p:Pos}
theorem aGE(n l m:Nat)(hl:l<n)(hm:m<n):ZipApart (n+4) (n+2) (n+3) n (n+1) l m:=by constructor <;> (refine λ(q:@Eq Nat _ _)=>?_;omega)
theorem aGF:bootBuiltins ("zip" : Str)=some (.type "zip"):=by first | rfl | decide +kernel | kernel_rfl
def iZip(K:Fg)(ta:TA):TI:=λσ H R=>ta σ H λvs H1=>∃ a b xs ys,vs=[.ref a,.ref b]/\SqT K H1 a xs/\SqT K H1 b ys/\R (Itz K a b) H1
theorem aGG{a b:Expr}{ta:TA}{elts:List Expr}{cx}{pp:Pos}(hg:Gl X "zip")(hm:X.mg "zip" = none)(ha:PA X [a,b] ta)(hs:starEach [a,b] X.env=[(false,eval a X.env),(false,eval b X.env)]:=by rfl)(hs2:starEach [b] X.env=[(false,eval b X.env)]:=by rfl):PI X (.Tuple elts cx pp) (.Call (.Name "zip" p) [a,b] [] pos) (iZip X.K ta):=by
 intro aA s σ H R I h;refine Call_ (hV I hg hm aGF (aRP (thn (ha pos aA s σ H _ I h) λus s1 q1=>?_) (by rw[hs,hs2]) (by rw[hs2];rfl)))
 obtain ⟨vs,H1,I1,r1,l,m,xs,ys,rfl,ql,qm,q⟩:=q1;obtain ⟨ls,_,p1,_⟩:=I1.tuple ql;obtain ⟨ms,_,p2,_⟩:=I1.tuple qm;have ll:l<s1.heap.objs.size:=by obtain ⟨o,e,_⟩:=id p1;exact aQ1 e
 have ml:m<s1.heap.objs.size:=by obtain ⟨o,e,_⟩:=id p2;exact aQ1 e
 cases r1 with
 | cons r rr =>
  cases rr with
  | cons r' rr =>
   cases rr;cases r;cases r';refine aGC (show s1.heap.IsTuple l ls.toArray from p1) (show s1.heap.IsTuple m ms.toArray from p2) λh' a1 a2 a3 a4 a5 a6 a7=>?_
   refine wpAny_pyIter_zip (s:={ s1 with heap:=h' }) a1 ?_
   have I2:Inv X aA σ H1 { s1 with heap:=h' }:=I1.kept (t':=s1.toks) a7
   have D:=aGE s1.heap.objs.size l m ll ml;have fb:∀ b:Addr,s1.heap.objs.size<=b->dF X aA H1 b:=λb hb=>I1.fpOk hb (I1.hok.fresh hb);generalize s1.heap.objs.size=n at *;refine ⟨n+4,[n+4,n+2,n+3,n,n+1],_,_,H1,rfl,I2,aGD (n+4) (n+2) (n+3) n (n+1) l m D,⟨a1,a2,⟨_,_,a3⟩,a4,a5⟩,λb hb=>?_,q⟩;simp only[aRA,aT3,aT4] at hb;rcases hb with rfl | rfl | rfl | rfl | rfl
   . exact fb _ (aT5 n 4)
   . exact fb _ (aT5 n 2)
   . exact fb _ (aT5 n 3)
   . exact fb _ (aRN _)
   . exact fb _ (aT5 n 1)
def dR:List D->List D->List D
 | d::ds,e::es=>.tup [d,e]::dR ds es
 | _,_=>[]
theorem l4:∀ {ds es:List D},(dR ds es).length=min ds.length es.length
 | [],es=>by simp[dR]
 | d::ds,[]=>by simp[dR]
 | d::ds,e::es=>by simp only[dR,aRZ,l4];omega
theorem uJ:∀ {ds es:List D} {i:Nat} {d e:D},ds[i]? = some d->es[i]? = some e->(dR ds es)[i]? = some (.tup [d,e])
 | [],_,_,_,_,h,_=>by simp at h
 | _::_,[],_,_,_,_,h=>by simp at h
 | x::ds,y::es,0,d,e,h,h'=>by simp at h h';subst h;subst h';rfl
 | x::ds,y::es,i+1,d,e,h,h'=>by
  have:=uJ (ds:=ds) (es:=es) (i:=i) (by simpa using h) (by simpa using h')
  simpa[dR] using this
theorem aGH{K:Fg}{F:Hp}{a b:Addr}{ds es:List D}{xs ys:List V}(qa:SqT K F a xs)(qb:SqT K F b ys)(ra:aC K F ds xs)(rb:aC K F es ys):iC K F (Itz K a b) (dR ds es) where
 go:=λi H s hi=>by
  rw[l4] at hi;have h1:i<xs.length:=by rw[ra.length];omega
  have h2:i<ys.length:=by rw[rb.length];omega
  exact ⟨xs,ys,xs[i],ys[i],aD.seqT s qa,aD.seqT s qb,by simp[h1],by simp[h2]⟩
 stop:=λi H s hi=>by rw[l4] at hi;refine ⟨xs,ys,aD.seqT s qa,aD.seqT s qb,?_⟩;rw[ra.length,rb.length];omega
 yld:=λi Fc H x H' s1 s2 hi y=>by
  rw[l4] at hi;obtain ⟨p,u,v,rfl,hp,rfl,hx,hy⟩:=y;have ex:=hx xs (aD.seqT (s1.trans s2) qa);have ey:=hy ys (aD.seqT (s1.trans s2) qb);have h1:i<ds.length:=by omega
  have h2:i<es.length:=by omega
  obtain ⟨u',e1,r1⟩:=ra.get' (aTF h1);obtain ⟨v',e2,r2⟩:=rb.get' (aTF h2);rw[ex] at e1;cases e1;rw[ey] at e2;cases e2;refine ⟨_,_,uJ (aTF h1) (aTF h2),aI.laid (.tup [u,v]) s2 hp,?_⟩;refine aB.tup_of (s2.free hp) ?_;simp only[aC];exact ⟨u,[v],rfl,r1.mono s1 _ _,v,[],rfl,r2.mono s1 _ _,rfl⟩
theorem oQ{K:Fg}{F H:Hp}{m:Md}{ds:List D}{v:V}(h:Rp K F H m (.tup ds) v):∃ a xs,v=.ref a/\SqT K F a xs/\aC K F ds xs:=by
 cases m with
 | fz=>exact (show aB K F (.tup ds) v from h) |> λh=>by simp only[aB] at h;exact h
 | fr=>obtain ⟨_,_,_,q⟩:=h;exact q.elim
 | bo=>obtain ⟨_,_,_,q⟩:=h;exact q.elim
def jV(r:aG):Res:=r.thn λxs=>match xs with
 | [(_,.tup ds),(_,.tup es)]=>.ok .fz (.lst (dR ds es))
 | _=>.stuck
theorem aGI{a b:Expr}{elts:List Expr}{cx}{pp:Pos}(hg:Gl X "zip")(hm:X.mg "zip" = none)(ha:PAv C X [a,b] gs)(hs:starEach [a,b] X.env=[(false,eval a X.env),(false,eval b X.env)]:=by rfl)(hs2:starEach [b] X.env=[(false,eval b X.env)]:=by rfl):PIv C X (.Tuple elts cx pp) (.Call (.Name "zip" p) [a,b] [] pos) (λρ=>jV (gs ρ)):=by
 refine PI.imp (aGG hg hm ha hs hs2) λσ H R q=>?_;obtain ⟨ρ,F,RS,w⟩:=q;dsimp only at w;unfold iZip;refine ⟨ρ,F,RS,?_⟩;cases er:gs ρ with
 | stuck=>rw[er] at w;exact w
 | exc c=>rw[er] at w;exact w
 | ok xs =>
  rw[er] at w;intro vs F' H' st rp;unfold jV at w;rw[aG.thn_ok] at w;split at w
  . obtain ⟨v,u,rfl,r,r'⟩:=rp.two;obtain ⟨a1,x1,rfl,q1,l1⟩:=oQ r;obtain ⟨a2,x2,rfl,q2,l2⟩:=oQ r';exact ⟨a1,a2,x1,x2,rfl,aD.seqT st.sub q1,aD.seqT st.sub q2,w _ F' H' st (aGH q1 q2 l1 l2)⟩
  . exact w.elim
end
open PySem.AutoSeq1 (wpAny_loadPart')
theorem aGJ{prog:Program}{w:World}{A:Around}(hh:A.handled=none)(it t:Addr)(hne:t≠it)(items:Array Value):Draws prog w A it [it,t] items.size (λi v=>items[i]? = some v) (λi h=>h.IsTupleIter it t i/\IsTup h t items) where
 live:=λ_ _ st=>let ⟨o,ho,_⟩:=st.1;⟨o,ho⟩
 frame:=λ_ _ _ st hk=>⟨st.1.at λo e=>hk it (by simp) o e,iM st.2 λo e=>hk t (by simp) o e⟩
 item:=λi s Q E hi st hQ=>by
  refine l0 st.1 st.2 (x:=items[i]) (by simp[hi]) λh' hit' hs'=>?_
  exact hQ _ h' s.toks (by simp[hi]) ⟨hit',iM st.2 λo e=>hs'.extBut _ o hne e⟩ hs'
 done:=λs Q E st hE=>l3 hh st.1 st.2 (by simp) hE
theorem aGK(l:Addr)(items:Array Value):Meets (Builtin.«enumerate.__new__» ⟨[.type "enumerate", .ref l],[]⟩) (λ_ R s=>s.heap.IsTuple l items/\R (.ok (.ret (.ref (s.heap.push { cls:=.type "tuple_iterator", data:=.fields #[.ref l,.int 0 0] }).objs.size))) { s with heap:=(s.heap.push { cls:=.type "tuple_iterator", data:=.fields #[.ref l,.int 0 0] }).push { cls:=.type "enumerate", data:=.fields #[.none,.bool false,.ref s.heap.objs.size,rawInt 0,.none,.none] } }) :=
 .of_wp λprog w A R s h=>by
  obtain ⟨hp,g,d,tk,os⟩:=s;obtain ⟨hL,h⟩:=h;have hsub:=sub_enumerate;have hL:Heap.IsTuple (Shared.heap ⟨hp,g,d,tk,os⟩) l items:=hL;obtain ⟨o,ho,hc,n,hd⟩:=id hL
  wp_walk using wpAny_loadPart' ho
  refine wpAny_stack_any λst=>aRK ?_;split
  . rename_i c _ _ _ _ _;cases (c==Value.type "enumerate")
    . wp_walk using wpAny_loadPart' ho,aRO hL
      exact ⟨_,rfl,h⟩
    . wp_walk using wpAny_loadPart' ho,aRO hL
      exact ⟨_,rfl,h⟩
  . wp_walk using wpAny_loadPart' ho,aRO hL
    exact ⟨_,rfl,h⟩
section
variable {prog:Program}{w:World}{A:Around}{E:VSP}{s:Shared}
theorem aGL{a:Addr}{us:Array Value}{Q:VSP}(ha:s.heap.IsTuple a us)(q:∀ g,IsEnum g (s.heap.objs.size+1) s.heap.objs.size 0 .none->g.IsTupleIter s.heap.objs.size a 0->(∀ c u,s.heap.get? c=some u->g.get? c=some u)->Q (.ref (s.heap.objs.size+1)) { s with heap:=g }):wpAny (model prog w) A (call (.type "enumerate") [.ref a]) Q E s:=by
 let i0:Obj:={ cls:=.type "tuple_iterator", data:=.fields #[.ref a,.int 0 0] }
 let e0:Obj:={ cls:=.type "enumerate", data:=.fields #[.none,.bool false,.ref s.heap.objs.size,rawInt 0,.none,.none] }
 have z1:(s.heap.push i0).objs.size=s.heap.objs.size+1:=aR3 ..;have g1:((s.heap.push i0).push e0).get? (s.heap.objs.size+1)=some e0:=by rw[<- z1];exact aQ0 _ rfl
 have g0:((s.heap.push i0).push e0).get? s.heap.objs.size=some i0:=hps (aQ0 _ rfl);have up:∀ c u,s.heap.get? c=some u->((s.heap.push i0).push e0).get? c=some u:=λc u z=>hps (hps z);have fin:(∃ o,((s.heap.push i0).push e0).get? (s.heap.objs.size+1)=some o/\o.cls=.type "enumerate")/\Q (.ref (s.heap.objs.size+1)) { s with heap:=(s.heap.push i0).push e0 }:=⟨⟨e0,g1,rfl⟩,q _ g1 ⟨i0,g0,rfl,rfl⟩ up⟩
 rw[<- z1] at fin;exact callType_new F.called_enumerate (by decide) (F.typeCall_enumerate_1 _) (F.newCall_enumerate_1 _) (λo=>F.args_object_init_2 o _) F.entry_enumerate_new (aGK a us) ⟨ha,fin⟩
end
def Ite(Sq:Hp->List V->Prop):It :=
 ⟨fun i H => ∃ xs x, Sq H xs ∧ xs[i]? = some x,
  λi H v H'=>∃ p x,v=.ref p/\H p=none/\H'=upd H p (.tup [.int i,x])/\∀ xs,Sq H xs->xs[i]? = some x,
  λi H=>∃ xs,Sq H xs/\xs.length<=i⟩
section
variable {P:Program}{w:World}{K:Fg}{elts:List Expr}{cx:Nat}{pos:Pos}
theorem uK{Sq:Hp->List V->Prop}(e it l:Addr)(hei:e≠it)(hel:e≠l)(hli:l≠it)(It':Nat->Heap->Prop)(At:Heap->Array Value->Prop)(live:∀ i h,It' i h->∃ o,h.get? it=some o/\∀ v,o.data ≠ .cell v)(keep:∀ i h h',It' i h->(∀ o,h.get? it=some o->h'.get? it=some o)->It' i h')(dr:∀ A:Around,A.handled=none->∀ items:Array Value,Draws P w A it [it,l] items.size (λi v=>items[i]? = some v) (λi h=>It' i h/\At h items))(dn:∀ (A:Around) (s:Shared) (items:Array Value) (k:Nat) (Q E:VSP),A.handled=none->It' k s.heap->At s.heap items->items[k]? = none->(∀ h' x,Heap.ExtBut it s.heap h'->(∃ o,h'.get? x=some o/\o.cls=.type "StopIteration")->E (.ref x) { s with heap:=h' })->wpAny (model P w) A (Builtin.SmallTypes.nextOf (.ref it)) Q E s)(look:∀ (X:Cx) (aA:LAO) (s:Shared) (σ:L2.St) (H:Hp) (xs:List V),X.prog=P->X.w=w->X.K=K->Inv X aA σ H s->Sq H xs->∃ us,aM xs us/\At s.heap us.toArray)(inj:∀ (X:Cx) (aA:LAO) (s:Shared) (σ:L2.St) (H:Hp) (xs ys:List V),X.prog=P->X.w=w->X.K=K->Inv X aA σ H s->Sq H xs->Sq H ys->ys=xs):e8 P w K (.Tuple elts cx pos) (Ite Sq) [e,it] e (λk h=>(∃ old,IsEnum h e it k old)/\It' k h) where
 mem:=by simp
 obj:=λk h st b hb=>by
  obtain ⟨⟨old,he⟩,hi⟩:=st;simp only[aRA,aT3,aT4] at hb;rcases hb with rfl | rfl
  . exact ⟨_,he,λv e=>by cases e⟩
  . obtain ⟨o,e,d⟩:=live k h hi;exact ⟨o,e,d⟩
 keep:=λk h h' st q=>by obtain ⟨⟨old,he⟩,hi⟩:=st;exact ⟨⟨old,q e (by simp) _ he⟩,keep k h h' hi λo e=>q it (by simp) o e⟩
 item:=by
  intro X hP hw hK hc k aA s σ H E I hf st hg;obtain ⟨⟨old,he⟩,hi⟩:=st;obtain ⟨xs,x,ql,hx⟩:=hg;obtain ⟨us,r1,p1⟩:=look X aA s σ H xs hP hw hK I ql;obtain ⟨u,hu,ru⟩:=r1.get hx;have hlt:k<us.toArray.size:=by rw[aRU];exact (aRC.mp hu).1
  refine wpAny_pyNext_enum_itemD (dr X.A.in1 (I.ok.hd hc) us.toArray) he ⟨hi,p1⟩ hlt hei (by simp[hei,hel]) λx' h' tk hx' a1 a2 a3 a4 a5=>?_
  have:x'=u:=by rw[List.getElem?_toArray] at hx';rw[hu] at hx';exact (aQZ hx').symm
  subst this;refine ⟨_,rfl,wpAny_letOwnedTupleGo_enum (s:={ s with heap:=h',toks:=tk+1 }) a1 λh2 b1 b2=>?_⟩
  have en:s.heap.objs.size≠e:=λq=>absurd (aQ1 he) (by rw[<- q];exact aQ3 _)
  have up:∀ b o,b∉[e,it]->s.heap.get? b=some o->h2.get? b=some o:=λb o hb z=>by simp only[aRA,aT3,aT4,not_or] at hb;exact b2.extBut _ _ hb.1 (a5 b o hb.1 hb.2 z)
  have I2:=uH (t':=tk+1) (xs:=[.int k,x]) I up hf (aRN _) ⟨[.int k tk,x'],.cons ⟨tk,rfl⟩ (.cons ru .nil),⟨_,b2.extBut _ _ en a3,rfl,rfl,_,rfl⟩⟩ (show 2<=sizeLine by decide +kernel)
  refine ⟨.ref s.heap.objs.size,_,I2,rfl,⟨_,x,rfl,I.hok.fresh (aRN _),rfl,λzs q=>by rw[inj X aA s σ H xs zs hP hw hK I ql q];exact hx⟩,?_,λb hb=>?_⟩
  . have ek:((k:Int)+1)=((k+1:Nat):Int):=by omega
    rw[ek] at b1;exact ⟨⟨x',b1⟩,keep _ _ _ a2.1 λo z=>b2.extBut _ o hei.symm z⟩
  . have hb0:=hb;obtain ⟨o,z⟩:∃ o,s.heap.get? b=some o:=by
      simp only[aRA,aT3,aT4] at hb;rcases hb with rfl | rfl
      . exact ⟨_,he⟩
      . obtain ⟨o,z,_⟩:=live _ _ hi;exact ⟨o,z⟩
    rw[aR λq=>absurd (aQ1 z) (by rw[q];exact aQ3 _)]
    exact (hf b hb0).1
 done:=by
  intro X hP hw hK hc k aA s σ H E I hf st hg;obtain ⟨⟨old,he⟩,hi⟩:=st;obtain ⟨xs,ql,hn⟩:=hg;obtain ⟨us,r1,p1⟩:=look X aA s σ H xs hP hw hK I ql;have e1:=r1.length;have te:s.TypeIs (.ref e) "enumerate" := ⟨_,he,rfl⟩
  delta pyNext
  apply aRL;apply wpAny_attempt;apply aSO (name:=Str.ofString "__next__") te F.slot_enumerate_next;refine aSQ F.slot_enumerate_next te F.entry_enumerate_next ?nx (F.args_enumerate_next_1 _);refine aRL (m:=field (.ref e) 2) (aSM he rfl (x:=.ref it) rfl ?_);refine aRL (dn X.A.in1 s us.toArray k _ _ (I.ok.hd hc) hi p1 (by simp;omega) λh' x he' hx'=>?_)
  obtain ⟨o,ho,hc'⟩:=hx';refine aRL (wpAny_isInstance (T := "StopIteration") (b:=true) ⟨o,ho,hc'⟩ isSubtype_stop ?_);refine aRK ⟨rfl,uI (t':=s.toks) I (λb o hb z=>he' b o (by
   simp only[aRA,aT3,aT4,not_or] at hb;exact hb.2) z) hf⟩
 self:=λ_ _ _ _ _ st h=>by obtain ⟨⟨old,he⟩,_⟩:=st;exact aT6 he h
theorem aGM(e it l:Addr)(hei:e≠it)(hel:e≠l)(hli:l≠it):e8 P w K (.Tuple elts cx pos) (Ite λH=>SqL K H l) [e,it] e (λk h=>(∃ old,IsEnum h e it k old)/\h.IsListIter it l k) :=
 uK e it l hei hel hli (fun k h => h.IsListIter it l k) (fun h xs => h.IsList l xs) (fun i h st => by
     obtain ⟨o,e,_,d⟩:=st;exact ⟨o,e,λv q=>by rw[d] at q;cases q⟩) (λi h h' st k=>st.at k) (λA hA items=>Draws.list hA it l hli items)
  (λA s items k Q E hA st ha hx q=>wpAny_nextOf_list_end hA st ha hx q)
  (λX aA s σ H xs hP hw hK I q=>by
   subst hK;obtain ⟨us,r,p,_⟩:=I.list q;exact ⟨us,r,p.isList⟩)
  (λX aA s σ H xs ys hP hw hK I q q'=>by subst hK;exact I.list_inj q' q)
theorem aGN(e it l:Addr)(hei:e≠it)(hel:e≠l)(hli:l≠it):e8 P w K (.Tuple elts cx pos) (Ite λH=>SqT K H l) [e,it] e (λk h=>(∃ old,IsEnum h e it k old)/\h.IsTupleIter it l k) :=
 uK e it l hei hel hli (fun k h => h.IsTupleIter it l k) (fun h xs => IsTup h l xs) (fun i h st => by
     obtain ⟨o,e,_,d⟩:=st;exact ⟨o,e,λv q=>by rw[d] at q;cases q⟩) (λi h h' st k=>st.at k) (λA hA items=>aGJ hA it l hli items)
  (λA s items k Q E hA st ha hx q=>l3 hA st ha hx q)
  (λX aA s σ H xs hP hw hK I q=>by
   subst hK;obtain ⟨us,r,p,_⟩:=I.tuple q;exact ⟨us,r,p⟩)
  (λX aA s σ H xs ys hP hw hK I q q'=>by subst hK;exact I.tuple_inj q' q)
end
section
variable {C:Cw}{X:Cx}{tg e:Expr}{g:Rho->Res}{gs:Rho->aG}{pos p:Pos}
theorem aGO:bootBuiltins ("enumerate" : Str)=some (.type "enumerate"):=by first | rfl | decide +kernel | kernel_rfl
def uL(K:Fg)(ta:TA):TI:=λσ H R=>ta σ H λvs H1=>∃ a xs,vs=[.ref a]/\((SqL K H1 a xs/\R (Ite λH=>SqL K H a) H1)\/(SqT K H1 a xs/\R (Ite λH=>SqT K H a) H1))
theorem aGP{a:Expr}{ta:TA}{elts:List Expr}{cx}{pp:Pos}(hg:Gl X "enumerate")(hm:X.mg "enumerate" = none)(ha:PA X [a] ta)(hs:starEach [a] X.env=[(false,eval a X.env)]:=by rfl):PI X (.Tuple elts cx pp) (.Call (.Name "enumerate" p) [a] [] pos) (uL X.K ta):=by
 intro aA s σ H R I h;refine Call_ (hV I hg hm aGO (aRP (thn (ha pos aA s σ H _ I h) λus s1 q1=>?_) (by rw[hs];rfl) (by rfl)))
 obtain ⟨vs,H1,I1,r1,l,xs,rfl,q⟩:=q1;cases r1 with
 | cons r rr =>
  cases rr;cases r;have fb:∀ b:Addr,s1.heap.objs.size<=b->dF X aA H1 b:=λb hb=>I1.fpOk hb (I1.hok.fresh hb);have fin:∀ b:Addr,b∈[s1.heap.objs.size+1,s1.heap.objs.size]->dF X aA H1 b:=λb hb=>by
   simp only[aRA,aT3,aT4] at hb;rcases hb with rfl | rfl
   . exact fb _ (aTT _)
   . exact fb _ (aRN _)
  rcases q with ⟨ql,q⟩ | ⟨ql,q⟩
  . obtain ⟨ls,_,p1,_⟩:=I1.list ql;have ll:l<s1.heap.objs.size:=by obtain ⟨o,n,e,_⟩:=id p1;exact aQ1 e
    refine call_enumerate_list p1.isList λh' a1 a2 a3 a4=>aT6 (s:={ s1 with heap:=h' }) a1 ?_
    exact ⟨_,[s1.heap.objs.size+1,s1.heap.objs.size],_,_,H1,rfl,I1.kept (t':=s1.toks) a4,aGM _ _ l (Nat.succ_ne_self _) (aRJ (aTP ll)) (aQ4 ll),⟨⟨_,a1⟩,a2⟩,fin,q⟩
  . obtain ⟨ls,_,p1,_⟩:=I1.tuple ql;have ll:l<s1.heap.objs.size:=by obtain ⟨o,e,_⟩:=id p1;exact aQ1 e
    refine aGL (show s1.heap.IsTuple l ls.toArray from p1) λh' a1 a2 a4=>aT6 (s:={ s1 with heap:=h' }) a1 ?_
    exact ⟨_,[s1.heap.objs.size+1,s1.heap.objs.size],_,_,H1,rfl,I1.kept (t':=s1.toks) a4,aGN _ _ l (Nat.succ_ne_self _) (aRJ (aTP ll)) (aQ4 ll),⟨⟨_,a1⟩,a2⟩,fin,q⟩
def eG:Nat->List D->List D
 | _,[]=>[]
 | i,d::ds=>.tup [.int i,d]::eG (i+1) ds
theorem l5:∀ {ds:List D} {i:Nat},(eG i ds).length=ds.length
 | [],_=>rfl
 | d::ds,i=>by simp only[eG,aRZ,l5]
theorem uM:∀ {ds:List D} {j i:Nat} {d:D},ds[i]? = some d->(eG j ds)[i]? = some (.tup [.int ((j+i:Nat):Int),d])
 | [],_,_,_,h=>by simp at h
 | x::ds,j,0,d,h=>by simp at h;subst h;rfl
 | x::ds,j,i+1,d,h=>by
  have:=uM (ds:=ds) (j:=j+1) (i:=i) (by simpa using h)
  have e:j+1+i=j+(i+1):=by omega
  rw[e] at this;simpa[eG] using this
theorem uN{K:Fg}{F:Hp}{Sq:Hp->List V->Prop}{ds:List D}{xs:List V}(qa:∀ H,aD F H->Sq H xs)(ra:aC K F ds xs):iC K F (Ite Sq) (eG 0 ds) where
 go:=λi H s hi=>by
  rw[l5] at hi;have h1:i<xs.length:=by rw[ra.length];omega
  exact ⟨xs,xs[i],qa H s,by simp[h1]⟩
 stop:=λi H s hi=>by rw[l5] at hi;exact ⟨xs,qa H s,by rw[ra.length];omega⟩
 yld:=λi Fc H x H' s1 s2 hi y=>by rw[l5] at hi;obtain ⟨p,u,rfl,hp,rfl,hx⟩:=y;have ex:=hx xs (qa H (s1.trans s2));obtain ⟨u',e1,r1⟩:=ra.get' (aTF hi);rw[ex] at e1;cases e1;refine ⟨_,_,uM (aTF hi),aI.laid (.tup [.int i,u]) s2 hp,?_⟩;refine aB.tup_of (s2.free hp) ?_;simp only[aC];exact ⟨.int i,[u],rfl,by simp only[aB,Nat.zero_add],u,[],rfl,r1.mono s1 _ _,rfl⟩
def iN(r:aG):Res:=r.thn λxs=>match xs with
 | [(.fz,.lst ds)]=>.ok .fz (.lst (eG 0 ds))
 | [(.fz,.tup ds)]=>.ok .fz (.lst (eG 0 ds))
 | _=>.stuck
theorem aGQ{a:Expr}{elts:List Expr}{cx}{pp:Pos}(hg:Gl X "enumerate")(hm:X.mg "enumerate" = none)(ha:PAv C X [a] gs)(hs:starEach [a] X.env=[(false,eval a X.env)]:=by rfl):PIv C X (.Tuple elts cx pp) (.Call (.Name "enumerate" p) [a] [] pos) (λρ=>iN (gs ρ)):=by
 refine PI.imp (aGP hg hm ha hs) λσ H R q=>?_;obtain ⟨ρ,F,RS,w⟩:=q;dsimp only at w;unfold uL;refine ⟨ρ,F,RS,?_⟩;cases er:gs ρ with
 | stuck=>rw[er] at w;exact w
 | exc c=>rw[er] at w;exact w
 | ok xs =>
  rw[er] at w;intro vs F' H' st rp;unfold iN at w;rw[aG.thn_ok] at w;split at w
  . rename_i ds;obtain ⟨v,rfl,r⟩:=rp.one;have r:aB X.K F' (.lst ds) v:=r;simp only[aB] at r;obtain ⟨a1,x1,rfl,q1,l1⟩:=r;exact ⟨a1,x1,rfl,.inl ⟨st.sub.seq q1,w _ F' H' st (uN (λH s=>s.seq q1) l1)⟩⟩
  . rename_i ds;obtain ⟨v,rfl,r⟩:=rp.one;have r:aB X.K F' (.tup ds) v:=r;simp only[aB] at r;obtain ⟨a1,x1,rfl,q1,l1⟩:=r;exact ⟨a1,x1,rfl,.inr ⟨aD.seqT st.sub q1,w _ F' H' st (uN (λH s=>aD.seqT s q1) l1)⟩⟩
  . exact w.elim
end
end D3
namespace D3
open PySem PySem.Spec PySem.Calls PyProof.Rows L2 PySem.W
section
variable {prog:Program}{w:World}{A:Around}{E:VSP}{s:Shared}{K:Fg}{x D:Addr}{ox:Obj}{od:Option Obj}
def XAt(h:Heap)(x:Addr)(ox:Obj)(D:Addr):Prop:=h.get? x=some ox/\ox.cls=.ref D
structure XCls(K:Fg)(D:Addr):Prop where
 ga:PySem.W.findIn K (.ref D) "__getattribute__" = some (some (.builtin "BaseException.__getattribute__"))
 gn:PySem.W.findIn K (.ref D) "__getattr__" = some none
 ca:PySem.W.findIn K (.ref D) "__class__" = some (some (.builtin "object.__class__"))
 bx:PySem.W.mroIn K D (.type "BaseException")=some true
 ob:PySem.W.mroIn K D (.type "object")=some true
 hn:PySem.W.specialIn K (.builtin "object.__class__") "__get__" = some (some (.builtin "getset_descriptor.__get__"))
 tk:PySem.W.takesIn K (.builtin "object.__class__")=some true
end
end D3
namespace D3
open PySem PySem.Spec PySem.Calls PyProof.Rows L2
structure Fly(P:Program)(w:World)(outer:List Env)(H:Hp)(s:Shared)(H1:Hp)(B hp:Heap):Prop where
 un:Un (frs outer) [] H H1 s.heap hp
 ok:HOk P w H1 hp
 kb:∀ b o,hp.get? b=some o->s.heap.get? b≠none->b∉frs outer->B.get? b=some o
 kh:∀ b u,H1 b=some u->∃ o,hp.get? b=some o/\B.get? b=some o
 fr:∀ b∈frs outer,H b=none/\∃ o,s.heap.get? b=some o/\∀ vs,o.data ≠ .fields vs
section
variable {P:Program}{w:World}{outer:List Env}{H H1:Hp}{s:Shared}{B hp h':Heap}
theorem fE{b:Addr}:b∉([]:List Addr):=by simp
theorem Fly.slots(f:Fly P w outer H s H1 B hp)(up:hp.UpToSlots h'){b:Addr}(hb:b∈frs outer):∃ o sl sl',s.heap.get? b=some o/\hp.get? b=some { o with slots:=sl }/\h'.get? b=some { o with slots:=sl' }:=by obtain ⟨hn,o,e,nf⟩:=f.fr b hb;obtain ⟨sl,e1⟩:=f.un.slot b o e hn hb fE;obtain ⟨sl',e2⟩:=up b _ e1 nf;exact ⟨o,sl,sl',e,e1,e2⟩
theorem Fly.on(f:Fly P w outer H s H1 B hp)(st:B.StaysIn h')(up:hp.UpToSlots h'):Fly P w outer H s H1 B h' where
 un:={
  keep:=λb o e n hb _=>st b o (f.kb b o (f.un.keep b o e n hb fE) (by rw[e];exact λz=>nomatch z) hb)
  slot:=λb o e n hb _=>by obtain ⟨o',sl,sl',e0,_,e2⟩:=f.slots up hb;rw[e] at e0;cases e0;exact ⟨sl',e2⟩
  free:=f.un.free
  there:=λb o e _=>by
   by_cases hb:b∈frs outer
   . obtain ⟨o',sl,sl',e0,_,e2⟩:=f.slots up hb;exact ⟨_,e2⟩
   . obtain ⟨o',e1⟩:=f.un.there b o e fE;exact ⟨o',st b o' (f.kb b o' e1 (by rw[e];exact λz=>nomatch z) hb)⟩
  tups:=f.un.tups
  frzs:=f.un.frzs
  tbls:=f.un.tbls }
 ok := fun a o e => (f.ok a o e).stay (fun b u hb q => by
     have:∃ u',H1 b=some u':=by
      rcases hb with rfl | hb
      . exact ⟨o,e⟩
      . exact ⟨_,hb⟩
     obtain ⟨u',eu⟩:=this;obtain ⟨o',e1,e2⟩:=f.kh b u' eu;rw[q] at e1;cases e1;exact st b u e2) (λ_ q=>q) λ_ _ q=>q
 kb:=λb o e ns hb=>by
  cases e0:s.heap.get? b with
  | none=>exact absurd e0 ns
  | some o0=>obtain ⟨o',e1⟩:=f.un.there b o0 e0 fE;have e2:=f.kb b o' e1 ns hb;have e3:=st b o' e2;rw[e] at e3;cases e3;exact e2
 kh:=λb u e=>by obtain ⟨o,_,e2⟩:=f.kh b u e;exact ⟨o,st b o e2,e2⟩
 fr:=f.fr
end
def CX1(P:Program)(w:World):CXT:=λouter H s E ev s'=>∃ (e C:Addr) (a0:Value) (H1:Hp) (B:Heap),
 ev=.ref e/\s'.os=s.os/\AllBare s'.gens/\Heap.FlyingW B outer e (.ref C) a0 s'.heap/\Fly P w outer H s H1 B s'.heap/\E (.ref C) none H1
section
variable {X:Cx}{aA:LAO}{σ:L2.St}{H H1:Hp}{s s':Shared}{B hp:Heap}{E:XK}
theorem aGR(I:Inv X aA σ H s):∀ b∈frs X.stack,H b=none/\∃ o,s.heap.get? b=some o/\∀ vs,o.data ≠ .fields vs:=λb hb =>
 ⟨I.stkFree b hb,(I.stack.mem hb).2⟩
theorem Fly.inv(I:Inv X aA σ H s)(f:Fly X.prog X.w X.stack H s H1 B s'.heap)(ho:s'.os=s.os)(hg:AllBare s'.gens):Inv X aA σ H1 s' :=
 Inv.call' (ch:=[]) I ho f.un f.ok hg (λb z=>absurd z fE)
theorem Fly.out(I:Inv X aA σ H s)(f:Fly X.prog X.w X.stack H s H1 B s'.heap)(ho:s'.os=s.os)(hg:AllBare s'.gens)(hx:X.ex=[])(hs:X.stack=X.env::X.outer)(hf:X.env.frame=some X.env.locals){h':Heap}(st:B.StaysIn h')(up:s'.heap.UpToSlots h'):Fly X.prog X.w X.outer X.H₀ X.s₀ H1 B h':=by
 have I1:=f.inv I ho hg;have f1:=f.on st up;have ub:=I1.base;rw[hx] at ub;have old:∀ b o,X.s₀.heap.get? b=some o->∃ o',s.heap.get? b=some o':=λb o e=>I.base.there b o e (by rw[hx];exact fE)
 have nl:∀ b o,X.s₀.heap.get? b=some o->b≠X.env.locals:=λb o e z=>absurd (aQ1 e) (by rw[z];exact Nat.not_lt.mpr I.ok.above)
 have sub:∀ b,b∉frs X.outer->b≠X.env.locals->b∉frs X.stack:=λb h1 h2 z=>by
  rcases aRA.mp (I.stkSub b z) with q | q
  . exact h2 q
  . exact h1 q
 have sup:∀ b,b∈frs X.outer->b∈frs X.stack:=λb hb=>by rw[hs];unfold frs;rw[aQ9,hf];exact mcm hb
 refine ⟨⟨λb o e n hb _=>?_,λb o e n hb _=>?_,ub.free,λb o e _=>?_,ub.tups,ub.frzs,ub.tbls⟩,f1.ok,λb o e ns hb=>?_,f1.kh,λb hb=>?_⟩
 . have e1:=ub.keep b o e n hb fE;obtain ⟨o',e0⟩:=old b o e;exact st b o (f.kb b o e1 (by rw[e0];exact λz=>nomatch z) (sub b hb (nl b o e)))
 . obtain ⟨sl,e1⟩:=ub.slot b o e n hb fE;obtain ⟨o',sl1,sl2,e0,e1',e2⟩:=f.slots up (sup b hb);have q:=aQZ (e1.symm.trans e1');refine ⟨sl2,?_⟩;rw[e2];obtain ⟨c1,d1,t1,l1⟩:=o;obtain ⟨c2,d2,t2,l2⟩:=o';simp only[Obj.mk.injEq] at q;obtain ⟨rfl,rfl,rfl,_⟩:=q;rfl
 . obtain ⟨o',e0⟩:=old b o e;exact f1.un.there b o' e0 fE
 . cases e0:X.s₀.heap.get? b with
   | none=>exact absurd e0 ns
   | some o0=>obtain ⟨o',e1⟩:=old b o0 e0;exact f1.kb b o e (by rw[e1];exact λz=>nomatch z) (sub b hb (nl b o0 e0))
 . exact ⟨I.ok.frf b hb,(I.ok.funs.mem hb).2⟩
def jW(h:Heap)(l:List Env):Heap:=PySem.W.hideAll h (frs l)
theorem Fly.raise(I:Inv X aA σ H s)(hx:X.ex=[])(hs:X.stack=X.env::X.outer)(hf:X.env.frame=some X.env.locals){h':Heap}(st:(jW s.heap X.stack).StaysIn h')(up:s.heap.UpToSlots h'):Fly X.prog X.w X.outer X.H₀ X.s₀ H (jW s.heap X.stack) h':=by
 have f:Fly X.prog X.w X.stack H s H (jW s.heap X.stack) s.heap :=
  ⟨Un.refl,I.hok,λb o e _ hb=>aQ5 _ e hb,λb u e=>by
   have hn:b∉frs X.stack:=λz=>by rw[I.stkFree b z] at e;cases e
   have:∃ o,s.heap.get? b=some o:=by
    have:=I.hok b u e;cases u with
    | lst xs=>obtain ⟨_,_,_,_,e⟩:=this;exact ⟨_,e⟩
    | tup xs=>obtain ⟨_,_,_,o,e,_⟩:=this;exact ⟨_,e⟩
    | dK kvs=>obtain ⟨_,_,_,_,o,_,_,e,_⟩:=this;exact ⟨_,e⟩
    | dT kvs=>obtain ⟨_,_,_,_,o,_,_,e,_⟩:=this;exact ⟨_,e⟩
    | dN kvs=>obtain ⟨_,_,_,_,o,_,_,e,_⟩:=this;exact ⟨_,e⟩
    | set S n=>obtain ⟨o,_,_,_,e,_⟩:=this;exact ⟨_,e⟩
    | ins C dx fs=>obtain ⟨_,_,_,e,_⟩:=this;exact ⟨_,e⟩
    | own y=>obtain ⟨_,e⟩:=this;exact ⟨_,e⟩
    | xd fs=>obtain ⟨_,⟨_,_,_,e,_⟩,_⟩:=this;exact ⟨_,e⟩
    | rng lo hi=>obtain ⟨_,_,_,e⟩:=this;exact ⟨_,e⟩
    | frz ob u=>obtain ⟨e,_⟩:=this;exact ⟨_,e⟩
    | tbl ps=>exact ⟨_,this⟩
    | met f y=>exact ⟨_,this⟩
    | ext φ=>obtain ⟨_,⟨_,e⟩,_⟩:=this;exact ⟨_,e⟩
   obtain ⟨o,eo⟩:=this;exact ⟨o,eo,aQ5 _ eo hn⟩,aGR I⟩
 exact f.out I rfl I.bare hx hs hf st up
end
def oR:List Value:=[.type "ValueError", .type "Exception", .type "BaseException", .type "object"]
def jX(K:Fg)(C:Addr):Prop:=PySem.W.excIn K C oR "ValueError.__new__" = true
def oS(C:Cw)(X:Cx):Prop:=∀ (aA:LAO) (σ:L2.St) (H:Hp) (s:Shared) (c:Str) (Cc:Addr) (vs:List Value) (h':Heap) (e:Addr),Inv X aA σ H s->X.mg c=some (.ref Cc)->C.EE c σ H ->
 Heap.MadeExcOf s.heap h' e (.ref Cc) vs->X.xe (.ref e) { s with heap:=h' }
def rzR(c:Str)(ρ:Rho):aG->aK
 | .ok xs=>if xs.length<=sizeLine then .exc c ρ else .stuck
 | .exc c'=>.exc c' ρ
 | .stuck=>.stuck
theorem aGS{K:Fg}{C:Addr}(q:jX K C):∃ bm N nm qn bs hd sn sub ab col dd k0 k1 k2 k3 k5,∀ h:Heap,K.In h->h.get? C=some (excClassObj nm qn C N bs bm hd sn sub ab col dd k0 k1 k2 k3 k5 "ValueError.__new__")/\h.Ns N (h.nsMap N)/\h.nsMap N "__init__" = none/\OwnTail h oR bm:=by
 unfold jX PySem.W.excIn at q;split at q
 . rename_i dd cd sl ho;split at q
   . rename_i C' bm k0 k1 k2 k3 n k5 hm hs;rw[aSR,aSR,aSR,aSR,aSR] at q;obtain ⟨⟨⟨⟨⟨q1,q2⟩,q3⟩,q4⟩,q5⟩,q6⟩:=q;obtain ⟨nm,bs,mro,ns,qn,hd,sn,sub,ab,col,del⟩:=cd;have e1:C'=C:=aRY.mp q1;have e2:n = "ValueError.__new__" := aRY.mp q2;have e3:del=false:=by simpa using q3
     have e4:sl = #[k0,k1,k2,k3,some (.builtin n),k5]:=Array.ext' hs;have e5:mro=.ref C'::bm:=hm;subst e1 e2 e3 e4 e5;refine ⟨bm,ns,nm,qn,bs,hd,sn,sub,ab,col,dd,k0,k1,k2,k3,k5,λh X=>⟨X _ _ ho,.of_isNs (PySem.W.isNs_of_in X q5),PySem.W.nsMap_none_of_in X q5 (aRY.mp q6),PySem.W.tail_of_in X q4⟩⟩
   . cases q
 . cases q
theorem uO{K:Fg}{F H:Hp}:∀ {xs:List (Md×D)} {vs:List V},RpL K F H xs vs->vs.length=xs.length
 | [],_,h=>by rw[show _=[] from h];rfl
 | _::_,_,h=>by obtain ⟨v,us,rfl,_,r⟩:=h;rw[aRZ,aRZ,uO r]
section
variable {C:Cw}{X:Cx}{e:Expr}{es:List Expr}{gs:Rho->aG}{x:Str}{np cpos pos:Pos}
theorem aGT{Cc:Addr}(hm:X.mg x=some (.ref Cc))(Z:jX X.K Cc)(hh:X.A.handled=none)(hr:oS C X)(hg:Gl X x)(ha:PAv C X (e::es) gs)(hd:(x==("__debug__" : Str))=false)(hst:∀ y∈e::es,bS y=true):PSv C X (.Raise (some (.Call (.Name x np) (e::es) [] cpos)) none pos) (λρ=>rzR x ρ (gs ρ)):=by
 intro aA s σ H En I q;obtain ⟨ρ,F,R,w⟩:=q;obtain ⟨bm,N,nm,qn,bs,hdc,sn,sub,ab,col,dd,k0,k1,k2,k3,k5,hobj⟩:=aGS Z;have vb:=_root_.PySem.F.excBase_ValueError;have B0:=hobj X.base I.mod.kin;have st:=bH (es:=es) (env:=X.env) (hst e mcs);refine wpAny_Raise_call_subU (C:=Cc) (nm:=nm) (q:=qn) (N:=N) (bs:=bs) (bm:=bm) (hdct:=hdc) (sn:=sn) (sub:=sub) (ab:=ab) (col:=col) (dd:=dd) (k0:=k0) (k1:=k1) (k2:=k2) (k3:=k3) (k5:=k5)
  vb vb.hasB vb (mN:=X.base.nsMap N) (B0.2.2.2.hasType vb.hasBase) hh (eD _ _ hst) B0.2.2.1 (jA I hg hm ⟨rfl,?_⟩ hd)
 rw[st];refine aSW ?_;have main:=ha cpos aA s σ H (λvs H1=>vs.length<=sizeLine/\C.EE x σ H1) I ?_
 . rw[st] at main;refine aRG main (λus s2 h2=>?_) λ_ _ z=>z;obtain ⟨vs,H1,I1,r1,hl,he⟩:=h2;have B1:=hobj s2.heap I1.kIn;exact ⟨rfl,by rw[<- r1.length];exact hl,B1.1,B0.2.1.keeps I1.bk,B1.2.2.2,λh' ex made=>hr aA σ H1 s2 x Cc us h' ex I1 hm he made⟩
 . refine ⟨ρ,F,R,?_⟩;dsimp only at w;cases er:gs ρ with
   | stuck=>rw[er] at w;exact w
   | exc c=>rw[er] at w;exact λF' H' st=>w σ F' H' st.fsame (R.step st)
   | ok xs =>
    rw[er] at w;intro vs F' H' st rp;have w:bY (C.at X) F (if xs.length<=sizeLine then .exc x ρ else .stuck) En:=w;split at w
    . rename_i hl;exact ⟨by rw[uO rp];exact hl,w σ F' H' st.fsame (R.step st)⟩
    . exact w.elim
structure FnCx(X:Cx):Prop where
 hx:X.ex=[]
 hs:X.stack=X.env::X.outer
 hf:X.env.frame=some X.env.locals
end
section
variable {P:Program}{w:World}{K:Fg}{mg:SOV}{base:Heap}{N:List Str}{aQ:Str}{scope:Scope}{f:Addr}{cdv:Value}{A:Around}{outer:List Env}{s:Shared}{H:Hp}{E:XK}
theorem fnCx:FnCx (cV (CX1 P w) P w K mg base N aQ scope f cdv A outer s H E):=⟨rfl,rfl,rfl⟩
def iO(mg:SOV)(E:XK):XE:=λc _ H'=>∀ u,mg c=some u->E u none H'
theorem uP{C:Cw}(hE:C.EE=iO mg E):XOk (CX1 P w) C (cV (CX1 P w) P w K mg base N aQ scope f cdv A outer s H E):=by intro aA σ H1 s1 ev s' I h;obtain ⟨e,Cc,a0,H2,B,rfl,ho,hg,fl,fy,c,hm,he⟩:=h;rw[hE] at he;have I0:=I.ok.frames;refine wpAny_leaves_onW I0 rfl fl λh' fl' up=>?_;exact ⟨e,Cc,a0,H2,B,rfl,ho.trans I.os,hg,fl',fy.out I ho hg rfl rfl rfl fl'.1 up,he _ hm⟩
theorem uQ{C:Cw}(hE:C.EE=iO mg E):oS C (cV (CX1 P w) P w K mg base N aQ scope f cdv A outer s H E):=by
 intro aA σ H1 s1 c Cc vs h1 e I hm he made;rw[hE] at he;have I0:=I.ok.frames;have hin:∀ env∈(cV (CX1 P w) P w K mg base N aQ scope f cdv A outer s H E).stack,∀ a,env.frame=some a->a∈frs (cV (CX1 P w) P w K mg base N aQ scope f cdv A outer s H E).stack:=λenv he a ha=>aRQ.mpr ⟨env,he,ha⟩;have FF:s1.heap.FunFrames (jW s1.heap (cV (CX1 P w) P w K mg base N aQ scope f cdv A outer s H E).stack) _:=PySem.W.funFrames_hide I.stack hin;have st0:(jW s1.heap (cV (CX1 P w) P w K mg base N aQ scope f cdv A outer s H E).stack).StaysIn s1.heap:=λb o q=>PySem.W.of_hideAll _ q;refine wpAny_leaves_madeW (s:={ s1 with heap:=h1 }) I0 rfl st0 FF made λh' t fl _ _ up=>?_
 have up0:s1.heap.UpToSlots h':=(Heap.UpToSlots.of_keeps made.keeps).trans up;exact ⟨e,Cc,.ref t,H1,_,rfl,I.os,I.bare,fl,Fly.raise I rfl rfl rfl fl.1 up0,he _ hm⟩
end
structure HX where
 cls:Str
 slot:Option Nat
 g:Rho->aK
def oU(K:Fg)(mg:SOV)(xt:Str->Str->Option Bool):Prop:=∀ c x b,xt c x=some b->∃ C C2,PySem.W.nsIn K mainGlobals c=some (some (.ref C))/\mg c=some (.ref C)/\mg x=some (.ref C2) /\
 PySem.W.mroIn K C2 (.type "BaseException")=some true/\PySem.W.typeIn K (.ref C2)=some (.type "type")/\PySem.W.mroIn K C (.ref C2)=some b
section
variable {X:Cx}{aA:LAO}{σ:L2.St}{H:Hp}{s:Shared}{e:Addr}
end
section
variable {C:Cw}{X:Cx}{aA:LAO}{σ:L2.St}{H H1:Hp}{s s0:Shared}{e Cc:Addr}{a0:Value}{B:Heap}
end
section
variable {C:Cw}{X:Cx}{aA:LAO}{σ:L2.St}{H:Hp}{s:Shared}{D:d8}{hs:List ExceptHandler}{hx:List HX}{xt:Str->Str->Option Bool}
end
def l6(mg:SOV)(n:Str)(cv:V):Prop:=(∃ C,mg n=some (.ref C)/\cv=.ref C)\/(mg n=none/\n ≠ "__name__" /\ ∃ T,bootBuiltins n=some (.type T)/\cv=.ty T)
def uR:V->Value | .ref a=>.ref a | .ty T=>.type T | _=>.none
def oV(K:Fg)(mg:SOV)(xis:Str->Str->Option Bool):Prop:=∀ c n b,xis c n=some b->∃ C cv,PySem.W.nsIn K mainGlobals c=some (some (.ref C))/\XCls K C/\l6 mg n cv/\PySem.W.kitOne K (.ref C) (uR cv)=some b
section
variable {C:Cw}{X:Cx}{e:Expr}{g:Rho->Res}{p q pos tp:Pos}{n:Str}{xis:Str->Str->Option Bool}
end
theorem aGU{P:Program}{w:World}{K:Fg}{mg:SOV}{base:Heap}{x aQ:Str}{st:Stmt}{f:Addr}{fd:FuncData}{N ps:List Str}{k:Nat}{g:Rho->aK}(F:Fun K x aQ st f fd)(S:lE N ps (c7 st))(hbody:∀ (C:Cw) (cdv:Value) (A:Around) (outer:List Env) (s:Shared) (H:Hp) (E:XK),C.EE=iO mg E->bJ k (A.deeper (envOfC aQ (c7 st) s.heap.objs.size f cdv))->PBv C (cV (CX1 P w) P w K mg base N aQ (c7 st) f cdv A outer s H E) (gI st) g):cD P w K mg base (CX1 P w) (k+1) f fd ps (spV K mg ps.length (phi ps.length N.length g)):=by
 obtain ⟨oc,od,kV,doc,pm,an,cdv,ct,osl,rfl,lk,hcd⟩:=F.ex;refine sN lk hcd S (λvs H Q E h=>h.1) λA outer s H vs Q E hr h=>?_;obtain ⟨hl,F0,ds,sF,rl,h⟩:=h;have hl':ds.length=ps.length:=by rw[<- rl.length];exact hl
 let C:Cw:=⟨K,F0,H,iO mg E⟩
 refine ⟨_,hbody C cdv A outer s H E rfl hr,dC N.length ds,F0,aE0 sF rl,?_⟩;unfold phi at h;rw[if_pos hl'] at h;cases er:g (dC N.length ds) with
 | nx ρ=>rw[er] at h;exact λσ' F' H' _ R=>h.2 .non F' H' R.st tJ (by intro z;cases z)
 | rt m d=>rw[er] at h;exact λv F' H' s rp fr=>h.2 v F' H' s rp fr
 | bk ρ=>rw[er] at h;exact h.elim
 | ct ρ=>rw[er] at h;exact h.elim
 | exc c ρ=>rw[er] at h;exact λσ' F' H' _ R u hu=>h F' H' u R.st hu
 | stuck=>rw[er] at h;exact h.elim
theorem uS{r:Res}{m:Md}{d:D}(h:bB r=.ok m d):m=.fz:=by
 cases r with
 | ok m' d'=>cases m' <;> cases h <;> rfl
 | exc c=>cases h
 | stuck=>cases h
section
variable {C:Cw}{X:Cx}{e:Expr}{g:Rho->Res}{x:Str}{p ap cp pos:Pos}
end
def Hld(B:Heap)(l:List Env)(e:Addr)(cls a0:Value)(h:Heap):Prop:=B.StaysIn h/\B.get? e=none/\h.FunFrames B l/\∃ fl,h.TracedAtW B e cls a0 fl
section
variable {M:Model}{A:Around}{E:VSP}{s:Shared}{B:Heap}{env:Env}{outer:List Env}{L e:Addr}{cls a0:Value}{Q:Unit->Shared->Prop}
theorem aGV(hfr:A.frames=some (env::outer))(hf:env.frame=some L)(hh:Hld B (env::outer) e cls a0 s.heap)(hQ:∀ h',Heap.HeldW B (env::outer) e cls a0 L h'->s.heap.UpToSlots h'->Q () { s with heap:=h' }):wpAny M A (noteFrame (.ref e) env) Q E s:=by
 obtain ⟨k1,k2,k3,fl,ht⟩:=hh;by_cases hl:fl=rawInt L
 . subst hl;exact wpAny_noteFrame_againW hf ht (hQ s.heap ⟨k1,k2,k3,ht⟩ (Heap.UpToSlots.refl _))
 obtain ⟨oe,xs,T,oT,ys,q1,⟨q2,q3⟩,q4,q5,q6,q7,q8,q9,q10⟩:=ht;subst q2;unfold noteFrame;simp only[hf];refine aRL (aSM q1 q4 q5 ?_);have n1:(Value.ref T != Value.none)=true:=by simp
 have n2:¬ ((fl==rawInt L)=true):=by rw[aRY];exact hl
 rw[if_pos n1];refine aRL (aSM q8 q9 q10 ?_);rw[if_neg n2];obtain ⟨lt3,_⟩:=Array.getElem?_eq_some_iff.mp q10;obtain ⟨lt1,_⟩:=Array.getElem?_eq_some_iff.mp q5;refine aRL (wpAny_setField q8 q9 lt3 ?_);generalize hg:s.heap.update T (Obj.mapFields λz=>z.setIfInBounds 3 Value.none)=g;have oth:∀ b,b≠T->g.get? b=s.heap.get? b:=λb hb=>by rw[<- hg];exact Heap.get?_update_other _ _ (Ne.symm hb)
 have plain:∀ b o,s.heap.get? b=some o->(∀ z,o.data ≠ .fields z)->g.get? b=some o:=λb o w1 w2=>by rw[oth b (by rintro rfl;rw[q8] at w1;cases w1;exact w2 ys q9)];exact w1
 have inB:∀ b o,B.get? b=some o->g.get? b=some o:=λb o w=>by rw[oth b (by rintro rfl;rw[q6] at w;cases w)];exact k1 b o w
 refine wpAny_entryW (s:={ s with heap:=g }) hfr (k3.of_keeps λb o w1 w2=>⟨o,plain b o w1 w2,rfl⟩) hf (by show g.get? e=_;rw[oth e (Ne.symm q7)];exact q1) inB k2 q4 lt1 q3 λh' hn=>?_
 obtain ⟨m1,m2,m3,m4⟩:=hn;exact hQ h' ⟨m1,k2,m2,m3⟩ λb o w1 w2=>m4 b o (plain b o w1 w2) w2
theorem aGW(hfr:A.frames=some (env::outer))(hf:env.frame=some L)(hh:Hld B (env::outer) e cls a0 s.heap)(hQ:∀ h',Heap.FlyingW B outer e cls a0 h'->s.heap.UpToSlots h'->Q () { s with heap:=h' }):wpAny M A (leaving env (.ref e)) Q E s:=by
 unfold leaving;refine aRL (aGV hfr hf hh λh4 held up4=>?_);refine wpAny_landsW (s:={ s with heap:=h4 }) held λh5 fl up5=>?_
 obtain ⟨w1,w2,w3,w4⟩:=fl;exact hQ h5 ⟨w1,w2,w3.2.2,w4⟩ (up4.trans up5)
end
def HX1(P:Program)(w:World):CXT:=λouter H s E ev s'=>∃ (e C:Addr) (a0:Value) (H1:Hp) (B:Heap),
 ev=.ref e/\s'.os=s.os/\AllBare s'.gens/\Hld B outer e (.ref C) a0 s'.heap/\Fly P w outer H s H1 B s'.heap/\E (.ref C) none H1
section
variable {P:Program}{w:World}{K:Fg}{mg:SOV}{base:Heap}{N:List Str}{aQ:Str}{scope:Scope}{f:Addr}{cdv:Value}{A:Around}{outer:List Env}{s:Shared}{H:Hp}{E:XK}
theorem uT{C:Cw}(hE:C.EE=iO mg E):XOk (HX1 P w) C (cV (CX1 P w) P w K mg base N aQ scope f cdv A outer s H E):=by intro aA σ H1 s1 ev s' I h;obtain ⟨e,Cc,a0,H2,B,rfl,ho,hg,fl,fy,c,hm,he⟩:=h;rw[hE] at he;refine aGW I.ok.frames rfl fl λh' fl' up=>?_;exact ⟨e,Cc,a0,H2,B,rfl,ho.trans I.os,hg,fl',fy.out I ho hg rfl rfl rfl fl'.1 up,he _ hm⟩
end
section
variable {C:Cw}{X:Cx}{aA:LAO}{D:d8}{hs:List ExceptHandler}{hx:List HX}{xt:Str->Str->Option Bool}
end
section
variable {P:Program}{w:World}{outer:List Env}{H H1:Hp}{s:Shared}{B hp h':Heap}{Z:Addr}
end
section
variable {X:Cx}{XE:VSP}{aA:LAO}{σ:L2.St}{H:Hp}{s:Shared}
end
end D3
namespace L2
open PySem PySem.Spec PyProof.Rows D3
section
variable {prog:Program}{w:World}{A:Around}{R:Result->Shared->Prop}{s:Shared}
end
end L2
namespace D3
open PySem PySem.Spec PyProof.Rows L2
section
variable {C:Cw}{X:Cx}{pos:Pos}
end
end D3
namespace PySem
open Sem (wp)
open Builtin
end PySem
namespace L2
open PySem PySem.Spec PyProof.Rows
section
variable {X:Cx}
end
end L2
namespace D3
open PySem PySem.Spec PySem.Calls PyProof.Rows L2
section
variable {C:Cw}{X:Cx}
variable {e ke:Expr}{g gk:Rho->Res}{x:Str}{p ap cp pos:Pos}
end
end D3
namespace D3
open PySem PySem.Spec PyProof.Rows L2
section
variable {prog:Program}{w:World}{A:Around}{R:Result->Shared->Prop}{J:Addr}{fp wr:List Addr}{n:Nat}{P:Nat->Value->Prop}{St:Nat->Heap->Prop}{ns:List Int}{S:Addr}
end
section
variable {prog:Program}{w:World}{A:Around}{E:VSP}{s:Shared}
end
section
variable {C:Cw}{X:Cx}{e:Expr}{g:Rho->Res}{p q kp pos:Pos}{j}
end
theorem aC.drop{K:Fg}{F:Hp}:∀ (n:Nat) {ds:List D} {xs:List V},aC K F ds xs->aC K F (ds.drop n) (xs.drop n)
 | 0,_,_,h=>h
 | n+1,[],xs,h=>by simp only[aC] at h;subst h;simp[aC]
 | n+1,d::ds,xs,h=>by simp only[aC] at h;obtain ⟨v,vs,rfl,_,t⟩:=h;exact aC.drop n t
theorem aC.take{K:Fg}{F:Hp}:∀ (n:Nat) {ds:List D} {xs:List V},aC K F ds xs->aC K F (ds.take n) (xs.take n)
 | 0,_,_,_=>by simp[aC]
 | n+1,[],xs,h=>by simp only[aC] at h;subst h;simp[aC]
 | n+1,d::ds,xs,h=>by simp only[aC] at h;obtain ⟨v,vs,rfl,r,t⟩:=h;simp only[List.take_succ_cons,aC];exact ⟨v,_,rfl,r,aC.take n t⟩
def eI(xs:List D)(lo hi:Option Int):List D:=(xs.drop (HT.sIx xs.length 0 lo)).take (HT.sIx xs.length xs.length hi-HT.sIx xs.length 0 lo)
theorem aC.cut{K:Fg}{F:Hp}{ds:List D}{xs:List V}(h:aC K F ds xs)(lo hi:Option Int):aC K F (eI ds lo hi) (fA xs lo hi):=by unfold eI fA;rw[h.length];exact (h.drop _).take _
def jY(n:Nat)(lo hi:Option Int):Bool:=HT.sIx n 0 lo==0&&HT.sIx n n hi==n
def slP(x:Res)(lo hi:Option (Rho->Res))(ρ:Rho):Res:=x.thn λm d=>match d with
 | .str z=>cG lo ρ λl=>cG hi ρ λh=>.ok .fz (.str (Txt.slice z l h))
 | .lst ds=>cG lo ρ λl=>cG hi ρ λh=>.ok .fr (.lst (eI ds l h))
 | .tup ds=>cG lo ρ λl=>cG hi ρ λh=>if (jY ds.length l h&&m != .fz)=true then .stuck else .ok .fz (.tup (eI ds l h))
 | _=>.stuck
section
variable {C:Cw}{X:Cx}{a:Expr}{ga:Rho->Res}{pos:Pos}
theorem aGX{lo hi:Option Expr}{gl gh:Option (Rho->Res)}{p2:Pos}(ha:PV C X a ga)(hl:POv C X lo gl)(hh:POv C X hi gh):PV C X (.Subscript a (.Slice lo hi none p2) pos) (λρ=>slP (ga ρ) gl gh ρ):=by
 refine PE.imp (aB0 (aDU.or (aB9.or (aB1.or aFW))) ha (tP hl) (tP hh)) λσ H Q q=>?_;unfold tSl;rw[aU] at q ⊢;obtain ⟨ρ,F,R,w⟩:=q
 try dsimp only at w
 refine ⟨ρ,F,R,?_⟩;cases er:ga ρ with
 | stuck=>rw[er] at w;exact w
 | exc c=>rw[er] at w;exact w
 | ok m d =>
  rw[er] at w;intro v F1 H1 s1 rp _;cases d with
  | str z=>obtain ⟨rfl,hz,hk⟩:=rp.str;have w1:aS (C.at X) F1 H1 σ (cG gl ρ λl=>cG gh ρ λh=>.ok .fz (.str (Txt.slice z l h))) Q:=aS.step s1 w;refine hZ (R.step s1) w1 λl F2 H2 s2 R2 w2=>hZ R2 w2 λh F3 H3 s3 R3 w3=>.inl ?_;exact ⟨z,rfl,hz,w3 _ F3 H3 (.refl R3.sub) (fB ⟨aQ8 (aTA z _ _) hz,aDV hk⟩) (by intro z;cases z)⟩
  | lst ds=>have w1:aS (C.at X) F1 H1 σ (cG gl ρ λl=>cG gh ρ λh=>.ok .fr (.lst (eI ds l h))) Q:=aS.step s1 w;refine hZ (R.step s1) w1 λl F2 H2 s2 R2 w2=>hZ R2 w2 λh F3 H3 s3 R3 w3=>.inr (.inl ?_);obtain ⟨p,xs,rfl,hq,rl⟩:=((rp.step s2).step s3).seqL R3.sub;exact ⟨p,xs,rfl,hq,λp' hp'=>w3 (.ref p') F3 _ (aI.fresh _ R3.sub hp') ⟨p',rfl,R3.sub.free hp',_,bI,rl.cut l h⟩ λ_ a ea=>by cases ea;exact hp'⟩
  | tup ds =>
   have w1:aS (C.at X) F1 H1 σ (cG gl ρ λl=>cG gh ρ λh=>if (jY ds.length l h&&m != .fz)=true then .stuck else .ok .fz (.tup (eI ds l h))) Q:=aS.step s1 w;refine hZ (R.step s1) w1 λl F2 H2 s2 R2 w2=>hZ R2 w2 λh F3 H3 s3 R3 w3=>.inr (.inr ?_);obtain ⟨p,xs,rfl,hq,rl⟩:=((rp.step s2).step s3).seqT R3.sub;have lw:jY ds.length l h=true↔HT.sIx xs.length 0 l=0/\HT.sIx xs.length xs.length h=xs.length:=by rw[rl.length];unfold jY;simp
   cases hw:jY ds.length l h with
   | true =>
    cases m with
    | fz =>
     rw[hw,if_neg (by decide)] at w3
     have e:=lw.mp hw;have ec:eI ds l h=ds:=by unfold eI;rw[<- rl.length,e.1,e.2,rl.length,aTU,Nat.sub_zero];exact aT7
     rw[ec] at w3;exact .inr ⟨p,xs,rfl,hq,e,w3 (.ref p) F3 H3 (.refl R3.sub) ((rp.step s2).step s3) (by intro z;cases z)⟩
    | fr=>rw[hw,if_pos (by decide)] at w3;exact w3.elim
    | bo=>rw[hw,if_pos (by decide)] at w3;exact w3.elim
   | false =>
    rw[hw,if_neg (by simp)] at w3
    refine .inl ⟨p,xs,rfl,hq,λz=>?_,λp' hp'=>w3 (.ref p') _ _ (aI.laid (.tup (fA xs l h)) R3.sub hp') (aB.tup_of (R3.sub.free hp') (rl.cut l h)) (by intro z;cases z)⟩
    rw[lw.mpr z] at hw;cases hw
  | _=>exact (show False from w).elim
def swD:Md->D->List (Md×D)->Option (Md×D):=λ_ x xs=>match x,xs with
 | .str z,[(_,.str y)]=>some (.fz,.bl (Txt.startswith z y))
 | _,_=>none
theorem aGY:MtD X "str.startswith" swD:=by
 refine ⟨λv vs H Q=>∃ z y:Str,v=.str z/\vs=[.str y]/\Q (.bl (Txt.startswith z y)) H,?_,?_⟩
 . intro aA s σ H x xs v us Q I rx r h;obtain ⟨z,y,rfl,rfl,q⟩:=h;obtain ⟨t,rfl⟩:=rx;obtain ⟨u,rfl,t',rfl⟩:=cO r;exact SC.startswith ⟨.bl (Txt.startswith z y),H,I,rfl,q⟩
 . intro F H m x xs v vs k d Q s rx rl e w;unfold swD at e;split at e
   . rename_i z m' y;cases e;obtain ⟨rfl,_⟩:=rx.str;obtain ⟨u,rfl,r⟩:=rl.one;obtain ⟨rfl,_⟩:=r.str;exact ⟨z,y,rfl,rfl,w _ F H (.refl s) (cA _) (by intro z;cases z)⟩
   . cases e
def rpD:Md->D->List (Md×D)->Option (Md×D):=λ_ x xs=>match x,xs with
 | .str z,[(_,.str y)]=>some (.fz,.str (Txt.removeprefix z y))
 | _,_=>none
theorem aGZ{z y:Str}(h:PyData.strOk z=true):PyData.strOk (Txt.removeprefix z y)=true:=by
 rw[StrLaws.removeprefix_eq];split
 . unfold PyData.strOk at h ⊢;rw[aS7] at h ⊢;intro c hc;have:c∈z.cps.toList:=List.mem_of_mem_drop (List.mem_of_mem_take (by simpa using hc))
   exact h c (by simpa using this)
 . exact h
theorem aG0:MtD X "str.removeprefix" rpD:=by
 refine ⟨λv vs H Q=>∃ z y:Str,v=.str z/\vs=[.str y]/\z.length<=sizeLine/\Q (.str (Txt.removeprefix z y)) H,?_,?_⟩
 . intro aA s σ H x xs v us Q I rx r h;obtain ⟨z,y,rfl,rfl,hz,q⟩:=h;obtain ⟨t,rfl⟩:=rx;obtain ⟨u,rfl,t',rfl⟩:=cO r;exact SC.removeprefix (λt' k=>⟨.str (Txt.removeprefix z y),H,I.tok _,⟨_,rfl⟩,q⟩) hz
 . intro F H m x xs v vs k d Q s rx rl e w;unfold rpD at e;split at e
   . rename_i z m' y;cases e;obtain ⟨rfl,hz,hk⟩:=rx.str;obtain ⟨u,rfl,r⟩:=rl.one;obtain ⟨rfl,_⟩:=r.str;exact ⟨z,y,rfl,rfl,hz,w _ F H (.refl s) (fB ⟨aQ8 (len_removeprefix z y) hz,aGZ hk⟩) (by intro z;cases z)⟩
   . cases e
end
section
variable {C:Cw}{X:Cx}{pos:Pos}
end
def eU(kvs:List (Key×D))(k:Key):Option D:=(kvs.find? λkv=>decide (kv.1=k)).map (·.2)
theorem aF.val{K:Fg}{F:Hp}:∀ {kvs:List (Key×D)} {xs:List (Key×V)} (k:Key),aF K F kvs xs->match eU kvs k with | some d=>∃ v,dG xs k=some v/\aB K F d v | none=>dG xs k=none
 | [],xs,k,h=>by simp only[aF] at h;subst h;rfl
 | (k',d)::kvs,xs,k,h=>by
  simp only[aF] at h;obtain ⟨y,ys,rfl,r,t⟩:=h;by_cases e:k'=k
  . have e1:eU ((k',d)::kvs) k=some d:=by simp[eU,aSX,e]
    rw[e1];exact ⟨y,lH e,r⟩
  . have e1:eU ((k',d)::kvs) k=eU kvs k:=by simp[eU,aSX,e]
    rw[e1,lI (p:=(k',y)) e];exact aF.val k t
section
variable {X:Cx}
end
theorem aG1{K:Fg}{F H:Hp}{m n:Md}{kvs:List (Key×D)}{y:D}{k:Key}{v u:V}(s:aD F H)(rx:Rp K F H m (.dct kvs) v)(ry:Rp K F H n y u)(ek:fP y=some k):∃ a xs,v=.ref a/\H a=some (.dK xs)/\aF K F kvs xs/\nW H a u (dG xs k):=by obtain ⟨a,xs,rfl,hh,rk⟩:=rx.dict s;exact ⟨a,xs,rfl,hh,rk,.inl ⟨xs,k,.inl hh,n5 ek ry,rfl⟩⟩
section
variable {C:Cw}{X:Cx}{a b:Expr}{ga gb:Rho->Res}{pos:Pos}
def l7:List (Md×D)->Option (Md×D)
 | [(_,.dct kvs)]=>some (.fr,.dct kvs)
 | _=>none
theorem aG2:aZ X (.type "dict") l7:=by
 refine ⟨λvs H Q=>∃ a xs,vs=[.ref a]/\H a=some (.dK xs)/\∀ p,H p=none->Q (.ref p) (upd H p (.dK xs)),?_,?_⟩
 . intro aA s σ H vs us Q I r h;obtain ⟨a,xs,rfl,hh,q⟩:=h;obtain ⟨u,rfl,ru⟩:=cO r;cases (show u=Value.ref a from ru)
   exact aCR I (.inl hh) λp s' hp I'=>⟨.ref p,_,I',rfl,q p hp⟩
 . intro F H xs vs k d Q s rx e w;unfold l7 at e;split at e
   . rename_i m kvs;cases e;obtain ⟨v,rfl,r⟩:=rx.one;obtain ⟨a,ys,rfl,hh,rk⟩:=r.dict s;exact ⟨a,ys,rfl,hh,λp hp=>w (.ref p) F _ (aI.fresh _ s hp) ⟨p,rfl,s.free hp,ys,bI,rk⟩ λ_ b eb=>by cases eb;exact hp⟩
   . cases e
end
def jZ(kvs:List (Key×D))(k:Key)(d:D):List (Key×D):=if (kvs.any λkv=>decide (kv.1=k))=true then kvs.map (λkv=>if kv.1=k then (kv.1,d) else kv) else kvs++[(k,d)]
theorem aF.keys{K:Fg}{F:Hp}:∀ {kvs:List (Key×D)} {xs:List (Key×V)},aF K F kvs xs->xs.map (·.1)=kvs.map (·.1)
 | [],xs,h=>by simp only[aF] at h;subst h;rfl
 | (k,d)::kvs,xs,h=>by simp only[aF] at h;obtain ⟨y,ys,rfl,_,t⟩:=h;simp[aF.keys t]
theorem aF.snoc{K:Fg}{F:Hp}{k:Key}{d:D}{v:V}(r:aB K F d v):∀ {kvs:List (Key×D)} {xs:List (Key×V)},aF K F kvs xs->aF K F (kvs++[(k,d)]) (xs++[(k,v)])
 | [],xs,h=>by simp only[aF] at h;subst h;simp only[List.nil_append,aF];exact ⟨v,[],rfl,r,rfl⟩
 | (k',d')::kvs,xs,h=>by simp only[aF] at h;obtain ⟨y,ys,rfl,r',t⟩:=h;simp only[List.cons_append,aF];exact ⟨y,_,rfl,r',aF.snoc r t⟩
theorem aF.repl{K:Fg}{F:Hp}{k:Key}{d:D}{v:V}(r:aB K F d v):∀ {kvs:List (Key×D)} {xs:List (Key×V)},aF K F kvs xs->aF K F (kvs.map λkv=>if kv.1=k then (kv.1,d) else kv) (xs.map λkv=>if kv.1=k then (kv.1,v) else kv)
 | [],xs,h=>by simp only[aF] at h;subst h;simp[aF]
 | (k',d')::kvs,xs,h=>by
  simp only[aF] at h;obtain ⟨y,ys,rfl,r',t⟩:=h;have ih:=aF.repl (k:=k) r t;by_cases e:k'=k
  . simp only[aR1,e,aSL,aF];exact ⟨v,_,rfl,r,ih⟩
  . simp only[aR1,e,aSK,aF];exact ⟨y,_,rfl,r',ih⟩
theorem aF.put{K:Fg}{F:Hp}{k:Key}{d:D}{v:V}{kvs:List (Key×D)}{xs:List (Key×V)}(h:aF K F kvs xs)(r:aB K F d v):aF K F (jZ kvs k d) (cF xs k v):=by
 have e:(xs.any λkv=>decide (kv.1=k))=(kvs.any λkv=>decide (kv.1=k)):=by
  have:=h.keys;have a1:∀ {β:Type} (l:List (Key×β)),(l.any λkv=>decide (kv.1=k))=(l.map (·.1)).any (λx=>decide (x=k)):=λl=>by rw[List.any_map];rfl
  rw[a1,a1,this]
 unfold jZ cF;rw[e];split
 . exact aF.repl r h
 . exact aF.snoc r h
theorem aF.len{K:Fg}{F:Hp}{kvs:List (Key×D)}{xs:List (Key×V)}(h:aF K F kvs xs):xs.length=kvs.length:=by have:=congrArg List.length h.keys;simpa using this
def fF(ρ:Rho)(i:Nat)(rk rv:Res):aK:=match ρ[i]? with
 | some (some (true,.dct kvs))=>(bB rv).thS ρ λm d=>match m with
  | .fz=>rk.thS ρ λ_ kd=>(match fP kd with
   | some k=>if kvs.length<sizeLine then .nx (ρ.set i (some (true,.dct (jZ kvs k d)))) else .stuck
   | none=>.stuck)
  | _=>.stuck
 | _=>.stuck
section
variable {C:Cw}{X:Cx}{e ke:Expr}{g gk:Rho->Res}{x:Str}{p sp pos:Pos}
theorem aG3(i:Nat)(hu:X.A.units+1<cLine)(hv:PE X (.Name x p) (k7 i))(hk:PV C X ke gk)(he:PV C X e g)(hsw:swapsWith e (some (.Subscript (.Name x p) ke sp)) pos.line X.env=pure false):PSv C X (.Assign [.Subscript (.Name x p) ke sp] e pos) (λρ=>fF ρ i (gk ρ) (g ρ)):=by
 refine PS.imp (aCJ hu hv hk (fO he) hsw) λE σ H q=>?_;obtain ⟨ρ,F,R,w⟩:=q;dsimp only at w;unfold sZ;cases e0:ρ[i]? with
 | none=>unfold fF at w;rw[e0] at w;exact w.elim
 | some o =>
  cases o with
  | none=>unfold fF at w;rw[e0] at w;exact w.elim
  | some bd =>
   obtain ⟨b,d0⟩:=bd;cases b with
   | false=>unfold fF at w;rw[e0] at w;exact w.elim
   | true =>
    cases d0 with
    | dct kvs =>
     unfold fF at w;rw[e0] at w;dsimp only at w;obtain ⟨v0,ev0,rp0,hn0⟩:=R.slot i true _ e0;obtain ⟨a,ea,hfa,xs,hh,rk⟩:=rp0;subst ea;refine lR R w λm d v F' H' w' s R' rp fr=>?_;cases m with
     | fr=>exact (show False from w').elim
     | bo=>exact (show False from w').elim
     | fz =>
     dsimp only at w';refine ⟨.ref a,ev0,?_⟩;refine lR R' w' λm2 kd u F2 H2 w2 s2 R2 rp2 _=>?_;cases ek:fP kd with
     | none=>rw[ek] at w2;exact w2.elim
     | some k =>
      rw[ek] at w2;dsimp only at w2;split at w2
      . rename_i hl;have hh2:H2 a=some (.dK xs):=s2.same _ _ (s.same _ _ hh);refine ⟨a,_,rfl,.inl ⟨xs,k,hh2,n5 ek rp2,by rw[rk.len];exact hl,rfl⟩,?_⟩
        exact w2 σ F2 _ (aD.refl _) (R2.mut e0 ev0 ⟨_,bI,aF.put (rk.mono (s.fsame.trans s2.fsame) _ _) (aB.mono s2.fsame _ _ rp)⟩)
      . exact w2.elim
    | _=>unfold fF at w;rw[e0] at w;exact w.elim
end
section
variable {C:Cw}{X:Cx}{a b:Expr}{ga gb:Rho->Res}{pos:Pos}
end
end D3
namespace D3
open PySem PySem.Spec PyProof.Rows L2 PySem.SeqAt PySem.MeetsSeq
theorem SqT.plain{X:Cx}{aA:LAO}{σ:L2.St}{H:Hp}{s:Shared}{a:Addr}{xs:List V}(I:L2.Inv X aA σ H s)(h:SqT X.K H a xs):∃ its:List Value,aM xs its/\e6 s.heap a its.toArray/\xs.length<=sizeLine:=by
 rcases h with h | ⟨o,its,n,hk,hc,hd,hs,hz,r⟩
 . obtain ⟨z,its,r,p⟩:=h.ok I.hok;exact ⟨its,r,p,z⟩
 . exact ⟨its.toList,r,⟨o,I.kIn a o hk,hc,hd,n,by simpa using hs⟩,by rw[r.length,aRI];exact hz⟩
section
variable {X:Cx}{o e:Expr}{apos cpos:Pos}{td ty:TE}
end
section
variable {C:Cw}{X:Cx}{o e:Expr}{apos cpos:Pos}{go g:Rho->Res}
end
end D3
namespace D3
open PySem PySem.Spec PyProof.Rows L2
section
variable {C:Cw}{X:Cx}
end
def TabE(w:World)(K:Fg):List (Str×Str)->List DictEntry->Prop
 | [],es=>es=[]
 | (z,f)::r,es=>∃ t a es',es=⟨PyData.keyHash w.params z,.str z t,.ref a⟩::es'/\PySem.W.nsIn K mainGlobals f=some (some (.ref a))/\TabE w K r es'
structure iP(w:World)(K:Fg)(mg:SOV)(x:Str)(tb:List (Str×Str)):Prop where
 ex:∃ a ob es ep,mg x=some (.ref a)/\K.lookup a=some ob/\ob.ExactDict/\ob.data=.dict es ep/\TabE w K tb es.toList
 nd:(tb.map (·.1)).Nodup
section
variable {C:Cw}{X:Cx}{e b:Expr}{es:List Expr}{gs:Rho->aG}{gb:Rho->Res}{p pos:Pos}{x:Str}{k n:Nat}{tb:List (Str×Str)}
end
section
variable {X:Cx}
end
theorem aX.frz{K:Fg}{F0 H0 F H:Hp}{σ:L2.St}{ρ:Rho}(R:aX K F0 H0 F H σ ρ){i:Nat}{d:D}(e:ρ[i]? = some (some (true,d))):∃ F',aD F F'/\aX K F0 H0 F' H σ (ρ.set i (some (false,d))):=by
 obtain ⟨v,ev,rp,hn⟩:=R.slot i true d e;obtain ⟨x,rfl,nx,t⟩:=rp;obtain ⟨o,ho,r⟩:=t.freeze nx;have sm:aD F (upd F x o):=λb u q=>by rw[aR (cB q nx)];exact q
 have hi:i<ρ.length:=(aRC.mp e).1;refine ⟨upd F x o,sm,R.st.freeze (hn rfl x rfl) nx ho,λj m d' ej=>?_,λj k d1 d2 a hjk e1 e2 q1 q2=>?_,by rw[aTH];exact R.len⟩
 . by_cases hj:j=i
   . subst hj;rw[aRE hi] at ej;cases ej;exact ⟨.ref x,ev,r,by intro z;cases z⟩
   . rw[aRF (λz=>hj z.symm)] at ej;obtain ⟨v',ev',rp',hn'⟩:=R.slot j m d' ej;refine ⟨v',ev',?_,hn'⟩;cases m with
     | false=>exact aB.mono sm _ _ rp'
     | true =>
      obtain ⟨a,rfl,na,t'⟩:=rp';have ax:a≠x:=λz=>by subst z;exact R.apart j i d' d a hj ej e ev' ev
      refine ⟨a,rfl,by rw[aR ax];exact na,?_⟩
      cases d' with
      | lst ds=>obtain ⟨xs,q,rr⟩:=t';exact ⟨xs,q,rr.mono sm _ _⟩
      | dct ds=>obtain ⟨xs,q,rr⟩:=t';exact ⟨xs,q,rr.mono sm _ _⟩
      | ins c fs=>obtain ⟨C,dx,gs,n,q,rr⟩:=t';exact ⟨C,dx,gs,n,q,rr.mono sm _ _⟩
      | set ks=>obtain ⟨S,q,rr⟩:=t';exact ⟨S,q,rr⟩
      | dtn ds=>obtain ⟨xs,q,rr⟩:=t';exact ⟨xs,q,rr.mono sm _ _⟩
      | _=>exact t'.elim
 . have own:∀ {j:Nat} {d1:D},(ρ.set i (some (false,d)))[j]? = some (some (true,d1))->ρ[j]? = some (some (true,d1)):=λ{j d1} z=>by
     by_cases hj:j=i
     . subst hj;rw[aRE hi] at z;cases z
     . rw[aRF (λy=>hj y.symm)] at z;exact z
   exact R.apart j k d1 d2 a hjk (own e1) (own e2) q1 q2
def iQ(ρ:Rho)(i:Nat):aK:=match ρ[i]? with
 | some (some (true,d))=>.nx (ρ.set i (some (false,d)))
 | _=>.stuck
theorem aG4{C:Cw}{X:Cx}{sts:List Stmt}{i:Nat}{g:Rho->aK}(h:PBv C X sts g):PBv C X sts (λρ=>(iQ ρ i).thn g):=by
 refine PSs.imp h λE σ H q=>?_;obtain ⟨ρ,F,R,w⟩:=q;dsimp only at w;unfold iQ at w;split at w
 . rename_i d e;obtain ⟨F',sm,R'⟩:=R.frz e;exact ⟨_,F',R',bY.mono sm w⟩
 . exact w.elim
def Ent(w:World):List Str->List (Int×Value)->Prop
 | [],l=>l=[]
 | x::xs,l=>∃ t r,l=(hashStr w x,.str x t)::r/\Ent w xs r
def oW(w:World):Bool:=w.params.followText "set-order"
def SetX(w:World)(h:Heap)(a:Addr)(xs:List Str):Prop:=∃ o es ep t,h.get? a=some o/\o.ExactSet/\o.data=.set es ep t/\Ent w xs es.toList/\xs.Nodup/\xs.length<scanBound/\t.fits es.size=true/\t.led = !oW w/\(xs=[]\/t.plain=false)
section
variable {prog:Program}{w:World}{A:Around}{E:VSP}{s:Shared}
end
section
variable {prog:Program}{w:World}{A:Around}{E:VSP}{s:Shared}
end
section
variable {prog:Program}{w:World}{A:Around}{E:VSP}{s:Shared}
end
def Small(m:Nat):Prop:=m=7\/m=15\/m=31
section
variable {m:Nat}{ow:Array (Option Nat)}
end
def SetM(w:World)(h:Heap)(a:Addr)(xs:List Str):Prop:=∃ o es ep t,h.get? a=some o/\o.ExactSet/\o.data=.set es ep t/\Ent w xs es.toList/\xs.Nodup/\xs.length<scanBound/\t.fits es.size=true/\t.led = !oW w/\(xs=[]\/t.plain=false)/\Small t.mask/\t.dummies = #[]
section
variable {prog:Program}{w:World}{A:Around}{E:VSP}{s:Shared}
def Wide(h:Heap)(a:Addr)(n:Nat):Prop:=∀ o es ep t,h.get? a=some o->o.data=.set es ep t->n<=t.mask
end
section
variable {prog:Program}{w:World}{A:Around}{E:VSP}{s:Shared}
end
section
variable {prog:Program}{w:World}{A:Around}{E:VSP}{s:Shared}{I a:Addr}{i n ep:Nat}{o:Obj}{es:Array (Int×Value)}{t:SetTable}
end
section
variable {prog:Program}{w:World}{A:Around}{E:VSP}{s:Shared}
variable {I a:Addr}{ep:Nat}{o:Obj}{es:Array (Int×Value)}{t:SetTable}
end
section
variable {prog:Program}{w:World}{A:Around}{E:VSP}{s:Shared}{a:Addr}{xs:List Str}
end
def lts(x y:Str):Bool:=ltCps x.cps.toList y.cps.toList
theorem iR{x y:Str}:lts x y=true↔x.cps.toList<y.cps.toList:=by unfold lts;rw[ltCps_eq,aS4]
theorem j0(x:Str):lts x x=false:=by
 cases h:lts x x with
 | false=>rfl
 | true=>exact absurd (iR.mp h) (List.lt_irrefl _)
theorem l8{x y z:Str}(a:lts x y=true)(b:lts y z=true):lts x z=true:=iR.mpr (List.lt_trans (iR.mp a) (iR.mp b))
theorem l9{x y:Str}(a:lts x y=false)(b:lts y x=false):x=y:=by
 have h1:¬ x.cps.toList<y.cps.toList:=λh=>by rw[iR.mpr h] at a;cases a
 have h2:¬ y.cps.toList<x.cps.toList:=λh=>by rw[iR.mpr h] at b;cases b
 have e:=List.le_antisymm (List.not_lt.mp h2) (List.not_lt.mp h1);cases x;cases y;exact congrArg Str.mk (Array.ext' e)
def gT(l:List Str):Prop:=l.Pairwise λx y=>lts x y=true
theorem uU:∀ {l:List Str} {p:Str},risingS p l=true->∀ x∈l,lts x p=false
 | y::l,p,h,x,hx=>by
  have h:(!lts y p&&risingS y l)=true:=h;rw[aSR,aT8] at h;rcases aRA.mp hx with rfl | hx
  . exact h.1
  . have h2:=uU h.2 x hx;cases q:lts x p with
    | false=>rfl
    | true =>
     cases q2:lts p y with
     | true=>rw[l8 q q2] at h2;cases h2
     | false=>have:=l9 q2 h.1;subst this;rw[q] at h2;cases h2
theorem uV:∀ {l:List Str},sortedS l=true->l.Nodup->gT l
 | [],_,_=>.nil
 | x::l,h,n=>by
  obtain ⟨n1,n2⟩:=aR8.mp n;refine aT9.mpr ⟨λy hy=>?_,uV ?_ n2⟩
  . have h1:=uU (show risingS x l=true from h) y hy
    cases q:lts x y with
    | true=>rfl
    | false=>exact absurd (l9 q h1 ▸ hy) n1
  . cases l with
    | nil=>rfl
    | cons y l=>have h:(!lts y x&&risingS y l)=true:=h;rw[aSR] at h;exact h.2
theorem uW:∀ {l l':List Str},gT l->gT l'->(∀ y,y∈l↔y∈l')->l=l'
 | [],[],_,_,_=>rfl
 | [],x::l',_,_,h=>absurd ((h x).mpr mcs) (by simp)
 | x::l,[],_,_,h=>absurd ((h x).mp mcs) (by simp)
 | x::l,y::l',s,s',h=>by
  obtain ⟨s1,s2⟩:=aT9.mp s;obtain ⟨t1,t2⟩:=aT9.mp s';have e:x=y:=by
   rcases aRA.mp ((h x).mp mcs) with e | hx
   . exact e
   . rcases aRA.mp ((h y).mpr mcs) with e | hy
     . exact e.symm
     . have:=l8 (t1 x hx) (s1 y hy);rw[j0] at this;cases this
  subst e;rw[uW s2 t2 λz=>?_];constructor
  . intro hz;rcases aRA.mp ((h z).mp (mcm hz)) with e | h'
    . subst e;have:=s1 z hz;rw[j0] at this;cases this
    . exact h'
  . intro hz;rcases aRA.mp ((h z).mpr (mcm hz)) with e | h'
    . subst e;have:=t1 z hz;rw[j0] at this;cases this
    . exact h'
def fV(x:Str):List Str->List Str
 | []=>[x]
 | y::l=>if x=y then y::l else if lts x y=true then x::y::l else y::fV x l
theorem oX{x z:Str}:∀ {l:List Str},z∈fV x l↔z=x\/z∈l
 | []=>by simp[fV]
 | y::l=>by
  unfold fV;split
  . rename_i e;subst e;simp
  . split
    . simp
    . rw[aRA,oX,aRA];exact ⟨λh=>h.elim (λe=>.inr (.inl e)) λh=>h.imp id .inr,λh=>h.elim (λe=>.inr (.inl e)) λh=>h.imp id .inr⟩
theorem uX{x:Str}:∀ {l:List Str},gT l->gT (fV x l)
 | [],_=>aUA _ _
 | y::l,s=>by
  obtain ⟨s1,s2⟩:=aT9.mp s;unfold fV;split
  . exact s
  . rename_i ne;split
    . rename_i lt;exact aT9.mpr ⟨λz hz=>(aRA.mp hz).elim (λe=>e ▸ lt) λh=>l8 lt (s1 z h),s⟩
    . rename_i nl;refine aT9.mpr ⟨λz hz=>?_,uX s2⟩;rcases oX.mp hz with rfl | hz
      . cases q:lts y z with
        | true=>rfl
        | false=>exact absurd (l9 (by simpa using nl) q) ne
      . exact s1 z hz
def uni(l:List Str):List Str:=l.foldr fV []
theorem j2{z:Str}:∀ {l:List Str},z∈uni l↔z∈l
 | []=>by simp[uni]
 | x::l=>by show z∈fV x (uni l)↔_;rw[oX,j2,aRA]
theorem oY:∀ (l:List Str),gT (uni l)
 | []=>.nil
 | x::l=>uX (oY l)
def sx(w:World)(l:Addr)(ys:List Str):HO:=.ext λh=>SetX w h l ys
theorem uY:∀ {ys:List Str} {us:List Value},StrsAre us ys->aM (ys.map V.str) us
 | [],_,.nil=>.nil
 | _::ys,_,.cons y t h=>.cons ⟨t,rfl⟩ (uY h)
section
variable {X:Cx}
end
theorem aG5:bootBuiltins "sorted" = some (.builtin "sorted"):=by decide +kernel
def txD:List D->Option (List Str)
 | []=>some []
 | .str x::ds=>(txD ds).map (x :: ·)
 | _::_=>none
def txT:D->Option (List Str)
 | .tup ds=>txD ds
 | _=>none
theorem mD{K:Fg}{F:Hp}:∀ {ds:List D} {xs:List V} {ns:List Str},txD ds=some ns->aC K F ds xs->xs=ns.map V.str/\∀ x∈ns,x.length<=sizeLine/\PyData.strOk x=true
 | [],xs,ns,e,r=>by cases e;simp only[aC] at r;subst r;exact ⟨rfl,λx hx=>by cases hx⟩
 | d::ds,xs,ns,e,r=>by
  cases d with
  | str x =>
   simp only[txD] at e;cases q:txD ds with
   | none=>rw[q] at e;cases e
   | some ms=>rw[q] at e;cases e;simp only[aC] at r;obtain ⟨v,vs,rfl,rv,rr⟩:=r;obtain ⟨rfl,h2⟩:=mD q rr;simp only[aB] at rv;obtain ⟨rfl,h1⟩:=rv;exact ⟨rfl,λy hy=>(aRA.mp hy).elim (λe=>by subst e;exact h1) (h2 y)⟩
  | _=>cases e
theorem uZ{K:Fg}{F:Hp}:∀ {ns:List Str},(∀ x∈ns,x.length<=sizeLine/\PyData.strOk x=true)->aC K F (ns.map .str) (ns.map V.str)
 | [],_=>by simp[aC]
 | x::ns,h=>by simp only[aR1,aC,aB];exact ⟨_,_,rfl,⟨rfl,h x mcs⟩,uZ λy hy=>h y (mcm hy)⟩
section
variable {C:Cw}{X:Cx}{ga gb:Rho->Res}{ea eb:Expr}
theorem aG6{K:Fg}{F H:Hp}{m:Md}{d:D}{v:V}{ns:List Str}(s:aD F H)(r:Rp K F H m d v)(e:txT d=some ns):(∃ a,v=.ref a/\SqT K H a (ns.map V.str))/\∀ x∈ns,x.length<=sizeLine/\PyData.strOk x=true:=by
 cases d with
 | tup ds=>obtain ⟨a,xs,rfl,h1,h2⟩:=oQ r;obtain ⟨rfl,h3⟩:=mD e h2;exact ⟨⟨a,rfl,aD.seqT s h1⟩,h3⟩
 | _=>cases e
end
theorem aG7:bootBuiltins "sum" = some (.builtin "sum"):=by decide +kernel
theorem u0:∀ {ns:List Int} {its:List Value} {i:Nat} {v:Value},aM (ns.map V.int) its->its[i]? = some v->∃ t,v=.int (ns.getD i 0) t
 | [],_,i,v,h,e=>by cases h;simp at e
 | n::ns,_,0,v,h,e=>by
  cases h with
  | cons r t=>obtain ⟨tk,rfl⟩:=r;cases e;exact ⟨tk,rfl⟩
 | n::ns,_,i+1,v,h,e=>by
  cases h with
  | cons r t=>obtain ⟨t',h'⟩:=u0 (ns:=ns) (i:=i) t e;exact ⟨t',h'⟩
section
variable {C:Cw}{X:Cx}{ga gb:Rho->Res}{ea eb:Expr}{p p1 p2 q q1 q2 pos:Pos}
def fW:List (Md×D)->Option (Md×D)
 | [(_,.lst ds)]=>match txD ds with
  | some ns=>if ns.Nodup/\ns.length<64 then some (.fr,.lst ((uni ns).map .str)) else none
  | none=>none
 | _=>none
theorem aG8:cC X (.builtin "sorted") (λxs H Q=>∃ (p:Addr) (ns:List Str),xs=[.ref p]/\SqL X.K H p (ns.map V.str)/\ns.Nodup/\ns.length<64/\∀ l,H l=none->Q (.ref l) (upd H l (.lst ((uni ns).map V.str)))):=by
 intro aA s σ H xs us Q I r h;obtain ⟨p,ns,rfl,hp,hn,hz,q⟩:=h;obtain ⟨u,rfl,rx⟩:=cO r;cases rx;obtain ⟨its,rv,pl,_⟩:=I.list hp;have sa:=jP rv;have lz:its.length=ns.length:=sa.length;refine sorted_strs pl.isList sa (by rw[lz];exact hz) λout ys oa py so=>?_
 obtain ⟨e,he⟩:=sortedAll_at s.heap its out;have e1:uni ns=ys:=uW (oY ns) (uV so (py.symm.nodup hn)) λy=>by rw[j2,py.mem_iff]
 have le:((uni ns).map V.str).length<=sizeLine:=by rw[aR2,e1,py.length_eq,aRT];omega
 exact ⟨.ref (s.heap.objs.size+1),_,I.laid (t':=s.toks) (λb o e=>sortedAll_old e) (aTT _) (show bL X.prog X.w _ _ _ (.lst ((uni ns).map V.str)) from ⟨le,out.toList,e,by rw[e1];exact uY oa,by simpa using he⟩),rfl,q _ (I.hok.fresh (aTT _))⟩
theorem aG9:aZ X (.builtin "sorted") fW:=by
 refine ⟨_,aG8,λF H xs vs k d Q s rx e w=>?_⟩;unfold fW at e;split at e
 . rename_i m ds;split at e
   . rename_i ns en;split at e
     . rename_i hc;cases e;obtain ⟨v,rfl,r⟩:=rx.one;obtain ⟨a,xs,rfl,q,rl⟩:=r.seqL s;obtain ⟨rfl,k1⟩:=mD en rl;exact ⟨a,ns,rfl,q,hc.1,hc.2,λl hl=>w (.ref l) F _ (aI.fresh _ s hl) ⟨l,rfl,s.free hl,_,bI,uZ λx hx=>k1 x (j2.mp hx)⟩ λ_ a ea=>by cases ea;exact hl⟩
     . cases e
   . cases e
 . cases e
def iS:List (Md×D)->Option (Md×D)
 | [(_,.lst [])]=>some (.fz,.int 0)
 | [(_,.lst [.int i])]=>some (.fz,.int i)
 | _=>none
theorem u3(hc:X.calm=true):cC X (.builtin "sum") (λxs H Q=>∃ (p:Addr) (ns:List Int),xs=[.ref p]/\SqL X.K H p (ns.map V.int)/\Q (.int (preSum (λi=>ns.getD i 0) ns.length)) H):=by
 intro aA s σ H xs us Q I r h;obtain ⟨p,ns,rfl,hp,q⟩:=h;obtain ⟨u,rfl,rx⟩:=cO r;cases rx;obtain ⟨its,rv,pl,_⟩:=I.list hp;have hl:=pl.isList;obtain ⟨ol,hol,hr⟩:=id hl;have lp:p<s.heap.objs.size:=aQ1 hol;have lz:its.length=ns.length:=by have:=rv.length;simpa using this.symm
 refine call_sum_walkG (aRM hl ⟨s.heap.objs.size,_,_,_,_,_,λi=>ns.getD i 0,rfl,Walks.list (A:=X.A.in1) (I.ok.hd hc) s.heap.objs.size p (aQ4 lp) its.toArray,⟨⟨_,aQ0 _ rfl,rfl,rfl⟩,hl.push _⟩,λb hb=>?_,λi v hv=>?_,λh' tk t' kp=>?_⟩)
 . simp only[aRA,aUB,aT4] at hb;show b<(s.heap.push _).objs.size;rw[size_push'];rcases hb with rfl | rfl
   . exact aR4 _
   . exact aTP lp
 . have hv:its[i]? = some v:=by simpa using hv
   exact u0 rv hv
 . have I1:L2.Inv X aA σ H { s with heap:=h',toks:=tk }:=I.kept λb o e=>kp b o (by simp only[aRA,aUB,aT4];exact aQ4 (aQ1 e)) (hps e)
   refine ⟨.int _,H,I1,⟨t',rfl⟩,?_⟩;simpa[lz] using q
theorem aHA(hc:X.calm=true):aZ X (.builtin "sum") iS:=by
 refine ⟨_,u3 hc,λF H xs vs k d Q s rx e w=>?_⟩;unfold iS at e;split at e
 . cases e;obtain ⟨v,rfl,r⟩:=rx.one;obtain ⟨a,xs,rfl,q,rl⟩:=r.seqL s;simp only[aC] at rl;subst rl;exact ⟨a,[],rfl,q,w (.int 0) F H (.refl s) (by show aB X.K F (.int 0) (.int 0);simp only[aB]) (by intro z;cases z)⟩
 . rename_i m i;cases e;obtain ⟨v,rfl,r⟩:=rx.one;obtain ⟨a,xs,rfl,q,rl⟩:=r.seqL s;simp only[aC,aB] at rl;obtain ⟨y,ys,rfl,rfl,rfl⟩:=rl;refine ⟨a,[i],rfl,q,w (.int _) F H (.refl s) (by show aB X.K F (.int i) (.int _);simp[aB,preSum]) (by intro z;cases z)⟩
 . cases e
end
section
variable {prog:Program}{w:World}{A:Around}{E:VSP}{s:Shared}{I l:Addr}{items:Array Value}
end
section
variable {C:Cw}{X:Cx}{ga:Rho->Res}{ea:Expr}{p p1 q1 pos:Pos}
end
def joinT:Md->D->List (Md×D)->Option (Md×D):=λ_ x xs=>match x,xs with
 | .str z,[(_,d)]=>(match txT d with
  | some ys=>if (ys.map (·.length)).sum+ys.length * z.length<=sizeLine then some (.fz,.str (Txt.join z ys)) else none
  | none=>none)
 | _,_=>none
theorem aHB{X:Cx}:MtD X "str.join" joinT:=by
 refine ⟨λv vs H Q=>∃ (z:Str) (a:Addr) (ys:List Str),v=.str z/\vs=[.ref a]/\SqT X.K H a (ys.map V.str)/\(ys.map (·.length)).sum+ys.length * z.length<=sizeLine/\Q (.str (Txt.join z ys)) H,?_,?_⟩
 . intro aA s σ H x xs v us Q I rx r h;obtain ⟨z,a,ys,rfl,rfl,hq,hl,q⟩:=h;obtain ⟨t,rfl⟩:=rx;obtain ⟨u,rfl,ru⟩:=cO r;cases (show u=Value.ref a from ru)
   obtain ⟨its,rv,p,hz⟩:=I.tuple hq;have hs:sizeLine=16777216:=aRT;exact join_tuple p (by simpa using jP rv) (by omega) λt' k=>⟨.str (Txt.join z ys),H,I.tok _,⟨_,rfl⟩,q⟩
 . intro F H m x xs v vs k d Q s rx rl e w;unfold joinT at e;split at e
   . rename_i z m' dd;obtain ⟨rfl,hz,hk⟩:=rx.str;obtain ⟨u,rfl,r⟩:=rl.one;split at e
     . rename_i ys ey;obtain ⟨⟨a,rfl,hq⟩,hys⟩:=aG6 s r ey;split at e
       . rename_i hl;cases e;refine ⟨z,a,ys,rfl,rfl,hq,hl,w _ F H (.refl s) (fB ⟨?_,?_⟩) (by intro z;cases z)⟩
         . rw[lW];exact aQ8 (StrLaws.join_length_le z ys) hl
         . rw[lW];exact oB hk λy hy=>(hys y hy).2
       . cases e
     . cases e
   . cases e
section
variable {prog:Program}{w:World}{A:Around}{R:Result->Shared->Prop}{s:Shared}{b:Bool}{elt tg aP tg2 rL:Expr}{ifs:List Expr}{scope:Scope}{pos:Pos}{it acc:Value}{env:Env}
end
def AllF(ρ:Rho):Prop:=∀ (i:Nat) (m:Bool) (d:D),ρ[i]? = some (some (m,d))->m=false
def AR(K:Fg)(w:World)(b:Bool)(Da:Addr)(F:Hp)(zs:List D)(o:HO):Prop:=match b with
 | true=>∃ ys,o=.lst ys/\aC K F zs ys
 | false=>∃ (ns ys:List Str),zs=ns.map .str/\o=sx w Da ys/\ys.Nodup/\ys.length<=ns.length/\(∀ x,x∈ys↔x∈ns)/\∀ x∈ns,x.length<=sizeLine/\PyData.strOk x=true
def aHC:D->Bool | .str _=>true | _=>false
section
variable {C:Cw}{X:Cx}
end
theorem j6:∀ {ys:List D} {ns:List Str},txD ys=some ns->ys=ns.map .str/\ys.all aHC=true
 | [],ns,e=>by simp[txD] at e;subst e;exact ⟨rfl,rfl⟩
 | d::ds,ns,e=>by
  cases d with
  | str x =>
   unfold txD at e;cases h:txD ds with
   | none=>rw[h] at e;cases e
   | some ms=>rw[h] at e;cases e;obtain ⟨e1,e2⟩:=j6 h;exact ⟨by rw[e1];rfl,by rw[aSU,e2];rfl⟩
  | _=>simp[txD] at e
section
variable {C:Cw}{X:Cx}{elt aP tg rL tg2:Expr}{ifs:List Expr}{scope:Scope}{pos:Pos}{aE:List Nat}{aH tgN:List Str}{gi gt gi2 ge:Rho->Res}
variable (hc : X.calm = true) (hi : PIv C X tg aP gi) (cM : ∀ y ∈ scope.names, y.2 ≠ .cell) (cY : scope.kind = .function) (eM : ∀ y ∈ scope.names, y.2 = .local → scope.names.lookup y.1 = some .local)
    (cZ:∀ y∈scope.names,y.2=.free->X.env.kindOf y.1=some .cell\/X.env.kindOf y.1=some .free)
    (dJ:aH.map some=aE.map λi=>X.N[i]?) (eO:∀ y∈aH,(y,NameKind.free)∈scope.names)
    (eN:∀ y∈aH,(relabel scope X.env).names.lookup y=some .cell\/(relabel scope X.env).names.lookup y=some .free)
    (hn:tgN.length=2)
    (hg:∀ cl A fp s3 H3,PGw (bF X scope (aH++tgN) cl A fp s3 H3) tg (.nm aE.length)) (hf:∀ cl A fp s3 H3,cW (bF X scope (aH++tgN) cl A fp s3 H3) ifs (tT (C.nox.at X) gt))
    (hi2:∀ cl A fp s3 H3,PIv C.nox (bF X scope (aH++tgN) cl A fp s3 H3) tg2 rL gi2) (hg2:∀ cl A fp s3 H3,PGw (bF X scope (aH++tgN) cl A fp s3 H3) tg2 (.nm (aE.length+1)))
    (he:∀ cl A fp s3 H3,PV C.nox (bF X scope (aH++tgN) cl A fp s3 H3) elt ge)
    (hs:∀ x,foldedSetIterable aP X.env x=pure x) (hs2:∀ env x,foldedSetIterable rL env x=pure x)
include hc hi cM cY eM cZ dJ eO eN hn hg hf hi2 hg2 he hs hs2
end
end D3
namespace D3
open PySem PySem.Spec PyProof.Rows L2 PySem.W
structure eV(n:Nat)(lt:Nat->Nat->Bool):Prop where
 tr:∀ {i j k},lt i j=true->lt j k=true->lt i k=true
 asy:∀ {i j},lt i j=true->lt j i=false
 tot:∀ {i j},i<n->j<n->i≠j->lt i j=true\/lt j i=true
structure PP(n:Nat)(p:Array Nat):Prop where
 size:p.size=n
 below:∀ k,p.getD k 0<n
 inj:∀ i j,i<n->j<n->p.getD i 0=p.getD j 0->i=j
theorem PP.perm{n:Nat}{p q:Array Nat}(h:PP n p)(e:q.Perm p):PP n q:=by
 have sz:q.size=n:=by rw[e.size_eq,h.size]
 have nd:p.toList.Nodup:=by
  refine List.pairwise_iff_getElem.mpr λi j hi hj hij e1=>?_;rw[aRI] at hi hj;have a1:p.getD i 0=p.getD j 0:=by
   have e1:p[i]=p[j]:=by simpa using e1
   simp[Array.getD,hi,hj,e1]
  rw[h.size] at hi hj;exact absurd (h.inj i j hi hj a1) (by omega)
 have nd2:q.toList.Nodup:=(aUC.mp e).symm.nodup nd;refine ⟨sz,λk=>?_,λi j hi hj e1=>?_⟩
 . simp only[aUD];cases z:q[k]? with
   | none=>have:=h.below p.size;simp only[aUD,Array.getElem?_size] at this;exact this
   | some v =>
    have hm:v∈p.toList:=(aUC.mp e).mem_iff.mp (by rw[aRV];exact aTB z)
    obtain ⟨i,hi⟩:=List.getElem?_of_mem hm;have:=h.below i;rw[Array.getElem?_toList] at hi;simp only[aUD,hi] at this;exact this
 . have hi':i<q.toList.length:=by rw[aRI,sz];exact hi
   have hj':j<q.toList.length:=by rw[aRI,sz];exact hj
   refine (aRD (h₀:=hi') (h₁:=hj') nd2).mp ?_;have a1:i<q.size:=by omega
   have a2:j<q.size:=by omega
   simpa[Array.getD,a1,a2] using e1
section
variable {n:Nat}{lt:Nat->Nat->Bool}{cmp:Nat->Nat->(Bool->Shared->Prop)->Shared->Prop}{J:Shared->Prop}
def dD(lt:Nat->Nat->Bool)(p:Array Nat)(b:Nat):Prop:=∀ i j,i<j->j<b->lt (p.getD i 0) (p.getD j 0)=true
def gU(lt:Nat->Nat->Bool)(p:Array Nat)(b:Nat):Prop:=∀ i j,i<j->j<b->lt (p.getD j 0) (p.getD i 0)=true
def gW(n:Nat)(lt:Nat->Nat->Bool)(cmp:Nat->Nat->(Bool->Shared->Prop)->Shared->Prop)(J:Shared->Prop):Prop:=∀ i j s C,i<n->j<n->J s->(∀ s',J s'->C (lt i j) s')->cmp i j C s
theorem dD.more(O:eV n lt){p:Array Nat}{m:Nat}(h:dD lt p m)(hm:1<=m)(e:lt (p.getD (m-1) 0) (p.getD m 0)=true):dD lt p (m+1):=λi j hij hj=>by
 by_cases hjm:j<m
 . exact h i j hij hjm
 . have:j=m:=by omega
   subst this;by_cases hi:i=j-1
   . rw[hi];exact e
   . exact O.tr (h i (j-1) (by omega) (by omega)) e
theorem gU.more(O:eV n lt){p:Array Nat}{m:Nat}(h:gU lt p m)(hm:1<=m)(e:lt (p.getD m 0) (p.getD (m-1) 0)=true):gU lt p (m+1):=λi j hij hj=>by
 by_cases hjm:j<m
 . exact h i j hij hjm
 . have:j=m:=by omega
   subst this;by_cases hi:i=j-1
   . rw[hi];exact e
   . exact O.tr e (h i (j-1) (by omega) (by omega))
theorem oZ(O:eV n lt)(hc:gW n lt cmp J){p:Array Nat}(pp:PP n p):∀ (f m:Nat) (s:Shared) (Q:Nat->Shared->Prop),m+f=n->1<=m->dD lt p m->J s->(∀ m' s',m<=m'->m'<=n->dD lt p m'->(m'<n->lt (p.getD m' 0) (p.getD (m'-1) 0)=true)->J s'->Q m' s')->(kas_asc p f m).kasWp cmp Q s
 | 0,m,s,Q,e,h1,u,hJ,q=>q m s (aRN _) (by omega) u (λz=>by omega) hJ
 | f+1,m,s,Q,e,h1,u,hJ,q=>by
  refine hc _ _ s _ (pp.below m) (pp.below (m-1)) hJ λs' hJ'=>?_;cases ec:lt (p.getD m 0) (p.getD (m-1) 0) with
  | true=>exact q m s' (aRN _) (by omega) u (λ_=>ec) hJ'
  | false =>
   have ne:p.getD m 0≠p.getD (m-1) 0:=λz=>by
    have:=pp.inj m (m-1) (by omega) (by omega) z
    omega
   have e1:lt (p.getD (m-1) 0) (p.getD m 0)=true:=(O.tot (pp.below (m-1)) (pp.below m) ne.symm).resolve_right (by rw[ec];decide)
   exact oZ O hc pp f (m+1) s' Q (by omega) (by omega) (u.more O h1 e1) hJ' λm' s2 a b c d e=>q m' s2 (by omega) b c d e
theorem u4(O:eV n lt)(hc:gW n lt cmp J){p:Array Nat}(pp:PP n p):∀ (f m:Nat) (s:Shared) (Q:Array Nat×Nat×Nat->Shared->Prop),m+f=n->1<=m->gU lt p m->J s->(∀ m' s',m<=m'->m'<=n->gU lt p m'->J s'->Q (p,m',0) s')->(kas_desc f p m 0).kasWp cmp Q s
 | 0,m,s,Q,e,h1,u,hJ,q=>q m s (aRN _) (by omega) u hJ
 | f+1,m,s,Q,e,h1,u,hJ,q=>by
  refine hc _ _ s _ (pp.below m) (pp.below (m-1)) hJ λs' hJ'=>?_;cases ec:lt (p.getD m 0) (p.getD (m-1) 0) with
  | true=>show (kas_desc f p (m+1) 0).kasWp cmp Q s';exact u4 O hc pp f (m+1) s' Q (by omega) (by omega) (u.more O h1 ec) hJ' λm' s2 a b c d=>q m' s2 (by omega) b c d
  | false =>
   have ne:p.getD m 0≠p.getD (m-1) 0:=λz=>by
    have:=pp.inj m (m-1) (by omega) (by omega) z
    omega
   have e1:lt (p.getD (m-1) 0) (p.getD m 0)=true:=(O.tot (pp.below (m-1)) (pp.below m) ne.symm).resolve_right (by rw[ec];decide)
   refine hc _ _ s' _ (pp.below (m-1)) (pp.below m) hJ' λs2 hJ2=>?_;rw[e1];exact q m s2 (aRN _) (by omega) u hJ2
theorem aHD(O:eV n lt){p:Array Nat}(pp:PP n p){m:Nat}(hm:m<=n)(d:gU lt p m):dD lt (kas_rev p 0 m) m/\PP n (kas_rev p 0 m):=by
 have pe:(kas_rev p 0 m).Perm p:=mirror_perm _ _ _ _;refine ⟨λi j hij hj=>?_,pp.perm pe⟩;have g:∀ k,k<m->(kas_rev p 0 m).getD k 0=p.getD (m-1-k) 0:=λk hk=>by
  simp only[aUD];unfold kas_rev;rw[getElem?_mirror_all (by rw[pp.size];exact hm),if_pos (by omega)]
  congr 2;omega
 rw[g i (by omega),g j hj]
 exact d _ _ (by omega) (by omega)
theorem aHE(O:eV n lt)(hc:gW n lt cmp J)(hn:2<=n){p:Array Nat}(pp:PP n p){s:Shared}{Q:Nat×Array Nat->Shared->Prop}(hJ:J s)(q:∀ m' p' s',1<=m'->m'<=n->PP n p'->p'.Perm p->dD lt p' m'->J s'->Q (m',p') s'):(kas_count n p).kasWp cmp Q s:=by
 unfold kas_count;rw[KasT.kasWp_bind];refine oZ O hc pp (n-1) 1 s _ (by omega) (aRN _) (λi j h1 h2=>by omega) hJ λm s1 a b u d hJ1=>?_
 by_cases em:m=n
 . rw[if_pos (by simpa using em)]
   exact q m p s1 a b pp (aUE _) u hJ1
 . rw[if_neg (by simpa using em)]
   by_cases h1:m > 1
   . rw[if_pos h1];refine hc _ _ s1 _ (pp.below 0) (pp.below (m-1)) hJ1 λs2 hJ2=>?_;rw[u 0 (m-1) (by omega) (by omega)]
     exact q m p s2 a b pp (aUE _) u hJ2
   . rw[if_neg h1];have e1:m=1:=by omega
     subst e1;unfold kas_descPart;rw[KasT.kasWp_bind];have d2:gU lt p 2:=λi j hij hj=>by
      have:i=0/\j=1:=by omega
      rw[this.1,this.2];exact d (by omega)
     refine u4 O hc pp (n-2) 2 s1 _ (by omega) (by omega) d2 hJ1 λm' s2 a' b' d' hJ2=>?_
     rw[if_neg (by simp)]
     unfold kas_tail3;rw[KasT.kasWp_bind];obtain ⟨u',pp'⟩:=aHD O pp b' d';exact oZ O hc pp' (n-m') m' s2 _ (by omega) (by omega) u' hJ2 λm2 s3 a2 b2 u2 _ hJ3=>q m2 _ s3 (by omega) b2 pp' (mirror_perm _ _ _ _) u2 hJ3
theorem o7(O:eV n lt)(hc:gW n lt cmp J){p:Array Nat}(pp:PP n p){k:Nat}(hk:k<n)(u:dD lt p k):∀ (f l r:Nat) (s:Shared) (Q:Nat->Shared->Prop),l<=r->r<=k->r-l<=f->J s->(∀ i,i<l->lt (p.getD i 0) (p.getD k 0)=true)->(∀ i,r<=i->i<k->lt (p.getD k 0) (p.getD i 0)=true)->(∀ l' s',l'<=k->(∀ i,i<l'->lt (p.getD i 0) (p.getD k 0)=true)->(∀ i,l'<=i->i<k->lt (p.getD k 0) (p.getD i 0)=true)->J s'->Q l' s')->(kas_place p k f l r).kasWp cmp Q s
 | 0,l,r,s,Q,h1,h2,h3,hJ,a,b,q=>q l s (by omega) a (λi hi=>b i (by omega)) hJ
 | f+1,l,r,s,Q,h1,h2,h3,hJ,a,b,q=>by
  unfold kas_place;by_cases hlr:l ≥ r
  . rw[if_pos hlr];exact q l s (by omega) a (λi hi=>b i (by omega)) hJ
  . rw[if_neg hlr];refine hc _ _ s _ (pp.below k) (pp.below ((l+r) / 2)) hJ λs' hJ'=>?_;cases ec:lt (p.getD k 0) (p.getD ((l+r) / 2) 0) with
    | true =>
     refine o7 O hc pp hk u f l ((l+r) / 2) s' Q (by omega) (by omega) (by omega) hJ' a (λi h4 h5=>?_) q
     by_cases e:i=(l+r) / 2
     . rw[e];exact ec
     . exact O.tr ec (u _ i (by omega) h5)
    | false =>
     have ne:p.getD k 0≠p.getD ((l+r) / 2) 0:=λz=>by
      have:=pp.inj k ((l+r) / 2) hk (by omega) z
      omega
     have e1:lt (p.getD ((l+r) / 2) 0) (p.getD k 0)=true:=(O.tot (pp.below _) (pp.below k) ne.symm).resolve_right (by rw[ec];decide)
     refine o7 O hc pp hk u f ((l+r) / 2+1) r s' Q (by omega) h2 (by omega) hJ' (λi h4=>?_) b q
     by_cases e:i=(l+r) / 2
     . rw[e];exact e1
     . exact O.tr (u i _ (by omega) (by omega)) e1
theorem u5(O:eV n lt)(hc:gW n lt cmp J):∀ (f k:Nat) (p:Array Nat) (s:Shared) (Q:Array Nat->Shared->Prop),k+f=n->PP n p->dD lt p k->J s->(∀ p' s',PP n p'->p'.Perm p->dD lt p' n->J s'->Q p' s')->(kas_bin f p k).kasWp cmp Q s
 | 0, k, p, s, Q, e, pp, u, hJ, q => q p s pp (aUE _) (by have : k = n := by omega
                                                          rw[<- this];exact u) hJ
 | f+1,k,p,s,Q,e,pp,u,hJ,q=>by
  unfold kas_bin;rw[KasT.kasWp_bind];refine o7 O hc pp (by omega) u k 0 k s _ (aR5 _) (aRN _) (by omega) hJ (λi h=>by omega) (λi h1 h2=>by omega) λl s1 hl a b hJ1=>?_
  have pe:(bubble p k (k-l)).Perm p:=bubble_perm _ _ _;have g:=getElem?_bubble (xs:=p) (src:=k) (by rw[pp.size];omega) (k-l) (by omega)
  refine u5 O hc f (k+1) _ s1 Q (by omega) (pp.perm pe) (λi j hij hj=>?_) hJ1 λp' s2 x y z w=>q p' s2 x (y.trans pe) z w
  have el:k-(k-l)=l:=by omega
  rw[el] at g;have gd:∀ i,(bubble p k (k-l)).getD i 0=if i=l then p.getD k 0 else if l<i/\i<=k then p.getD (i-1) 0 else p.getD i 0:=λi=>by
   simp only[aUD];rw[g i];split
   . rfl
   . split <;> rfl
  rw[gd i,gd j];by_cases h1:i<l
  . rw[if_neg (by omega),if_neg (by omega)]
    by_cases h2:j=l
    . rw[if_pos h2];exact a i h1
    . rw[if_neg h2];split
      . exact u i (j-1) (by omega) (by omega)
      . exact u i j hij (by omega)
  . by_cases h2:i=l
    . rw[if_pos h2,if_neg (by omega),if_pos (by omega)]
      exact b (j-1) (by omega) (by omega)
    . rw[if_neg h2,if_pos (by omega),if_neg (by omega),if_pos (by omega)]
      exact u (i-1) (j-1) (by omega) (by omega)
theorem aHF(O:eV n lt)(hc:gW n lt cmp J)(hn:2<=n){s:Shared}{Q:Array Nat->Shared->Prop}(hJ:J s)(q:∀ p s',PP n p->p.Perm (List.toArray (List.range n))->dD lt p n->J s'->Q p s'):(kas_sort n).kasWp cmp Q s:=by
 unfold kas_sort;rw[KasT.kasWp_bind];have pp:PP n (List.toArray (List.range n)):=by
  refine ⟨by simp,λk=>?_,λi j hi hj e=>?_⟩
  . simp only[aUD,List.getElem?_toArray,List.getElem?_range];by_cases hk:k<n
    . simp[hk]
    . simp[hk];omega
  . simpa[Array.getD,hi,hj] using e
 refine aHE O hc hn pp hJ λm p s1 a b pp' pe u hJ1=>?_;by_cases h:m<n
 . rw[if_pos h];have em:max m 1=m:=by omega
   rw[em];exact u5 O hc (n-m) m p s1 Q (by omega) pp' u hJ1 λp' s2 x y z w=>q p' s2 x (y.trans pe) z w
 . rw[if_neg h];have em:m=n:=by omega
   subst em;exact q p s1 pp' pe u hJ1
end
def ltT:List Str->List Str->Bool
 | [],[]=>false
 | [],_::_=>true
 | _::_,[]=>false
 | x::xs,y::ys=>if x=y then ltT xs ys else lts x y
theorem mH:∀ a:List Str,ltT a a=false
 | []=>rfl
 | x::xs=>by unfold ltT;rw[if_pos rfl];exact mH xs
theorem mJ:∀ {a b c:List Str},ltT a b=true->ltT b c=true->ltT a c=true
 | [],[],_,h,_=>by cases h
 | [],_::_,[],_,h=>by cases h
 | [],_::_,_::_,_,_=>rfl
 | _::_,[],_,h,_=>by cases h
 | _::_,_::_,[],_,h=>by cases h
 | x::xs,y::ys,z::zs,h1,h2=>by
  unfold ltT at h1 h2 ⊢;by_cases e1:x=y
  . subst e1;rw[if_pos rfl] at h1;by_cases e2:x=z
    . rw[if_pos e2] at h2 ⊢;exact mJ h1 h2
    . rw[if_neg e2] at h2 ⊢;exact h2
  . rw[if_neg e1] at h1;by_cases e2:y=z
    . subst e2;rw[if_neg e1];exact h1
    . rw[if_neg e2] at h2;have h3:=l8 h1 h2;rw[if_neg (λe=>by subst e;rw[j0] at h3;cases h3)]
      exact h3
theorem o8:∀ {a b:List Str},ltT a b=false->ltT b a=false->a=b
 | [],[],_,_=>rfl
 | [],_::_,h,_=>by cases h
 | _::_,[],_,h=>by cases h
 | x::xs,y::ys,h1,h2=>by
  unfold ltT at h1 h2;by_cases e1:x=y
  . subst e1;rw[if_pos rfl] at h1 h2;rw[o8 h1 h2]
  . rw[if_neg e1] at h1;rw[if_neg (λe=>e1 e.symm)] at h2;exact absurd (l9 h1 h2) e1
theorem u6{a b:List Str}(h:ltT a b=true):ltT b a=false:=by
 cases e:ltT b a with
 | false=>rfl
 | true=>have:=mJ h e;rw[mH] at this;cases this
def fX(l:List (List Str)):Prop:=l.Pairwise λx y=>ltT x y=true
theorem u7:∀ {l l':List (List Str)},fX l->fX l'->(∀ y,y∈l↔y∈l')->l=l'
 | [],[],_,_,_=>rfl
 | [],y::_,_,_,m=>nomatch (m y).mpr mcs
 | y::_,[],_,_,m=>nomatch (m y).mp mcs
 | x::l,y::l',h,h',m=>by
  unfold fX at h h';rw[aT9] at h h';have exy:x=y:=by
   rcases aRA.mp ((m x).mp mcs) with e | e
   . exact e
   . rcases aRA.mp ((m y).mpr mcs) with e' | e'
     . exact e'.symm
     . have a:=h.1 y e';have b:=h'.1 x e;rw[u6 a] at b;cases b
  subst exy;refine congrArg _ (u7 h.2 h'.2 λz=>⟨λhz=>?_,λhz=>?_⟩)
  . rcases aRA.mp ((m z).mp (mcm hz)) with e | e
    . subst e;have:=h.1 z hz;rw[mH] at this;cases this
    . exact e
  . rcases aRA.mp ((m z).mpr (mcm hz)) with e | e
    . subst e;have:=h'.1 z hz;rw[mH] at this;cases this
    . exact e
def fY(x:List Str):List (List Str)->List (List Str)
 | []=>[x]
 | y::l=>if ltT x y=true then x::y::l else if x=y then y::l else y::fY x l
theorem o9{x z:List Str}:∀ {l:List (List Str)},z∈fY x l↔z=x\/z∈l
 | []=>by simp[fY]
 | y::l=>by
  unfold fY;split
  . simp
  . split
    . rename_i e;subst e;simp
    . rw[aRA,o9 (l:=l),aRA];constructor
      . rintro (h | h | h)
        . exact .inr (.inl h)
        . exact .inl h
        . exact .inr (.inr h)
      . rintro (h | h | h)
        . exact .inr (.inl h)
        . exact .inl h
        . exact .inr (.inr h)
theorem u8{x:List Str}:∀ {l:List (List Str)},fX l->fX (fY x l)
 | [],_=>aUA _ _
 | y::l,h=>by
  unfold fY;split
  . rename_i e;refine aT9.mpr ⟨λz hz=>?_,h⟩;rcases aRA.mp hz with rfl | hz
    . exact e
    . exact mJ e ((aT9.mp h).1 z hz)
  . split
    . exact h
    . rename_i e1 e2;refine aT9.mpr ⟨λz hz=>?_,u8 (aT9.mp h).2⟩;rcases o9.mp hz with rfl | hz
      . cases e3:ltT y z with
        | true=>rfl
        | false=>exact absurd (o8 (by simpa using e1) e3) e2
      . exact (aT9.mp h).1 z hz
def j7(l:List (List Str)):List (List Str):=l.foldr fY []
theorem u9{z:List Str}:∀ {l:List (List Str)},z∈j7 l↔z∈l
 | []=>Iff.rfl
 | x::l=>by show z∈fY x (j7 l)↔_;rw[o9,u9 (l:=l),aRA]
theorem vA:∀ (l:List (List Str)),fX (j7 l)
 | []=>List.Pairwise.nil
 | x::l=>u8 (vA l)
def iT(h:Heap)(x:Addr)(a:List Str):Prop:=∃ o xs n,h.get? x=some o/\o.cls=.type "tuple" /\ o.data=.seq xs n/\PyProof.Rows.StrsAre xs.toList a
section
variable {prog:Program}{w:World}{A:Around}{E:VSP}{s:Shared}
theorem vB{xs:List Value}{a:Str}{as:List Str}(h:PyProof.Rows.StrsAre xs (a::as)):∃ t xs',xs=.str a t::xs'/\PyProof.Rows.StrsAre xs' as:=by cases h;exact ⟨_,_,rfl,by assumption⟩
theorem vC{bb fin:Bool}{Q:Bool->Shared->Prop}:∀ {a b:List Str} {xs ys:List Value} {i:Nat},PyProof.Rows.StrsAre xs a->PyProof.Rows.StrsAre ys b->fin=decide (xs.length<ys.length)->Q (ltT a b) s->KatLex prog w A bb fin Q (xs.zip ys) i s
 | [],[],xs,ys,i,h1,h2,e,q=>by cases h1;cases h2;subst e;exact q
 | [],b::bs,xs,ys,i,h1,h2,e,q=>by cases h1;cases h2;subst e;exact q
 | a::as,[],xs,ys,i,h1,h2,e,q=>by cases h1;cases h2;subst e;exact q
 | a::as,b::bs,xs,ys,i,h1,h2,e,q=>by
  obtain ⟨u1,xs,rfl,t1⟩:=vB h1;obtain ⟨u2,ys,rfl,t2⟩:=vB h2;rw[aUF];refine kat_cons (eqBool_str (kat_go (λh=>?_) λh=>?_))
  . have e1:a=b:=by simpa using h
    refine kat_yes (vC t1 t2 (by subst e;simp) ?_)
    unfold ltT at q;rw[if_pos e1] at q;exact q
  . have e1:¬ a=b:=by simpa using h
    refine kat_no ?_;unfold ltT at q;rw[if_neg e1] at q;unfold lts at q;rw[ltCps_eq] at q;cases (bb&&i==0) with
    | true=>exact oneLt_str q
    | false=>exact kat_one _ _ (lt_str q)
theorem aHG{x y:Addr}{a b:List Str}{bb:Bool}{Q:Bool->Shared->Prop}(hx:iT s.heap x a)(hy:iT s.heap y b)(q:Q (ltT a b) s):wpAny (model prog w) A (keyLt' (tuples' bb) (.ref x) (.ref y)) Q E s:=by obtain ⟨o1,xs,n1,g1,_,d1,r1⟩:=hx;obtain ⟨o2,ys,n2,g2,_,d2,r2⟩:=hy;exact kat_lt g1 d1 g2 d2 (vC r1 r2 (by simp) q)
def fZ(h:Heap)(vs:List Value)(ts:List (List Str)):Prop:=vs.length=ts.length/\∀ i,i<ts.length->∃ x,vs.getD i .none=.ref x/\iT h x (ts.getD i [])
theorem iT.kept{h h':Heap}{x:Addr}{a:List Str}(t:iT h x a)(k:∀ o,h.get? x=some o->h'.get? x=some o):iT h' x a:=by obtain ⟨o,xs,n,g,r⟩:=t;exact ⟨o,xs,n,k o g,r⟩
theorem vD:∀ {vs:List Value} {ts:List (List Str)},fZ s.heap vs ts->(∀ t∈ts,t≠[])->∃ fs:List Value,KatTups s.heap vs fs/\fs.length=ts.length/\∀ f∈fs,∃ x t,f=.str x t
 | [],[],_,_=>⟨[],trivial,rfl,λf hf=>nomatch hf⟩
 | [],_::_,h,_=>by have:=h.1;simp at this
 | _::_,[],h,_=>by have:=h.1;simp at this
 | v::vs,t::ts,h,ne=>by
  obtain ⟨x,e,o,xs,n,g,c,d,r⟩:=h.2 0 (by simp)
  have e:v=.ref x:=by simpa using e
  subst e;have tail:fZ s.heap vs ts:=⟨by simpa using h.1,λi hi=>by
   have:=h.2 (i+1) (by simpa using hi)
   simpa using this⟩
  obtain ⟨fs,k1,k2,k3⟩:=vD tail λt ht=>ne t (mcm ht);have net:=ne t mcs;have r:PyProof.Rows.StrsAre xs.toList t:=by simpa using r
  obtain ⟨xs⟩:=xs;cases t with
  | nil=>exact absurd rfl net
  | cons a as =>
   simp only at r;cases r with
   | cons r1 =>
    exact ⟨_::fs,⟨⟨x,o,_,n,rfl,g,c,d,rfl⟩,k1⟩,by simp[k2],λf hf=>by
     rcases aRA.mp hf with rfl | hf
     . exact ⟨_,_,rfl⟩
     . exact k3 f hf⟩
theorem aHH{vs:List Value}{ts:List (List Str)}{Q:SortKind->Shared->Prop}(h:fZ s.heap vs ts)(ne:∀ t∈ts,t≠[])(h2:0<ts.length)(q:Q (tuples' true) s):wpAny (model prog w) A (keyKind' vs.toArray) Q E s:=by
 obtain ⟨fs,k1,k2,k3⟩:=vD h ne;refine kat_kind (T:=.type "str") k1 (by omega) (λv hv=>?_) rfl q
 obtain ⟨x,t,rfl⟩:=k3 v hv;exact Looks.of_pure rfl
end
structure Way(ts:List (List Str))(p:List Nat):Prop where
 perm:p.Perm (List.range ts.length)
 up:fX (p.map λi=>ts.getD i [])
theorem pA{α:Type}(d:α):∀ (l:List α),(List.range l.length).map (λi=>l.getD i d)=l:=λl=>by
 apply List.ext_getElem
 . simp
 . intro i h1 h2;simp at h1;simp[h1]
theorem Way.uni{ts:List (List Str)}{p:List Nat}(h:Way ts p):(p.map λi=>ts.getD i [])=j7 ts:=by refine u7 h.up (vA ts) λy=>?_;rw[u9];have:=(h.perm.map λi=>ts.getD i []).mem_iff (a:=y);rw[pA] at this;exact this
section
variable {prog:Program}{w:World}{A:Around}{E:VSP}{s:Shared}
theorem aHI{ts:List (List Str)}(nd:ts.Nodup):eV ts.length λi j=>ltT (ts.getD i []) (ts.getD j []) where
 tr:=λa b=>mJ a b
 asy:=λa=>u6 a
 tot:=λ{i j} hi hj ne=>by
  cases e1:ltT (ts.getD i []) (ts.getD j []) with
  | true=>exact .inl rfl
  | false =>
   cases e2:ltT (ts.getD j []) (ts.getD i []) with
   | true=>exact .inr rfl
   | false =>
    have e:=o8 e1 e2;have e:ts[i]=ts[j]:=by simpa[hi,hj] using e
    exact absurd ((aRD nd).mp e) ne
theorem aHJ{ts:List (List Str)}{p:Array Nat}(pp:PP ts.length p)(pe:p.Perm (List.toArray (List.range ts.length)))(u:dD (λi j=>ltT (ts.getD i []) (ts.getD j [])) p ts.length):Way ts p.toList:=by
 refine ⟨by simpa using aUC.mp pe,?_⟩
 unfold fX;rw[List.pairwise_map];refine List.pairwise_iff_getElem.mpr λi j hi hj hij=>?_;rw[aRI] at hi hj;have:=u i j hij (by rw[<- pp.size];exact hj)
 simpa[Array.getD,hi,hj] using this
theorem aHK{a:Addr}{vs:List Value}{ts:List (List Str)}{n:Nat}{P:PySem.Fin->Shared->Prop}(ho:s.heap.get? a=some (seqObj "list" vs.toArray n))(hv:fZ s.heap vs ts)(nd:ts.Nodup)(ne:ts.length<=1\/∀ t∈ts,t≠[])(h64:ts.length<64)(h:∀ p,Way ts p->P (.done (.ret .none)) { s with heap:=sortedHeap s.heap a vs (p.map λi=>vs.getD i .none).toArray }):wpAny (model prog w) A (Builtin.«list.sort» ⟨[.ref a],[]⟩) P E s:=by
 have lv:=hv.1;have la:a<s.heap.objs.size:=aQ1 ho;rw[list_sort_plain];refine aRL (listItems_at ho rfl (aRL (listUpdate_at ho rfl ?_ (by rw[aRU,aRT];omega) (aR5 _))))
 obtain ⟨e1,ho1⟩:∃ c,(s.heap.update a (Obj.mapSeq λ_=>(#[]:Array Value))).get? a=some (seqObj "list" #[] c):=⟨_,get?_update_seq ho λ_=>#[]⟩;refine aRL (seqEpoch_at ho1 rfl (aRL (wpAny_newTuple (aRL (wpAny_newList (aSN ?_) (aR5 _))) (by show vs.length<=_;rw[aRT];omega))))
 have old:∀ b o,b≠a->s.heap.get? b=some o->(((s.heap.update a (Obj.mapSeq λ_=>(#[]:Array Value))).push (seqObj "tuple" vs.toArray 0)).push (seqObj "list" #[] 0)).get? b=some o:=λb o hb e =>
  hps (hps ((Heap.get?_update_ne _ _ _ _ hb).trans e))
 have ho2:(((s.heap.update a (Obj.mapSeq λ_=>(#[]:Array Value))).push (seqObj "tuple" vs.toArray 0)).push (seqObj "list" #[] 0)).get? a=some (seqObj "list" #[] e1):=hps (hps ho1);have hv2:fZ (((s.heap.update a (Obj.mapSeq λ_=>(#[]:Array Value))).push (seqObj "tuple" vs.toArray 0)).push (seqObj "list" #[] 0)) vs ts:=⟨lv,λi hi=>by
  obtain ⟨x,e,t⟩:=hv.2 i hi;refine ⟨x,e,t.kept λo eo=>old x o (λz=>?_) eo⟩;obtain ⟨o,xs,m,g,c,d,_⟩:=t;rw[z,ho] at g;cases g;have c:Value.type "list" = .type "tuple" := c;injection c with c
  exact absurd c (by decide)⟩
 have fin:=h;show wpAny (model prog w) A _ P E { s with heap:=((s.heap.update a (Obj.mapSeq λ_=>(#[]:Array Value))).push (seqObj "tuple" vs.toArray 0)).push (seqObj "list" #[] 0) }
 dsimp only;by_cases hs:vs.toArray.size<2
 . rw[if_pos hs,if_pos hs];rw[aRU] at hs;refine aRL (aRK ?_);rw[StateT.run_pure];refine aRL (aRK ?_);have w0:Way ts (List.range ts.length):=⟨List.Perm.refl _,by
     rw[pA]
     match ts,lv with
     | [],_=>exact List.Pairwise.nil
     | [t],_=>exact aUA _ _
     | _::_::_,lv=>simp at lv;omega⟩
   have ev:((List.range ts.length).map λi=>vs.getD i Value.none).toArray=(arrOf (SortSt.mk' general' (vs.toArray.zip vs.toArray) #[] 7 none)).map (·.2):=by
    rw[<- lv,pA];show vs.toArray=(vs.toArray.zip vs.toArray).map (·.2);apply Array.ext
    . simp
    . intro i h1 h2;simp
   have w1:=fin _ w0;rw[ev] at w1;refine aRL (seqEpoch_at ho2 rfl (aRL (listUpdate_at ho2 rfl ?_ (aR5 _) (by rw[<- ev,aRU,aR2,aUG,aRT];omega))))
   simp only[bne_self_eq_false,aTO,aSK];exact aRK w1
 . rw[if_neg hs,if_neg hs];rw[aRU] at hs;have ne:∀ t∈ts,t≠[]:=ne.resolve_left (by omega)
   refine aRL (aHH (s:={ s with heap:=((s.heap.update a (Obj.mapSeq λ_=>(#[]:Array Value))).push (seqObj "tuple" vs.toArray 0)).push (seqObj "list" #[] 0) }) hv2 ne (by omega) ?_)
   have ask:gW ts.length (λi j=>ltT (ts.getD i []) (ts.getD j [])) (kas_ask prog w A (tuples' true) vs) (λs'=>s'={ s with heap:=((s.heap.update a (Obj.mapSeq λ_=>(#[]:Array Value))).push (seqObj "tuple" vs.toArray 0)).push (seqObj "list" #[] 0) }):=λi j s' C hi hj hJ q=>by subst hJ;unfold kas_ask;obtain ⟨x,e1,t1⟩:=hv2.2 i hi;obtain ⟨y,e2,t2⟩:=hv2.2 j hj;rw[e1,e2];exact aHG t1 t2 (q _ rfl)
   refine aRL (aRG (kat_run (ks:=vs) (vs:=vs) (κ:=tuples' true) (Q:=λst' s'=>s'=_/\∃ p:Array Nat,PP ts.length p/\p.Perm (List.toArray (List.range ts.length))/\dD (λi j=>ltT (ts.getD i []) (ts.getD j [])) p ts.length/\arrOf st'=p.map (kas_item (vs.toArray.zip vs.toArray))/\failedOf st'=none)
    (G:=λp s'=>s'=_/\PP ts.length p/\p.Perm (List.toArray (List.range ts.length))/\dD (λi j=>ltT (ts.getD i []) (ts.getD j [])) p ts.length) rfl (by omega) (by omega)
    (λp st' s' a1 a2 a3 a4=>⟨a4.1,p,a4.2.1,a4.2.2.1,a4.2.2.2,a2,a3⟩) (by rw[lv];exact aHF (aHI nd) ask (by omega) rfl λp s' b1 b2 b3 b4=>⟨b4,b1,b2,b3⟩)) ?_ λ_ _ e=>e)
   rintro ⟨⟨⟩,st'⟩ s' ⟨rfl,p,pp,pe,u,ea,ef⟩;have w1:=fin _ (aHJ pp pe u);have ev:=kat_snds (vs:=vs) rfl ea;rw[<- ev] at w1;refine aRL (seqEpoch_at ho2 rfl (aRL (listUpdate_at ho2 rfl ?_ (aR5 _) (by rw[ev,aRU,aR2,aRI,pp.size,aRT];omega))))
   rw[ef];simp only[bne_self_eq_false,aTO,aSK];exact aRK w1
theorem aHL{l:Addr}{vs:List Value}{ts:List (List Str)}{Q:VSP}(hl:s.heap.IsList l vs.toArray)(hv:fZ s.heap vs ts)(nd:ts.Nodup)(ne:ts.length<=1\/∀ t∈ts,t≠[])(h64:ts.length<64)(h:∀ p,Way ts p->Q (.ref (s.heap.objs.size+1)) { s with heap:=sortedAll s.heap vs (p.map λi=>vs.getD i .none).toArray }):wpAny (model prog w) A (call (.builtin "sorted") [.ref l]) Q E s:=by
 have lv:=hv.1;refine Calls.call_function_entry kind_sorted plain_sorted entry_sorted (args_sorted1 (.ref l)) ?_;unfold Builtin.«sorted»;refine aRL (m:=checkCount "sorted" 1 1 [Value.ref l].length) (aRK (aRL (collect_list hl (aRL (wpAny_newList ?_ (by rw[aRT];omega))) (by rw[aRT];omega))))
 have z1:((s.heap.push (seqObj "list" #[] 0)).update s.heap.objs.size (Obj.mapSeq (·++vs.toArray))).objs.size=s.heap.objs.size+1:=(Heap.size_update ..).trans (size_push' ..);have g1:(((s.heap.push (seqObj "list" #[] 0)).update s.heap.objs.size (Obj.mapSeq (·++vs.toArray))).push (seqObj "list" vs.toArray 0)).get? (s.heap.objs.size+1)=some (seqObj "list" vs.toArray 0):=z1 ▸ aQ0 _ rfl;have k1:∀ b o,s.heap.get? b=some o->(((s.heap.push (seqObj "list" #[] 0)).update s.heap.objs.size (Obj.mapSeq (·++vs.toArray))).push (seqObj "list" vs.toArray 0)).get? b=some o:=λb o e =>
  hps ((Heap.get?_update_ne _ _ _ _ (aQ4 (aQ1 e))).trans (hps e))
 have hv1:fZ (((s.heap.push (seqObj "list" #[] 0)).update s.heap.objs.size (Obj.mapSeq (·++vs.toArray))).push (seqObj "list" vs.toArray 0)) vs ts:=⟨lv,λi hi=>by
  obtain ⟨x,e,t⟩:=hv.2 i hi;exact ⟨x,e,t.kept λo eo=>k1 x o eo⟩⟩
 show wpAny _ _ _ _ _ { s with heap:=((s.heap.push (seqObj "list" #[] 0)).update s.heap.objs.size (Obj.mapSeq (·++vs.toArray))).push (seqObj "list" vs.toArray 0) }
 rw[z1];exact aRL (aSN (aSQ slot_list_sort ⟨_,g1,rfl⟩ entry_list_sort (aHK (s:={ s with heap:=((s.heap.push (seqObj "list" #[] 0)).update s.heap.objs.size (Obj.mapSeq (·++vs.toArray))).push (seqObj "list" vs.toArray 0) }) g1 hv1 nd ne h64 λp wp=>⟨_,rfl,aRK ⟨_,rfl,h p wp⟩⟩) (args_list_sort _)))
end
def encT(t:List Str):D:=.tup (t.map .str)
def ttD:List D->Option (List (List Str))
 | []=>some []
 | d::ds=>match txT d,ttD ds with
  | some t,some ts=>some (t::ts)
  | _,_=>none
def pB(ts:List (List Str)):Bool:=decide ts.Nodup&&(decide (ts.length<=1)||ts.all λt=>!t.isEmpty)&&decide (ts.length<64)
def gX:List (Md×D)->Option (Md×D)
 | [(_,.lst ds)]=>match ttD ds with
  | some ts=>if pB ts=true then some (.fr,.lst ((j7 ts).map encT)) else none
  | none=>none
 | _=>none
theorem vE{K:Fg}{F:Hp}:∀ {ds:List D} {xs:List V} {ts:List (List Str)},ttD ds=some ts->aC K F ds xs->xs.length=ts.length/\∀ i,i<ts.length->∃ a,xs.getD i .non=.ref a/\SqT K F a ((ts.getD i []).map V.str)/\aB K F (encT (ts.getD i [])) (xs.getD i .non)
 | [],xs,ts,e,r=>by cases e;simp only[aC] at r;subst r;exact ⟨rfl,λi hi=>by simp at hi⟩
 | d::ds,xs,ts,e,r=>by
  simp only[aC] at r;obtain ⟨y,ys,rfl,r1,r2⟩:=r;unfold ttD at e;cases e1:txT d with
  | none=>rw[e1] at e;cases e
  | some t =>
   cases e2:ttD ds with
   | none=>rw[e1,e2] at e;cases e
   | some us =>
    rw[e1,e2] at e;cases e;obtain ⟨l,h⟩:=vE e2 r2;refine ⟨by simp[l],λi hi=>?_⟩
    cases i with
    | zero =>
     cases d with
     | tup es=>have e1:txD es=some t:=e1;have r3:=r1;simp only[aB] at r3;obtain ⟨a,zs,rfl,q,rl⟩:=r3;obtain ⟨rfl,_⟩:=mD e1 rl;have ee:=(j6 e1).1;subst ee;exact ⟨a,rfl,q,r1⟩
     | _=>cases e1
    | succ i =>
     have:=h i (by simpa using hi)
     simpa using this
theorem vF{α:Type}{K:Fg}{F:Hp}{f:α->D}{g:α->V}:∀ {q:List α},(∀ i∈q,aB K F (f i) (g i))->aC K F (q.map f) (q.map g)
 | [],_=>aC.nil
 | i::q,h=>aC.cons (h i mcs) (vF λj hj=>h j (mcm hj))
theorem vG{α:Type}{g:α->V}{u:α->Value}:∀ {q:List α},(∀ i∈q,aJ (g i) (u i))->aM (q.map g) (q.map u)
 | [],_=>.nil
 | i::q,h=>.cons (h i mcs) (vG λj hj=>h j (mcm hj))
theorem pC:∀ {xs:List V} {us:List Value} {i:Nat},aM xs us->i<xs.length->aJ (xs.getD i .non) (us.getD i .none)
 | [],_,i,h,e=>by simp at e
 | x::xs,_,0,h,e=>by cases h with | cons r t=>exact r
 | x::xs,_,i+1,h,e=>by
  cases h with
  | cons r t =>
   have:=pC (i:=i) t (by simpa using e)
   simpa using this
section
variable {X:Cx}
def rSrtT(K:Fg):List V->Hp->VK->Prop:=λxs H Q=>∃ (p:Addr) (vs:List V) (ts:List (List Str)),xs=[.ref p]/\SqL K H p vs/\vs.length=ts.length/\(∀ i,i<ts.length->∃ a,vs.getD i .non=.ref a/\SqT K H a ((ts.getD i []).map V.str)) /\
 pB ts=true/\∀ l q,H l=none->Way ts q->Q (.ref l) (upd H l (.lst (q.map λi=>vs.getD i .non)))
theorem aHM:cC X (.builtin "sorted") (rSrtT X.K):=by
 intro aA s σ H xs us Q I r h;obtain ⟨p,vs,ts,rfl,hp,lv,hv,ok,q⟩:=h;obtain ⟨u,rfl,rx⟩:=cO r;cases rx;obtain ⟨its,rv,pl,_⟩:=I.list hp;unfold pB at ok;simp only[aSR,aS6,aS4,aTD] at ok;obtain ⟨⟨nd,ne⟩,h64⟩:=ok;have lz:its.length=vs.length:=rv.length.symm;have ta:fZ s.heap its ts:=⟨by omega,λi hi=>by
  obtain ⟨a,e,sq⟩:=hv i hi;have rr:=pC rv (i:=i) (by omega)
  rw[e] at rr;have rr:its.getD i .none=.ref a:=rr;obtain ⟨js,rj,⟨o,eo,co,_,n,ed⟩,_⟩:=SqT.plain I sq;exact ⟨a,rr,o,_,n,eo,co,ed,by simpa using jP rj⟩⟩
 refine aHL pl.isList ta nd (ne.imp id λh t ht e=>by have:=h t ht;rw[e] at this;cases this) h64 λw wp=>?_
 obtain ⟨e,he⟩:=sortedAll_at s.heap its (w.map λi=>its.getD i .none).toArray;have wl:w.length=ts.length:=by rw[wp.perm.length_eq,aUG]
 have le:(w.map λi=>vs.getD i V.non).length<=sizeLine:=by rw[aR2,wl,aRT];omega
 have rv2:aM (w.map λi=>vs.getD i V.non) (w.map λi=>its.getD i Value.none):=vG λi hi=>pC rv (by
  have:=wp.perm.mem_iff.mp hi;rw[aQ7] at this;omega)
 exact ⟨.ref (s.heap.objs.size+1),_,I.laid (t':=s.toks) (λb o e=>sortedAll_old e) (aTT _) (show bL X.prog X.w _ _ _ (.lst (w.map λi=>vs.getD i V.non)) from ⟨le,_,e,rv2,he⟩),rfl,q _ w (I.hok.fresh (aTT _)) wp⟩
theorem aHN:aZ X (.builtin "sorted") gX:=by
 refine ⟨_,aHM,λF H xs vs k d Q s rx e w=>?_⟩;unfold gX at e;split at e
 . rename_i m ds;split at e
   . rename_i ts en;split at e
     . rename_i hc;cases e;obtain ⟨v,rfl,r⟩:=rx.one;obtain ⟨a,xs,rfl,q,rl⟩:=r.seqL s;obtain ⟨lx,hx⟩:=vE en rl;refine ⟨a,xs,ts,rfl,q,lx,λi hi=>?_,hc,λl p hl wp=>w (.ref l) F _ (aI.fresh _ s hl) ⟨l,rfl,s.free hl,_,bI,?_⟩ λ_ a ea=>by cases ea;exact hl⟩
       . obtain ⟨a,e1,e2,_⟩:=hx i hi;exact ⟨a,e1,aD.seqT s e2⟩
       . rw[<- wp.uni,aUH];refine vF λi hi=>?_;have:=wp.perm.mem_iff.mp hi;rw[aQ7] at this;obtain ⟨_,_,_,e3⟩:=hx i this;exact e3
     . cases e
   . cases e
 . cases e
end
end D3
namespace D3
open PySem PySem.Spec PyProof.Rows L2 PySem.SeqAt PySem.MeetsSeq
abbrev vH:Md->D->Md->D->Option (Md×D):=fI (λ_ _=>true) λi j=>.int (Builtin.bitAnd i j)
abbrev fBor:Md->D->Md->D->Option (Md×D):=fI (λ_ _=>true) λi j=>.int (Builtin.bitOr i j)
abbrev fShl:Md->D->Md->D->Option (Md×D):=fI (λi j=>decide (0<=j)&&decide (j<=1000000)&&decide (i.natAbs<2 ^ 64)) λi j=>.int (i * 2 ^ j.toNat)
abbrev fShr:Md->D->Md->D->Option (Md×D):=fI (λ_ j=>decide (0<=j)) λi j=>.int (i / 2 ^ j.toNat)
section
variable {C:Cw}{X:Cx}
theorem aHO:OpD C X (binaryOp .BitAnd) vH:=fN aAO λ_ _ i j=>bQ _
theorem aHP:OpD C X (binaryOp .BitOr) fBor:=fN op_or λ_ _ i j=>bQ _
theorem aHQ:OpD C X (binaryOp .LShift) fShl:=hW aAM (λi j h=>by
 simp only[aSR,aS4] at h;exact ⟨h.1.1,h.1.2,h.2⟩) λ_ _ i j=>bQ _
theorem aHR:OpD C X (binaryOp .RShift) fShr:=hW aAN (λi j h=>aS5 h) λ_ _ i j=>bQ _
def inD:List D->Option (List Int)
 | []=>some []
 | .int i::ds=>(inD ds).map (i :: ·)
 | _::_=>none
theorem vI{K:Fg}{F:Hp}:∀ {ds:List D} {xs:List V} {ns:List Int},inD ds=some ns->aC K F ds xs->xs=ns.map V.int
 | [],xs,ns,e,r=>by cases e;simp only[aC] at r;rw[r];rfl
 | d::ds,xs,ns,e,r=>by
  cases d with
  | int i =>
   unfold inD at e;cases h:inD ds with
   | none=>rw[h] at e;cases e
   | some ms=>rw[h] at e;cases e;simp only[aC,aB] at r;obtain ⟨y,ys,rfl,rfl,r⟩:=r;rw[vI h r];rfl
  | _=>simp[inD] at e
theorem vJ(g:Nat->Int)(k:Nat):preSum g (k+1)=preSum g k+g k:=rfl
theorem vK{g:Nat->Int}:∀ (k:Nat),preSum g (k+1)=g 0+preSum (λi=>g (i+1)) k
 | 0=>by show preSum g 0+g 0=g 0+0;show (0:Int)+g 0=_;omega
 | k+1=>by rw[vJ g (k+1),vK k,vJ (λi=>g (i+1)) k];omega
theorem vL:∀ (ns:List Int),preSum (λi=>ns.getD i 0) ns.length=ns.sum
 | []=>rfl
 | n::ns=>by rw[aRZ,vK,List.sum_cons,<- vL ns];rfl
def iU:List (Md×D)->Option (Md×D)
 | [(_,.lst ds)]=>(inD ds).map λns=>(.fz,.int ns.sum)
 | _=>none
theorem aHS(hc:X.calm=true):aZ X (.builtin "sum") iU:=by
 refine ⟨_,u3 hc,λF H xs vs k d Q s rx e w=>?_⟩;unfold iU at e;split at e
 . rename_i m ds;cases en:inD ds with
   | none=>rw[en] at e;cases e
   | some ns=>rw[en] at e;cases e;obtain ⟨v,rfl,r⟩:=rx.one;obtain ⟨a,xs,rfl,q,rl⟩:=r.seqL s;obtain rfl:=vI en rl;exact ⟨a,ns,rfl,q,by rw[vL];exact w (.int ns.sum) F H (.refl s) (bQ _) (by intro z;cases z)⟩
 . cases e
end
section
variable {X:Cx}{o e:Expr}{apos cpos:Pos}{td ty:TE}
end
section
variable {C:Cw}{X:Cx}{o e:Expr}{apos cpos:Pos}{go g:Rho->Res}
end
end D3
namespace D3
open PySem PySem.Spec PyProof.Rows L2
section
variable {C:Cw}{X:Cx}{pos:Pos}{scope:Scope}{aE:List Nat}{aH:List Str}{x d m:Str}{p0 p1 p2 p3 p4 p5 p6 p7 p8 p9:Pos}{i j jd jm k0:Nat}
theorem aHT:aZ X (.builtin "sorted") (aZ.or' fW gX):=aZ.or aG9 aHN
theorem aHU(hc:X.calm=true):aZ X (.builtin "sum") (aZ.or' iS iU):=aZ.or (aHA hc) (aHS hc)
end
end D3
namespace L2
open PySem PySem.Spec PyProof.Rows D3
end L2
namespace D3
open PySem PySem.Spec PyProof.Rows L2
section
variable {C:Cw}{X:Cx}{pos:Pos}
end
abbrev Rise(xs:Array Nat):Prop:=xs.toList.Pairwise (· < ·)
def PlOk(t:SetTable):Prop:=t.plain=false\/(t.dummies = #[]/\Rise t.place)
def EntI(w:World):List Int->List (Int×Value)->Prop
 | [],l=>l=[]
 | x::xs,l=>∃ t r,l=(hashInt x,.int x t)::r/\EntI w xs r
def SetI(w:World)(h:Heap)(a:Addr)(xs:List Int):Prop:=∃ o es ep t,h.get? a=some o/\o.ExactSet/\o.data=.set es ep t/\EntI w xs es.toList/\xs.Nodup/\xs.length<scanBound/\t.fits es.size=true/\t.led = !oW w/\PlOk t
section
variable {prog:Program}{w:World}{A:Around}{E:VSP}{s:Shared}
end
section
variable {prog:Program}{w:World}{A:Around}{E:VSP}{s:Shared}
end
section
variable {prog:Program}{w:World}{A:Around}{E:VSP}{s:Shared}
end
section
variable {prog:Program}{w:World}{A:Around}{E:VSP}{s:Shared}
variable {I a:Addr}{ep:Nat}{o:Obj}{es:Array (Int×Value)}{t:SetTable}
end
section
variable {prog:Program}{w:World}{A:Around}{E:VSP}{s:Shared}{a:Addr}{xs:List Int}
end
section
variable {X:Cx}
end
section
variable {C:Cw}{X:Cx}{ga:Rho->Res}{ea:Expr}{p p1 q1 pos:Pos}
end
section
variable {C:Cw}{X:Cx}{e:Expr}{es:List Expr}{gs:Rho->aG}{p pos:Pos}{x:Str}{k n:Nat}{Φ:List D->Res}{CX:CXT}
end
section
variable {C:Cw}{X:Cx}{e ke:Expr}{g gk:Rho->Res}{x:Str}{p ap cp sp pos:Pos}
end
section
open PySem.SeqAt
open PySem.AutoSeq1 (wpAny_loadPart')
open PySem.MeetsSeq PySem.MeetsSeq2 PySem.MeetsSeq3
variable {prog:Program}{w:World}{A:Around}{E:VSP}{s:Shared}
end
section
variable {prog:Program}{w:World}{A:Around}{E:VSP}{s:Shared}
end
section
variable {prog:Program}{w:World}{K:Type}[DecidableEq K]{knd:KeyKind prog w K}{A:Around}{E:VSP}{s:Shared}
end
section
variable {C:Cw}{X:Cx}{ga gb:Rho->Res}{ea eb:Expr}{p p1 q1 pos:Pos}
end
end D3
namespace D3
open PySem PySem.Spec PySem.Calls PyProof.Rows L2
def j8(ra rk rd:Res):Res:=ra.thn λ_ da=>match da with
 | .dct kvs=>rk.thn λ_ dk=>(bB rd).thn λm d=>(match m,fP dk with
  | .fz,some k=>.ok .fz ((eU kvs k).getD d)
  | _,_=>.stuck)
 | _=>.stuck
section
variable {C:Cw}{X:Cx}{o e f:Expr}{go ge gf:Rho->Res}{apos cpos:Pos}
theorem aHV(hu:X.A.units+1<cLine)(ho:PV C X o go)(he:PV C X e ge)(hf:PV C X f gf)(m:M2 X o "get" apos e f cpos):PV C X (.Call (.Attribute o "get" apos) [e,f] [] cpos) (λρ=>j8 (go ρ) (ge ρ) (gf ρ)):=by
 refine PE.imp (aCQ hu ho he (fO hf) m) λσ H Q q=>?_;unfold tE;rw[aU] at q ⊢;obtain ⟨ρ,F,R,w⟩:=q;refine ⟨ρ,F,R,?_⟩;unfold j8 at w;cases ea:go ρ with
 | stuck=>rw[ea] at w;exact w
 | exc c=>rw[ea] at w;exact w
 | ok ma da =>
  rw[ea,Res.thn_ok] at w;intro v F1 H1 s1 r1 _;have w1:=aS.step s1 w;cases da with
  | dct kvs =>
   dsimp only at w1;obtain ⟨a,xs,rfl,hh,rk⟩:=r1.dict s1.sub;refine ⟨a,rfl,.inl ⟨xs,.inl hh⟩,?_⟩;rw[aU];refine ⟨ρ,F1,R.step s1,?_⟩;cases ek:ge ρ with
   | stuck=>rw[ek] at w1;exact w1
   | exc c=>rw[ek] at w1;exact w1
   | ok mk dk =>
    rw[ek,Res.thn_ok] at w1;intro y F2 H2 s2 r2 _;have w2:=aS.step s2 w1;rw[aU];refine ⟨ρ,F2,(R.step s1).step s2,?_⟩;cases ed:bB (gf ρ) with
    | stuck=>rw[ed] at w2;exact w2
    | exc c=>rw[ed] at w2;exact w2
    | ok md d =>
     rw[ed,Res.thn_ok] at w2;intro z F3 H3 s3 r3 _;have w3:=aS.step s3 w2;have hm:md=.fz:=uS ed;subst hm;cases ek2:fP dk with
     | none=>rw[ek2] at w3;exact w3.elim
     | some k =>
      rw[ek2] at w3;dsimp only at w3;have r1':=(r1.step s2).step s3;have r2':=r2.step s3;obtain ⟨a',xs',ea',hh',rk',g⟩:=aG1 s3.sub r1' r2' ek2;cases ea';refine ⟨_,g,?_⟩;have hv:=aF.val k rk';cases eg:eU kvs k with
      | none=>rw[eg] at hv w3;rw[hv];exact w3 z F3 H3 (.refl s3.sub) r3 (by intro z;cases z)
      | some d'=>rw[eg] at hv w3;obtain ⟨v',ev,rv⟩:=hv;rw[ev];exact w3 v' F3 H3 (.refl s3.sub) rv (by intro z;cases z)
  | _=>exact w1.elim
end
end D3
namespace PySem
open Sem (wp)
section
variable {prog:Program}{w:World}{A:Around}{E:VSP}{s:Shared}
end
end PySem
namespace L2
open PySem PySem.Spec PyProof.Rows
section
variable {X:Cx}{tg:Expr}
end
end L2
namespace D3
open PySem PySem.Spec PySem.Calls PyProof.Rows L2
section
variable {C:Cw}{X:Cx}{tg:Expr}{gs:Rho->aG}{p pos:Pos}
end
def f6(ρ:Rho):List ((Rho->Res)×(Rho->Res))->List (Key×D)->Res
 | [],acc=>if acc.length<=15 then .ok .fr (.dct (acc.foldl (λa kv=>jZ a kv.1 kv.2) [])) else .stuck
 | (gk,gv)::r,acc=>(gk ρ).thn λ_ dk=>(bB (gv ρ)).thn λm d=>(match m,fP dk with
  | .fz,some k=>f6 ρ r (acc++[(k,d)])
  | _,_=>.stuck)
def kvf(kv:Key×V):V×V:=(kV kv.1,kv.2)
theorem aF.snocX{K:Fg}{F:Hp}{k:Key}{d:D}{v:V}:∀ {kvs:List (Key×D)} {xs:List (Key×V)},aF K F kvs xs->aB K F d v->aF K F (kvs++[(k,d)]) (xs++[(k,v)])
 | [],xs,h,r=>by simp only[aF] at h;subst h;show aF K F [(k,d)] [(k,v)];simp only[aF];exact ⟨v,[],rfl,r,rfl⟩
 | (k',d')::kvs,xs,h,r=>by simp only[aF] at h;obtain ⟨y,ys,rfl,q,t⟩:=h;show aF K F ((k',d')::(kvs++[(k,d)])) ((k',y)::(ys++[(k,v)]));simp only[aF];exact ⟨y,_,rfl,q,aF.snocX t r⟩
theorem aF.fold{K:Fg}{F:Hp}:∀ {kvs:List (Key×D)} {xs:List (Key×V)} {a:List (Key×D)} {b:List (Key×V)},aF K F kvs xs->aF K F a b->aF K F (kvs.foldl (λa kv=>jZ a kv.1 kv.2) a) (xs.foldl (λacc kv=>cF acc kv.1 kv.2) b)
 | [],xs,a,b,h,q=>by simp only[aF] at h;subst h;exact q
 | (k,d)::kvs,xs,a,b,h,q=>by simp only[aF] at h;obtain ⟨y,ys,rfl,r,t⟩:=h;exact aF.fold (kvs:=kvs) (xs:=ys) t (q.put r)
theorem aF.lenX{K:Fg}{F:Hp}:∀ {kvs:List (Key×D)} {xs:List (Key×V)},aF K F kvs xs->xs.length=kvs.length
 | [],xs,h=>by simp only[aF] at h;subst h;rfl
 | (k,d)::kvs,xs,h=>by simp only[aF] at h;obtain ⟨y,ys,rfl,_,t⟩:=h;rw[aRZ,aRZ,aF.lenX t]
theorem aF.monoX{K:Fg}{F F':Hp}(s:aD F F'):∀ {kvs:List (Key×D)} {xs:List (Key×V)},aF K F kvs xs->aF K F' kvs xs
 | [],xs,h=>by simpa only [aF] using h
 | (k,d)::kvs,xs,h=>by simp only[aF] at h ⊢;obtain ⟨y,ys,e,r,t⟩:=h;exact ⟨y,ys,e,aB.mono s _ _ r,aF.monoX s t⟩
section
variable {C:Cw}{X:Cx}{pos:Pos}
theorem vM{F H:Hp}{σ:L2.St}{ρ:Rho}{p:Addr}{Q:VK}(hp:H p=none):∀ (gs:List ((Rho->Res)×(Rho->Res))) (acc:List (Key×D)) (xs:List (Key×V)) (F1 H1:Hp),aX C.K C.F0 C.H0 F1 H1 σ ρ->aI F H F1 H1->F1 p=none->H1 p=some (.dK [])->aF C.K F1 acc xs->aS C F H σ (f6 ρ gs acc) Q->lL (gs.map λg=>(tG C g.1,tG C λρ=>bB (g.2 ρ))) σ H1 (λps H2=>H2 p=some (.dK [])/\∃ kvs:List (Key×V),xs.map kvf++ps=kvs.map kvf/\kvs.length<=15/\Q (.ref p) (upd H2 p (.dK (fM [] kvs))))
 | [],acc,xs,F1,H1,R,st,hf,hh,rk,w=>by
  unfold f6 at w;show H1 p=some (.dK [])/\_;split at w
  . rename_i hl;refine ⟨hh,xs,by rw[aR7],by rw[rk.lenX];exact hl,?_⟩
    exact w (.ref p) F1 _ (st.upd hp hf) ⟨p,rfl,hf,_,bI,aF.fold rk (by simp only[aF])⟩ λ_ a ea=>by cases ea;exact hp
  . exact w.elim
 | (gk,gv)::r,acc,xs,F1,H1,R,st,hf,hh,rk,w=>by
  unfold f6 at w;show tG C gk σ H1 _;rw[aU];refine ⟨ρ,F1,R,?_⟩;cases ek:gk ρ with
  | stuck=>rw[ek] at w;exact w.elim
  | exc c=>rw[ek] at w;exact λF' H' s'=>w F' H' (st.trans s')
  | ok mk dk =>
   rw[ek,Res.thn_ok] at w;intro u F2 H2 s2 r2 _;have hh2:H2 p=some (.dK []):=s2.same _ _ hh;have hf2:F2 p=none:=s2.new p hf (by rw[hh];exact λz=>nomatch z)
   show tG C (λρ=>bB (gv ρ)) σ H2 _;rw[aU];refine ⟨ρ,F2,R.step s2,?_⟩;cases ev:bB (gv ρ) with
   | stuck=>rw[ev] at w;exact w.elim
   | exc c=>rw[ev] at w;exact λF' H' s'=>w F' H' ((st.trans s2).trans s')
   | ok md d =>
    rw[ev,Res.thn_ok] at w;have hm:md=.fz:=uS ev;subst hm;intro v F3 H3 s3 r3 _;have hh3:H3 p=some (.dK []):=s3.same _ _ hh2;have hf3:F3 p=none:=s3.new p hf2 (by rw[hh2];exact λz=>nomatch z)
    cases e2:fP dk with
    | none=>rw[e2] at w;exact w.elim
    | some k =>
     rw[e2] at w;dsimp only at w;have eu:u=kV k:=n5 e2 r2;subst eu;have ih:=vM hp r (acc++[(k,d)]) (xs++[(k,v)]) F3 H3 ((R.step s2).step s3) ((st.trans s2).trans s3) hf3 hh3 (aF.snocX (rk.monoX (s2.fsame.trans s3.fsame)) r3) w;have key:(λps H2=>H2 p=some (HO.dK [])/\∃ kvs:List (Key×V),(xs++[(k,v)]).map kvf++ps=kvs.map kvf/\kvs.length<=15/\Q (.ref p) (upd H2 p (.dK (fM [] kvs))))=λps H2=>H2 p=some (HO.dK [])/\∃ kvs:List (Key×V),xs.map kvf++((kV k,v)::ps)=kvs.map kvf/\kvs.length<=15/\Q (.ref p) (upd H2 p (.dK (fM [] kvs))):=by funext ps H2;rw[List.map_append,List.append_assoc];rfl
     rw[key] at ih;exact ih
theorem aHW{keys:List (Option Expr)}{values:List Expr}{gs:List ((Rho->Res)×(Rho->Res))}(h:PPs X pos keys values (gs.map λg=>(tG (C.at X) g.1,tG (C.at X) λρ=>bB (g.2 ρ))))(hall:keys.all (·.isSome)=true)(hl:keys.length=values.length)(h0:keys≠[])(h15:keys.length<=15):PV C X (.Dict keys values pos) (λρ=>f6 ρ gs []):=by refine PE.imp (aCN h hall hl h0 h15) λσ H Q q=>?_;rw[aU] at q;obtain ⟨ρ,F,R,w⟩:=q;intro p hp;have s0:aI F H F (upd H p (.dK [])):=aI.fresh _ R.sub hp;exact vM (C:=C.at X) hp gs [] [] F (upd H p (.dK [])) (R.step s0) s0 (R.sub.free hp) bI (by simp only[aF]) w
theorem vN:∀ {xs ys:List Expr} {fs gs:List (Rho->Res)},PVL C X xs fs->PVL C X ys gs->xs.length=ys.length->PPs X pos (xs.map some) ys ((fs.zip gs).map λg=>(tG (C.at X) g.1,tG (C.at X) λρ=>bB (g.2 ρ)))
 | _,_,_,_,.nil,.nil,_=>aCL
 | _,_,_,_,.nil,.cons _ _,h=>by simp at h
 | _,_,_,_,.cons _ _,.nil,h=>by simp at h
 | _,_,_,_,.cons hk rk,.cons hv rv,h=>aCM hk (fO hv) (vN rk rv (by simpa using h))
theorem vO:∀ {ks:List (Option Expr)},ks.all (·.isSome)=true->(ks.filterMap id).map some=ks
 | [],_=>rfl
 | none::_,h=>by simp at h
 | some x::ks,h=>by
  have:ks.all (·.isSome)=true:=by simpa using h
  show some x::(ks.filterMap id).map some=_;rw[vO this]
theorem aHX{keys:List (Option Expr)}{values:List Expr}{fs gs:List (Rho->Res)}(hk:PVL C X (keys.filterMap id) fs)(hv:PVL C X values gs)(hall:keys.all (·.isSome)=true)(hl:keys.length=values.length)(h0:keys≠[])(h15:keys.length<=15):PV C X (.Dict keys values pos) (λρ=>f6 ρ (fs.zip gs) []):=by
 have e:=vO hall;have hl':(keys.filterMap id).length=values.length:=by rw[<- hl,<- congrArg List.length e,aR2]
 have:=vN (pos:=pos) hk hv hl';rw[e] at this;exact aHW this hall hl h0 h15
end
end D3
set_option genSizeOfSpec false
set_option genInjectivity false
namespace D3
open PySem PySem.Spec PyProof.Rows L2
inductive KC where | s (y:Str) | i (n:Int) | t (tb:List (Str×Str))
 deriving DecidableEq
def KC.d:KC->D | .s y=>.str y | .i n=>.int n | .t _=>.non
inductive GV where | con (c:KC) | fn (n:Nat) | no | cls
 deriving DecidableEq
inductive Bn where | len | isinstance | all | min
 deriving DecidableEq
def Bn.name:Bn->Str
 | .len => "len" | .isinstance => "isinstance" | .all => "all" | .min => "min"
def Bn.f:Bn->List (Md×D)->Option (Md×D)
 | .len=>fQ | .isinstance=>cH | .all=>jL | .min=>jU
def Bn.id:Bn->String
 | .len => "len" | .isinstance => "isinstance" | .all => "all" | .min => "min"
inductive Ty where | int | bool | str | tuple | list | dict
 deriving DecidableEq
def Ty.f:Ty->List (Md×D)->Option (Md×D)
 | .tuple=>iI | .list=>iJ | .int=>iL | .str=>jT | .dict=>l7 | _=>λ_=>none
def Ty.id:Ty->String
 | .int => "int" | .bool => "bool" | .str => "str" | .tuple => "tuple" | .list => "list" | .dict => "dict"
inductive Mt where | join | startswith | removeprefix | joinT
 deriving DecidableEq
def Mt.name:Mt->Str | .join => "join" | .startswith => "startswith" | .removeprefix => "removeprefix" | .joinT => "join"
def Mt.ty:Mt->String | .join => "str" | .startswith => "str" | .removeprefix => "str" | .joinT => "str"
def Mt.f:Mt->Md->D->List (Md×D)->Option (Md×D) | .join=>iF | .startswith=>swD | .removeprefix=>rpD | .joinT=>D3.joinT
structure WD where
 Φ:Str->List D->Res
 I:Str->Option (List D->Res)
 cl:List CI
 xt:List ((Str×Str)×Bool)
 xi:List ((Str×Str)×Bool)
def WD.xf(W:WD):Str->Str->Option Bool:=λc x=>W.xt.lookup (c,x)
def WD.xg(W:WD):Str->Str->Option Bool:=λc x=>W.xi.lookup (c,x)
inductive E where
 | var (i:Nat) | non | bl (b:Bool) | int (i:Int) | str (x:Str)
 | glob (x:Str) (c:KC) | ty (t:Ty)
 | bin (op:Operator) (a b:E) | cmp (op:CmpOp) (a b:E)
 | andL (es:List E) | orL (es:List E) | not (a:E) | neg (a:E) | tru (a:E) | frz (a:E)
 | ix (a b:E) | slice (a:E) (lo hi:Option E)
 | tup (es:List E) | lst (es:List E)
 | call (f:Str) (n:Nat) (es:List E) | bcall (b:Bn) (es:List E) | mt (m:Mt) (o:E) (es:List E)
 | items (a:E) | rng1 (a:E) | zip2 (a b:E) | enum1 (a:E)
 | comp (elt it:E) (ts:List E) (aE:List Nat) (t:Tg) (n:Nat)
 | tcall (t:Ty) (es:List E)
 | srt (a:E) | sum1 (a:E)
 | fld (a:E) (f:Str) | meth (o:E) (m:Str) (es:List E) | mk0 (c:Str) | make (c key:Str) (n:Nat) (es:List E)
 | dget (a k d:E) | disp (ks vs:List E) | never
def noF:Md->D->Md->D->Option (Md×D):=λ_ _ _ _=>none
def bT:Operator->Md->D->Md->D->Option (Md×D)
 | .Add=>orO fAdd noK | .Sub=>fSub | .Mult=>orO fMul noK | .Mod=>fMod | .FloorDiv=>fDiv | .Pow=>fPow | .BitAnd=>vH | .BitOr=>fBor | .LShift=>fShl | .RShift=>fShr | _=>noF
def bK:CmpOp->Md->D->Md->D->Option (Md×D)
 | .Lt=>orO fLt noK | .LtE=>fLe | .Gt=>fGt | .GtE=>fGe | .Eq=>fEq | .NotEq=>fNe | .In=>orO fIn (iH false) | .NotIn=>orO aE1 (iH true) | .Is=>fIs false | .IsNot=>fIs true
mutual
def evE(W:WD):E->Rho->Res
 | .var i,ρ=>eR ρ i
 | .non,_=>.ok .fz .non
 | .bl b,_=>.ok .fz (.bl b)
 | .int i,_=>.ok .fz (.int i)
 | .str x,_=>.ok .fz (.str x)
 | .glob _ c,_=>.ok .fz c.d
 | .ty t,_=>.ok .fz (.ty t.id)
 | .bin op a b,ρ=>op2 (bT op) (evE W a ρ) (evE W b ρ)
 | .cmp op a b,ρ=>op2 (bK op) (evE W a ρ) (evE W b ρ)
 | .andL es,ρ=>evA W es ρ
 | .orL es,ρ=>cQ W es ρ
 | .not a,ρ=>jI (evE W a ρ)
 | .neg a,ρ=>lQ (evE W a ρ)
 | .tru a,ρ=>jH (evE W a ρ)
 | .frz a,ρ=>bB (evE W a ρ)
 | .ix a b,ρ=>op2 ixD (evE W a ρ) (evE W b ρ)
 | .slice a lo hi,ρ=>slP (evE W a ρ) (evO W lo) (evO W hi) ρ
 | .tup es,ρ=>gO (bD W es ρ)
 | .lst es,ρ=>dM (bD W es ρ)
 | .call f n es,ρ=>aL n (W.Φ f) (bD W es ρ)
 | .bcall b es,ρ=>c8 b.f (bD W es ρ)
 | .mt m o es,ρ=>lU m.ty m.f (evE W o ρ) (bD W es ρ)
 | .items a,ρ=>iE (bB (evE W a ρ))
 | .rng1 a,ρ=>gP (aN (evE W a ρ) (.ok []))
 | .zip2 a b,ρ=>jV (aN (evE W a ρ) (aN (evE W b ρ) (.ok [])))
 | .enum1 a,ρ=>iN (aN (bB (evE W a ρ)) (.ok []))
 | .comp elt it ts aE t n,ρ=>bN (evE W it ρ) ρ aE n (aW t) (λρ=>evF W ts ρ) (λρ=>evE W elt ρ)
 | .disp ks vs,ρ=>f6 ρ ((evL W ks).zip (evL W vs)) []
 | .tcall t es,ρ=>c8 t.f (bD W es ρ)
 | .srt a,ρ=>c8 (aZ.or' fW gX) (aN (evE W a ρ) (.ok []))
 | .sum1 a,ρ=>c8 (aZ.or' iS iU) (aN (evE W a ρ) (.ok []))
 | .dget a k d,ρ=>j8 (evE W a ρ) (evE W k ρ) (evE W d ρ)
 | .fld a f,ρ=>fD W.cl f (evE W a ρ)
 | .meth o m es,ρ=>aV W.cl W.Φ m (evE W o ρ) (bD W es ρ)
 | .mk0 c,_=>.ok .fr (.ins c [])
 | .make c key n es,ρ=>match W.I key with | some Φ=>dP n Φ (bD W es ρ) | none=>.stuck
 | .never,_=>.stuck
def bD(W:WD):List E->Rho->aG
 | [],_=>.ok []
 | e::es,ρ=>aN (evE W e ρ) (bD W es ρ)
def evA(W:WD):List E->Rho->Res
 | [],_=>.stuck
 | [e],ρ=>evE W e ρ
 | e::es,ρ=>dH (evE W e ρ) (evA W es ρ)
def cQ(W:WD):List E->Rho->Res
 | [],_=>.stuck
 | [e],ρ=>evE W e ρ
 | e::es,ρ=>orR (evE W e ρ) (cQ W es ρ)
def evF(W:WD):List E->Rho->Res
 | [],_=>.ok .fz (.bl true)
 | e::es,ρ=>dH (evE W e ρ) (evF W es ρ)
def evL(W:WD):List E->List (Rho->Res)
 | []=>[]
 | e::es=>evE W e::evL W es
def evO(W:WD):Option E->Option (Rho->Res)
 | none=>none
 | some e=>some (evE W e)
end
structure MG where
 G:List (Str×GV)
 mk0:List Str
 mki:List (Str×Str×Nat)
 iso:List Str
 xcs:List Str
 xns:List Str
structure MC where
 N:List Str
 sc:Scope
 g:MG
 fn:Bool
 calm:Bool
 rz:Bool
def MC.kind(m:MC)(x:Str):Option NameKind:=m.sc.names.lookup x
def MC.vis(m:MC)(x:Str):Bool:=(m.kind x==some .local||m.kind x==some .cell||m.kind x==some .free)&&x != "__debug__" && x != "__classdict__"
def MC.glob(m:MC)(x:Str)(v:GV):Bool:=m.kind x==some .globalImplicit&&m.g.G.lookup x==some v&&x != "__debug__" && x != "__name__"
def MC.gk(m:MC)(x:Str):Bool:=m.kind x==some .globalImplicit&&x != "__debug__"
def strK(x:Str):Bool:=decide (x.length<=sizeLine)&&PyData.strOk x
def vP:Expr->Bool | .Slice ..=>false | _=>true
def vQ:Expr->Bool | .Tuple ..=>true | _=>false
def gY:Expr->Bool | .Set ..=>false | _=>true
def vR:Expr->Bool | .UnaryOp .Not _ _=>false | .BoolOp ..=>false | .IfExp ..=>false | .Compare ..=>false | _=>true
def MC.sub(m:MC)(scope:Scope)(aH tgN:List Str):MC:={ m with N:=aH++tgN,sc:={ scope with names:=jR scope m.sc },fn:=false,rz:=false }
def MC.loc(m:MC)(i:Nat)(x:Str):Bool:=m.N[i]?==some x&&(m.kind x==some .local||(m.fn&&m.kind x==some .cell))
mutual
def mG(m:MC):Tg->Expr->Bool
 | .nm i,e=>match e with | .Name x _=>m.loc i x | _=>false
 | .tp ts,e=>match e with | .Tuple es _ _=>m.calm&&es.all iK&&mGs m ts es | _=>false
def mGs(m:MC):List Tg->List Expr->Bool
 | [],es=>es.isEmpty
 | t::ts,l=>match l with | e::es=>mG m t e&&mGs m ts es | _=>false
end
def eJ:Nat->Expr->List Str
 | _,.Name x _=>[x]
 | n+1,.Tuple es _ _=>es.flatMap (eJ n)
 | _,_=>[]
def mK(scope sc:Scope)(N:List Str)(aE:List Nat)(aH tgN:List Str):Bool :=
 scope.names.all (λy=>y.2 != .cell)&&scope.kind == .function&&scope.names.all (λy=>y.2 != .local||scope.names.lookup y.1==some .local) &&
 scope.names.all (λy=>y.2 != .free||sc.names.lookup y.1==some .cell||sc.names.lookup y.1==some .free)&&(aH.map some==aE.map λi=>N[i]?)&&aH.all (λy=>scope.names.contains (y,.free)) &&
 aH.all (λy=>(jR scope sc).lookup y==some .cell||(jR scope sc).lookup y==some .free)&&decide (aH++tgN).Nodup
def strK':KC->Bool | .s y=>strK y | .i _=>true | .t _=>false
structure SX(k:Nat)(W:WD)(m:MC)(C:Cw)(X:Cx):Prop where
 hN:X.N=m.N
 hs:X.env.scope=m.sc
 cm:m.calm=true->X.calm=true
 rm:m.calm=true->bJ k X.A
 un:X.A.units+64<cLine
 xo:m.calm=true->XOk (CX1 X.prog X.w) (C.at X) X
 xt:oU X.K X.mg W.xf
 xi:oV X.K X.mg W.xg
 xc:∀ c,c∈m.g.xcs->∃ Cc,X.mg c=some (.ref Cc)/\jX X.K Cc
 xn:∀ n,n∈m.g.xns->∃ cv,l6 X.mg n cv
 con:∀ x c,m.g.G.lookup x=some (.con c)->match c with | .s y=>∃ t,X.mg x=some (.str y t) | .i n=>∃ t,X.mg x=some (.int n t) | .t tb=>iP X.w X.K X.mg x tb
 no:∀ x,m.g.G.lookup x=some .no->X.mg x=none
 mk0:∀ c,c∈m.g.mk0->oC X.K X.mg c
 mki:∀ c key n,(c,key,n)∈m.g.mki->∀ Φ,W.I key=some Φ->∃ j,j+1<=k/\InV X.prog X.w X.K X.mg X.base (CX1 X.prog X.w) j c n Φ
 iso:∀ c,c∈m.g.iso->IsV X.K X.mg W.cl c
 fl:∀ i f,i∈W.cl->f∈i.flds->FlV X.K i.name f
 mt:∀ c m key n,CI.meth W.cl c m=some (key,n)->MtV X.prog X.w X.K X.mg X.base (CX1 X.prog X.w) k c m n (W.Φ key)
 fn:∀ x n,m.g.G.lookup x=some (.fn n)->FnV X.prog X.w X.K X.mg X.base (CX1 X.prog X.w) k x n (W.Φ x)
 fnn:m.fn=true->∀ x,X.fn x=true
section
variable {k:Nat}{W:WD}{m:MC}{C:Cw}{X:Cx}{x y:Expr}
theorem SX.gl(S:SX k W m C X){z:Str}{v:GV}(h:m.glob z v=true):Gl X z/\m.g.G.lookup z=some v/\(z==("__debug__" : Str))=false/\z ≠ "__name__" := by
 unfold MC.glob MC.kind at h;simp only[aSR,aRY,aUI] at h;obtain ⟨⟨⟨h1,h2⟩,h3⟩,h4⟩:=h;refine ⟨?_,h2,by simpa using h3,h4⟩
 show X.env.scope.names.lookup z=_;rw[S.hs];exact h1
theorem SX.gk(S:SX k W m C X){z:Str}(h:m.gk z=true):Gl X z/\(z==("__debug__" : Str))=false:=by
 unfold MC.gk MC.kind at h;simp only[aSR,aRY,aUI] at h;refine ⟨?_,by simpa using h.2⟩
 show X.env.scope.names.lookup z=_;rw[S.hs];exact h.1
theorem SX.vis(S:SX k W m C X){z:Str}(h:m.vis z=true):Vis X.env.scope z/\(z==("__debug__" : Str))=false/\(z==("__classdict__" : Str))=false:=by
 unfold MC.vis MC.kind at h;simp only[aSR,aS6,aRY,aUI] at h;obtain ⟨⟨h1,h2⟩,h3⟩:=h;refine ⟨?_,by simpa using h2,by simpa using h3⟩
 unfold Vis;rw[S.hs];rcases h1 with (h1 | h1) | h1
 . exact .inl h1
 . exact .inr (.inl h1)
 . exact .inr (.inr h1)
theorem aHY(b:Bn):bootBuiltins b.name=some (.builtin b.id):=by
 cases b
 . exact aE2
 . exact aE3
 . exact aE4
 . exact aFR
theorem aHZ(b:Bn){c:Bool}(hc:c=true->X.calm=true)(h:(c||b == .len||b == .isinstance)=true):aZ X (.builtin b.id) b.f:=by
 have hc:(b == .len||b == .isinstance)=false->X.calm=true:=λz=>hc (by cases c with | true=>rfl | false=>rw[Bool.false_or] at h;rw[h] at z;cases z)
 cases b
 . exact aDZ
 . exact aD1
 . exact aD6 (hc rfl)
 . exact aFO (hc rfl)
theorem aH0{f:Value}:aZ X f (λ_=>none):=⟨λ_ _ _=>False,λ_ _ _ _ _ _ _ _ _ h=>h.elim,λ_ _ _ _ _ _ _ _ _ e _=>by cases e⟩
theorem aH1(t:Ty):aZ X (.type t.id) t.f:=by
 cases t
 . exact aF6
 . exact aH0
 . exact aFQ
 . exact aFL
 . exact aFM
 . exact aG2
theorem vS(t:Ty):bootBuiltins (t.id:Str)=some (.type t.id):=by
 cases t
 . exact aE5
 . exact aE6
 . exact aE7
 . exact aE8
 . exact aE9
 . exact aFA
theorem aH2(op:Operator):(∃ φ,bT op=φ/\OpD C X (binaryOp op) φ)\/bT op=noF:=by
 cases op
 case Add=>exact .inl ⟨_,rfl,o_add.or iG⟩
 case Sub=>exact .inl ⟨_,rfl,aC5⟩
 case Mult=>exact .inl ⟨_,rfl,o_mul.or iG⟩
 case Mod=>exact .inl ⟨_,rfl,aC8⟩
 case FloorDiv=>exact .inl ⟨_,rfl,aDA⟩
 case Pow=>exact .inl ⟨_,rfl,aDB⟩
 case BitAnd=>exact .inl ⟨_,rfl,aHO⟩
 case BitOr=>exact .inl ⟨_,rfl,aHP⟩
 case LShift=>exact .inl ⟨_,rfl,aHQ⟩
 case RShift=>exact .inl ⟨_,rfl,aHR⟩
 all_goals exact .inr rfl
theorem pD:IsB noK:=λ_ _ _ _ _ _ z=>by cases z
theorem aH3(op:CmpOp)(hu:X.A.units+64<cLine):(OpD C X (compareOp op) (bK op)/\IsB (bK op))\/bK op=noF:=by
 cases op
 case Lt=>exact .inl ⟨aDC.or iG,jQ lY pD⟩
 case LtE=>exact .inl ⟨aDD,lY⟩
 case Gt=>exact .inl ⟨aDE,lY⟩
 case GtE=>exact .inl ⟨aDF,lY⟩
 case Eq=>exact .inl ⟨o_eq hu,jQ t9 pD⟩
 case NotEq=>exact .inl ⟨o_ne hu,jQ t9 pD⟩
 case In=>exact .inl ⟨aDH.or (uD aCB),jQ t7 uE⟩
 case NotIn=>exact .inl ⟨aDI.or (uD aCC),jQ t7 uE⟩
 case Is=>exact .inl ⟨aFI,uC⟩
 case IsNot=>exact .inl ⟨aFJ,uC⟩
theorem vT{f:Value->Value->Sem Value}:OpD C X f noF:=⟨λ_ _ _ _=>False,λ_ _ _ _ _ _ _ _ _ _ _ _ h=>h.elim,λ_ _ _ _ _ _ _ _ _ _ _ _ _ _ e _=>by cases e⟩
theorem aH4(op:Operator):OpD C X (binaryOp op) (bT op):=by
 rcases aH2 (C:=C) (X:=X) op with ⟨φ,e,h⟩ | e
 . rw[e];exact h
 . rw[e];exact vT
theorem pE(op:CmpOp)(hu:X.A.units+64<cLine):OpD C X (compareOp op) (bK op)/\IsB (bK op):=by
 rcases aH3 (C:=C) op hu with h | e
 . exact h
 . rw[e];exact ⟨vT,λ_ _ _ _ _ _ z=>by cases z⟩
theorem vU(op:CmpOp){e:Expr}(h:gY e=true):behindInMarks op e=false:=by cases e <;> first | rfl | cases h
theorem pF{e:Expr}{env:Env}(h:gY e=true):∀ v,foldedSetIterable e env v=pure v:=by intro v;cases e <;> first | rfl | cases h
theorem aH5{e:Expr}(h:vP e=true):nS e:=by intro o i;cases e <;> first | rfl | cases h
theorem aH6{e:Expr}{env:Env}(h:vR e=true):∀ cJ,isTrue e env cJ=(do let v <- cJ;standAt e.pos;holding [v] (truthy v)):=by
 intro cJ;cases e
 case UnaryOp op _ _=>cases op <;> first | rfl | cases h
 all_goals first | rfl | cases h
theorem SX.sub(S:SX k W m C X){scope:Scope}{aH tgN:List Str}(cl:List (Str×Addr))(A:Addr)(fp:List Addr)(s3:Shared)(H3:Hp):SX k W (m.sub scope aH tgN) C.nox (bF X scope (aH++tgN) cl A fp s3 H3):=by
 refine ⟨rfl,?_,S.cm,S.rm,S.un,λ_ aA σ H s e s' I h=>?_,S.xt,S.xi,S.xc,S.xn,S.con,S.no,S.mk0,S.mki,S.iso,S.fl,S.mt,S.fn,λz=>by cases z⟩
 rotate_left
 . obtain ⟨_,_,_,_,_,_,_,_,_,_,_,_,z⟩:=h;exact z.elim
 show (compEnvC scope cl A X.env).scope=_;unfold MC.sub;rw[<- S.hs];rfl
theorem SX.loc(S:SX k W m C X){i:Nat}{z:Str}(h:m.loc i z=true):X.N[i]? = some z/\L2.Loc X.env.scope z/\(X.fn z=true\/X.env.scope.names.lookup z=some .local):=by
 unfold MC.loc MC.kind at h;simp only[aSR,aS6,aRY] at h;refine ⟨by rw[S.hN];exact h.1,?_,?_⟩
 . unfold L2.Loc;rw[S.hs];rcases h.2 with q | q
   . exact .inl q
   . exact .inr q.2
 . rw[S.hs];rcases h.2 with q | q
   . exact .inr q
   . exact .inl (S.fnn q.1 z)
mutual
theorem sG(S:SX k W m C X)(hN:m.N.Nodup):∀ (t:Tg) {e:Expr},mG m t e=true->PGw X e t
 | .nm i,e,h=>by
  simp only[mG] at h;split at h
  . obtain ⟨a,b,c⟩:=S.loc h;exact aFY (by rw[S.hN];exact hN) a b c
  . cases h
 | .tp ts,e,h=>by
  simp only[mG] at h;split at h
  . rw[aSR,aSR,aTD] at h;obtain ⟨p,l⟩:=sGs S hN ts h.2 h.1.2;exact aF2 (S.cm h.1.1) p h.1.2 l
  . cases h
theorem sGs(S:SX k W m C X)(hN:m.N.Nodup):∀ (ts:List Tg) {es:List Expr},mGs m ts es=true->(∀ e∈es,iK e=true)->gS X es ts/\es.length=ts.length
 | [],[],h,_=>⟨aFZ,rfl⟩
 | [],_::_,h,_=>by simp[mGs] at h
 | t::ts,[],h,_=>by simp[mGs] at h
 | t::ts,e::es,h,hs=>by simp only[mGs,aSR] at h;obtain ⟨p,l⟩:=sGs S hN ts h.2 λx hx=>hs x (mcm hx);exact ⟨aF0 (sG S hN t h.1) p (hs e mcs),by rw[aRZ,aRZ,l]⟩
end
end
theorem vV{C:Cw}{X:Cx}{e:Expr}:PV C X e (λ_=>.stuck):=λaA s σ H Q I q=>by rw[aU] at q;obtain ⟨ρ,F,R,w⟩:=q;exact w.elim
abbrev PE(m:MC)(f:E)(e:Expr):Prop:=∀ {k:Nat} {W:WD} {C:Cw} {X:Cx},SX k W m C X->PV C X e (evE W f)
abbrev PTE(m:MC)(f:E)(e:Expr):Prop:=∀ {k:Nat} {W:WD} {C:Cw} {X:Cx},SX k W m C X->PTv C X e (evE W f)
abbrev PIE(m:MC)(tg:Expr)(f:E)(e:Expr):Prop:=∀ {k:Nat} {W:WD} {C:Cw} {X:Cx},SX k W m C X->PIv C X tg e (evE W f)
inductive cR(m:MC):List E->List Expr->Prop
 | nil:cR m [] []
 | cons {f fs x xs}:bS x=true->PE m f x->cR m fs xs->cR m (f::fs) (x::xs)
inductive dS(m:MC):List E->List Expr->Prop
 | nil:dS m [] []
 | cons {f fs x xs}:PTE m f x->dS m fs xs->dS m (f::fs) (x::xs)
abbrev CkE(m:MC)(f:E)(e:Expr):Type:=Option (PLift (PE m f e))
abbrev CkT(m:MC)(f:E)(e:Expr):Type:=Option (PLift (PTE m f e))
abbrev CkI(m:MC)(tg:Expr)(f:E)(e:Expr):Type:=Option (PLift (PIE m tg f e))
abbrev cS(m:MC)(f:List E)(e:List Expr):Type:=Option (PLift (cR m f e))
abbrev CkF(m:MC)(f:List E)(e:List Expr):Type:=Option (PLift (dS m f e))
abbrev CkO(m:MC)(f:Option E)(e:Option Expr):Type:=Option (PLift (∀ {k:Nat} {W:WD} {C:Cw} {X:Cx},SX k W m C X->POv C X e (evO W f)))
theorem got{P:Prop}:∀ {o:Option (PLift P)},o.isSome=true->P
 | some p,_=>p.down
 | none,h=>nomatch h
section
variable {k:Nat}{W:WD}{m:MC}{C:Cw}{X:Cx}
theorem cR.star:∀ {fs:List E} {es:List Expr},cR m fs es->∀ x∈es,bS x=true
 | _,_,.nil=>λx hx=>by cases hx
 | _,_,.cons s _ q=>λx hx=>by
  rcases aRA.mp hx with rfl | hx
  . exact s
  . exact q.star x hx
theorem cR.es(S:SX k W m C X):∀ {fs:List E} {es:List Expr},cR m fs es->PAv C X es (bD W fs)
 | _,_,.nil=>by simp only[bD];exact iA
 | _,_,.cons s p q=>by simp only[bD];exact gN (p S) (q.es S) (bH s)
theorem cR.l(S:SX k W m C X):∀ {fs:List E} {es:List Expr},cR m fs es->PVL C X es (evL W fs)
 | _,_,.nil=>by simp only[evL];exact .nil
 | _,_,.cons s p q=>by simp only[evL];exact .cons (p S) (q.l S)
theorem cR.a{pos:Pos}(S:SX k W m C X):∀ {fs:List E} {es:List Expr},cR m fs es->PV C X (.BoolOp .And es pos) (evA W fs)
 | _,_,.nil=>λaA s σ H Q I q=>by rw[aU] at q;obtain ⟨ρ,F,R,w⟩:=q;exact w.elim
 | _,_,.cons s p .nil=>by simp only[evA];exact tN (p S)
 | _,_,.cons s p (.cons s' p' q)=>by simp only[evA];exact aDP (p S) (cR.a S (.cons s' p' q))
theorem cR.o{pos:Pos}(S:SX k W m C X):∀ {fs:List E} {es:List Expr},cR m fs es->PV C X (.BoolOp .Or es pos) (cQ W fs)
 | _,_,.nil=>λaA s σ H Q I q=>by rw[aU] at q;obtain ⟨ρ,F,R,w⟩:=q;exact w.elim
 | _,_,.cons s p .nil=>by simp only[cQ];exact tN (p S)
 | _,_,.cons s p (.cons s' p' q)=>by simp only[cQ];exact aDQ (p S) (cR.o S (.cons s' p' q))
theorem dS.a{pos:Pos}(S:SX k W m C X):∀ {fs:List E} {es:List Expr},dS m fs es->PWv C X (.BoolOp .And es pos) (evA W fs)
 | _,_,.nil=>λcJ aA s σ H Q I q=>by obtain ⟨ρ,F,R,w⟩:=q;exact w.elim
 | _,_,.cons p .nil=>by simp only[evA];exact tL (p S)
 | _,_,.cons p (.cons p' q)=>by simp only[evA];exact aDN (p S) (dS.a S (.cons p' q))
theorem dS.o{pos:Pos}(S:SX k W m C X):∀ {fs:List E} {es:List Expr},dS m fs es->PWv C X (.BoolOp .Or es pos) (cQ W fs)
 | _,_,.nil=>λcJ aA s σ H Q I q=>by obtain ⟨ρ,F,R,w⟩:=q;exact w.elim
 | _,_,.cons p .nil=>by simp only[cQ];exact tL (p S)
 | _,_,.cons p (.cons p' q)=>by simp only[cQ];exact aDO (p S) (dS.o S (.cons p' q))
theorem dS.f(S:SX k W m C X):∀ {fs:List E} {es:List Expr},dS m fs es->cW X es (tT (C.at X) (evF W fs))
 | _,_,.nil=>by
  have:evF W []=λ_=>.ok .fz (.bl true):=by funext ρ;simp only[evF]
  rw[this];exact aES
 | f::fs,_,.cons p q=>by
  have:evF W (f::fs)=λρ=>dH (evE W f ρ) (evF W fs ρ):=by funext ρ;simp only[evF]
  rw[this];exact aET (p S) (q.f S)
section
variable {fs:List E}{es:List Expr}{r:cS m fs es}{t:CkF m fs es}{pos:Pos}
theorem gSt(h:r.isSome=true):∀ x∈es,bS x=true:=(got h).star
theorem gEs(h:r.isSome=true)(S:SX k W m C X):PAv C X es (bD W fs):=(got h).es S
theorem gL(h:r.isSome=true)(S:SX k W m C X):PVL C X es (evL W fs):=(got h).l S
theorem gA(h:r.isSome=true)(S:SX k W m C X):PV C X (.BoolOp .And es pos) (evA W fs):=(got h).a S
theorem gOr(h:r.isSome=true)(S:SX k W m C X):PV C X (.BoolOp .Or es pos) (cQ W fs):=(got h).o S
theorem gWA(h:t.isSome=true)(S:SX k W m C X):PWv C X (.BoolOp .And es pos) (evA W fs):=(got h).a S
theorem gWO(h:t.isSome=true)(S:SX k W m C X):PWv C X (.BoolOp .Or es pos) (cQ W fs):=(got h).o S
theorem gF(h:t.isSome=true)(S:SX k W m C X):cW X es (tT (C.at X) (evF W fs)):=(got h).f S
end
end
theorem aH7{C:Cw}{X:Cx}{e:Expr}:PTv C X e (λ_=>.stuck):=by intro aA s σ H Q I q;obtain ⟨ρ,F,R,w⟩:=q;exact w.elim
theorem aH8{C:Cw}{X:Cx}{tg e:Expr}:PIv C X tg e (λ_=>.stuck):=by intro aA s σ H R I q;obtain ⟨ρ,F,RS,w⟩:=q;exact w.elim
noncomputable def aH9{m:MC}{a e}(r1:CkE m a e):CkE m (.frz a) e:=if h:r1.isSome=true then some ⟨λS=>fO (got h S)⟩ else none
noncomputable def aIA {m : MC} {a e} (r1 : CkE m a e) : CkT m (.tru a) e := if h : (vR e && r1.isSome) = true then some ⟨fun {k} {W} {C} {X} S => by
    simp only[aSR] at h;exact aDK (got h.2 S) (aH6 h.1)⟩ else none
noncomputable def aIB{m:MC}{tg a e}(r1:CkE m a e):CkI m tg (.items a) e:=if h:r1.isSome=true then some ⟨λS=>aEH (got h S)⟩ else none
noncomputable def aIC {m : MC} {i} {x} {p1} : CkE m (.var i) (.Name x p1) := if h : (m.N[i]? == some x && m.vis x) = true then some ⟨fun {k} {W} {C} {X} S => by
    simp only[aSR,aRY] at h;obtain ⟨h1,h2,h3⟩:=S.vis h.2
    exact aCZ i (k8 (by rw[S.hN];exact h.1) h1 h2 h3)⟩ else none
noncomputable def aID {m : MC} {y} {c} {x} {p1} : CkE m (.glob y c) (.Name x p1) := if h : (x == y && m.glob x (.con c) && strK' c) = true then some ⟨fun {k} {W} {C} {X} S => by
    simp only[aSR,aRY] at h;obtain ⟨⟨rfl,h1⟩,h2⟩:=h;obtain ⟨g,l,hd,hn⟩:=S.gl h1;have:=S.con _ _ l;cases c with
    | s y=>obtain ⟨t,ht⟩:=this;exact aD2 g ht h2 hd
    | i n=>obtain ⟨t,ht⟩:=this;exact aD3 g ht hd
    | t tb=>cases h2⟩ else none
noncomputable def kE_ty {m : MC} {t} {x} {p1} : CkE m (.ty t) (.Name x p1) := if h : (x == (t.id : Str) && m.glob x .no) = true then some ⟨fun {k} {W} {C} {X} S => by
    simp only[aSR,aRY] at h;obtain ⟨rfl,h1⟩:=h;obtain ⟨g,l,hd,hn⟩:=S.gl h1;exact pv_ty g (S.no _ l) (vS t) hn hd⟩ else none
noncomputable def aIE {m : MC} {p0} {p1} : CkE m (.non) (.Constant .none p0 p1) := if h : (true) = true then some ⟨fun {k} {W} {C} {X} S => by
    exact aC1⟩ else none
noncomputable def kE_bl {m : MC} {c} {b} {p1} {p2} : CkE m (.bl c) (.Constant (.bool b) p1 p2) := if h : (b == c) = true then some ⟨fun {k} {W} {C} {X} S => by
    simp only[aRY] at h;subst h;exact pv_bl⟩ else none
noncomputable def aIF {m : MC} {c} {b} {p1} {p2} : CkE m (.int c) (.Constant (.int b) p1 p2) := if h : (b == c) = true then some ⟨fun {k} {W} {C} {X} S => by
    simp only[aRY] at h;subst h;exact aC0⟩ else none
noncomputable def aIG {m : MC} {c} {b} {p1} {p2} : CkE m (.str c) (.Constant (.str b) p1 p2) := if h : (b == c && strK b) = true then some ⟨fun {k} {W} {C} {X} S => by
    simp only[aSR,aRY] at h;obtain ⟨rfl,h⟩:=h;exact aC2 h⟩ else none
noncomputable def aIH {m : MC} {op} {a} {b} {x} {o} {y} {p3} (r1 : CkE m a x) (r2 : CkE m b y) : CkE m (.bin op a b) (.BinOp x o y p3) := if h : (o == op && (r1.isSome && r2.isSome)) = true then some ⟨fun {k} {W} {C} {X} S => by
    simp only[aSR,aRY] at h;obtain ⟨rfl,h1,h2⟩:=h;exact pv_op (aH4 _) (got h1 S) (got h2 S)⟩ else none
noncomputable def aII {m : MC} {op} {a} {b} {x} {o} {y} {p3} (r1 : CkE m a x) (r2 : CkE m b y) : CkE m (.cmp op a b) (.Compare x [o] [y] p3) := if h : (o == op && gY y && (r1.isSome && r2.isSome)) = true then some ⟨fun {k} {W} {C} {X} S => by
    simp only[aSR,aRY] at h;obtain ⟨⟨rfl,hs⟩,h1,h2⟩:=h;exact aC3 (pE _ S.un).1 (got h1 S) (got h2 S) (vU _ hs)⟩ else none
noncomputable def aIJ {m : MC} {es} {xs} {p1} (r1 : cS m es xs) : CkE m (.andL es) (.BoolOp .And xs p1) := if h : (r1.isSome) = true then some ⟨fun {k} {W} {C} {X} S => by
    exact gA h S⟩ else none
noncomputable def aIK {m : MC} {es} {xs} {p1} (r1 : cS m es xs) : CkE m (.orL es) (.BoolOp .Or xs p1) := if h : (r1.isSome) = true then some ⟨fun {k} {W} {C} {X} S => by
    exact gOr h S⟩ else none
noncomputable def aIL {m : MC} {a} {x} {p1} (r1 : CkE m a x) : CkE m (.not a) (.UnaryOp .Not x p1) := if h : (r1.isSome) = true then some ⟨fun {k} {W} {C} {X} S => by
    exact aDR (got h S)⟩ else none
noncomputable def aIM {m : MC} {a} {x} {p1} (r1 : CkE m a x) : CkE m (.neg a) (.UnaryOp .USub x p1) := if h : (r1.isSome) = true then some ⟨fun {k} {W} {C} {X} S => by
    exact aDS (got h S)⟩ else none
noncomputable def aIN {m : MC} {a} {l} {u} {x} {lo} {hi} {p3} {p4} (r1 : CkE m a x) (r2 : CkO m l lo) (r3 : CkO m u hi) : CkE m (.slice a l u) (.Subscript x (.Slice lo hi none p3) p4) := if h : (r1.isSome && (r2.isSome && r3.isSome)) = true then some ⟨fun {k} {W} {C} {X} S => by
    simp only[aSR] at h;obtain ⟨h0,h1,h2⟩:=h;exact aGX (got h0 S) (got h1 S) (got h2 S)⟩ else none
noncomputable def kE_ix {m : MC} {a} {b} {x} {y} {p2} (r1 : CkE m a x) (r2 : CkE m b y) : CkE m (.ix a b) (.Subscript x y p2) := if h : (vP y && (r1.isSome && r2.isSome)) = true then some ⟨fun {k} {W} {C} {X} S => by
    simp only[aSR] at h;obtain ⟨h0,h1,h2⟩:=h;exact pv_ix (got h1 S) (got h2 S) (aH5 h0)⟩ else none
noncomputable def aIO {m : MC} {es} {es0} {p1} {p2} (r1 : cS m es es0) : CkE m (.tup es) (.Tuple es0 p1 p2) := if h : (r1.isSome) = true then some ⟨fun {k} {W} {C} {X} S => by
    exact aDX (gEs h S)⟩ else none
noncomputable def aIP {m : MC} {es} {es0} {p1} (r1 : cS m es es0) : CkE m (.lst es) (.List es0 p1) := if h : (r1.isSome) = true then some ⟨fun {k} {W} {C} {X} S => by
    exact aDY (gEs h S)⟩ else none
noncomputable def aIQ {m : MC} {g} {n} {es} {f} {p} {x} {xs} {cp} (r1 : cS m es (x :: xs)) : CkE m (.call g n es) (.Call (.Name f p) (x :: xs) [] cp) := if h : (m.calm && f == g && m.glob f (.fn n) && r1.isSome) = true then some ⟨fun {k} {W} {C} {X} S => by
    simp only[aSR,aRY] at h;obtain ⟨⟨⟨hq,rfl⟩,h1⟩,h2⟩:=h;obtain ⟨gl,l,hd,hn⟩:=S.gl h1;have st:=gSt h2;exact aEZ (S.fn _ _ l) (S.rm hq) (S.xo hq) gl (gEs h2 S) hd (bH (st x mcs)) (eD _ _ λy hy=>st y (mcm hy))⟩ else none
noncomputable def aIR {m : MC} {b} {es} {f} {p} {x} {xs} {cp} (r1 : cS m es (x :: xs)) : CkE m (.bcall b es) (.Call (.Name f p) (x :: xs) [] cp) := if h : ((m.calm || b == .len || b == .isinstance) && f == b.name && m.glob f .no && r1.isSome) = true then some ⟨fun {k} {W} {C} {X} S => by
    rw[aSR,aSR,aSR] at h;obtain ⟨⟨⟨hq,hz⟩,h1⟩,h2⟩:=h;cases (aRY.mp hz);obtain ⟨gl,l,hd,hn⟩:=S.gl h1;have st:=gSt h2;exact n6 (aHZ b S.cm hq) gl (S.no _ l) (aHY b) (gEs h2 S) hn hd (bH (st x mcs)) (eD _ _ λy hy=>st y (mcm hy))⟩ else none
noncomputable def kE_mt {m : MC} {t} {a} {es} {o} {f} {ap} {x} {xs} {cp} (r1 : CkE m a o) (r2 : cS m es (x :: xs)) : CkE m (.mt t a es) (.Call (.Attribute o f ap) (x :: xs) [] cp) := if h : (f == t.name && ap.endLine == cp.line && decide ((x :: xs).length < 30) && fT o && (r1.isSome && r2.isSome)) = true then some ⟨fun {k} {W} {C} {X} S => by
    simp only[aSR,aRY,aS4] at h;obtain ⟨⟨⟨⟨rfl,hl⟩,h30⟩,hc⟩,h1,h2⟩:=h;have st:=gSt h2;cases t with
    | join => exact lV (.inl rfl) aUJ PySem.F.slot_str_join PySem.F.type_str_join aEY (got h1 S) (gEs h2 S) (gR hc) (by
        rw[gQ _ _ st];show (true&&true&&decide ((x::xs).length+0+0<30))=true
        rw[aSY (by simpa using h30)];rfl) (aRY.mpr hl) (bH (st x mcs)) (eD _ _ λy hy=>st y (mcm hy))
    | joinT => exact lV (.inl rfl) aUJ PySem.F.slot_str_join PySem.F.type_str_join aHB (got h1 S) (gEs h2 S) (gR hc) (by
        rw[gQ _ _ st];show (true&&true&&decide ((x::xs).length+0+0<30))=true
        rw[aSY (by simpa using h30)];rfl) (aRY.mpr hl) (bH (st x mcs)) (eD _ _ λy hy=>st y (mcm hy))
    | startswith => exact lV (.inl rfl) aUJ PySem.F.slot_str_startswith PySem.F.type_str_startswith aGY (got h1 S) (gEs h2 S) (gR hc) (by
        rw[gQ _ _ st];show (true&&true&&decide ((x::xs).length+0+0<30))=true
        rw[aSY (by simpa using h30)];rfl) (aRY.mpr hl) (bH (st x mcs)) (eD _ _ λy hy=>st y (mcm hy))
    | removeprefix => exact lV (.inl rfl) aUJ PySem.F.slot_str_removeprefix PySem.F.type_str_removeprefix aG0 (got h1 S) (gEs h2 S) (gR hc) (by
        rw[gQ _ _ st];show (true&&true&&decide ((x::xs).length+0+0<30))=true
        rw[aSY (by simpa using h30)];rfl) (aRY.mpr hl) (bH (st x mcs)) (eD _ _ λy hy=>st y (mcm hy))⟩ else none
noncomputable def aIS {m : MC} {t} {es} {f} {p1} {x} {xs} {p4} (r1 : cS m es (x :: xs)) : CkE m (.tcall t es) (.Call (.Name f p1) (x :: xs) [] p4) := if h : (f == (t.id : Str) && m.glob f .no && r1.isSome) = true then some ⟨fun {k} {W} {C} {X} S => by
    simp only[aSR,aRY] at h;obtain ⟨⟨rfl,h1⟩,h2⟩:=h;obtain ⟨gl,l,hd,hn⟩:=S.gl h1;exact aFS (aH1 t) gl (S.no _ l) (vS t) (gEs h2 S) hn hd (gSt h2)⟩ else none
noncomputable def aIT {m : MC} {a} {f} {x} {g} {p2} (r1 : CkE m a x) : CkE m (.fld a f) (.Attribute x g p2) := if h : (g == f && fT x && r1.isSome) = true then some ⟨fun {k} {W} {C} {X} S => by
    simp only[aSR,aRY] at h;obtain ⟨⟨rfl,h1⟩,h2⟩:=h;exact aFC S.fl (got h2 S) h1⟩ else none
noncomputable def aIU {m : MC} {a} {f} {es} {o} {g} {ap} {xs} {cp} (r1 : CkE m a o) (r2 : cS m es xs) : CkE m (.meth a f es) (.Call (.Attribute o g ap) xs [] cp) := if h : (m.calm && g == f && ap.endLine == cp.line && decide (xs.length < 30) && fT o && (r1.isSome && r2.isSome)) = true then some ⟨fun {k} {W} {C} {X} S => by
    simp only[aSR,aRY,aS4] at h;obtain ⟨⟨⟨⟨⟨hq,rfl⟩,h1⟩,h2⟩,h3⟩,h4,h5⟩:=h;exact aFD S.mt (S.rm hq) (S.xo hq) (got h4 S) (gEs h5 S) h3 (gSt h5) h2 h1 λe0=>by
     subst e0;cases es with
     | nil=>funext ρ;simp only[bD]
     | cons _ _=>cases got h5⟩ else none
noncomputable def aIV {m : MC} {c} {f} {p1} {p2} : CkE m (.mk0 c) (.Call (.Name f p1) [] [] p2) := if h : (f == c && m.glob f .cls && m.g.mk0.contains f) = true then some ⟨fun {k} {W} {C} {X} S => by
    simp only[aSR,aRY,aUK] at h;obtain ⟨⟨rfl,h1⟩,h2⟩:=h;obtain ⟨gl,l,hd,hn⟩:=S.gl h1;exact aFF (S.mk0 _ h2) gl hd⟩ else none
noncomputable def aIW {m : MC} {c} {key} {n} {es} {f} {p} {x} {xs} {cp} (r1 : cS m es (x :: xs)) : CkE m (.make c key n es) (.Call (.Name f p) (x :: xs) [] cp) := if h : (m.calm && f == c && m.glob f .cls && m.g.mki.contains (f, key, n) && r1.isSome) = true then some ⟨fun {k} {W} {C} {X} S => by
    simp only[aSR,aRY,aUK] at h;obtain ⟨⟨⟨⟨hq,rfl⟩,h1⟩,h2⟩,h3⟩:=h;obtain ⟨gl,l,hd,hn⟩:=S.gl h1;cases ei:W.I key with
    | none =>
     have:evE W (.make f key n es)=λ_=>.stuck:=by funext ρ;show (match W.I key with | some Φ=>dP n Φ (bD W es ρ) | none=>.stuck)=_;rw[ei]
     rw[this];exact vV
    | some Φ =>
     obtain ⟨j,hj,M⟩:=S.mki _ _ _ h2 Φ ei;have:evE W (.make f key n es)=λρ=>dP n Φ (bD W es ρ):=by funext ρ;show (match W.I key with | some Φ=>dP n Φ (bD W es ρ) | none=>.stuck)=_;rw[ei]
     rw[this];exact aFH M ((S.rm hq).mono hj) (S.xo hq) gl (gEs h3 S) hd (gSt h3)⟩ else none
noncomputable def aIX {m : MC} {a} {f} {p1} {x} {p3} (r1 : CkE m a x) : CkE m (.srt a) (.Call (.Name f p1) [x] [] p3) := if h : (f == "sorted" && m.glob f .no && bS x && r1.isSome) = true then some ⟨fun {k} {W} {C} {X} S => by
    simp only[aSR,aRY] at h;obtain ⟨⟨⟨rfl,h1⟩,hs⟩,h2⟩:=h;obtain ⟨gl,l,hd,hn⟩:=S.gl h1;exact n6 aHT gl (S.no _ l) aG5 (gN (got h2 S) iA (bH hs)) hn hd (bH hs) rfl⟩ else none
noncomputable def aIY {m : MC} {a} {f} {p1} {x} {p3} (r1 : CkE m a x) : CkE m (.sum1 a) (.Call (.Name f p1) [x] [] p3) := if h : (m.calm && f == "sum" && m.glob f .no && bS x && r1.isSome) = true then some ⟨fun {k} {W} {C} {X} S => by
    simp only[aSR,aRY] at h;obtain ⟨⟨⟨⟨hq,rfl⟩,h1⟩,hs⟩,h2⟩:=h;obtain ⟨gl,l,hd,hn⟩:=S.gl h1;exact n6 (aHU (S.cm hq)) gl (S.no _ l) aG7 (gN (got h2 S) iA (bH hs)) hn hd (bH hs) rfl⟩ else none
noncomputable def aIZ {m : MC} {el} {it} {ts} {aE} {t} {n} {elt} {tg} {aP} {ifs} {scope} {cp} (r1 : CkI m tg it aP) (r2 : CkE (m.sub scope (aE.filterMap fun i => m.N[i]?) (eJ 4 tg)) el elt) (r3 : CkF (m.sub scope (aE.filterMap fun i => m.N[i]?) (eJ 4 tg)) ts ifs) : CkE m (.comp el it ts aE t n) (.ListComp elt [⟨tg, aP, ifs, 0⟩] scope cp) := if h : (m.calm && mK scope m.sc m.N aE (aE.filterMap fun i => m.N[i]?) (eJ 4 tg) && gY aP && decide ((eJ 4 tg).length = n) && (eF t).all (fun j => decide (aE.length ≤ j)) && mG (m.sub scope (aE.filterMap fun i => m.N[i]?) (eJ 4 tg)) t tg && (r1.isSome && (r2.isSome && r3.isSome))) = true then some ⟨fun {k} {W} {C} {X} S => by
    simp only[aSR,aS4,aTD] at h;obtain ⟨⟨⟨⟨⟨⟨hq,ho⟩,hn⟩,hl⟩,hs⟩,hg⟩,h1,h2,h3⟩:=h;unfold mK at ho;simp only[aSR,aTD,aS6,aUI,aRY,aS4,aUK] at ho;obtain ⟨⟨⟨⟨⟨⟨⟨g1,g2⟩,g3⟩,g4⟩,g5⟩,g6⟩,g7⟩,g8⟩:=ho;have er:(relabel scope X.env).names=jR scope m.sc:=by rw[<- S.hs];rfl
    have := aF4 (pos := cp) (tgN := eJ 4 tg) (t := t) (S.cm hq) (got h1 S) g1 g2 (fun y hy e => (g3 y hy).resolve_left fun z => z e) (fun y hy e => by
        have:=g4 y hy;show X.env.scope.names.lookup y.1=_\/X.env.scope.names.lookup y.1=_;rw[S.hs];rcases this with (z | z) | z
        . exact absurd e z
        . exact .inl z
        . exact .inr z) (by rw[S.hN];exact g5) g6 (λy hy=>by rw[er];exact g7 y hy) (λj hj=>hs j hj) (λcl A fp s3 H3=>sG (S.sub cl A fp s3 H3) g8 t hg)
        (λcl A fp s3 H3=>gF h3 (S.sub cl A fp s3 H3)) (λcl A fp s3 H3=>got h2 (S.sub cl A fp s3 H3)) (pF hn)
    rw[hl] at this;exact this⟩ else none
noncomputable def aI0 {m : MC} {a} {b} {d} {o} {f} {ap} {x} {y} {cp} (r1 : CkE m a o) (r2 : CkE m b x) (r3 : CkE m d y) : CkE m (.dget a b d) (.Call (.Attribute o f ap) [x, y] [] cp) := if h : (f == "get" && ap.endLine == cp.line && fT o && bS x && bS y && (r1.isSome && (r2.isSome && r3.isSome))) = true then some ⟨fun {k} {W} {C} {X} S => by
    simp only[aSR,aRY] at h;obtain ⟨⟨⟨⟨⟨rfl,hl⟩,hc⟩,hs⟩,hs2⟩,h1,h2,h3⟩:=h
    exact aHV (aUL (Nat.add_le_add_left (by decide:1<=64) _) S.un) (got h1 S) (got h2 S) (got h3 S) ⟨gR hc,by
     rw[gQ _ _ (λz hz=>by
      simp only[aRA,aT3,aT4] at hz;rcases hz with rfl | rfl
      . exact hs
      . exact hs2)];rfl,aRY.mpr hl,by rw[bH hs,bH hs2];rfl⟩⟩ else none
noncomputable def aI1 {m : MC} {ks vs} {keys : List (Option Expr)} {values : List Expr} {p3} (r1 : cS m ks (keys.filterMap id)) (r2 : cS m vs values) : CkE m (.disp ks vs) (.Dict keys values p3) := if h : (keys.all (·.isSome) && decide (keys.length = values.length) && !keys.isEmpty && decide (keys.length ≤ 15) && (r1.isSome && r2.isSome)) = true then some ⟨fun {k} {W} {C} {X} S => by
    simp only[aSR,aS4] at h;obtain ⟨⟨⟨⟨h1,h2⟩,h3⟩,h4⟩,h5,h6⟩:=h;exact aHX (gL h5 S) (gL h6 S) h1 h2 (λz=>by rw[z] at h3;cases h3) h4⟩ else none
noncomputable def aI2 {m : MC} {op} {a} {b} {x} {o} {y} {p3} (r1 : CkE m a x) (r2 : CkE m b y) : CkT m (.cmp op a b) (.Compare x [o] [y] p3) := if h : (o == op && gY y && (r1.isSome && r2.isSome)) = true then some ⟨fun {k} {W} {C} {X} S => by
    simp only[aSR,aRY] at h;obtain ⟨⟨rfl,hs⟩,h1,h2⟩:=h;exact aDL (pE _ S.un).1 (pE (C:=C) _ S.un).2 (got h1 S) (got h2 S) (vU _ hs)⟩ else none
noncomputable def aI3 {m : MC} {es} {xs} {p1} (r1 : CkF m es xs) : CkT m (.andL es) (.BoolOp .And xs p1) := if h : (r1.isSome) = true then some ⟨fun {k} {W} {C} {X} S => by
    exact pt_w (gWA h S)⟩ else none
noncomputable def aI4 {m : MC} {es} {xs} {p1} (r1 : CkF m es xs) : CkT m (.orL es) (.BoolOp .Or xs p1) := if h : (r1.isSome) = true then some ⟨fun {k} {W} {C} {X} S => by
    exact pt_w (gWO h S)⟩ else none
noncomputable def aI5 {m : MC} {a} {x} {p1} (r1 : CkT m a x) : CkT m (.not a) (.UnaryOp .Not x p1) := if h : (r1.isSome) = true then some ⟨fun {k} {W} {C} {X} S => by
    exact aDM (got h S)⟩ else none
noncomputable def aI6 {m : MC} {tg0} {a} {f} {p1} {x} {p3} (r1 : CkE m a x) : CkI m tg0 (.rng1 a) (.Call (.Name f p1) [x] [] p3) := if h : (f == "range" && m.glob f .no && bS x && r1.isSome) = true then some ⟨fun {k} {W} {C} {X} S => by
    simp only[aSR,aRY] at h;obtain ⟨⟨⟨rfl,h1⟩,h2⟩,h3⟩:=h;obtain ⟨gl,l,hd,hn⟩:=S.gl h1;exact aEJ gl (S.no _ l) (gN (got h3 S) iA (bH h2)) (bH h2)⟩ else none
noncomputable def aI7 {m : MC} {tg0} {a} {b} {f} {p1} {x} {y} {p4} (r1 : CkE m a x) (r2 : CkE m b y) : CkI m tg0 (.zip2 a b) (.Call (.Name f p1) [x, y] [] p4) := if h : (f == "zip" && vQ tg0 && m.glob f .no && bS x && bS y && (r1.isSome && r2.isSome)) = true then some ⟨fun {k} {W} {C} {X} S => by
    simp only[aSR,aRY] at h;obtain ⟨⟨⟨⟨⟨rfl,ht⟩,h1⟩,h2⟩,h2'⟩,h3,h4⟩:=h;obtain ⟨gl,l,hd,hn⟩:=S.gl h1;cases tg0 <;> first
     | (cases ht;done)
     | exact aGI gl (S.no _ l) (gN (got h3 S) (gN (got h4 S) iA (bH h2')) (bH h2)) (by rw[bH h2,bH h2'];rfl) (bH h2')⟩ else none
noncomputable def aI8 {m : MC} {tg0} {a} {f} {p1} {x} {p3} (r1 : CkE m a x) : CkI m tg0 (.enum1 a) (.Call (.Name f p1) [x] [] p3) := if h : (f == "enumerate" && vQ tg0 && m.glob f .no && bS x && r1.isSome) = true then some ⟨fun {k} {W} {C} {X} S => by
    simp only[aSR,aRY] at h;obtain ⟨⟨⟨⟨rfl,ht⟩,h1⟩,h2⟩,h3⟩:=h;obtain ⟨gl,l,hd,hn⟩:=S.gl h1;cases tg0 <;> first
     | (cases ht;done)
     | exact aGQ gl (S.no _ l) (gN (fO (got h3 S)) iA (bH h2)) (bH h2)⟩ else none
noncomputable def kEs {m : MC} {f fs x xs} (r1 : CkE m f x) (r2 : cS m fs xs) : cS m (f :: fs) (x :: xs) := if h : (bS x && r1.isSome && r2.isSome) = true then some ⟨by
    simp only[aSR] at h;exact .cons h.1.1 (@got _ r1 h.1.2) (got h.2)⟩ else none
noncomputable def kO{m:MC}{f x}(r1:CkE m f x):CkO m (some f) (some x):=if h:r1.isSome=true then some ⟨λS=>by simp only[evO];exact got h S⟩ else none
noncomputable def kF {m : MC} {f fs x xs} (r1 : CkT m f x) (r2 : CkF m fs xs) : CkF m (f :: fs) (x :: xs) := if h : (r1.isSome && r2.isSome) = true then some ⟨by
    simp only[aSR] at h;exact .cons (@got _ r1 h.1) (got h.2)⟩ else none
set_option maxHeartbeats 4000000 in
mutual
noncomputable def ckE:(m:MC)->(f:E)->(e:Expr)->CkE m f e
 | m,.frz a,e=>aH9 (ckE m a e)
 | m,.never,e=>some ⟨λ_=>vV⟩
 | m,.var i,e=>match e with | .Name x p1=>aIC | _=>none
 | m,.glob y c,e=>match e with | .Name x p1=>aID | _=>none
 | m,.ty t,e=>match e with | .Name x p1=>kE_ty | _=>none
 | m,.non,e=>match e with | .Constant .none p0 p1=>aIE | _=>none
 | m,.bl c,e=>match e with | .Constant (.bool b) p1 p2=>kE_bl | _=>none
 | m,.int c,e=>match e with | .Constant (.int b) p1 p2=>aIF | _=>none
 | m,.str c,e=>match e with | .Constant (.str b) p1 p2=>aIG | _=>none
 | m,.bin op a b,e=>match e with | .BinOp x o y p3=>aIH (ckE m a x) (ckE m b y) | _=>none
 | m,.cmp op a b,e=>match e with | .Compare x [o] [y] p3=>aII (ckE m a x) (ckE m b y) | _=>none
 | m,.andL es,e=>match e with | .BoolOp .And xs p1=>aIJ (dE m es xs) | _=>none
 | m,.orL es,e=>match e with | .BoolOp .Or xs p1=>aIK (dE m es xs) | _=>none
 | m,.not a,e=>match e with | .UnaryOp .Not x p1=>aIL (ckE m a x) | _=>none
 | m,.neg a,e=>match e with | .UnaryOp .USub x p1=>aIM (ckE m a x) | _=>none
 | m,.slice a l u,e=>match e with | .Subscript x (.Slice lo hi none p3) p4=>aIN (ckE m a x) (ckO m l lo) (ckO m u hi) | _=>none
 | m,.ix a b,e=>match e with | .Subscript x y p2=>kE_ix (ckE m a x) (ckE m b y) | _=>none
 | m,.tup es,e=>match e with | .Tuple es0 p1 p2=>aIO (dE m es es0) | _=>none
 | m,.lst es,e=>match e with | .List es0 p1=>aIP (dE m es es0) | _=>none
 | m,.call g n es,e=>match e with | .Call (.Name f p) (x::xs) [] cp=>aIQ (dE m es (x::xs)) | _=>none
 | m,.bcall b es,e=>match e with | .Call (.Name f p) (x::xs) [] cp=>aIR (dE m es (x::xs)) | _=>none
 | m,.mt t a es,e=>match e with | .Call (.Attribute o f ap) (x::xs) [] cp=>kE_mt (ckE m a o) (dE m es (x::xs)) | _=>none
 | m,.tcall t es,e=>match e with | .Call (.Name f p1) (x::xs) [] p4=>aIS (dE m es (x::xs)) | _=>none
 | m,.fld a f,e=>match e with | .Attribute x g p2=>aIT (ckE m a x) | _=>none
 | m,.meth a f es,e=>match e with | .Call (.Attribute o g ap) xs [] cp=>aIU (ckE m a o) (dE m es xs) | _=>none
 | m,.mk0 c,e=>match e with | .Call (.Name f p1) [] [] p2=>aIV | _=>none
 | m,.make c key n es,e=>match e with | .Call (.Name f p) (x::xs) [] cp=>aIW (dE m es (x::xs)) | _=>none
 | m,.srt a,e=>match e with | .Call (.Name f p1) [x] [] p3=>aIX (ckE m a x) | _=>none
 | m,.sum1 a,e=>match e with | .Call (.Name f p1) [x] [] p3=>aIY (ckE m a x) | _=>none
 | m,.comp el it ts aE t n,e=>match e with | .ListComp elt [⟨tg,aP,ifs,0⟩] scope cp=>aIZ (ckI m tg it aP) (ckE (m.sub scope (aE.filterMap λi=>m.N[i]?) (eJ 4 tg)) el elt) (ckF (m.sub scope (aE.filterMap λi=>m.N[i]?) (eJ 4 tg)) ts ifs) | _=>none
 | m,.dget a b d,e=>match e with | .Call (.Attribute o f ap) [x,y] [] cp=>aI0 (ckE m a o) (ckE m b x) (ckE m d y) | _=>none
 | m,.disp ks vs,e=>match e with | .Dict keys values p3=>aI1 (dE m ks (keys.filterMap id)) (dE m vs values) | _=>none
 | _,.tru _,_=>none
 | _,.items _,_=>none
 | _,.rng1 _,_=>none
 | _,.zip2 _ _,_=>none
 | _,.enum1 _,_=>none
noncomputable def ckT:(m:MC)->(f:E)->(e:Expr)->CkT m f e
 | m,.tru a,e=>aIA (ckE m a e)
 | m,.never,e=>some ⟨λ_=>aH7⟩
 | m,.cmp op a b,e=>match e with | .Compare x [o] [y] p3=>aI2 (ckE m a x) (ckE m b y) | _=>none
 | m,.andL es,e=>match e with | .BoolOp .And xs p1=>aI3 (ckF m es xs) | _=>none
 | m,.orL es,e=>match e with | .BoolOp .Or xs p1=>aI4 (ckF m es xs) | _=>none
 | m,.not a,e=>match e with | .UnaryOp .Not x p1=>aI5 (ckT m a x) | _=>none
 | _,_,_=>none
noncomputable def ckI:(m:MC)->(tg:Expr)->(f:E)->(e:Expr)->CkI m tg f e
 | m,tg,.items a,e=>aIB (ckE m a e)
 | m,tg,.never,e=>some ⟨λ_=>aH8⟩
 | m,tg0,.rng1 a,e=>match e with | .Call (.Name f p1) [x] [] p3=>aI6 (ckE m a x) | _=>none
 | m,tg0,.zip2 a b,e=>match e with | .Call (.Name f p1) [x,y] [] p4=>aI7 (ckE m a x) (ckE m b y) | _=>none
 | m,tg0,.enum1 a,e=>match e with | .Call (.Name f p1) [x] [] p3=>aI8 (ckE m a x) | _=>none
 | _,_,_,_=>none
noncomputable def dE:(m:MC)->(fs:List E)->(es:List Expr)->cS m fs es
 | m,[],es=>match es with | []=>some ⟨.nil⟩ | _=>none
 | m,f::fs,l=>match l with | x::xs=>kEs (ckE m f x) (dE m fs xs) | _=>none
noncomputable def ckO:(m:MC)->(f:Option E)->(e:Option Expr)->CkO m f e
 | m,none,e=>match e with | none=>some ⟨λ_=>True.intro⟩ | _=>none
 | m,some f,l=>match l with | some x=>kO (ckE m f x) | _=>none
noncomputable def ckF:(m:MC)->(fs:List E)->(es:List Expr)->CkF m fs es
 | m,[],es=>match es with | []=>some ⟨.nil⟩ | _=>none
 | m,f::fs,l=>match l with | x::xs=>kF (ckT m f x) (ckF m fs xs) | _=>none
end
noncomputable def mE(m:MC)(f:E)(e:Expr):Bool:=(ckE m f e).isSome
noncomputable def mT(m:MC)(f:E)(e:Expr):Bool:=(ckT m f e).isSome
noncomputable def mI(m:MC)(tg:Expr)(f:E)(e:Expr):Bool:=(ckI m tg f e).isSome
noncomputable def mEs(m:MC)(f:List E)(e:List Expr):Bool:=(dE m f e).isSome
noncomputable def mF(m:MC)(f:List E)(e:List Expr):Bool:=(ckF m f e).isSome
theorem aI9{m:MC}{fs:List E}{es:List Expr}(h:mEs m fs es=true):∀ x∈es,bS x=true:=gSt h
section
variable {k:Nat}{W:WD}
theorem sE(f:E){m:MC}{C:Cw}{X:Cx}{e:Expr}(S:SX k W m C X)(h:mE m f e=true):PV C X e (evE W f):=got h S
theorem sT(f:E){m:MC}{C:Cw}{X:Cx}{e:Expr}(S:SX k W m C X)(h:mT m f e=true):PTv C X e (evE W f):=got h S
theorem sI(f:E){m:MC}{C:Cw}{X:Cx}{tg e:Expr}(S:SX k W m C X)(h:mI m tg f e=true):PIv C X tg e (evE W f):=got h S
theorem sEs(fs:List E){m:MC}{C:Cw}{X:Cx}{es:List Expr}(S:SX k W m C X)(h:mEs m fs es=true):PAv C X es (bD W fs):=gEs h S
theorem sF(fs:List E){m:MC}{C:Cw}{X:Cx}{es:List Expr}(S:SX k W m C X)(h:mF m fs es=true):cW X es (tT (C.at X) (evF W fs)):=gF h S
end
end D3
set_option genSizeOfSpec false
set_option genInjectivity false
namespace D3
open PySem PySem.Spec PyProof.Rows L2
inductive S where
 | ret (e:E) | retV (i:Nat) | set (i:Nat) (e:E) | ite (c:E) (a b:List S) | for (it:E) (t:Tg) (body:List S)
 | never
 | rz (c:Str) (es:List E) | setC (i:Nat) (fz:Bool) (e:E) | dput (i:Nat) (k e:E) | frzV (i:Nat)
mutual
noncomputable def evS(W:WD):S->Rho->aK
 | .ret e,ρ=>iB (evE W e ρ) ρ
 | .retV i,ρ=>eT ρ i
 | .set i e,ρ=>dO ρ i (evE W e ρ)
 | .ite c a b,ρ=>ifS (evE W c ρ) ρ (evB W a ρ) (evB W b ρ)
 | .for it t body,ρ=>lS (evE W it ρ) ρ (aW t) (evB W body)
 | .rz c es,ρ=>rzR c ρ (bD W es ρ)
 | .frzV i,ρ=>iQ ρ i
 | .dput i k e,ρ=>fF ρ i (evE W k ρ) (evE W e ρ)
 | .setC i fz e,ρ=>dO ρ i (if fz=true then bB (evE W e ρ) else evE W e ρ)
 | .never,_=>.stuck
noncomputable def evB(W:WD):List S->Rho->aK
 | [],ρ=>.nx ρ
 | s::r,ρ=>(evS W s ρ).thn (evB W r)
end
noncomputable def j9:Expr->Bool | .ListComp ..=>false | .SetComp ..=>false | .DictComp ..=>false | _=>true
noncomputable def mC(m:MC)(elt:Expr)(scope:Scope):E->List Comprehension->Bool
 | .comp el it ts aE t n,gens=>match gens with
  | [⟨tg,aP,ifs,0⟩] =>
   let aH:=aE.filterMap λi=>m.N[i]?
   let tgN:=eJ 4 tg
   m.calm&&mK scope m.sc m.N aE aH tgN&&gY aP&&decide (tgN.length=n)&&(eF t).all (λj=>decide (aE.length<=j))&&mG (m.sub scope aH tgN) t tg&&(mI m tg it aP&&(mE (m.sub scope aH tgN) el elt&&mF (m.sub scope aH tgN) ts ifs))
  | _=>false
 | _,_=>false
theorem pG{e:Expr}{t:Option Expr}{n:Nat}{env:Env}(h:j9 e=true):swapsWith e t n env=pure false:=by cases e <;> first | rfl | cases h
theorem aJA{m:MC}{e:Expr}{x:Str}{p:Pos}{n:Nat}{env:Env}(hs:env.scope=m.sc)(h:(j9 e||m.kind x==some .cell)=true):swapsWith e (some (.Name x p)) n env=pure false:=by
 rw[aS6,aRY] at h;rcases h with h | h
 . exact pG h
 . have hk:env.kindOf x=some .cell:=by show env.scope.names.lookup x=_;rw[hs];exact h
   unfold swapsWith;have kc:(NameKind.cell==NameKind.local)=false:=by decide
   cases e <;> first | rfl | (simp[hk,kc])
theorem aJB{C:Cw}{X:Cx}{st:Stmt}:PSv C X st (λ_=>.stuck):=λaA s σ H En I q=>by obtain ⟨ρ,F,R,w⟩:=q;exact w.elim
section
variable {k:Nat}{W:WD}{m:MC}{C:Cw}{X:Cx}
structure SB(k:Nat)(W:WD)(m:MC)(C:Cw)(X:Cx):Prop extends SX k W m C X where
 nd:m.N.Nodup
 hp:PassesOwn (model X.prog X.w) X.A X.env X.xe
 ro:m.rz=true->oS (C.at X) X/\FnCx X/\XOk (HX1 X.prog X.w) (C.at X) X
end
theorem aJC{k:Nat}{W:WD}{m:MC}{C:Cw}{X:Cx}(S:SB k W m C X)(fz:Bool){i:Nat}{el it:E}{ts:List E}{aE:List Nat}{t:Tg}{n:Nat}{x:Str}{px cp sp:Pos}{elt:Expr}{gens:List Comprehension}{scope:Scope}(h1:m.N[i]? = some x)(h2:m.kind x=some .local)(h3:m.sc.kind=.function)(h4:px.line=cp.line)(h5:(scope.names.any λy=>y.1==x&&(y.2 == .local||y.2 == .cell))=false)(h:mC m elt scope (.comp el it ts aE t n) gens=true):PSv C X (.Assign [.Name x px] (.ListComp elt gens scope cp) sp) (λρ=>dO ρ i (if fz=true then bB (evE W (.comp el it ts aE t n) ρ) else evE W (.comp el it ts aE t n) ρ)):=by
 have hk:X.env.scope.names.lookup x=some .local:=by rw[S.hs];exact h2
 conv at h=>lhs;whnf
 split at h
 . rename_i tg aP ifs;simp only[aSR,aS4,aTD] at h;obtain ⟨⟨⟨⟨⟨⟨hq,ho⟩,hn⟩,hl⟩,hs⟩,hg⟩,k1,k2,k3⟩:=h;unfold mK at ho;simp only[aSR,aTD,aS6,aUI,aRY,aS4,aUK] at ho;obtain ⟨⟨⟨⟨⟨⟨⟨g1,g2⟩,g3⟩,g4⟩,g5⟩,g6⟩,g7⟩,g8⟩:=ho;have er:(relabel scope X.env).names=jR scope m.sc:=by rw[<- S.hs];rfl
   have bk:X.env.blockKind=.function:=by unfold Env.blockKind;rw[S.hs,h3];rfl
   have hsw:swapsWith (.ListComp elt [⟨tg,aP,ifs,0⟩] scope cp) (some (.Name x px)) sp.line X.env=pure true:=by
    have kx:X.env.kindOf x=some .local:=hk;unfold swapsWith;have k1:(ScopeKind.function==ScopeKind.function)=true:=by decide
    have k2:(some NameKind.local==some NameKind.local)=true:=by decide
    simp only[bk,kx,Expr.pos,h4,h5,k1,k2,aTN];rfl
   have := aF5 fz (pos := cp) (pos' := px) (spos := sp) (i := i) (x := x) (tgN := eJ 4 tg) (t := t) (S.cm hq) (sI it S.toSX k1) g1 g2 (fun y hy e => (g3 y hy).resolve_left fun z => z e) (fun y hy e => by
       have:=g4 y hy;show X.env.scope.names.lookup y.1=_\/X.env.scope.names.lookup y.1=_;rw[S.hs];rcases this with (z | z) | z
       . exact absurd e z
       . exact .inl z
       . exact .inr z) (by rw[S.hN];exact g5) g6 (λy hy=>by rw[er];exact g7 y hy) (λj hj=>hs j hj) (λcl A fp s3 H3=>sG (S.toSX.sub cl A fp s3 H3) g8 t hg)
       (λcl A fp s3 H3=>sF ts (S.toSX.sub cl A fp s3 H3) k3) (λcl A fp s3 H3=>sE el (S.toSX.sub cl A fp s3 H3) k2) (by rw[S.hN];exact S.nd) (by rw[S.hN];exact h1) hk hsw (pF hn)
   rw[hl] at this;exact this
 . cases h
abbrev CkS(m:MC)(f:D3.S)(st:Stmt):Type:=Option (PLift (∀ {k:Nat} {W:WD} {C:Cw} {X:Cx},SB k W m C X->PSv C X st (evS W f)))
abbrev CkB(m:MC)(f:List D3.S)(sts:List Stmt):Type:=Option (PLift (∀ {k:Nat} {W:WD} {C:Cw} {X:Cx},SB k W m C X->PBv C X sts (evB W f)))
noncomputable def aJD {m : MC} {f} {e} {p1} : CkS m (.ret f) (.Return (some e) p1) := if h : (mE m f e) = true then some ⟨fun {k} {W} {C} {X} S => by
    exact aEA (sE f S.toSX h)⟩ else none
noncomputable def aJE {m : MC} {i} {x} {p1} {p2} : CkS m (.retV i) (.Return (some (.Name x p1)) p2) := if h : (m.N[i]? == some x && m.vis x) = true then some ⟨fun {k} {W} {C} {X} S => by
    simp only[aSR,aRY] at h;obtain ⟨h1,h2,h3⟩:=S.toSX.vis h.2
    exact aEB i (k8 (by rw[S.hN];exact h.1) h1 h2 h3)⟩ else none
noncomputable def aJF {m : MC} {i} {f} {x} {p1} {e} {p3} : CkS m (.set i f) (.Assign [.Name x p1] e p3) := if h : (m.loc i x && (j9 e || m.kind x == some .cell) && mE m f e) = true then some ⟨fun {k} {W} {C} {X} S => by
    simp only[aSR] at h;obtain ⟨⟨h1,h2⟩,h3⟩:=h;obtain ⟨b,c,d⟩:=S.toSX.loc h1
    exact aED (by rw[S.hN];exact S.nd) b c (sE f S.toSX h3) (aJA S.hs h2) d⟩ else none
noncomputable def aJG {m : MC} {i} {f} {g} {x} {p1} {k} {p3} {e} {p5} : CkS m (.dput i f g) (.Assign [.Subscript (.Name x p1) k p3] e p5) := if h : (m.N[i]? == some x && m.vis x && j9 e && mE m f k && mE m g e) = true then some ⟨fun {k} {W} {C} {X} S => by
    simp only[aSR,aRY] at h;obtain ⟨⟨⟨⟨h1,h2⟩,h3⟩,h4⟩,h5⟩:=h;obtain ⟨v1,v2,v3⟩:=S.toSX.vis h2
    exact aG3 i (aUL (Nat.add_le_add_left (by decide:1<=64) _) S.un) (k8 (by rw[S.hN];exact h1) v1 v2 v3) (sE f S.toSX h4) (sE g S.toSX h5) (pG h3)⟩ else none
noncomputable def aJH {m : MC} {i} {fz} {f} {x} {px} {elt} {gens} {scope} {cp} {p6} : CkS m (.setC i fz f) (.Assign [.Name x px] (.ListComp elt gens scope cp) p6) := if h : (m.N[i]? == some x && m.kind x == some .local && m.sc.kind == .function && px.line == cp.line && !(scope.names.any fun y => y.1 == x && (y.2 == .local || y.2 == .cell)) && mC m elt scope f gens) = true then some ⟨fun {k} {W} {C} {X} S => by
    simp only[aSR,aRY,aT8] at h;obtain ⟨⟨⟨⟨⟨h1,h2⟩,h3⟩,h4⟩,h5⟩,h7⟩:=h;cases f with
    | comp el it ts aE t n=>exact aJC S fz h1 h2 h3 h4 h5 h7
    | _=>cases h7⟩ else none
noncomputable def aJI {m : MC} {f} {a} {b} {c} {x} {y} {p3} (r1 : CkB m a x) (r2 : CkB m b y) : CkS m (.ite f a b) (.If c x y p3) := if h : (mT m f c && (r1.isSome && r2.isSome)) = true then some ⟨fun {k} {W} {C} {X} S => by
    simp only[aSR] at h;obtain ⟨h1,h2,h3⟩:=h;exact aEC (sT f S.toSX h1) (got h2 S) (got h3 S)⟩ else none
noncomputable def aJJ {m : MC} {f} {t} {b} {tg} {e} {body} {p3} (r1 : CkB m b body) : CkS m (.for f t b) (.For tg e body [] p3) := if h : (m.calm && mG m t tg && gY e && (mI m tg f e && r1.isSome)) = true then some ⟨fun {k} {W} {C} {X} S => by
    simp only[aSR] at h;obtain ⟨⟨⟨hq,h1⟩,h2⟩,h3,h4⟩:=h;exact aEK S.hp (S.cm hq) (sI f S.toSX h3) (aF3 (sG S.toSX S.nd t h1)) (got h4 S) (pF h2)⟩ else none
noncomputable def kS_rz {m : MC} {c} {es} {f} {p1} {x} {xs} {p4} {p5} : CkS m (.rz c es) (.Raise (some (.Call (.Name f p1) (x :: xs) [] p4)) none p5) := if h : (m.calm && m.rz && f == c && m.gk f && m.g.xcs.contains f && mEs m es (x :: xs)) = true then some ⟨fun {k} {W} {C} {X} S => by
    simp only[aSR,aRY,aUK] at h;obtain ⟨⟨⟨⟨⟨hq,hr⟩,rfl⟩,h1⟩,h2⟩,h3⟩:=h;obtain ⟨gl,hd⟩:=S.toSX.gk h1;obtain ⟨Cc,hm,Z⟩:=S.xc _ h2;exact aGT hm Z (S.rm hq).hd (S.ro hr).1 gl (sEs es S.toSX h3) hd (aI9 h3)⟩ else none
theorem aJK{k:Nat}{W:WD}{m:MC}{C:Cw}{X:Cx}(S:SB k W m C X):PBv C X [] (evB W []):=by
 have:evB W []=λρ=>.nx ρ:=by funext ρ;simp only[evB]
 rw[this];exact aD7
noncomputable def aJL {m : MC} {i fs sts} (r : CkB m fs sts) : CkB m (.frzV i :: fs) sts := if h : r.isSome = true then some ⟨fun {k} {W} {C} {X} S => by
    have:evB W (.frzV i::fs)=λρ=>(iQ ρ i).thn (evB W fs):=by funext ρ;rfl
    rw[this];exact aG4 (got h S)⟩ else none
noncomputable def aJM {m : MC} {f fs st sts} (r : CkS m f st) (r2 : CkB m fs sts) : CkB m (f :: fs) (st :: sts) := if h : (r.isSome && r2.isSome) = true then some ⟨fun {k} {W} {C} {X} S => by
    rw[aSR] at h;have:evB W (f::fs)=λρ=>(evS W f ρ).thn (evB W fs):=by funext ρ;simp only[evB]
    rw[this];exact aD9 (got h.1 S) (got h.2 S)⟩ else none
set_option maxHeartbeats 4000000 in
mutual
noncomputable def ckS:(m:MC)->(f:D3.S)->(st:Stmt)->CkS m f st
 | m,.never,st=>some ⟨λ_=>aJB⟩
 | _,.frzV _,_=>none
 | m,.ret f,st=>match st with | .Return (some e) p1=>aJD | _=>none
 | m,.retV i,st=>match st with | .Return (some (.Name x p1)) p2=>aJE | _=>none
 | m,.set i f,st=>match st with | .Assign [.Name x p1] e p3=>aJF | _=>none
 | m,.dput i f g,st=>match st with | .Assign [.Subscript (.Name x p1) k p3] e p5=>aJG | _=>none
 | m,.setC i fz f,st=>match st with | .Assign [.Name x px] (.ListComp elt gens scope cp) p6=>aJH | _=>none
 | m,.ite f a b,st=>match st with | .If c x y p3=>aJI (ckB m a x) (ckB m b y) | _=>none
 | m,.for f t b,st=>match st with | .For tg e body [] p3=>aJJ (ckB m b body) | _=>none
 | m,.rz c es,st=>match st with | .Raise (some (.Call (.Name f p1) (x::xs) [] p4)) none p5=>kS_rz | _=>none
noncomputable def ckB:(m:MC)->(f:List D3.S)->(sts:List Stmt)->CkB m f sts
 | m,[],sts=>match sts with | []=>some ⟨λS=>aJK S⟩ | _=>none
 | m,.frzV i::fs,sts=>aJL (ckB m fs sts)
 | m,f::fs,sts=>match sts with | st::sts=>aJM (ckS m f st) (ckB m fs sts) | _=>none
end
noncomputable def mB(m:MC)(f:List D3.S)(sts:List Stmt):Bool:=(ckB m f sts).isSome
theorem sB{k:Nat}{W:WD}{m:MC}{C:Cw}{X:Cx}(S:SB k W m C X)(f:List D3.S){sts:List Stmt}(h:mB m f sts=true):PBv C X sts (evB W f):=got h S
inductive IB where
 | done | guard (c:E) (b:List D3.S) (r:IB) | fset (f:Str) (e:E) (r:IB)
inductive IR where | ok (fs:List (Str×D)) | exc (c:Str) | stuck
noncomputable def dI(W:WD)(c:Str):IB->Rho->List (Str×D)->IR
 | .done,_,fs=>.ok fs
 | .guard t b r,ρ,fs=>match evE W t ρ with
  | .ok _ (.bl false)=>dI W c r ρ fs
  | .ok _ (.bl true)=>(match evB W b ρ with | .exc x _=>.exc x | _=>.stuck)
  | _=>.stuck
 | .fset f e r,ρ,fs=>match evE W e ρ with
  | .ok .fz d=>(match W.cl.find? (λi=>i.name==c) with
   | some j=>if (j.flds.contains f&&decide (fs.length<1000))=true then dI W c r ρ (jS f d fs) else .stuck
   | none=>.stuck)
  | _=>.stuck
noncomputable def mIB(m:MC):IB->List Stmt->Bool
 | .done,l=>l.isEmpty
 | .guard c b r,l=>match l with | .If t x [] _::sts=>mT m c t&&mB m b x&&mIB m r sts | _=>false
 | .fset f e r,l=>match l with | .Assign [.Attribute (.Name x _) g _] v _::sts=>m.N[0]?==some x&&m.vis x&&g==f&&j9 v&&mE m e v&&mIB m r sts | _=>false
noncomputable def tIB(C:Cw)(W:WD)(c:Str)(ib:IB):TS:=λEn σ H=>∃ ρ F fs x dx C' gs,aX C.K C.F0 C.H0 F H σ ρ/\σ[0]? = some (some (.ref x))/\(∀ (i:Nat) (d:D),ρ[i]?≠some (some (true,d)))/\C.H0 x=none/\F x=none/\H x=some (.ins C' dx gs) /\
 PySem.W.nsIn C.K mainGlobals c=some (some (.ref C'))/\aY C.K F fs gs/\match dI W c ib ρ fs with
 | .ok fs'=>∀ F' H' gs',aI C.F0 C.H0 F' H'->F' x=none->H' x=some (.ins C' dx gs')->aY C.K F' fs' gs'->En.nx σ H'
 | .exc c'=>∀ σ' F' H',aI C.F0 C.H0 F' H'->C.EE c' σ' H'
 | .stuck=>False
theorem sIB{k:Nat}{W:WD}{m:MC}{C:Cw}{X:Cx}(S:SB k W m C X)(c:Str):∀ (ib:IB) {sts:List Stmt},mIB m ib sts=true->PSs X sts (tIB (C.at X) W c ib)
 | .done,[],h=>PSs.imp nJ λEn σ H q=>by obtain ⟨ρ,F,fs,x,dx,C',gs,R,e0,_,h0,hf,hh,ns,rf,w⟩:=q;exact w F H gs R.st hf hh rf
 | .done,_::_,h=>by simp[mIB] at h
 | .guard t b r,sts,h=>by
  unfold mIB at h;split at h
  . simp only[aSR] at h;refine PSs.imp (nK (rW (sT t S.toSX h.1.1) (sB S b h.1.2) nJ) (sIB S c r h.2)) λEn σ H q=>?_;obtain ⟨ρ,F,fs,x,dx,C',gs,R,e0,e0',h0,hf,hh,ns,rf,w⟩:=q;refine ⟨ρ,F,R,?_⟩;unfold dI at w;cases et:evE W t ρ with
    | stuck=>rw[et] at w;exact w.elim
    | exc c'=>rw[et] at w;exact w.elim
    | ok m' d' =>
     cases d' with
     | bl bb =>
      intro F' H' st;cases bb with
      | false=>rw[et] at w;rw[if_neg aRW];exact ⟨ρ,F',fs,x,dx,C',gs,R.step st,e0,e0',h0,st.new x hf (by rw[hh];exact λz=>nomatch z),st.same _ _ hh,ns,rf.mono st.fsame _ _,w⟩
      | true =>
       rw[et] at w;rw[if_pos rfl];refine ⟨ρ,F',R.step st,?_⟩;dsimp only at w;cases eb:evB W b ρ with
       | exc c' ρ'=>rw[eb] at w;exact λσ2 F2 H2 _ R2=>w σ2 F2 H2 R2.st
       | _=>rw[eb] at w;exact w.elim
     | _=>rw[et] at w;exact w.elim
  . cases h
 | .fset f e r,sts,h=>by
  unfold mIB at h;split at h
  . rename_i x0 p0 g0 p1 v0 p2 sts0;simp only[aSR,aRY] at h;obtain ⟨⟨⟨⟨⟨h1,h2⟩,hgf⟩,h3⟩,h4⟩,h5⟩:=h;subst hgf;obtain ⟨v1,v2,v3⟩:=S.toSX.vis h2;refine PSs.imp (nK (aBG (k8 (i:=0) (by rw[S.hN];exact h1) v1 v2 v3) (sE e S.toSX h4) (pG h3)) (sIB S c r h5)) λEn σ H q=>?_
    obtain ⟨ρ,F,fs,x,dx,C',gs,R,e0,e0',h0,hf,hh,ns,rf,w⟩:=q;unfold dI at w;cases et:evE W e ρ with
    | stuck=>rw[et] at w;exact w.elim
    | exc c'=>rw[et] at w;exact w.elim
    | ok md d =>
     rw[et] at w;cases md with
     | fr=>exact w.elim
     | bo=>exact w.elim
     | fz =>
     dsimp only at w;cases ej:W.cl.find? (λi=>i.name==c) with
     | none=>rw[ej] at w;exact w.elim
     | some j =>
      rw[ej] at w;dsimp only at w;by_cases hc:(j.flds.contains g0&&decide (fs.length<1000))=true
      . rw[if_pos hc] at w;rw[aSR,aS4] at hc;show tG (C.at X) (evE W e) σ H _;rw[aU];refine ⟨ρ,F,R,?_⟩;rw[et];intro v F1 H1 s1 rp _;have hj:j.name=c:=by simpa using aTR ej
        obtain ⟨C2,n1,cl',na⟩:=(S.fl j _ (aTS ej) (by simpa using hc.1)).ex
        rw[hj] at n1;have ns':PySem.W.nsIn X.K mainGlobals c=some (some (.ref C')):=ns;rw[n1] at ns';cases ns';have hh1:H1 x=some (.ins C' dx gs):=s1.same _ _ hh;have hf1:F1 x=none:=s1.new x hf (by rw[hh];exact λz=>nomatch z)
        refine ⟨.ref x,e0,x,C',dx,gs,rfl,hh1,cl',na,by rw[rf.length];exact hc.2,?_⟩
        have R1:=R.step s1;have st:aI C.F0 C.H0 F1 (upd H1 x (.ins C' dx (bW g0 v gs))):=R1.st.upd h0 hf1;refine ⟨ρ,F1,jS g0 d fs,x,dx,C',_,⟨st,λi b d' ei=>?_,λi l d1 d2 a hil q1 q2=>?_,R1.len⟩,e0,e0',h0,hf1,bI,ns,aY.put rp (rf.mono s1.fsame _ _),w⟩
        . obtain ⟨u,eu,ru,hu⟩:=R1.slot i b d' ei;refine ⟨u,eu,?_,hu⟩;cases b with
          | false=>exact ru
          | true=>exact absurd ei (e0' i d')
        . exact R1.apart i l d1 d2 a hil q1 q2
      . rw[if_neg hc] at w;exact w.elim
  . cases h
structure FD where
 ps:List Str
 N:List Str
 b:List D3.S
structure ID where
 c:Str
 ps:List Str
 N:List Str
 ib:IB
structure TB where
 T:List (Str×FD)
 I:List (Str×ID)
 cl:List CI
 xt:List ((Str×Str)×Bool)
 xi:List ((Str×Str)×Bool)
noncomputable def cT(W:WD)(i:ID):List D->Res:=λds=>if ds.length+1=i.ps.length then (match dI W i.c i.ib (none::dC (i.N.length-1) ds) [] with
 | .ok fs=>.ok .fr (.ins i.c fs)
 | .exc c=>.exc c
 | .stuck=>.stuck) else .stuck
noncomputable def kA(t:TB)(W:WD)(f:Str):List D->Res:=match t.T.lookup f with
 | some d=>phi d.ps.length d.N.length (evB W d.b)
 | none=>λ_=>.stuck
noncomputable def WT(t:TB):Nat->WD
 | 0=>⟨λ_ _=>.stuck,λ_=>none,t.cl,t.xt,t.xi⟩
 | 1=>⟨λf=>kA t ⟨λ_ _=>.stuck,λ_=>none,t.cl,t.xt,t.xi⟩ f,λ_=>none,t.cl,t.xt,t.xi⟩
 | k+2=>⟨λf=>kA t (WT t (k+1)) f,λkey=>match t.I.lookup key with | some i=>some (cT (WT t k) i) | none=>none,t.cl,t.xt,t.xi⟩
theorem mL(t:TB):∀ k,(WT t k).cl=t.cl
 | 0=>rfl
 | 1=>rfl
 | k+2=>rfl
theorem vW(t:TB):∀ k,(WT t k).xt=t.xt
 | 0=>rfl
 | 1=>rfl
 | k+2=>rfl
theorem vX(t:TB):∀ k,(WT t k).xi=t.xi
 | 0=>rfl
 | 1=>rfl
 | k+2=>rfl
theorem WT_Φ(t:TB):∀ k f,(WT t (k+1)).Φ f=kA t (WT t k) f
 | 0,f=>rfl
 | k+1,f=>rfl
noncomputable def mM(N ps:List Str)(sc:Scope):Bool:=sc.kind == .function&&!sc.isCoroutine&&!sc.isGenerator&&decide N.Nodup&&(N.take ps.length==ps)&&ps.all (λx=>sc.names.lookup x==some .local||sc.names.lookup x==some .cell)&&sc.names.all (λy=>y.2 != .free)
theorem vY{N ps:List Str}{sc:Scope}(h:mM N ps sc=true):lE N ps sc:=by unfold mM at h;simp only[aSR,aTD,aS6,aUI,aRY,aS4,aT8] at h;obtain ⟨⟨⟨⟨⟨⟨h1,h2⟩,h3⟩,h4⟩,h5⟩,h6⟩,h7⟩:=h;exact ⟨h1,h2,h3,h4,h5,h6,h7⟩
noncomputable def gZ(g:MG)(st:Stmt)(d:FD):Bool:=mM d.N d.ps (c7 st)&&mB ⟨d.N,c7 st,g,true,true,true⟩ d.b (gI st)
noncomputable def pH(g:MG)(st:Stmt)(d:ID):Bool:=mM d.N d.ps (c7 st)&&mIB ⟨d.N,c7 st,g,true,true,true⟩ d.ib (gI st)&&decide (0<d.ps.length)
noncomputable def vZ(K:Fg)(g:MG)(fa:Str->Addr)(key:Str)(d:FD):Prop :=
 ∃ name st fd,Fun K name key st (fa key) fd/\d9 K fd d.ps []/\gZ g st d=true
noncomputable def kB(K:Fg)(g:MG)(fa:Str->Addr):List (Str×FD)->Prop
 | []=>True
 | (x,d)::r=>vZ K g fa x d/\kB K g fa r
theorem kB.at{K:Fg}{g:MG}{fa:Str->Addr}:∀ {T:List (Str×FD)} {x:Str} {d:FD},kB K g fa T->T.lookup x=some d->vZ K g fa x d
 | [],_,_,_,e=>by cases e
 | (y,d')::r,x,d,h,e=>by
  rw[aS3] at e;split at e
  . rename_i hb;cases e;rw[aRY] at hb;subst hb;exact h.1
  . exact h.2.at e
noncomputable def v4(K:Fg)(mg:SOV)(g:MG)(key:Str)(d:ID):Prop :=
 ∃ name st C f fd,PySem.W.nsIn K mainGlobals d.c=some (some (.ref C))/\mg d.c=some (.ref C)/\Mk K C f/\Fun K name key st f fd/\d9 K fd d.ps []/\pH g st d=true
noncomputable def kC(K:Fg)(mg:SOV)(g:MG):List (Str×ID)->Prop
 | []=>True
 | (x,d)::r=>v4 K mg g x d/\kC K mg g r
theorem kC.at{K:Fg}{mg:SOV}{g:MG}:∀ {T:List (Str×ID)} {x:Str} {d:ID},kC K mg g T->T.lookup x=some d->v4 K mg g x d
 | [],_,_,_,e=>by cases e
 | (y,d')::r,x,d,h,e=>by
  rw[aS3] at e;split at e
  . rename_i hb;cases e;rw[aRY] at hb;subst hb;exact h.1
  . exact h.2.at e
noncomputable def GVOk(w:World)(K:Fg)(mg:SOV)(fa:Str->Addr)(x:Str):GV->Prop
 | .con (.s y)=>∃ t,mg x=some (.str y t)
 | .con (.i n)=>∃ t,mg x=some (.int n t)
 | .con (.t tb)=>iP w K mg x tb
 | .no=>mg x=none
 | .fn _=>mg x=some (.ref (fa x))
 | .cls=>True
noncomputable def kD(w:World)(K:Fg)(mg:SOV)(fa:Str->Addr):List (Str×GV)->Prop
 | []=>True
 | (x,v)::r=>GVOk w K mg fa x v/\kD w K mg fa r
theorem kD.at{w:World}{K:Fg}{mg:SOV}{fa:Str->Addr}:∀ {G:List (Str×GV)} {x:Str} {v:GV},kD w K mg fa G->G.lookup x=some v->GVOk w K mg fa x v
 | [],_,_,_,e=>by cases e
 | (y,v')::r,x,v,h,e=>by
  rw[aS3] at e;split at e
  . rename_i hb;cases e;rw[aRY] at hb;subst hb;exact h.1
  . exact h.2.at e
noncomputable def gOk(G:List (Str×GV))(T:List (Str×FD)):Bool:=G.all λ(x,v)=>match v with | .fn n=>(match T.lookup x with | some d=>d.ps.length==n | none=>false) | _=>true
theorem v5{T:List (Str×FD)}:∀ {G:List (Str×GV)} {x:Str} {n:Nat},gOk G T=true->G.lookup x=some (.fn n)->∃ d,T.lookup x=some d/\d.ps.length=n
 | [],_,_,_,e=>by cases e
 | (y,v')::r,x,n,h,e=>by
  unfold gOk at h;rw[aSU,aSR] at h;rw[aS3] at e;split at e
  . rename_i hb;cases e;rw[aRY] at hb;subst hb;have h1:=h.1;dsimp only at h1;cases q:T.lookup x with
    | none=>rw[q] at h1;cases h1
    | some d=>rw[q] at h1;exact ⟨d,rfl,by simpa using h1⟩
  . exact v5 (G:=r) h.2 e
noncomputable def mtOk(cl:List CI)(T:List (Str×FD)):Bool:=cl.all λi=>i.meths.all λ(_,key,n)=>match T.lookup key with | some d=>d.ps.length==n | none=>false
noncomputable def v6(mki:List (Str×Str×Nat))(I:List (Str×ID)):Bool:=mki.all λ(c,key,n)=>match I.lookup key with | some d=>d.c==c&&d.ps.length==n+1 | none=>false
noncomputable def iV(K:Fg)(fa:Str->Addr)(C:Addr):List (Str×Str×Nat)->Prop
 | []=>True
 | (m,key,_)::r=>jE K C m (fa key)/\iV K fa C r
noncomputable def iW(K:Fg)(C:Addr):List Str->Prop
 | []=>True
 | f::r=>e9 K C f/\iW K C r
noncomputable def kE(K:Fg)(fa:Str->Addr):List CI->Prop
 | []=>True
 | i::r=>(∃ C,PySem.W.nsIn K mainGlobals i.name=some (some (.ref C))/\Cls K C/\iV K fa C i.meths/\iW K C i.flds)/\kE K fa r
theorem kE.at{K:Fg}{fa:Str->Addr}:∀ {cl:List CI} {i:CI},kE K fa cl->i∈cl->∃ C,PySem.W.nsIn K mainGlobals i.name=some (some (.ref C))/\Cls K C/\iV K fa C i.meths/\iW K C i.flds
 | [],_,_,h=>by cases h
 | j::r,i,h,hi=>by
  rcases aRA.mp hi with rfl | hi
  . exact h.1
  . exact h.2.at hi
theorem iW.at{K:Fg}{C:Addr}:∀ {l:List Str} {f:Str},iW K C l->f∈l->e9 K C f
 | [],_,_,h=>by cases h
 | j::r,i,h,hi=>by
  rcases aRA.mp hi with rfl | hi
  . exact h.1
  . exact h.2.at hi
theorem iV.at{K:Fg}{fa:Str->Addr}{C:Addr}:∀ {l:List (Str×Str×Nat)} {m key:Str} {n:Nat},iV K fa C l->l.lookup m=some (key,n)->jE K C m (fa key)
 | [],_,_,_,_,e=>by cases e
 | (m',key',n')::r,m,key,n,h,e=>by
  rw[aS3] at e;split at e
  . rename_i hb;cases e;rw[aRY] at hb;subst hb;exact h.1
  . exact h.2.at e
structure GF(w:World)(K:Fg)(mg:SOV)(g:MG)(t:TB)(fa:Str->Addr):Prop where
 con:kD w K mg fa g.G
 gok:gOk g.G t.T=true
 all:kB K g fa t.T
 alli:kC K mg g t.I
 mk0:∀ c,c∈g.mk0->oC K mg c
 mkok:v6 g.mki t.I=true
 iso:∀ c,c∈g.iso->IsV K mg t.cl c
 cls:kE K fa t.cl
 mtok:mtOk t.cl t.T=true
 xtok:oU K mg (λc x=>t.xt.lookup (c,x))
 xiok:oV K mg (λc x=>t.xi.lookup (c,x))
 xcok:∀ c,c∈g.xcs->∃ Cc,mg c=some (.ref Cc)/\jX K Cc
 xnok:∀ n,n∈g.xns->∃ cv,l6 mg n cv
theorem v7{K:Fg}{mg:SOV}{n:Nat}{Φ:List D->Res}{vs:List V}{H:Hp}{Q:VK}{E:XK}(hz:∀ ds,Φ ds=.stuck)(h:spV K mg n Φ vs H Q E):False:=by obtain ⟨_,F,ds,_,_,h⟩:=h;rw[hz] at h;exact h
section
variable {P:Program}{w:World}{K:Fg}{mg:SOV}{base:Heap}{g:MG}{t:TB}{fa:Str->Addr}
structure iX(P:Program)(w:World)(K:Fg)(mg:SOV)(base:Heap)(t:TB)(fa:Str->Addr)(k:Nat):Prop where
 fn:∀ key d,t.T.lookup key=some d->∃ fd,cD P w K mg base (CX1 P w) k (fa key) fd d.ps (spV K mg d.ps.length ((WT t k).Φ key))/\d9 K fd d.ps []/\PySem.W.keepIn K (.ref (fa key))=true
 ini:∀ key d Φ,t.I.lookup key=some d->(WT t k).I key=some Φ->∃ j,j+1<=k/\InV P w K mg base (CX1 P w) j d.c (d.ps.length-1) Φ
theorem v8(f:GF w K mg g t fa){k:Nat}(A:iX P w K mg base t fa k){N:List Str}{sc:Scope}{C:Cw}{X:Cx}(hP:X.prog=P)(hw:X.w=w)(hK:X.K=K)(hmg:X.mg=mg)(hb:X.base=base)(hN:X.N=N)(hs:X.env.scope=sc)(cm:X.calm=true)(rm:bJ k X.A)(hfn:∀ x,X.fn x=true)(xo:XOk (CX1 X.prog X.w) (C.at X) X):SX k (WT t k) ⟨N,sc,g,true,true,true⟩ C X:=by
 subst hP hw hK hmg hb;refine ⟨hN,hs,λ_=>cm,λ_=>rm,rm.units,λ_=>xo,?_,?_,f.xcok,f.xnok,λy c l=>?_,λy l=>f.con.at l,λc hc=>f.mk0 c hc,λc key n hm Φ e=>?_,λc hc=>by rw[mL];exact f.iso c hc,λi f' hi hf=>?_,λc m key n e=>?_,λy n l=>?_,λ_=>hfn⟩
 . unfold WD.xf;rw[vW];exact f.xtok
 . unfold WD.xg;rw[vX];exact f.xiok
 . have:=f.con.at l;cases c <;> exact this
 . have h1:=aTD.mp f.mkok (c,key,n) hm;dsimp only at h1;cases q:t.I.lookup key with
   | none=>rw[q] at h1;cases h1
   | some d=>rw[q] at h1;simp only[aSR,aRY] at h1;obtain ⟨j,hj,M⟩:=A.ini key d Φ q e;rw[h1.1,h1.2] at M;exact ⟨j,hj,M⟩
 . rw[mL] at hi;obtain ⟨C',h1,h2,_,h4⟩:=f.cls.at hi;exact ⟨C',h1,h2,h4.at hf⟩
 . rw[mL] at e;unfold CI.meth at e;split at e
   . rename_i i ei;have hi:=aTS ei;have hn:i.name=c:=by simpa using aTR ei
     obtain ⟨C',h1,h2,h3,_⟩:=f.cls.at hi;have hmo:=aTD.mp (aTD.mp f.mtok i hi) (m,key,n) (aSB e);dsimp only at hmo;cases q:t.T.lookup key with
     | none=>rw[q] at hmo;cases hmo
     | some d=>rw[q] at hmo;rw[aRY] at hmo;obtain ⟨fd,FO,hb,_⟩:=A.fn key d q;rw[hmo] at FO;exact ⟨C',fa key,fd,d.ps,by rw[<- hn];exact h1,h2,h3.at e,FO,hb⟩
   . cases e
 . obtain ⟨d,e,rfl⟩:=v5 f.gok l;obtain ⟨fd,FO,hb,hk⟩:=A.fn y d e;exact ⟨fa y,fd,d.ps,FO,f.con.at l,hk,hb⟩
theorem pI(f:GF w K mg g t fa){k:Nat}(A:iX P w K mg base t fa k){key:Str}{d:FD}{name:Str}{st:Stmt}{fd:FuncData}{a:Addr}(F:Fun K name key st a fd)(e:t.T.lookup key=some d)(ok:gZ g st d=true):cD P w K mg base (CX1 P w) (k+1) a fd d.ps (spV K mg d.ps.length ((WT t (k+1)).Φ key)):=by
 unfold gZ at ok;rw[aSR] at ok;have sc:=vY ok.1;have:(WT t (k+1)).Φ key=phi d.ps.length d.N.length (evB (WT t k) d.b):=by rw[WT_Φ];unfold kA;rw[e]
 rw[this];exact aGU (k:=k) F sc λC cdv A' outer s H En hE hr=>sB (m:=⟨d.N,c7 st,g,true,true,true⟩) (X:=cV (CX1 P w) P w K mg base d.N key (c7 st) a cdv A' outer s H En) ⟨v8 f A rfl rfl rfl rfl rfl rfl rfl rfl hr (λ_=>rfl) (uP (K:=K) (H:=H) (outer:=outer) hE),sc.nd,PassesOwn.leaving,λ_=>⟨uQ (K:=K) (H:=H) (outer:=outer) hE,fnCx,uT (K:=K) (H:=H) (outer:=outer) hE⟩⟩ d.b ok.2
theorem aJN(f:GF w K mg g t fa){k:Nat}(A:iX P w K mg base t fa k){key:Str}{d:ID}(e:t.I.lookup key=some d):InV P w K mg base (CX1 P w) (k+1) d.c (d.ps.length-1) (cT (WT t k) d):=by
 obtain ⟨name,st,C',a,fd,ns,hm,M,F,hb,ok⟩:=f.alli.at e;refine ⟨C',a,fd,d.ps,ns,hm,M,?_,hb⟩;unfold pH at ok;rw[aSR,aSR,aS4] at ok;have sc:=vY ok.1.1;obtain ⟨oc,od,kV,doc,pm,an,cdv,ct,osl,rfl,lk,hcd⟩:=F.ex;refine sN lk hcd sc (λvs H Q E h=>?_) λA' outer s H vs Q E hr h=>?_
 . obtain ⟨x,us,dx,C,H1,F1,ds,rfl,hl,_⟩:=h;rw[aRZ,hl];have:=ok.2;omega
 . obtain ⟨x,us,dx,C2,H1,F1,ds,rfl,hl,ns2,rfl,hx,hd,hne,sF,rl,h⟩:=h;rw[ns] at ns2;cases ns2
   let Cw0:Cw:=⟨K,F1,H1,iO mg E⟩
   have hN:0<d.N.length:=by have:=congrArg List.length sc.pre;rw[aSA] at this;omega
   refine ⟨_,sIB (m:=⟨d.N,c7 st,g,true,true,true⟩) (C:=Cw0) ⟨v8 f A rfl rfl rfl rfl rfl rfl rfl rfl hr (λ_=>rfl) (uP rfl),sc.nd,PassesOwn.leaving,λ_=>⟨uQ rfl,fnCx,uT rfl⟩⟩ d.c d.ib ok.1.2,?_⟩;unfold cT at h;rw[if_pos (by have:=rl.length;omega)] at h
   have low:∀ (i:Nat) (m:Bool) (e:D),(none::dC (d.N.length-1) ds:Rho)[i]? = some (some (m,e))->m=false/\∃ v,(cE d.N (.ref x::us))[i]? = some (some v)/\aB K F1 e v:=λi m e' ei=>by
    cases i with
    | zero=>cases ei
    | succ i =>
     rw[List.getElem?_cons_succ] at ei;unfold dC at ei;unfold L2.cE;by_cases hi:i<ds.length
     . rw[aSE (by simpa using hi),aSF,aTF hi] at ei
       cases ei;obtain ⟨v,ev,rv⟩:=rl.get' (aTF hi);exact ⟨rfl,v,by rw[aSE (by simpa[rl.length] using hi),aSF,List.getElem?_cons_succ,ev];rfl,rv⟩
     . rw[aSC (by simpa using hi),aSD] at ei
       split at ei <;> cases ei
   refine ⟨none::dC (d.N.length-1) ds,F1,[],x,dx,C',[],⟨uA sF hx hd hne,λi m e' ei=>?_,λi j d1 d2 a _ e1 _ _ _=>?_,by simp[L2.cE,dC,rl.length];omega⟩,by simp[L2.cE],λi d' ei=>?_,hx,sF.free hx,bI,ns,by simp only[aY],?_⟩
   . obtain ⟨rfl,v,e1,rv⟩:=low i m e' ei;exact ⟨v,e1,rv,by intro z;cases z⟩
   . have:=(low i true d1 e1).1;cases this
   . have:=(low i true d' ei).1;cases this
   . cases er:dI (WT t k) d.c d.ib (none::dC (d.N.length-1) ds) [] with
     | stuck=>rw[er] at h;exact h.elim
     | exc c'=>rw[er] at h;exact λσ' F' H' st' u hu=>h F' H' u st' hu
     | ok fs=>rw[er] at h;exact λF' H' gs' st' hf hh rf=>h F' H' st' ⟨x,rfl,hf,C',dx,gs',ns,hh,rf⟩
theorem v9(f:GF w K mg g t fa):∀ k,iX P w K mg base t fa k/\iX P w K mg base t fa (k+1)
 | 0=>by
  have A0:iX P w K mg base t fa 0:=⟨λkey d e=>by
   obtain ⟨name,st,fd,F,hb,_⟩:=f.all.at e;exact ⟨fd,⟨λvs H Q En h=>(v7 (λ_=>rfl) h).elim,λA outer s H args us vs Q En _ _ _ _ h=>(v7 (λ_=>rfl) h).elim⟩,hb,F.kp⟩,λkey d Φ _ e=>by cases e⟩
  refine ⟨A0,λkey d e=>?_,λkey d Φ _ e=>by cases e⟩
  obtain ⟨name,st,fd,F,hb,ok⟩:=f.all.at e;exact ⟨fd,pI f A0 F e ok,hb,F.kp⟩
 | k+1=>by
  obtain ⟨A0,A1⟩:=v9 f k;refine ⟨A1,λkey d e=>?_,λkey d Φ e ei=>?_⟩
  . obtain ⟨name,st,fd,F,hb,ok⟩:=f.all.at e;exact ⟨fd,pI f A1 F e ok,hb,F.kp⟩
  . have ei:(match t.I.lookup key with | some i=>some (cT (WT t k) i) | none=>none)=some Φ:=ei
    rw[e] at ei;cases ei;exact ⟨k+1,aRN _,aJN f A0 e⟩
end
noncomputable def pJ(K:Fg)(Φ:List D->Res):Sp:=λvs H Q E=>∃ a ns,vs=[.ref a]/\SqL K H a (ns.map V.int)/\Φ (lX ns)=.ok .fz (.bl true)/\∀ H',Q (.bl true) H'
theorem aJO{P:Program}{w:World}{K:Fg}{mg:SOV}{base:Heap}{CX:CXT}{k:Nat}{f:Addr}{fd:FuncData}{ps:List Str}{Φ:List D->Res}(h:cD P w K mg base CX k f fd ps (spV K mg 1 Φ)):cD P w K mg base CX k f fd ps (pJ K Φ) :=
 h.imp λvs H Q E ⟨a,ns,e,hq,hp,q⟩=>by
  subst e;refine ⟨rfl,H,lX ns,aD.refl _,aC.cons ?_ aC.nil,?_⟩
  . simp only[aB];exact ⟨a,_,rfl,hq,t5 ns⟩
  . rw[hp];exact ⟨by decide,λv F' H' s rp _=>by rw[rp.bl];exact q H'⟩
theorem aJP{P:Program}{w:World}{K:Fg}{mg:SOV}{base:Heap}{g:MG}{t:TB}{fa:Str->Addr}(f:GF w K mg g t fa)(k:Nat){a:Addr}{fd:FuncData}{d:FD}{st:Stmt}(F:Fun K "law" "law" st a fd)(e:t.T.lookup ("law" : Str)=some d)(ok:gZ g st d=true)(hl:d.ps.length=1):cD P w K mg base (CX1 P w) (k+1) a fd d.ps (pJ K ((WT t (k+1)).Φ ("law" : Str))):=by have:=pI (P:=P) (w:=w) (base:=base) f (v9 f k).1 F e ok;rw[hl] at this;exact aJO this
end D3
namespace D3
open PySem L2
section
variable {W:WD}{ρ:Rho}{a b c:E}{es:List E}
@[simp] theorem eK{i}:evE W (.var i) ρ=eR ρ i:=Eq.trans rfl rfl
@[simp] theorem e_non:evE W .non ρ=.ok .fz .non:=Eq.trans rfl rfl
@[simp] theorem e_bl{b}:evE W (.bl b) ρ=.ok .fz (.bl b):=Eq.trans rfl rfl
@[simp] theorem kG{i}:evE W (.int i) ρ=.ok .fz (.int i):=Eq.trans rfl rfl
@[simp] theorem e_str{x}:evE W (.str x) ρ=.ok .fz (.str x):=Eq.trans rfl rfl
@[simp] theorem e_globS{x y}:evE W (.glob x (.s y)) ρ=.ok .fz (.str y):=Eq.trans rfl rfl
@[simp] theorem e_globI{x y}:evE W (.glob x (.i y)) ρ=.ok .fz (.int y):=Eq.trans rfl rfl
@[simp] theorem e_ty{t:Ty}:evE W (.ty t) ρ=.ok .fz (.ty t.id):=Eq.trans rfl rfl
@[simp] theorem pK{op}:evE W (.bin op a b) ρ=op2 (bT op) (evE W a ρ) (evE W b ρ):=Eq.trans rfl rfl
@[simp] theorem mO{op}:evE W (.cmp op a b) ρ=op2 (bK op) (evE W a ρ) (evE W b ρ):=Eq.trans rfl rfl
@[simp] theorem e_andL:evE W (.andL es) ρ=evA W es ρ:=Eq.trans rfl rfl
@[simp] theorem e_orL:evE W (.orL es) ρ=cQ W es ρ:=Eq.trans rfl rfl
@[simp] theorem e_not:evE W (.not a) ρ=jI (evE W a ρ):=Eq.trans rfl rfl
@[simp] theorem e_neg:evE W (.neg a) ρ=lQ (evE W a ρ):=Eq.trans rfl rfl
@[simp] theorem e_tru:evE W (.tru a) ρ=jH (evE W a ρ):=Eq.trans rfl rfl
@[simp] theorem wA:evE W (.frz a) ρ=bB (evE W a ρ):=Eq.trans rfl rfl
@[simp] theorem mP:evE W (.ix a b) ρ=op2 ixD (evE W a ρ) (evE W b ρ):=Eq.trans rfl rfl
@[simp] theorem wB{l h}:evE W (.slice a l h) ρ=slP (evE W a ρ) (evO W l) (evO W h) ρ:=Eq.trans rfl rfl
@[simp] theorem e_tup:evE W (.tup es) ρ=gO (bD W es ρ):=Eq.trans rfl rfl
@[simp] theorem e_lst:evE W (.lst es) ρ=dM (bD W es ρ):=Eq.trans rfl rfl
@[simp] theorem aJQ{f n}:evE W (.call f n es) ρ=aL n (W.Φ f) (bD W es ρ):=Eq.trans rfl rfl
@[simp] theorem e_bcall{f:Bn}:evE W (.bcall f es) ρ=c8 f.f (bD W es ρ):=Eq.trans rfl rfl
@[simp] theorem e_mt{t:Mt}:evE W (.mt t a es) ρ=lU t.ty t.f (evE W a ρ) (bD W es ρ):=Eq.trans rfl rfl
@[simp] theorem wC:evE W (.items a) ρ=iE (bB (evE W a ρ)):=Eq.trans rfl rfl
@[simp] theorem e_rng1:evE W (.rng1 a) ρ=gP (aN (evE W a ρ) (.ok [])):=Eq.trans rfl rfl
@[simp] theorem e_zip2:evE W (.zip2 a b) ρ=jV (aN (evE W a ρ) (aN (evE W b ρ) (.ok []))):=Eq.trans rfl rfl
@[simp] theorem aJR:evE W (.enum1 a) ρ=iN (aN (bB (evE W a ρ)) (.ok [])):=Eq.trans rfl rfl
@[simp] theorem e_srt:evE W (.srt a) ρ=c8 (aZ.or' fW gX) (aN (evE W a ρ) (.ok [])):=Eq.trans rfl rfl
@[simp] theorem e_sum1:evE W (.sum1 a) ρ=c8 (aZ.or' iS iU) (aN (evE W a ρ) (.ok [])):=Eq.trans rfl rfl
@[simp] theorem e_dget{k d:E}:evE W (.dget a k d) ρ=j8 (evE W a ρ) (evE W k ρ) (evE W d ρ):=Eq.trans rfl rfl
@[simp] theorem pL{ts:List E}{aE t n}:evE W (.comp a b ts aE t n) ρ=bN (evE W b ρ) ρ aE n (aW t) (λρ=>evF W ts ρ) (λρ=>evE W a ρ):=Eq.trans rfl rfl
@[simp] theorem e_disp{ks vs:List E}:evE W (.disp ks vs) ρ=f6 ρ ((evL W ks).zip (evL W vs)) []:=Eq.trans rfl rfl
@[simp] theorem el_nil:evL W []=[]:=by simp only[evL]
@[simp] theorem el_cons:evL W (a::es)=evE W a::evL W es:=by simp only[evL]
@[simp] theorem sg_nm{i:Nat}{d:D}:aW (.nm i) d ρ=some (ρ.set i (some (false,d))):=by simp only[aW]
@[simp] theorem sg_tp{ts:List Tg}{ds:List D}:aW (.tp ts) (.tup ds) ρ=cP ts ds ρ:=by simp only[aW]
@[simp] theorem sg_tpl{ts:List Tg}{ds:List D}:aW (.tp ts) (.lst ds) ρ=cP ts ds ρ:=by simp only[aW]
@[simp] theorem sgs_nil:cP [] [] ρ=some ρ:=by simp[cP]
@[simp] theorem sgs_cons{t:Tg}{ts:List Tg}{d:D}{ds:List D}:cP (t::ts) (d::ds) ρ=(aW t d ρ).bind (cP ts ds):=by simp only[cP];cases aW t d ρ <;> rfl
@[simp] theorem wD{t:Ty}:evE W (.tcall t es) ρ=c8 t.f (bD W es ρ):=Eq.trans rfl rfl
@[simp] theorem e_fld{x}:evE W (.fld a x) ρ=fD W.cl x (evE W a ρ):=Eq.trans rfl rfl
@[simp] theorem aJS{x}:evE W (.meth a x es) ρ=aV W.cl W.Φ x (evE W a ρ) (bD W es ρ):=Eq.trans rfl rfl
@[simp] theorem e_mk0{x}:evE W (.mk0 x) ρ=.ok .fr (.ins x []):=Eq.trans rfl rfl
theorem pM{x key n Φ}(h:W.I key=some Φ):evE W (.make x key n es) ρ=dP n Φ (bD W es ρ):=by show (match W.I key with | some Φ=>dP n Φ (bD W es ρ) | none=>.stuck)=_;rw[h]
@[simp] theorem pN:bD W [] ρ=.ok []:=by simp only[bD]
@[simp] theorem wE:bD W (a::es) ρ=aN (evE W a ρ) (bD W es ρ):=by simp only[bD]
@[simp] theorem ea_one:evA W [a] ρ=evE W a ρ:=by simp only[evA]
@[simp] theorem ea_cons:evA W (a::b::es) ρ=dH (evE W a ρ) (evA W (b::es) ρ):=by simp only[evA]
@[simp] theorem eo_one:cQ W [a] ρ=evE W a ρ:=by simp only[cQ]
@[simp] theorem eo_cons:cQ W (a::b::es) ρ=orR (evE W a ρ) (cQ W (b::es) ρ):=by simp only[cQ]
@[simp] theorem mQ:evF W [] ρ=.ok .fz (.bl true):=by simp only[evF]
@[simp] theorem mR:evF W (a::es) ρ=dH (evE W a ρ) (evF W es ρ):=by simp only[evF]
@[simp] theorem wF:evO W none=none:=by simp only[evO]
@[simp] theorem wG:evO W (some a)=some (evE W a):=by simp only[evO]
@[simp] theorem pO:evS W (.ret a) ρ=iB (evE W a ρ) ρ:=Eq.trans rfl rfl
@[simp] theorem s_retV{i}:evS W (.retV i) ρ=eT ρ i:=Eq.trans rfl rfl
@[simp] theorem s_set{i}:evS W (.set i a) ρ=dO ρ i (evE W a ρ):=Eq.trans rfl rfl
@[simp] theorem s_ite{x y:List S}:evS W (.ite a x y) ρ=ifS (evE W a ρ) ρ (evB W x ρ) (evB W y ρ):=Eq.trans rfl rfl
@[simp] theorem s_for{t:Tg}{y:List S}:evS W (.for a t y) ρ=lS (evE W a ρ) ρ (aW t) (evB W y):=Eq.trans rfl rfl
@[simp] theorem s_rz{c}:evS W (.rz c es) ρ=rzR c ρ (bD W es ρ):=Eq.trans rfl rfl
@[simp] theorem s_frzV{i}:evS W (.frzV i) ρ=iQ ρ i:=Eq.trans rfl rfl
@[simp] theorem s_dput{i}:evS W (.dput i a b) ρ=fF ρ i (evE W a ρ) (evE W b ρ):=Eq.trans rfl rfl
@[simp] theorem s_setC{i}:evS W (.setC i false a) ρ=dO ρ i (evE W a ρ):=Eq.trans rfl rfl
@[simp] theorem s_setCf{i}:evS W (.setC i true a) ρ=dO ρ i (bB (evE W a ρ)):=Eq.trans rfl rfl
@[simp] theorem mS:evB W [] ρ=.nx ρ:=by simp only[evB]
@[simp] theorem iY{s:S}{r:List S}:evB W (s::r) ρ=(evS W s ρ).thn (evB W r):=by simp only[evB]
end
section
variable {m n:Md}{i j:Int}{ρ:Rho}{d:D}
@[simp] theorem wH:op2 (bT .Add) (.ok m (.int i)) (.ok n (.int j))=.ok .fz (.int (i+j)):=rfl
@[simp] theorem aJT:op2 (bT .BitAnd) (.ok m (.int i)) (.ok n (.int j))=.ok .fz (.int (Builtin.bitAnd i j)):=rfl
@[simp] theorem x_bor:op2 (bT .BitOr) (.ok m (.int i)) (.ok n (.int j))=.ok .fz (.int (Builtin.bitOr i j)):=rfl
@[simp] theorem x_shl(h:0<=j)(h1:j<=1000000)(h2:i.natAbs<2 ^ 64):op2 (bT .LShift) (.ok m (.int i)) (.ok n (.int j))=.ok .fz (.int (i * 2 ^ j.toNat)):=by
 show (match (if (decide (0<=j)&&decide (j<=1000000)&&decide (i.natAbs<2 ^ 64))=true then some (Md.fz,D.int (i * 2 ^ j.toNat)) else none) with | some (m,d)=>Res.ok m d | none=>.stuck)=_
 rw[aSY h,aSY h1,aSY h2];rfl
@[simp] theorem x_shr(h:0<=j):op2 (bT .RShift) (.ok m (.int i)) (.ok n (.int j))=.ok .fz (.int (i / 2 ^ j.toNat)):=by
 show (match (if decide (0<=j)=true then some (Md.fz,D.int (i / 2 ^ j.toNat)) else none) with | some (m,d)=>Res.ok m d | none=>.stuck)=_
 rw[aSY h];rfl
@[simp] theorem x_sub:op2 (bT .Sub) (.ok m (.int i)) (.ok n (.int j))=.ok .fz (.int (i-j)):=rfl
@[simp] theorem x_lt:op2 (bK .Lt) (.ok m (.int i)) (.ok n (.int j))=.ok .fz (.bl (decide (i<j))):=rfl
@[simp] theorem x_le:op2 (bK .LtE) (.ok m (.int i)) (.ok n (.int j))=.ok .fz (.bl (decide (i<=j))):=rfl
@[simp] theorem x_gt:op2 (bK .Gt) (.ok m (.int i)) (.ok n (.int j))=.ok .fz (.bl (decide (j<i))):=rfl
@[simp] theorem x_ge:op2 (bK .GtE) (.ok m (.int i)) (.ok n (.int j))=.ok .fz (.bl (decide (j<=i))):=rfl
@[simp] theorem pP(h:0<j):op2 (bT .Mod) (.ok m (.int i)) (.ok n (.int j))=.ok .fz (.int (i % j)):=by show Res.of (if decide (0<j)=true then _ else _)=_;rw[if_pos (aSY h)];rfl
theorem x_div(h:0<j)(hb:bA j=true):op2 (bT .FloorDiv) (.ok m (.int i)) (.ok n (.int j))=.ok .fz (.int (i / j)):=by show Res.of (if (decide (0<j)&&bA j)=true then _ else _)=_;rw[if_pos (by rw[hb,aSY h];rfl)];rfl
theorem aJU(h:i.natAbs<10 ^ 2000):bA i=true:=by
 unfold bA;refine aSY ?_;by_cases h0:i.natAbs=0
 . rw[h0];decide
 . refine (Nat.log2_lt h0).mpr (Nat.lt_trans h ?_);decide +kernel
theorem dU{N:Nat}(h:i.natAbs<=N)(hN:N<10 ^ 2000:=by decide +kernel):bA i=true:=aJU (aUL h hN)
@[simp] theorem x_divS(h:0<j)(hb:j.natAbs<=1000000000):op2 (bT .FloorDiv) (.ok m (.int i)) (.ok n (.int j))=.ok .fz (.int (i / j)):=x_div h (dU hb)
theorem aJV(h:((bA i&&bA j)||(w64 i||w64 j))=true):op2 (bT .Mult) (.ok m (.int i)) (.ok n (.int j))=.ok .fz (.int (i * j)):=by show Res.of (((if ((bA i&&bA j)||(w64 i||w64 j))=true then _ else _:Option (Md×D)).orElse _).orElse _)=_;rw[if_pos h];rfl
theorem dW(h1:bA i=true)(h2:bA j=true):op2 (bT .Mult) (.ok m (.int i)) (.ok n (.int j))=.ok .fz (.int (i * j)):=aJV (by rw[h1,h2];rfl)
theorem cI{φ:Md->D->Md->D->Option (Md×D)}{x y d:D}{k:Md}(h:φ m x n y=some (k,d)):op2 φ (.ok m x) (.ok n y)=.ok k d:=by show Res.of (φ m x n y)=_;rw[h];rfl
@[simp] theorem x_eqI:op2 (bK .Eq) (.ok m (.int i)) (.ok n (.int j))=.ok .fz (.bl (i==j)):=cI rfl
@[simp] theorem x_neI:op2 (bK .NotEq) (.ok m (.int i)) (.ok n (.int j))=.ok .fz (.bl (i != j)):=cI rfl
@[simp] theorem x_eqB{a b:Bool}:op2 (bK .Eq) (.ok m (.bl a)) (.ok n (.bl b))=.ok .fz (.bl (a==b)):=cI rfl
@[simp] theorem x_neB{a b:Bool}:op2 (bK .NotEq) (.ok m (.bl a)) (.ok n (.bl b))=.ok .fz (.bl (a != b)):=cI rfl
@[simp] theorem x_eqS{a b:Str}:op2 (bK .Eq) (.ok m (.str a)) (.ok n (.str b))=.ok .fz (.bl (a==b)):=cI (by rfl)
@[simp] theorem x_neS{a b:Str}:op2 (bK .NotEq) (.ok m (.str a)) (.ok n (.str b))=.ok .fz (.bl (a != b)):=cI (by rfl)
@[simp] theorem x_inS{a b:Str}:op2 (bK .In) (.ok m (.str a)) (.ok n (.str b))=.ok .fz (.bl (hX a b)):=cI rfl
@[simp] theorem x_notinS{a b:Str}:op2 (bK .NotIn) (.ok m (.str a)) (.ok n (.str b))=.ok .fz (.bl (!hX a b)):=cI rfl
@[simp] theorem pQ{a b:Str}(h:a.length+b.length<=sizeLine):op2 (bT .Add) (.ok m (.str a)) (.ok n (.str b))=.ok .fz (.str (a++b)) :=
 cI (by
  have:fS (λi j=>decide (i.length+j.length<=sizeLine)) (λi j=>D.str (i++j)) m (.str a) n (.str b)=some (Md.fz,D.str (a++b)):=by show (if decide (a.length+b.length<=sizeLine)=true then some (Md.fz,D.str (a++b)) else none)=_;rw[if_pos (aSY h)]
  show orO (orO (fI (λ_ _=>true) λi j=>.int (i+j)) (fS (λi j=>decide (i.length+j.length<=sizeLine)) λi j=>.str (i++j))) noK m (.str a) n (.str b)=_;simp only[orO,this];rfl)
@[simp] theorem x_isN{d:D}:op2 (bK .Is) (.ok m d) (.ok n .non)=.ok .fz (.bl (eE d)):=cI rfl
@[simp] theorem x_isnotN{d:D}:op2 (bK .IsNot) (.ok m d) (.ok n .non)=.ok .fz (.bl (!eE d)):=cI rfl
@[simp] theorem isn_n:eE .non=true:=rfl
@[simp] theorem isn_i{i:Int}:eE (.int i)=false:=rfl
@[simp] theorem isn_b{i:Bool}:eE (.bl i)=false:=rfl
@[simp] theorem isn_s{i:Str}:eE (.str i)=false:=rfl
@[simp] theorem isn_t{i:List D}:eE (.tup i)=false:=rfl
@[simp] theorem isn_l{i:List D}:eE (.lst i)=false:=rfl
@[simp] theorem x_andT{y:Res}:dH (.ok m (.bl true)) y=y:=rfl
@[simp] theorem x_andF{y:Res}:dH (.ok m (.bl false)) y=.ok .fz (.bl false):=rfl
@[simp] theorem x_orT{y:Res}:orR (.ok m (.bl true)) y=.ok .fz (.bl true):=rfl
@[simp] theorem x_orF{y:Res}:orR (.ok m (.bl false)) y=y:=rfl
@[simp] theorem x_and{a b:Bool}:dH (.ok m (.bl a)) (.ok .fz (.bl b))=.ok .fz (.bl (a&&b)):=by cases a <;> rfl
@[simp] theorem x_or{a b:Bool}:orR (.ok m (.bl a)) (.ok .fz (.bl b))=.ok .fz (.bl (a||b)):=by cases a <;> rfl
@[simp] theorem x_not{a:Bool}:jI (.ok m (.bl a))=.ok .fz (.bl (!a)):=rfl
@[simp] theorem x_tru{a:Bool}:jH (.ok m (.bl a))=.ok .fz (.bl a):=rfl
@[simp] theorem x_truI:jH (.ok m (.int i))=.ok .fz (.bl (i != 0)):=rfl
@[simp] theorem x_neg:lQ (.ok m (.int i))=.ok .fz (.int (-i)):=rfl
@[simp] theorem x_ifT{x y:aK}:ifS (.ok m (.bl true)) ρ x y=x:=rfl
@[simp] theorem x_ifF{x y:aK}:ifS (.ok m (.bl false)) ρ x y=y:=rfl
@[simp] theorem iZ:bB (.ok .fz d)=.ok .fz d:=rfl
@[simp] theorem x_frr:bB (.ok .fr d)=.ok .fz d:=rfl
@[simp] theorem x_set{k:Nat}:dO ρ k (.ok .fz d)=.nx (ρ.set k (some (false,d))):=rfl
@[simp] theorem x_setr{k:Nat}:dO ρ k (.ok .fr d)=.nx (ρ.set k (some (true,d))):=rfl
@[simp] theorem x_ret:iB (.ok .fz d) ρ=.rt .fz d:=rfl
@[simp] theorem x_retr:iB (.ok .fr d) ρ=.rt .fr d:=rfl
@[simp] theorem g_0{r:Rho}:eR (some (false,d)::r) 0=.ok .fz d:=rfl
@[simp] theorem g_0b{r:Rho}:eR (some (true,d)::r) 0=.ok .bo d:=rfl
@[simp] theorem g_s{x:Option (Bool×D)}{r:Rho}{i:Nat}:eR (x::r) (i+1)=eR r i:=rfl
@[simp] theorem g_1{x:Option (Bool×D)}{r:Rho}:eR (x::r) 1=eR r 0:=rfl
@[simp] theorem rs_0{r:Rho}:eT (some (false,d)::r) 0=.rt .fz d:=rfl
@[simp] theorem rs_0b{r:Rho}:eT (some (true,d)::r) 0=.rt .fr d:=rfl
@[simp] theorem rs_1{x:Option (Bool×D)}{r:Rho}:eT (x::r) 1=eT r 0:=rfl
@[simp] theorem rs_s{x:Option (Bool×D)}{r:Rho}{i:Nat}:eT (x::r) (i+1)=eT r i:=rfl
@[simp] theorem aJW{x y:Option (Bool×D)}{r:Rho}:(x::r).set 0 y=y::r:=rfl
@[simp] theorem x_callR{f:List (Md×D)->Option (Md×D)}{xs:List (Md×D)}:c8 f (.ok xs)=Res.of (f xs):=rfl
@[simp] theorem bn_len:Bn.f .len=fQ:=rfl
@[simp] theorem bn_isi:Bn.f .isinstance=cH:=rfl
@[simp] theorem bn_min:Bn.f .min=jU:=rfl
@[simp] theorem min_i{i j:Int}:jU [(m,.int i),(n,.int j)]=some (.fz,.int (if j<i then j else i)):=rfl
@[simp] theorem ty_int:Ty.f .int=iL:=rfl
@[simp] theorem ty_str:Ty.f .str=jT:=rfl
@[simp] theorem ty_tuple:Ty.f .tuple=iI:=rfl
@[simp] theorem ty_dict:Ty.f .dict=l7:=rfl
@[simp] theorem ty_list:Ty.f .list=iJ:=rfl
@[simp] theorem tci_i{i:Int}:iL [(m,.int i)]=some (.fz,.int i):=rfl
@[simp] theorem tci_b{i:Bool}:iL [(m,.bl i)]=some (.fz,.int (if i then 1 else 0)):=rfl
@[simp] theorem tct_l{i:List D}:iI [(m,.lst i)]=some (.fz,.tup i):=rfl
@[simp] theorem tct_t{i:List D}:iI [(.fz,.tup i)]=some (.fz,.tup i):=rfl
@[simp] theorem tcl_l{i:List D}:iJ [(m,.lst i)]=some (.fr,.lst i):=rfl
@[simp] theorem tcl_t{i:List D}:iJ [(m,.tup i)]=some (.fr,.lst i):=rfl
@[simp] theorem tcs_i{i:Int}(h:oK i=true):jT [(m,.int i)]=some (.fz,.str (oM i)):=by show (if oK i=true then _ else _)=_;rw[if_pos h]
@[simp] theorem mt_ty:Mt.ty .join = "str" := rfl
@[simp] theorem mt_f:Mt.f .join=iF:=rfl
@[simp] theorem mt_tyT:Mt.ty .joinT = "str" := rfl
@[simp] theorem mt_fT:Mt.f .joinT=D3.joinT:=rfl
@[simp] theorem mt_tyS:Mt.ty .startswith = "str" := rfl
@[simp] theorem mt_fS:Mt.f .startswith=swD:=rfl
@[simp] theorem mt_tyR:Mt.ty .removeprefix = "str" := rfl
@[simp] theorem mt_fR:Mt.f .removeprefix=rpD:=rfl
@[simp] theorem bn_all:Bn.f .all=jL:=rfl
@[simp] theorem len_s{z:Str}:fQ [(m,.str z)]=some (.fz,.int z.length):=rfl
@[simp] theorem len_l{z:List D}:fQ [(m,.lst z)]=some (.fz,.int z.length):=rfl
@[simp] theorem len_t{z:List D}:fQ [(m,.tup z)]=some (.fz,.int z.length):=rfl
@[simp] theorem itm_l{z:List D}:iE (.ok m (.lst z))=.ok .fz (.lst z):=rfl
@[simp] theorem itm_t{z:List D}:iE (.ok m (.tup z))=.ok .fz (.lst z):=rfl
@[simp] theorem itm_s{z:Str}:iE (.ok m (.str z))=.ok .fz (.lst (iD z)):=rfl
end
@[simp] theorem WT_xf{t:TB}{k:Nat}:(WT t k).xf=λc x=>t.xt.lookup (c,x):=by unfold WD.xf;rw[vW]
@[simp] theorem WT_xg{t:TB}{k:Nat}:(WT t k).xg=λc x=>t.xi.lookup (c,x):=by unfold WD.xg;rw[vX]
@[simp] theorem x_rz{c:Str}{ρ:Rho}{xs:List (Md×D)}(h:xs.length<=sizeLine):rzR c ρ (.ok xs)=.exc c ρ:=by show (if xs.length<=sizeLine then _ else _)=_;rw[if_pos h]
section
variable {c x:Str}{ρ ρ':Rho}{m:Md}{d:D}{xt:Str->Str->Option Bool}{hs:List HX}{g:Rho->aK}
@[simp] theorem x_frx:bB (.exc c)=.exc c:=rfl
@[simp] theorem x_setx{k:Nat}:dO ρ k (.exc c)=.exc c ρ:=rfl
@[simp] theorem x_retx:iB (.exc c) ρ=.exc c ρ:=rfl
end
theorem bM{n N:Nat}{g:Rho->aK}{ds:List D}{m:Md}{d:D}(hl:ds.length=n)(h:g (dC N ds)=.rt m d):phi n N g ds=.ok m d:=by unfold phi;rw[if_pos hl,h];rfl
theorem mU{n:Nat}{Φ:List D->Res}{xs:List (Md×D)}{ds:List D}{d:D}(hl:ds.length=n)(ha:bX xs=some ds)(h:Φ ds=.ok .fz d):aL n Φ (.ok xs)=.ok .fz d:=by
 show (match bX xs with | some ds=>if ds.length=n then (match Φ ds with | .ok .bo _=>Res.stuck | r=>r) else .stuck | none=>.stuck)=_
 rw[ha];show (if ds.length=n then _ else _)=_;rw[if_pos hl,h]
@[simp] theorem eW{Φ:List D->Res}{a d:D}(h:Φ [a]=.ok .fz d):aL 1 Φ (.ok [(.fz,a)])=.ok .fz d:=mU (ds:=[a]) rfl rfl h
@[simp] theorem dX{Φ:List D->Res}{a b d:D}(h:Φ [a,b]=.ok .fz d):aL 2 Φ (.ok [(.fz,a),(.fz,b)])=.ok .fz d:=mU (ds:=[a,b]) rfl rfl h
@[simp] theorem kH{Φ:List D->Res}{a b c d:D}(h:Φ [a,b,c]=.ok .fz d):aL 3 Φ (.ok [(.fz,a),(.fz,b),(.fz,c)])=.ok .fz d:=mU (ds:=[a,b,c]) rfl rfl h
theorem len4{α:Type}{P:List α->Prop}(h:∀ a b c d,P [a,b,c,d]):∀ us:List α,us.length=4->P us
 | [a,b,c,d],_=>h a b c d
@[simp] theorem bC{cl:List CI}{Φ:Str->List D->Res}{c m key:Str}{n:Nat}{fs:List (Str×D)}{as:aG}(h:CI.meth cl c m=some (key,n))(hl:fs.lookup m=none):aV cl Φ m (.ok .fz (.ins c fs)) as=aL n (Φ key) (aN (.ok .fz (.ins c fs)) as):=by
 show (match CI.meth cl c m with | some (key,n)=>if fs.lookup m=none then aL n (Φ key) (aN (.ok .fz (.ins c fs)) as) else .stuck | none=>.stuck)=_
 rw[h];show (if fs.lookup m=none then _ else _)=_;rw[if_pos hl]
@[simp] theorem wI{t:TB}{k:Nat}:(WT t k).cl=t.cl:=mL t k
theorem a8{t:TB}{k:Nat}{f:Str}{d:FD}(h:t.T.lookup f=some d):(WT t (k+1)).Φ f=phi d.ps.length d.N.length (evB (WT t k) d.b):=by rw[WT_Φ];unfold kA;rw[h]
@[simp] theorem kI{Φ:List D->Res}{a b c e d:D}(h:Φ [a,b,c,e]=.ok .fz d):aL 4 Φ (.ok [(.fz,a),(.fz,b),(.fz,c),(.fz,e)])=.ok .fz d:=mU (ds:=[a,b,c,e]) rfl rfl h
theorem mV{W:WD}:∀ {x y:List D3.S} {ρ:Rho},evB W (x++y) ρ=(evB W x ρ).thn (evB W y)
 | [],y,ρ=>by simp
 | s::x,y,ρ=>by
  show evB W (s::(x++y)) ρ=_;rw[iY,iY];cases evS W s ρ with
  | nx ρ'=>exact mV
  | _=>rfl
theorem wJ{k:D->Rho->Option Rho}{body:Rho->aK}(I:Rho->Prop):∀ {ds:List D} {ρ:Rho},(∀ d∈ds,∀ ρ,I ρ->∃ ρ1 ρ2,k d ρ=some ρ1/\(body ρ1=.nx ρ2\/body ρ1=.ct ρ2)/\I ρ2)->I ρ->∃ ρ',fC k body ds ρ=.nx ρ'/\I ρ'
 | [],ρ,_,h=>⟨ρ,rfl,h⟩
 | d::ds,ρ,hs,h=>by obtain ⟨ρ1,ρ2,e1,e2,h2⟩:=hs d mcs ρ h;obtain ⟨ρ',e3,h3⟩:=wJ I (λd hd=>hs d (mcm hd)) h2;refine ⟨ρ',?_,h3⟩;unfold fC;rw[e1];dsimp only;rcases e2 with e2 | e2 <;> rw[e2] <;> exact e3
theorem aJX{k:D->Rho->Option Rho}{body:Rho->aK}{m:Md}{ds:List D}{ρ:Rho}(I:Rho->Prop)(hs:∀ d∈ds,∀ ρ,I ρ->∃ ρ1 ρ2,k d ρ=some ρ1/\(body ρ1=.nx ρ2\/body ρ1=.ct ρ2)/\I ρ2)(h:I ρ):∃ ρ',lS (.ok m (.lst ds)) ρ k body=.nx ρ'/\I ρ':=wJ I hs h
theorem wK{k:D->Rho->Option Rho}{t e:Rho->Res}{ρ0:Rho}{f:D->D}:∀ {ds:List D},(∀ d∈ds,∃ ρ1 m,k d ρ0=some ρ1/\t ρ1=.ok m (.bl true)/\∃ m',bB (e ρ1)=.ok m' (f d))->eC k t e ρ0 ds=some (ds.map f)
 | [],_=>rfl
 | d::ds,h=>by obtain ⟨ρ1,m,e1,e2,m',e3⟩:=h d mcs;unfold eC;rw[e1];dsimp only;rw[e2];dsimp only;rw[e3];dsimp only;rw[wK λd hd=>h d (mcm hd)];rfl
theorem mW{ρ:Rho}{aE:List Nat}{n:Nat}{k:D->Rho->Option Rho}{t e:Rho->Res}{m:Md}{ds:List D}(f:D->D)(hl:ds.length<sizeLine)(h:∀ d∈ds,∃ ρ1 m,k d (cX aE ρ++List.replicate n none)=some ρ1/\t ρ1=.ok m (.bl true)/\∃ m',bB (e ρ1)=.ok m' (f d)):bN (.ok m (.lst ds)) ρ aE n k t e=.ok .fr (.lst (ds.map f)):=by unfold bN;rw[Res.thn_ok];dsimp only;rw[if_pos hl,wK h]
end D3
namespace Tp
open PySem PySem.W PySem.Calls
structure S where
 t:BT
 n:Nat
 k:Nat
 nm:Value
 g:List DictEntry
 tb:List Value
def tupO(vs:List Value):Obj:=⟨.type "tuple", none,.seq vs.toArray 0,#[]⟩
def fldO(c:Value)(vs:List Value):Obj:=⟨c,none,.fields vs.toArray,#[]⟩
def dicO(es:List DictEntry)(e:Nat):Obj:=⟨.type "dict", none,.dict es.toArray e,#[]⟩
def en(P:Params)(x:Str)(k:Nat)(v:Value):DictEntry:=⟨PyData.keyHash P x,.str x k,v⟩
def texts:List Str->Nat->List Value
 | [],_=>[]
 | x::xs,k=>.str x k::texts xs (k+1)
def fileS:Str := "/claim/cut.py"
def codeO(name aQ:Str)(k line argc fl:Nat)(isF:Bool)(a:Nat)(ls cs tm:Value)(j:Nat):Obj :=
 fldO (.type "code") [.str name k,.str aQ (k+1),.str fileS (k+2),.int line 0,.int argc 0,.int 0 0,.int 0 0,.int fl 0,.ref a,.bool isF,.int 181 0,.ref (a+1),.none,ls,cs,tm,.int j 0,.int line 0,.str fileS (j+1)]
def frmO(code ns:Nat)(nm:Value):Obj:=⟨.type "frame", none,.plain,#[some (.ref code),some (.ref 3),some (.ref ns),none,some nm,none,some (.ref 0)]⟩
def fnD(name aQ:Str)(args:Arguments)(body:List Stmt)(sc:Scope)(gl:Nat)(nm cd:Value):FuncData:=⟨name,aQ,args,.stmts body,sc,gl,[],.none,.none,.none,nm,none,cd,.none,0⟩
def insL:List Obj->BT->Nat->BT
 | [],t,_=>t
 | o::os,t,n=>insL os (t.ins n o) (n+1)
def layF(name aQ:Str)(args:Arguments)(body:List Stmt)(sc:Scope)(line n k:Nat)(nm:Value):List Obj×Nat×Nat :=
 match localNames args sc (.stmts body) with
 | some (ls,cs) =>
  let a:=ls.length
  let b:=cs.length
  ([tupO [],fldO .none [],tupO (texts ls (k+3)),tupO (texts cs (k+3+a)),⟨.none,none,.func (fnD name aQ args body sc 0 .none .none),#[]⟩,
   codeO name aQ k line args.args.length 3 true n (.ref (n+2)) (.ref (n+3)) (.ref (n+4)) (k+3+a+b),⟨.type "function", none,.func (fnD name aQ args body sc 3 nm (.ref (n+5))),#[]⟩],n+5,k+5+a+b)
 | none =>
  ([tupO [],fldO .none [],⟨.none,none,.func (fnD name aQ args body sc 0 .none .none),#[]⟩,
   codeO name aQ k line args.args.length 3 true n .none .none (.ref (n+2)) (k+3),⟨.type "function", none,.func (fnD name aQ args body sc 3 nm (.ref (n+3))),#[]⟩],n+3,k+5)
def look(x:Str):List DictEntry->Option Value
 | []=>none
 | ⟨_,.str y _,v⟩::es=>match decide (x=y) with | true=>some v | false=>look x es
 | _::es=>look x es
structure B where
 t:BT
 n:Nat
 k:Nat
 es:List DictEntry
 tb:List Value
def layB(P:Params)(cn:Str)(nm:Value):List Stmt->B->B
 | .FunctionDef name args body _ _ _ sc _ _ pos::r,⟨t,n,k,es,tb⟩ =>
  match layF name (cn ++ "." ++ name) args body sc pos.line n k nm with
  | (os,c,j)=>layB P cn nm r ⟨insL os t n,n+os.length,j+1,en P name j (.ref (c+1))::es,.ref c :: .int pos.col 0 :: .int pos.line 0::tb⟩
 | _::r,b=>layB P cn nm r b
 | [],b=>b
def mroOf(t:BT)(a:Nat):List Value×Value:=match t.get a with
 | some ⟨_,_,.cls c,sl⟩=>(c.mro,(sl.getD 4 none).getD .none)
 | _=>([],.none)
def subTo(a:Nat):Obj->Obj
 | ⟨c,d,.cls k,sl⟩=>⟨c,d,.cls { k with subclasses:=k.subclasses++[.ref a] },sl⟩
 | o=>o
def layC(P:Params)(name:Str)(bases:List PySem.Expr)(body:List Stmt)(st:List Str)(line:Nat):S->S
 | ⟨t,n,k,nm,g,tb⟩ =>
  let bs:List Value:=match bases with
   | .Name b _::_=>(match look b g with | some v=>[v] | none=>[.type "ValueError"])
   | _=>[]
  let n2:=n+2
  let t1:=insL [tupO bs,fldO (.type "builtin_function_or_method") [.builtin "type.__prepare__", .type "type"],dicO [] 0,tupO [],fldO .none [],codeO name name (k+2) line 0 0 false (n+3) .none .none .none (k+5),frmO (n+5) n2 nm] t n
  match layB P name nm body ⟨t1,n+7,k+12,[en P "__firstlineno__" (k+11) (.int line (k+10)),en P "__qualname__" (k+9) (.str name (k+8)),en P "__module__" (k+7) nm],[]⟩ with
  | ⟨t2,m,j,es,ct⟩ =>
   let es1:=en P "__static_attributes__" (j+st.length) (.ref m)::es
   let j1:=j+st.length+1
   let t3:=(t2.set n2 λ_=>dicO es1.reverse es1.length).set (n+4) λ_=>fldO .none ct.reverse
   let cl:=m+2
   let cp:=(es1.reverse.take 1)++(es1.reverse.drop 2)
   let fin (mro:List Value) (nw:Value) (bv:List Value) (sl0:Option Value) (xs:List DictEntry) (gs:List Obj) (t:BT) (j:Nat):S :=
    let os:=[tupO (texts st (m-m+(j1-1-st.length))),dicO (cp++xs++[en P "__doc__" j .none]) (2+xs.length),⟨.type "type", none,.cls ⟨name,bv,.ref cl::mro,m+1,name,true,[],[],false,none,false⟩,#[sl0,none,some (.str name k),some (.str name (k+8)),some nw,some (.bool true)]⟩]
     ++ gs++[fldO (.type "super") [.ref cl,.ref cl,.ref cl],fldO (.type "builtin_function_or_method") [.builtin "object.__init_subclass__", .ref cl]]
    ⟨insL os t m,m+os.length,j+3,nm,en P name (j+2) (.ref cl)::g,.ref (n+5) :: .int 0 0 :: .int line 0::tb⟩
   let gw (j a:Nat):=fldO (.type "getset_descriptor") [.str "__weakref__" j,.ref cl,.builtin "ExceptionGroup.__weakref__", .none]
   match bs with
   | [] => fin [.type "object"] (.builtin "object.__new__") [.type "object"] none [en P "__dict__" (j1 + 1) (.ref (m + 3)), en P "__weakref__" (j1 + 3) (.ref (m + 4))]
       [fldO (.type "getset_descriptor") [.str "__dict__" j1,.ref cl,.builtin "function.__dict__", .builtin "function.__dict__#set"],gw (j1+2) 0] t3 (j1+4)
   | .ref a::_=>match mroOf t3 a with
    | (mro,nw)=>fin mro nw bs (some (.ref n)) [] [] (t3.set a (subTo cl)) j1
   | _=>fin [.type "ValueError", .type "Exception", .type "BaseException", .type "object"] (.builtin "ValueError.__new__") bs (some (.ref n)) [en P "__weakref__" (j1+1) (.ref (m+3))] [gw j1 0] t3 (j1+2)
def keysD(P:Params)(g:List DictEntry):List (Option PySem.Expr)->List PySem.Expr->Nat->List DictEntry
 | some (.Constant (.str x) _ _)::ks,.Name y _::vs,k=>en P x k ((look y g).getD .none)::keysD P g ks vs (k+1)
 | _,_,_=>[]
def put(P:Params)(x:Str)(v:Value)(t:BT)(n k:Nat)(nm:Value)(g:List DictEntry)(tb:List Value):S:=match decide (x = "__name__") with
 | true=>⟨t,n,k+1,v,g,tb⟩
 | false=>⟨t,n,k+1,nm,en P x k v::g,tb⟩
def lay1(P:Params):Stmt->S->S
 | .FunctionDef name args body _ _ _ sc _ _ pos,⟨t,n,k,nm,g,tb⟩=>match layF name name args body sc pos.line n k nm with
  | (os,c,j)=>⟨insL os t n,n+os.length,j+1,nm,en P name j (.ref (c+1))::g,.ref c :: .int pos.col 0 :: .int pos.line 0::tb⟩
 | .ClassDef name bases _ body _ _ _ _ _ st pos,s=>layC P name bases body st pos.line s
 | .Assign [.Name x _] (.Constant (.str v) _ _) _,⟨t,n,k,nm,g,tb⟩=>put P x (.str v k) t n (k+1) nm g tb
 | .Assign [.Name x _] (.Constant (.int v) _ _) _,⟨t,n,k,nm,g,tb⟩=>put P x (.int v k) t n (k+1) nm g tb
 | .Assign [.Name x _] (.Dict ks vs _) _,⟨t,n,k,nm,g,tb⟩=>put P x (.ref n) (t.ins n (dicO (keysD P g ks vs k) vs.length)) (n+1) (k+2 * vs.length) nm g tb
 | _,s=>s
def lay(P:Params):List Stmt->S->S
 | [],s=>s
 | st::r,s=>lay P r (lay1 P st s)
def s0(os:List Obj):S :=
 ⟨insL [tupO [],fldO .none [],codeO "<module>" "<module>" 182 1 0 0 false 11 .none .none .none 185,frmO 13 3 (.str "__main__" 164)] (insL os .nil 0) 11,15,187,.str "__main__" 164,[],[]⟩
def nameTo(nm:Value):List DictEntry->List DictEntry
 | e::es=>{ e with val:=nm }::es
 | []=>[]
def mainTo(nm:Value)(g:List DictEntry):Obj->Obj
 | ⟨c,d,.dict es e,sl⟩=>⟨c,d,.dict (nameTo nm es.toList++g.reverse).toArray (e+g.length),sl⟩
 | o=>o
def S.bt(s:S):BT:=(s.t.set 3 (mainTo s.nm s.g)).set 12 λ_=>fldO .none s.tb.reverse
open PyProof.Rows
def z0:Pos:=⟨0,0,0,0⟩
def an:Option Value:=some (.ref 6)
def ev(p:Program):Env:={ scope:=p.main.scope,locals:=mainNs,globals:=mainNs,cells:=[],code:=.ref 13,frame:=some 14 }
def cd(p:Program):Code:=.body (behindTheImports p) (ev p)
def go(tb:String->Option Builtin)(p:Program)(w:World)(F:Nat):List Stmt->SharedT->Code->Pos->Option (SharedT×Code×Pos)
 | [],s,c,q=>some (s,c,q)
 | st::l,s,c,q=>match segRunT tb p w 11 an 1 F s (pieceOf st (ev p) c q [topFrame z0]) with
  | some (.next,s',c',q')=>go tb p w F l s' c' q'
  | _=>none
def ns(F N:Nat):List Stmt->Nat
 | []=>N
 | _::l=>F+ns F N l
section
variable {tb:String->Option Builtin}{p:Program}{w:World}
theorem one{n N:Nat}{s s' r:Shared}{st:Stmt}{a9:List Stmt}{c c':Code}{e:Env}{q q':Pos}(h:segRun tb p w 11 an 1 n s (pieceOf st e c q [topFrame z0])=some (.next,s',c',q'))(k:topRun tb p w 11 an N s' (restOf a9 e c' q' [topFrame z0])=some r):topRun tb p w 11 an (n+N) s (restOf (st::a9) e c q [topFrame z0])=some r:=by
 obtain ⟨a,ha,hN⟩:=seg_top (B:=[topFrame z0]) (res:=id)
  (K':=λf=>match f with
   | .next=>(execs a9 e).wrap doneF (leaveH e) id id
   | f=>doneF f)
  (H':=leaveH e) rfl n s (pieceOf st e c q [topFrame z0])
  ⟨(exec st e).wrap (λf=>match f with
   | .next=>(execs a9 e).wrap doneF (leaveH e) id id
   | f=>doneF f) (leaveH e) id id,c,q,[topFrame z0]⟩ _ _ _ _ ⟨rfl,rfl,.inl ⟨rfl,rfl,_,rfl,rfl⟩⟩ h
 cases ha;unfold restOf;rw[execs_cons_wrap];exact hN N r k
theorem go_top'{F:Nat}:∀ (l:List Stmt) {s s':SharedT} {c c':Code} {q q':Pos},go tb p w F l s c q=some (s',c',q')->∀ {N:Nat} {r:Shared} {a9:List Stmt},topRun tb p w 11 an N s'.abs (restOf a9 (ev p) c' q' [topFrame z0])=some r->topRun tb p w 11 an (ns F N l) s.abs (restOf (l++a9) (ev p) c q [topFrame z0])=some r
 | [],_,_,_,_,_,_,h,_,_,_,k=>by cases h;exact k
 | st::l,s,s',c,c',q,q',h,N,r,a9,k=>by
  unfold go at h;split at h
  . rename_i x e;exact one (segRun_of e) (go_top' l h k)
  . cases h
theorem fin2(s:Shared)(c:Code)(q:Pos):topRun tb p w 11 an 2 s (restOf [] (ev p) c q [topFrame z0])=some s:=by obtain ⟨h,g,d,k,o⟩:=s;rfl
noncomputable def sh(P:Params)(S:S)(n k:Nat)(os:OsState):SharedT:=⟨S.bt,n,(boot_heap P).life,#[],boot_drawn,k,os⟩
noncomputable def sA(P:Params):S:=s0 (boot_heap P).objs.toList
theorem run_of{l:List Stmt}{n k:Nat}{c':Code}{q':Pos}(hl:behindTheImports p=l)(pre:∀ (w:World) (os:OsState),topGo treeTable p w 11 an 12 ⟨boot_heap w.params,#[],boot_drawn,boot_toks,os⟩ (topStub p)=some ((sh w.params (sA w.params) 15 187 os).abs,⟨denote treeTable (cd p),cd p,z0,[topFrame z0]⟩))(blk:∀ (w:World) (s:Shared),segRun treeTable p w 11 an 1 1 s (blockOf l (ev p) (cd p) z0 [topFrame z0])=some (.next,s,cd p,z0))(run:∀ (w:World) (os:OsState),go treeTable p w 1000 l (sh w.params (sA w.params) 15 187 os) (cd p) z0=some (sh w.params (lay w.params l (sA w.params)) n k os,c',q')):∀ (w:World) (os:OsState),topRun treeTable p w 11 an (12+(1+ns 1000 2 l)) ⟨boot_heap w.params,#[],boot_drawn,boot_toks,os⟩ (topStub p)=some (sh w.params (lay w.params l (sA w.params)) n k os).abs:=by
 intro w os;refine go_top (pre w os) ?_;unfold cd;rw[hl];refine piece_block (n:=1) (by have:=blk w (sh w.params (sA w.params) 15 187 os).abs;unfold cd at this;rw[hl] at this;exact this) ?_
 have:=go_top' l (run w os) (a9:=[]) (fin2 _ _ _);rw[aR7] at this;unfold cd at this;rw[hl] at this;exact this
end
noncomputable def KK(l:List Stmt)(as:List Addr)(P:Params):Frag:=as.map λa=>(a,((lay P l (sA P)).bt.get a).getD default)
theorem KK_e(l:List Stmt)(as:List Addr)(P:Params):as=(KK l as P).map (·.1):=by unfold KK;rw[aUH];exact (List.map_id as).symm
noncomputable def hk(l:List Stmt)(as:List Addr):Hook:=kHook (KK l as) as (KK_e l as)
noncomputable def H1(l:List Stmt)(n:Nat)(P:Params):Heap:=absHeap (lay P l (sA P)).bt n (boot_heap P).life
noncomputable def S1(l:List Stmt)(n k:Nat)(P:Params)(os:OsState):Shared:=⟨H1 l n P,#[],boot_drawn,k,os⟩
def bnd(n:Str):Stmt->List Str
 | .FunctionDef x ..=>if x==n then [] else [x]
 | .ClassDef x ..=>[x]
 | .Assign [.Name x _] _ _=>if x == "__name__" then [] else [x]
 | _=>[]
def los(l:List Stmt):List Str:=l.flatMap (bnd "law")
def vw(p:Program):Program:={ p with main:={ p.main with body:=p.main.body.filter λst=>match st with | .FunctionDef x ..=>x == "law" | _=>false } }
def xt(r:OpenRow)(s:Shared):Bool:=xlAt (vw r.prog) [] s&&recOk r.toRowW.records s
theorem size1(w:World):((boot_heap w.params).isNs mainGlobals&&(#[]:Array GenState).size==0,(boot_heap w.params).objs.size,(boot_heap w.params).nsMap mainGlobals "__annotations__")=(true,11,an):=by kernel_rfl
end Tp
theorem Tp.twA:Prod.fst (true,(@Tp.go,@Tp.lay,@Tp.sh,@Tp.sA,@Tp.cd,@Tp.ev,@Tp.S.bt,@Tp.KK,@Tp.hk,@Tp.H1,@Tp.S1,@Tp.los,@Tp.vw,@Tp.xt))=true:=by k_qdec
namespace D3
open PySem PySem.Spec PySem.Calls PyProof.Rows L2
theorem wL:∀ {ps:List Str} {us:List Value},ps.Nodup->us.length=ps.length->ps.filterMap (λn=>((ps.zip us).lookup n).map (n,·))=ps.zip us/\∀ n∈ps,((ps.zip us).lookup n).isNone=false
 | [],us,_,_=>⟨rfl,λ_ h=>by cases h⟩
 | p::ps,[],_,h=>by cases h
 | p::ps,u::us,nd,h=>by
  obtain ⟨h1,h2⟩:=aR8.mp nd;obtain ⟨i1,i2⟩:=wL (us:=us) h2 (Nat.succ.inj h);have e:∀ n∈ps,((p,u)::ps.zip us).lookup n=(ps.zip us).lookup n:=λn hn=>by rw[aS3];have:(n==p)=false:=aQX.mpr λz=>h1 (z ▸ hn);rw[this]
  refine ⟨?_,λn hn=>?_⟩
  . rw[aUF,aQ9,aS3,aTN];dsimp only[Option.map];refine congrArg _ (Eq.trans ?_ i1);have c:∀ l:List Str,(∀ n∈l,n∈ps)->l.filterMap (λn=>(((p,u)::ps.zip us).lookup n).map (n,·))=l.filterMap (λn=>((ps.zip us).lookup n).map (n,·)):=by
      intro l hl
      induction l with
      | nil=>rfl
      | cons a l ih=>rw[aQ9,aQ9,e a (hl a mcs),ih λn hn=>hl n (mcm hn)]
    exact c ps λ_ h=>h
  . rw[aUF];rcases aRA.mp hn with rfl | hn
    . rw[aS3,aTN];rfl
    . rw[e n hn];exact i2 n hn
theorem aJY{fd:FuncData}{ps:List Str}(h1:fd.params.posonlyargs=[])(h2:fd.params.args.map (·.arg)=ps)(h3:fd.params.vararg=none)(h4:fd.params.kwonlyargs=[])(h5:fd.params.kwarg=none)(hd:fd.defaults=.none)(h6:ps.Nodup)(us:List Value)(hl:us.length=ps.length):bindArgs fd ⟨us,[]⟩=pure (ps.zip us):=by
 obtain ⟨z1,z2⟩:=wL h6 hl;have z3:(ps.take (ps.length-0)).filter (λn=>((ps.zip us).lookup n).isNone)=[]:=by rw[Nat.sub_zero,aT7,List.filter_eq_nil_iff];intro n hn;rw[z2 n hn];decide
 unfold bindArgs;simp only[h1,h2,h3,h4,h5,hd,aS0,List.nil_append,aR7,aTK,aTM,hl,aQ3,seqItems?];have q:(do notAStandIn Value.none;pure none:Sem (Option (Array Value)))=pure none:=rfl
 rw[q];simp only[aTM,aST,aSZ,Nat.zero_sub,aTU,z3,decide_false,Bool.false_and,aTO,aSK,List.isEmpty_nil,Bool.not_true,List.zip_nil_right,aTK,z1,Array.toList_empty,List.drop_nil]
noncomputable def adB(K:Fg)(x:Str):Option Addr:=match PySem.W.nsIn K mainGlobals x with | some (some (.ref a))=>some a | _=>none
theorem dY{K:Fg}{x:Str}{a:Addr}(h:adB K x=some a):PySem.W.nsIn K mainGlobals x=some (some (.ref a)):=by
 unfold adB at h;split at h
 . rename_i b e;cases h;exact e
 . cases h
noncomputable def isKey(key:Str):Addr×Obj->Bool
 | (_,⟨.type t,_,.func fd,_⟩)=>t == "function" && fd.qualname==key
 | _=>false
noncomputable def faK(K:Fg)(key:Str):Addr:=match K.find? (isKey key) with | some p=>p.1 | none=>0
noncomputable def stOf(fd:FuncData)(b:List Stmt):Stmt:=.FunctionDef fd.name fd.params b [] none [] fd.scope none fd.name ⟨0,0,0,0⟩
noncomputable def parB(p:Arguments)(ps:List Str):Bool:=p.posonlyargs.isEmpty&&(p.args.map (·.arg)==ps)&&p.vararg.isNone&&p.kwonlyargs.isEmpty&&p.kwarg.isNone&&decide ps.Nodup
noncomputable def fdB(K:Fg)(nm:Option Str)(key:Str)(a:Addr)(ps:List Str)(f:Stmt->Bool)(fd:FuncData)(b:List Stmt):Bool :=
 (nm.getD fd.name==fd.name)&&((fd.qualname==key)&&(fd.globals==mainGlobals&&(fd.closure.isEmpty&&((fd.defaults == .none)&&(fd.builtins==builtinsNs&&(PySem.W.codeIn K fd.code key&&(PySem.W.keepIn K (.ref a)&&(parB fd.params ps&&f (stOf fd b)))))))))
noncomputable def i6(K:Fg)(nm:Option Str)(key:Str)(a:Addr)(ps:List Str)(f:Stmt->Bool):Bool:=match K.lookup a with
 | some ⟨_,_,.func fd,_⟩=>(match fd.body with
  | .stmts b=>fdB K nm key a ps f fd b
  | _=>false)
 | _=>false
theorem pR{K:Fg}{nm:Option Str}{key:Str}{a:Addr}{ps:List Str}{f:Stmt->Bool}(h:i6 K nm key a ps f=true):∃ name st fd,Fun K name key st a fd/\d9 K fd ps []/\f st=true/\nm.getD name=name/\∀ us:List Value,us.length=ps.length->bindArgs fd ⟨us,[]⟩=pure (ps.zip us):=by
 unfold i6 at h;split at h
 . rename_i oc od fd sl el;split at h
   . rename_i b eb;unfold fdB at h;simp only[aSR] at h;obtain ⟨h1,h2,h3,h4,h5,h6,h7,h8,h9,h10⟩:=h;obtain ⟨name,qualname,params,body,scope,globals,closure,defaults,kwdefaults,doc,pm,an,code,ct,bl⟩:=fd;dsimp only at *;obtain rfl:=eb;obtain rfl:=aRY.mp h2;obtain rfl:=aRY.mp h3;obtain rfl:=List.isEmpty_iff.mp h4;obtain rfl:=aRY.mp h5;obtain rfl:=aRY.mp h6;unfold parB at h9;simp only[aSR,List.isEmpty_iff,aRY,Option.isNone_iff_eq_none,aS4] at h9;obtain ⟨⟨⟨⟨⟨p1,p2⟩,p3⟩,p4⟩,p5⟩,p6⟩:=h9;have bp:=aJY (fd:=PySem.W.fnOf name qualname params b scope .none kwdefaults doc pm an code ct) p1 p2 p3 p4 p5 rfl p6;exact ⟨name,_,_,aCY (st:=stOf ⟨name,qualname,params,.stmts b,scope,mainGlobals,[],.none,kwdefaults,doc,pm,an,code,ct,builtinsNs⟩ b) el h7 h8,.all bp,h10,aRY.mp h1,bp⟩
   . cases h
 . cases h
noncomputable def gvB(K:Fg)(x:Str):GV->Bool
 | .con (.s y)=>(match PySem.W.nsIn K mainGlobals x with | some (some (.str z _))=>z==y | _=>false)
 | .con (.i n)=>(match PySem.W.nsIn K mainGlobals x with | some (some (.int z _))=>z==n | _=>false)
 | .con (.t _)=>true
 | .no=>PySem.W.nsIn K mainGlobals x==some none
 | .fn _=>PySem.W.nsIn K mainGlobals x==some (some (.ref (faK K x)))
 | .cls=>true
noncomputable def mX(K:Fg)(C:Addr):Bool:=PySem.W.plainGet K C Str.empty&&(PySem.W.hasDictIn K C&&(PySem.W.plainOver K C&&PySem.W.findIn K (.ref C) "__setattr__" == some (some (.builtin "object.__setattr__"))))
theorem wM{K:Fg}{C:Addr}(h:mX K C=true):Cls K C:=by unfold mX at h;simp only[aSR,aRY] at h;exact ⟨h.1,h.2.1,h.2.2.1,h.2.2.2⟩
noncomputable def pS(K:Fg)(C:Addr)(x:Str×Str×Nat):Bool:=PySem.W.findIn K (.ref C) x.1==some (some (.ref (faK K x.2.1)))&&(PySem.W.isFn K (.ref (faK K x.2.1))&&PySem.W.keepIn K (.ref (faK K x.2.1)))
noncomputable def ciB(K:Fg)(i:CI):Bool:=match adB K i.name with
 | some C=>mX K C&&(i.meths.all (pS K C)&&i.flds.all λf=>PySem.W.findIn K (.ref C) f==some none)
 | none=>false
noncomputable def mk0B(K:Fg)(c:Str):Bool:=match adB K c with
 | some C=>PySem.W.makesIn K C&&(PySem.W.findIn K (.ref C) "__init__" == some (some (.builtin "object.__init__"))&&PySem.W.keepIn K (.ref C))
 | none=>false
noncomputable def clB(K:Fg)(C:Addr):Bool:=PySem.W.findIn K (.ref C) "__class__" == some (some (.builtin "object.__class__"))&&(PySem.W.specialIn K (.builtin "object.__class__") "__get__" == some (some (.builtin "getset_descriptor.__get__"))&&(PySem.W.takesIn K (.builtin "object.__class__")==some true&&PySem.W.mroIn K C (.type "object")==some true))
noncomputable def isoB(K:Fg)(cl:List CI)(c:Str):Bool:=match adB K c with
 | some C=>["NoneType", "bool", "int", "str", "tuple", "list", "dict"].all (λt=>PySem.W.kitOne K (.type t) (.ref C)==some false)&&cl.all λi=>match adB K i.name with
  | some C'=>mX K C'&&(clB K C'&&PySem.W.kitOne K (.ref C') (.ref C)==some (i.ups.contains c))
  | none=>false
 | none=>false
noncomputable def inB(K:Fg)(g:MG)(x:Str×ID):Bool:=match adB K x.2.c with
 | some C=>PySem.W.makesIn K C&&(PySem.W.findIn K (.ref C) "__init__" == some (some (.ref (faK K x.1)))&&(PySem.W.isFn K (.ref (faK K x.1))&&(PySem.W.keepIn K (.ref C)&&i6 K none x.1 (faK K x.1) x.2.ps (λst=>pH g st x.2))))
 | none=>false
noncomputable def xtB(K:Fg)(x:(Str×Str)×Bool):Bool:=match adB K x.1.1,adB K x.1.2 with
 | some C,some C2=>PySem.W.mroIn K C2 (.type "BaseException")==some true&&(PySem.W.typeIn K (.ref C2)==some (.type "type")&&PySem.W.mroIn K C (.ref C2)==some x.2)
 | _,_=>false
noncomputable def xcB(K:Fg)(C:Addr):Bool:=PySem.W.findIn K (.ref C) "__getattribute__" == some (some (.builtin "BaseException.__getattribute__"))&&(PySem.W.findIn K (.ref C) "__getattr__" == some none&&(PySem.W.mroIn K C (.type "BaseException")==some true&&clB K C))
noncomputable def cvB(K:Fg)(n:Str):Option V:=match PySem.W.nsIn K mainGlobals n with
 | some (some (.ref C))=>some (.ref C)
 | some none=>if n == "__name__" then none else (match bootBuiltins n with | some (.type T)=>some (.ty T) | _=>none)
 | _=>none
noncomputable def xiB(K:Fg)(x:(Str×Str)×Bool):Bool:=match adB K x.1.1,cvB K x.1.2 with
 | some C,some cv=>xcB K C&&PySem.W.kitOne K (.ref C) (uR cv)==some x.2
 | _,_=>false
noncomputable def rzB(K:Fg)(c:Str):Bool:=match adB K c with
 | some C=>PySem.W.excIn K C oR "ValueError.__new__"
 | none=>false
noncomputable def gfB(K:Fg)(g:MG)(t:TB):Bool :=
 g.G.all (λx=>gvB K x.1 x.2)&&(gOk g.G t.T&&(t.T.all (λx=>i6 K (if x.1 == "law" then some "law" else none) x.1 (faK K x.1) x.2.ps (λst=>gZ g st x.2))&&(t.I.all (inB K g)&&(g.mk0.all (mk0B K)&&(v6 g.mki t.I&&(g.iso.all (isoB K t.cl)&&(t.cl.all (ciB K)&&(mtOk t.cl t.T&&(t.xt.all (xtB K)&&(t.xi.all (xiB K)&&(g.xcs.all (rzB K)&&g.xns.all (λn=>(cvB K n).isSome))))))))))))
section
variable {w:World}{K:Fg}{mg:SOV}{h:Heap}(X:K.In h)(G:h.Ns mainGlobals mg)
include X G
theorem wN:∀ {l:List (Str×GV)},(∀ x tb,(x,GV.con (.t tb))∈l->iP w K mg x tb)->l.all (λx=>gvB K x.1 x.2)=true->kD w K mg (faK K) l
 | [],_,_=>trivial
 | (x,v)::l,ht,b=>by
  rw[aSU,aSR] at b;refine ⟨?_,wN (λx tb hx=>ht x tb (mcm hx)) b.2⟩;have b:=b.1;dsimp only at b;cases v with
  | con c =>
   cases c with
   | s y =>
    have b:(match PySem.W.nsIn K mainGlobals x with | some (some (.str z _))=>z==y | _=>false)=true:=b
    split at b
    . rename_i z t e;cases aRY.mp b;exact ⟨t,aUM X G e⟩
    . cases b
   | i y =>
    have b:(match PySem.W.nsIn K mainGlobals x with | some (some (.int z _))=>z==y | _=>false)=true:=b
    split at b
    . rename_i z t e;cases aRY.mp b;exact ⟨t,aUM X G e⟩
    . cases b
   | t tb=>exact ht x tb mcs
  | fn n=>exact aUM X G (aRY.mp b)
  | no=>exact PySem.W.mg_none_of X G (aRY.mp b)
  | cls=>trivial
theorem wO{n:Str}{cv:V}(e:cvB K n=some cv):l6 mg n cv:=by
 unfold cvB at e;split at e
 . rename_i C q;cases e;exact .inl ⟨C,aUM X G q,rfl⟩
 . rename_i q;split at e
   . cases e
   . rename_i hn;split at e
     . rename_i T hb;cases e;exact .inr ⟨PySem.W.mg_none_of X G q,by simpa using hn,T,hb,rfl⟩
     . cases e
 . cases e
end
theorem wP{K:Fg}{g:MG}:∀ {l:List (Str×FD)},l.all (λx=>i6 K (if x.1 == "law" then some "law" else none) x.1 (faK K x.1) x.2.ps (λst=>gZ g st x.2))=true->kB K g (faK K) l
 | [],_=>trivial
 | (x,d)::l,b=>by rw[aSU,aSR] at b;obtain ⟨name,st,fd,F,hb,ok,_,_⟩:=pR b.1;exact ⟨⟨name,st,fd,F,hb,ok⟩,wP b.2⟩
theorem wQ{K:Fg}{C:Addr}:∀ {l:List (Str×Str×Nat)},l.all (pS K C)=true->iV K (faK K) C l
 | [],_=>trivial
 | (m,key,n)::l,b=>by rw[aSU,aSR] at b;have b1:=b.1;unfold pS at b1;simp only[aSR,aRY] at b1;exact ⟨⟨b1.1,b1.2.1,b1.2.2⟩,wQ b.2⟩
theorem wR{K:Fg}{C:Addr}:∀ {l:List Str},l.all (λf=>PySem.W.findIn K (.ref C) f==some none)=true->iW K C l
 | [],_=>trivial
 | f::l,b=>by rw[aSU,aSR] at b;exact ⟨aRY.mp b.1,wR b.2⟩
theorem wS{K:Fg}:∀ {l:List CI},l.all (ciB K)=true->kE K (faK K) l
 | [],_=>trivial
 | i::l,b=>by
  rw[aSU,aSR] at b;refine ⟨?_,wS b.2⟩;have b:=b.1;unfold ciB at b;split at b
  . rename_i C e;simp only[aSR] at b;exact ⟨C,dY e,wM b.1,wQ b.2.1,wR b.2.2⟩
  . cases b
section
variable {w:World}{K:Fg}{mg:SOV}{h:Heap}(X:K.In h)(G:h.Ns mainGlobals mg)
include X G
theorem wT{g:MG}:∀ {l:List (Str×ID)},l.all (inB K g)=true->kC K mg g l
 | [],_=>trivial
 | (x,d)::l,b=>by
  rw[aSU,aSR] at b;refine ⟨?_,wT b.2⟩;have b:=b.1;unfold inB at b;split at b
  . rename_i C e;simp only[aSR,aRY] at b;obtain ⟨b1,b2,b3,b4,b5⟩:=b;obtain ⟨name,st,fd,F,hb,ok,_,_⟩:=pR b5;exact ⟨name,st,C,_,fd,dY e,aUM X G (dY e),⟨b1,b2,b3,b4⟩,F,hb,ok⟩
  . cases b
omit X G in
theorem pT{c x:Str}{v:Bool}:∀ {l:List ((Str×Str)×Bool)},l.lookup (c,x)=some v->((c,x),v)∈l
 | [],e=>by cases e
 | (y,b)::l,e=>by
  rw[aS3] at e;split at e
  . rename_i hb;cases e;rw[<- aRY.mp hb];exact mcs
  . exact mcm (pT e)
theorem xt_of{l:List ((Str×Str)×Bool)}(b:l.all (xtB K)=true):oU K mg (λc x=>l.lookup (c,x)):=λc x v e=>by
 have b:=aTD.mp b ((c,x),v) (pT e);unfold xtB at b;split at b
 . rename_i C C2 e1 e2;simp only[aSR,aRY] at b;exact ⟨C,C2,dY e1,aUM X G (dY e1),aUM X G (dY e2),b.1,b.2.1,b.2.2⟩
 . cases b
theorem xi_of{l:List ((Str×Str)×Bool)}(b:l.all (xiB K)=true):oV K mg (λc x=>l.lookup (c,x)):=λc x v e=>by
 have b:=aTD.mp b ((c,x),v) (pT e);unfold xiB at b;split at b
 . rename_i C cv e1 e2;unfold xcB clB at b;simp only[aSR,aRY] at b;obtain ⟨⟨b1,b2,b3,b4,b5,b6,b7⟩,b8⟩:=b;exact ⟨C,cv,dY e1,⟨b1,b2,b4,b3,b7,b5,b6⟩,wO X G e2,b8⟩
 . cases b
theorem gf_of{g:MG}{t:TB}(b:gfB K g t=true)(ht:∀ x tb,(x,GV.con (.t tb))∈g.G->iP w K mg x tb):GF w K mg g t (faK K):=by
 unfold gfB at b;simp only[aSR] at b;obtain ⟨b1,b2,b3,b4,b5,b6,b7,b8,b9,b10,b11,b12,b13⟩:=b;refine ⟨wN X G ht b1,b2,wP b3,wT X G b4,λc hc=>?_,b6,λc hc=>?_,wS b8,b9,xt_of X G b10,xi_of X G b11,λc hc=>?_,λn hn=>?_⟩
 . have b:=aTD.mp b5 c hc;unfold mk0B at b;split at b
   . rename_i C e;simp only[aSR,aRY] at b;exact ⟨C,dY e,aUM X G (dY e),b.1,b.2.1,b.2.2⟩
   . cases b
 . have b:=aTD.mp b7 c hc;unfold isoB at b;split at b
   . rename_i C e;rw[aSR] at b;refine ⟨C,aUM X G (dY e),λt ht=>aRY.mp (aTD.mp b.1 t ht),λi hi=>?_⟩;have b:=aTD.mp b.2 i hi;split at b
     . rename_i C' e';unfold clB at b;simp only[aSR,aRY] at b;obtain ⟨c1,⟨c2,c3,c4,c5⟩,c6⟩:=b;exact ⟨C',dY e',wM c1,c2,c3,c4,c5,c6⟩
     . cases b
   . cases b
 . have b:=aTD.mp b12 c hc;unfold rzB at b;split at b
   . rename_i C e;exact ⟨C,aUM X G (dY e),b⟩
   . cases b
 . have b:=aTD.mp b13 n hn;cases e:cvB K n with
   | none=>rw[e] at b;cases b
   | some cv=>exact ⟨cv,wO X G e⟩
end
noncomputable def pU(K:Fg)(g:MG)(t:TB):Bool:=gfB K g t&&PySem.W.nsIn K mainGlobals "law" == some (some (.ref (faK K "law")))
theorem wU{x:Str}{d:FD}:∀ {l:List (Str×FD)},l.lookup x=some d->(x,d)∈l
 | [],e=>by cases e
 | (y,b)::l,e=>by
  rw[aS3] at e;split at e
  . rename_i hb;cases e;rw[<- aRY.mp hb];exact mcs
  . exact mcm (wU e)
noncomputable def noT(g:MG):Bool:=g.G.all λx=>match x.2 with | .con (.t _)=>false | _=>true
theorem aJZ{g:MG}{K:Params->Fg}(b:noT g=true)(w:World)(mg:SOV)(h:Heap)(_:(K w.params).In h)(_:h.Ns mainGlobals mg)(x:Str)(tb:List (Str×Str))(hm:(x,GV.con (.t tb))∈g.G):iP w (K w.params) mg x tb:=by have:=aTD.mp b _ hm;cases this
theorem walkG{l:PySem.W.OpenLaw}{q:Program}{loose:List Str}{XP:(Str->Option Value)->Heap->Prop}{YP:World->Heap->Prop}{d:DefRec}{K:Params->Fg}{g:MG}{t:TB}{kk:Nat}{x:Str}{e:FD}(hn:l.most=some 63)(hdf:d.params.defaults=[])(hdn:d.name = "law")(hY:∀ (w:World) (h:Heap),YP w h->(K w.params).In h)(b:∀ P,pU (K P) g t=true)(ht:∀ (w:World) (mg:SOV) (h:Heap),(K w.params).In h->h.Ns mainGlobals mg->∀ x tb,(x,GV.con (.t tb))∈g.G->iP w (K w.params) mg x tb)(hT:t.T.lookup ("law" : Str)=some e)(hps:e.ps=[x])(hr:bJ (kk+1) callerA)(main:∀ ns:List Int,ns.length<=63->(WT t (kk+1)).Φ "law" (lX ns)=.ok .fz (.bl true)):PySem.W.WalkO q loose XP YP l.row.toRowW d [] (λf vs=>PySem.call f vs):=by
 refine L2.aCX (n:=63) (k:=kk+1) (x:=x) (CX:=λw=>CX1 l.prog w) (sp:=λw=>pJ (K w.params) ((WT t (kk+1)).Φ ("law" : Str))) hn (by decide) hdf hr hY (λw mg fa h KX G hmg=>?_)
  (λ_ _ a ns hl _ hS=>⟨a,ns,rfl,hS,main ns hl,λ_=>rfl⟩) λ_ _ _ _ _ z=>by obtain ⟨_,_,_,_,_,_,_,_,_,_,z⟩:=z;exact z
 have b:=b w.params;unfold pU at b;rw[aSR,aRY] at b;have f:=gf_of (w:=w) KX G b.1 (ht w mg h KX G);have e1:=aUM KX G b.2;rw[hdn,e1] at hmg;cases hmg;have b3:t.T.all (λx=>i6 (K w.params) (if x.1 == "law" then some "law" else none) x.1 (faK (K w.params) x.1) x.2.ps (λst=>gZ g st x.2))=true:=by have:=b.1;unfold gfB at this;simp only[aSR] at this;exact this.2.2.1
 obtain ⟨name,st,fd,F,hb,ok,hnm,bp⟩:=pR (aTD.mp b3 (("law" : Str),e) (wU hT));have hnm:name = "law" := hnm.symm;subst hnm;refine ⟨fd,λs u=>.of_eq ?_,λbase _ _=>?_⟩
 . have:=bp [u] (by rw[hps];rfl)
   rw[hps] at this;exact this
 . have:=aJP (P:=l.prog) (base:=base) f kk F hT ok (by rw[hps];rfl)
   rw[hps] at this;exact this
end D3
namespace Tp
open PySem PySem.W PySem.Calls PyProof.Rows
theorem left{p:Program}{r:OpenRow}{l:List Stmt}{n k:Nat}{as:List Addr}{c':Code}{q':Pos}(hl:behindTheImports p=l)(pre:∀ (w:World) (os:OsState),topGo treeTable p w 11 an 12 ⟨boot_heap w.params,#[],boot_drawn,boot_toks,os⟩ (topStub p)=some ((sh w.params (sA w.params) 15 187 os).abs,⟨denote treeTable (cd p),cd p,z0,[topFrame z0]⟩))(blk:∀ (w:World) (s:Shared),segRun treeTable p w 11 an 1 1 s (blockOf l (ev p) (cd p) z0 [topFrame z0])=some (.next,s,cd p,z0))(run:∀ (w:World) (os:OsState),go treeTable p w 1000 l (sh w.params (sA w.params) 15 187 os) (cd p) z0=some (sh w.params (lay w.params l (sA w.params)) n k os,c',q'))(le:Nat.ble (12+(1+ns 1000 2 l)) 1000000=true)(e1:opening p=plainProg p.main.scope.names)(e2:∀ s,fenceModules? p s=some s)(rK:∀ w:World,(λos=>((staticsOk (importedModules p.main.body) (boot_heap w.params) (H1 l n w.params)&&namesBound p (H1 l n w.params)&&gensDone (S1 l n k w.params os)&&laidKept (boot_heap w.params) (H1 l n w.params)),openSeen (vw p) (los l) (importedModules p.main.body) (xt r) true (S1 l n k w.params os),(hk l as).obs (S1 l n k w.params os)))=λ_=>(true,openGood (vw p) (los l),(hk l as).val w)):LeftO p (vw p) (los l) (xt r) (hk l as).obs (hk l as).val 1000000 :=
 LeftO.of_pieces (H₀:=boot_heap) (H₁:=H1 l n) (m₀:=11) (ann:=an) (boot_open e1 rfl e2) size1 (run_of hl pre blk run) le rK
theorem head{p:OpenLaw}{l:List Stmt}{as:List Addr}{d:DefRec}(left:LeftO p.prog (vw p.prog) (los l) (xt p.row) (hk l as).obs (hk l as).val 1000000)(said:p.row.wellSaid=true)(h1:defOf (vw p.prog) p.name=some (d,[]))(h2:p.prog.theDef p.name=some (d.params,d.body,d.scope))(h3:kwWritten? d.params.kwonlyargs d.params.kw_defaults=some [])(h4:(!p.row.writes||p.row.records.isEmpty)=true)(ok:(chainsOk (vw p.prog)&&opensWell p.prog&&(frees p.row.toRowW&&p.row.within.isEmpty))=true)(hb:p.prog.bare)(hw:p.row.toRowW.promised)(call:WalkO (vw p.prog) (los l) (XL (vw p.prog) []) (hk l as).says p.row.toRowW d [] λf vs=>PySem.call f vs):p.row.Holds :=
 holds_open (r:=p.row) (XP:=XL (vw p.prog) []) (YP:=(hk l as).says) left (hk l as).of (hk l as).keeps (λs e=>xl_of s (Bool.and_eq_true_iff.mp e).1) XL.keeps h1 h2 h3
  (λs e=>recFacts_of (Bool.and_eq_true_iff.mp e).2) h4 said ok hb hw call
end Tp
namespace D3
open PySem PySem.Spec PySem.Calls PyProof.Rows L2
end D3
namespace K11
open PySem L2 D3
def fG:List D3.S:=[.set 4 (.frz (.call "_law_spec" 1 [(.var 3)])),.set 5 (.frz (.call "_law_kind" 1 [(.var 4)])),.set 6 (.frz (.call "_law_note" 4 [(.var 4),(.var 3),(.int 1),(.var 1)])),.set 7 (.ix (.lst [(.int 0),(.int 1),(.int 2),(.frz (.bin .Mod (.var 3) (.int 100))),(.frz (.bin .Mod (.ix (.var 0) (.bin .Mod (.bin .Add (.var 2) (.int 1)) (.bcall .len [(.var 0)]))) (.bin .Pow (.int 10) (.int 60))))]) (.bin .Mod (.call "_law_mix" 2 [(.var 3),(.int 9)]) (.int 5))),.ite (.not (.tru (.call "_law_same" 2 [(.frz (.meth (.var 5) "many" [(.var 7),(.var 6)])),(.frz (.call "_law_many" 3 [(.var 4),(.var 7),(.var 6)]))]))) [.ret (.bl false)] [],.ite (.not (.tru (.call "_law_same" 2 [(.frz (.meth (.var 5) "lack" [(.var 6)])),(.frz (.call "_law_lack" 2 [(.var 4),(.var 6)]))]))) [.ret (.bl false)] [],.set 8 (.ix (.call "_law_ends" 1 [(.var 4)]) (.int 0)),.ite (.orL [(.not (.tru (.call "_law_same" 2 [(.frz (.meth (.var 5) "lack" [(.var 8)])),(.ix (.call "_law_ends" 1 [(.var 4)]) (.int 1))]))),(.not (.tru (.call "_law_same" 2 [(.frz (.meth (.var 5) "many" [(.var 7),(.var 8)])),(.var 8)])))]) [.ret (.bl false)] []]
def mY:List D3.S:=[.ret (.andL [(.bcall .isinstance [(.var 0),(.ty .int)]),(.not (.bcall .isinstance [(.var 0),(.ty .bool)]))])]
def aJ0:List D3.S:=[.never,.never,.never]
def aJ1:List D3.S:=[.never]
def aJ2:List D3.S:=[.never,.never,.never,.never,.never]
def aJ3:List D3.S:=[.never,.never]
def aJ4:List D3.S:=[.never]
def aJ5:List D3.S:=[.never,.never]
def aJ6:List D3.S:=[.never]
def aJ7:List D3.S:=[.never]
def aJ8:List D3.S:=[.never,.never,.never,.never]
def aJ9:List D3.S:=[.never,.never]
def mZ:List D3.S:=[.set 2 (.frz (.meth (.var 0) "nought" [])),.ret (.comp (.tup [(.var 1),(.var 2)]) (.items (.var 1)) [(.cmp .NotEq (.var 2) (.var 0))] [2] (.tp [(.nm 1),(.nm 2)]) 2)]
def aKA:List D3.S:=[.never]
def aKB:List D3.S:=[.never,.never]
def aKC:List D3.S:=[.never,.never]
def aKD:List D3.S:=[.never,.never,.never]
def aKE:List D3.S:=[.never,.never]
def aKF:List D3.S:=[.never,.never,.never,.never]
def aKG:List D3.S:=[.never]
def aKH:List D3.S:=[.never]
def m5:List D3.S:=[.set 2 (.frz (.bin .Mod (.bin .Mult (.bin .Add (.bin .Mod (.var 0) (.bin .Pow (.int 10) (.int 60))) (.int 1)) (.bin .Add (.int 48271) (.bin .Mult (.int 130) (.var 1)))) (.int 2147483647))),.ret (.bin .Mod (.bin .Mult (.var 2) (.var 2)) (.int 2147483629))]
def fH:List D3.S:=[.set 2 (.str "abcdefghijklmnopqrstuvwxyz"),.set 3 (.frz (.mt .join (.str "") [(.comp (.ix (.var 0) (.bin .Mod (.call "_law_mix" 2 [(.var 1),(.var 2)]) (.int 26))) (.rng1 (.int 4)) [] [2,0] (.nm 2) 1)])),.set 4 (.frz (.bin .Mod (.call "_law_mix" 2 [(.var 0),(.int 5)]) (.int 4))),.set 5 (.frz (.bin .Mod (.call "_law_mix" 2 [(.var 0),(.int 6)]) (.int 26))),.ite (.cmp .Eq (.bin .Mod (.call "_law_mix" 2 [(.var 0),(.int 7)]) (.int 3)) (.int 0)) [.ret (.srt (.comp (.bin .Add (.ix (.var 0) (.bin .Mod (.bin .Add (.var 2) (.bin .Mult (.int 7) (.var 3))) (.int 26))) (.slice (.var 1) none (some (.bin .Mod (.bin .Add (.var 2) (.var 3)) (.int 4))))) (.rng1 (.var 1)) [] [2,3,5] (.nm 3) 1))] [],.ret (.srt (.comp (.bin .Add (.bin .Add (.slice (.var 0) none (some (.var 2))) (.ix (.var 1) (.bin .Mod (.bin .Add (.var 3) (.bin .Mult (.int 7) (.var 4))) (.int 26)))) (.slice (.var 0) (some (.bin .Add (.var 2) (.int 1))) none)) (.rng1 (.var 1)) [] [3,2,4,5] (.nm 4) 1))]
def m6:List D3.S:=[.set 2 (.frz (.lst [(.str "counts"),(.str "truth"),(.str "costs"),(.str "sure"),(.str "voices"),(.str "least"),(.str "wheel")])),.ret (.tup [(.ix (.var 2) (.bin .Mod (.call "_law_mix" 2 [(.var 0),(.var 1)]) (.int 7))),(.frz (.bin .Add (.int 2) (.bin .Mod (.call "_law_mix" 2 [(.var 0),(.frz (.bin .Add (.var 1) (.int 1)))]) (.int 9))))])]
def f7:List D3.S:=[.set 1 (.frz (.bin .Mod (.call "_law_mix" 2 [(.var 0),(.int 0)]) (.int 8))),.ite (.cmp .Lt (.var 1) (.int 4)) [.ret (.call "_law_flat" 2 [(.var 0),(.int 1)])] [],.set 2 (.tup [(.str "pair"),(.frz (.call "_law_flat" 2 [(.var 0),(.int 1)])),(.frz (.call "_law_flat" 2 [(.var 0),(.int 3)]))]),.ite (.cmp .Eq (.var 1) (.int 4)) [.retV 2] [],.ite (.cmp .Eq (.var 1) (.int 5)) [.ret (.tup [(.str "heaps"),(.frz (.call "_law_flat" 2 [(.var 0),(.int 1)]))])] [],.ite (.cmp .Eq (.var 1) (.int 6)) [.ret (.tup [(.str "pair"),(.tup [(.str "heaps"),(.frz (.call "_law_flat" 2 [(.var 0),(.int 1)]))]),(.frz (.call "_law_flat" 2 [(.var 0),(.int 3)]))])] [],.ret (.tup [(.str "heaps"),(.var 2)])]
def dZ:List D3.S:=[.ite (.cmp .Eq (.ix (.var 0) (.int 0)) (.str "pair")) [.ret (.make "Pair" "Pair.__init__" 2 [(.frz (.call "_law_kind" 1 [(.ix (.var 0) (.int 1))])),(.frz (.call "_law_kind" 1 [(.ix (.var 0) (.int 2))]))])] [],.ite (.cmp .Eq (.ix (.var 0) (.int 0)) (.str "heaps")) [.ret (.make "Heaps" "Heaps.__init__" 1 [(.frz (.call "_law_kind" 1 [(.ix (.var 0) (.int 1))]))])] [],.ite (.cmp .Eq (.ix (.var 0) (.int 0)) (.str "wheel")) [.ret (.make "Wheel" "Wheel.__init__" 1 [(.ix (.var 0) (.int 1))])] [],.ite (.cmp .Eq (.ix (.var 0) (.int 0)) (.str "sure")) [.ret (.mk0 "Sure")] [],.ite (.cmp .Eq (.ix (.var 0) (.int 0)) (.str "voices")) [.ret (.mk0 "Voices")] [],.ite (.cmp .Eq (.ix (.var 0) (.int 0)) (.str "least")) [.ret (.mk0 "Least")] [],.ite (.cmp .Eq (.ix (.var 0) (.int 0)) (.str "costs")) [.ret (.mk0 "Costs")] [],.ite (.cmp .Eq (.ix (.var 0) (.int 0)) (.str "truth")) [.ret (.mk0 "Truth")] [],.ret (.mk0 "Counts")]
def f8:List D3.S:=[.ite (.cmp .Eq (.ix (.var 0) (.int 0)) (.str "pair")) [.set 1 (.frz (.call "_law_ends" 1 [(.ix (.var 0) (.int 1))])),.set 2 (.frz (.call "_law_ends" 1 [(.ix (.var 0) (.int 2))])),.ret (.tup [(.tup [(.ix (.var 1) (.int 0)),(.ix (.var 2) (.int 0))]),(.tup [(.ix (.var 1) (.int 1)),(.ix (.var 2) (.int 1))])])] [],.ite (.cmp .Eq (.ix (.var 0) (.int 0)) (.str "heaps")) [.ret (.tup [(.tup []),(.tup [(.tup [(.int 0),(.ix (.call "_law_ends" 1 [(.ix (.var 0) (.int 1))]) (.int 1))])])])] [],.set 3 (.disp [(.str "truth"),(.str "costs"),(.str "sure"),(.str "voices")] [(.tup [(.bl false),(.bl true)]),(.tup [.non,(.int 0)]),(.tup [(.tup [(.int 0),(.int 1)]),(.tup [(.int 1),(.int 1)])]),(.tup [.non,(.tup [])])]),.dput 3 (.str "least") (.tup [(.tup []),(.tup [(.tup [])])]),.frzV 3,.ret (.dget (.var 3) (.ix (.var 0) (.int 0)) (.tup [(.int 0),(.int 1)]))]
def m7:List D3.S:=[.ret (.tcall .tuple [(.comp (.var 2) (.enum1 (.var 0)) [(.cmp .Eq (.bin .BitAnd (.bin .RShift (.var 0) (.var 1)) (.int 1)) (.int 1))] [1] (.tp [(.nm 1),(.nm 2)]) 2)])]
def g9:List D3.S:=[.set 4 (.frz (.call "_law_mix" 2 [(.var 1),(.var 2)])),.ite (.cmp .Eq (.ix (.var 0) (.int 0)) (.str "voices")) [.ret (.ix (.lst [.non,(.frz (.call "_law_names_by" 2 [(.var 3),(.frz (.bin .FloorDiv (.var 4) (.int 3)))]))]) (.bcall .min [(.bin .Mod (.var 4) (.int 3)),(.int 1)]))] [],.ite (.cmp .Eq (.ix (.var 0) (.int 0)) (.str "least")) [.set 5 (.frz (.lst [(.tup []),(.tup [(.tup [])]),(.tup [(.frz (.call "_law_names_by" 2 [(.var 3),(.frz (.bin .Add (.int 1) (.bin .Mod (.var 4) (.int 15))))]))]),(.tup [(.tup [(.ix (.var 3) (.int 0)),(.ix (.var 3) (.int 2))]),(.tup [(.ix (.var 3) (.int 1))])])])),.ret (.ix (.var 5) (.bin .Mod (.bin .FloorDiv (.var 4) (.int 16)) (.int 4)))] [],.ite (.cmp .Eq (.ix (.var 0) (.int 0)) (.str "sure")) [.ret (.ix (.lst [(.tup [(.int 0),(.int 1)]),(.tup [(.int 1),(.int 1)]),(.tup [(.frz (.bin .Add (.int 1) (.bin .Mod (.var 4) (.int 6)))),(.int 7)]),(.tup [(.frz (.bin .Add (.int 1) (.bin .Mod (.var 4) (.int 100)))),(.int 101)])]) (.bin .Mod (.bin .FloorDiv (.var 4) (.int 7)) (.int 4)))] [],.ret (.cmp .Eq (.bin .Mod (.var 4) (.int 2)) (.int 1))]
def bU:List D3.S:=[.ite (.cmp .Eq (.ix (.var 0) (.int 0)) (.str "pair")) [.set 4 (.frz (.call "_law_note" 4 [(.ix (.var 0) (.int 1)),(.var 1),(.frz (.bin .Add (.bin .Mult (.int 2) (.var 2)) (.int 1))),(.var 3)])),.ret (.tup [(.var 4),(.frz (.call "_law_note" 4 [(.ix (.var 0) (.int 2)),(.var 1),(.frz (.bin .Add (.bin .Mult (.int 2) (.var 2)) (.int 2))),(.var 3)]))])] [],.ite (.cmp .Eq (.ix (.var 0) (.int 0)) (.str "heaps")) [.set 5 (.ix (.lst [(.frz (.bin .Sub (.bin .Mod (.call "_law_mix" 2 [(.var 1),(.frz (.bin .Add (.var 2) (.int 70)))]) (.int 5)) (.int 2))),(.neg (.bin .Mod (.var 1) (.bin .Pow (.int 10) (.int 50))))]) (.bin .Mod (.call "_law_mix" 2 [(.var 1),(.frz (.bin .Add (.var 2) (.int 71)))]) (.int 2))),.set 6 (.ix (.call "_law_ends" 1 [(.ix (.var 0) (.int 1))]) (.int 0)),.setC 7 true (.comp (.tup [(.frz (.bin .Add (.var 0) (.bin .Mult (.int 3) (.var 5)))),(.frz (.call "_law_note" 4 [(.ix (.var 3) (.int 1)),(.var 1),(.frz (.bin .Add (.bin .Mult (.int 4) (.var 4)) (.var 5))),(.var 2)]))]) (.rng1 (.bin .Mod (.var 1) (.int 4))) [] [5,1,3,0,2] (.nm 5) 1),.ret (.tcall .tuple [(.comp (.var 1) (.items (.var 7)) [(.cmp .NotEq (.ix (.var 1) (.int 1)) (.var 0))] [6] (.nm 1) 1)])] [],.ite (.cmp .In (.ix (.var 0) (.int 0)) (.lst [(.str "truth"),(.str "voices"),(.str "least"),(.str "sure")])) [.ret (.call "_law_named" 4 [(.var 0),(.var 1),(.var 2),(.var 3)])] [],.set 8 (.frz (.bin .Add (.bin .Mult (.bin .Mod (.var 1) (.bin .Pow (.int 10) (.int 58))) (.bin .Add (.int 1) (.bin .Mod (.call "_law_mix" 2 [(.var 1),(.frz (.bin .Add (.var 2) (.int 50)))]) (.int 9)))) (.call "_law_mix" 2 [(.var 1),(.frz (.bin .Add (.var 2) (.int 60)))]))),.ite (.cmp .Eq (.bin .Mod (.call "_law_mix" 2 [(.var 1),(.var 2)]) (.int 2)) (.int 1)) [.set 8 (.frz (.bin .Mod (.call "_law_mix" 2 [(.var 1),(.frz (.bin .Add (.var 2) (.int 40)))]) (.int 4)))] [],.ite (.cmp .Eq (.ix (.var 0) (.int 0)) (.str "wheel")) [.ret (.bin .Mod (.var 8) (.ix (.var 0) (.int 1)))] [],.ite (.cmp .Eq (.ix (.var 0) (.int 0)) (.str "costs")) [.ret (.ix (.lst [(.var 8),(.neg (.var 8)),.non]) (.bin .Mod (.call "_law_mix" 2 [(.var 1),(.frz (.bin .Add (.var 2) (.int 30)))]) (.int 3)))] [],.retV 8]
def eX:List D3.S:=[.ite (.cmp .Eq (.ix (.var 0) (.int 0)) (.str "pair")) [.ret (.tup [(.frz (.call "_law_many" 3 [(.ix (.var 0) (.int 1)),(.var 1),(.ix (.var 2) (.int 0))])),(.frz (.call "_law_many" 3 [(.ix (.var 0) (.int 2)),(.var 1),(.ix (.var 2) (.int 1))]))])] [],.ite (.cmp .Eq (.ix (.var 0) (.int 0)) (.str "heaps")) [.set 3 (.ix (.call "_law_ends" 1 [(.ix (.var 0) (.int 1))]) (.int 0)),.setC 4 true (.comp (.tup [(.var 2),(.frz (.call "_law_many" 3 [(.ix (.var 1) (.int 1)),(.var 0),(.var 3)]))]) (.items (.var 2)) [] [1,0] (.tp [(.nm 2),(.nm 3)]) 2),.ret (.tcall .tuple [(.comp (.var 1) (.items (.var 4)) [(.cmp .NotEq (.ix (.var 1) (.int 1)) (.var 0))] [3] (.nm 1) 1)])] [],.ite (.cmp .Eq (.ix (.var 0) (.int 0)) (.str "counts")) [.ret (.bin .Mult (.var 1) (.var 2))] [],.ite (.cmp .Eq (.ix (.var 0) (.int 0)) (.str "wheel")) [.ret (.bin .Mod (.bin .Mult (.var 1) (.var 2)) (.ix (.var 0) (.int 1)))] [],.ite (.cmp .Eq (.var 1) (.int 0)) [.ret (.ix (.call "_law_ends" 1 [(.var 0)]) (.int 0))] [],.retV 2]
def hB:List D3.S:=[.ite (.cmp .Eq (.ix (.var 0) (.int 0)) (.str "pair")) [.ret (.tup [(.frz (.call "_law_lack" 2 [(.ix (.var 0) (.int 1)),(.ix (.var 1) (.int 0))])),(.frz (.call "_law_lack" 2 [(.ix (.var 0) (.int 2)),(.ix (.var 1) (.int 1))]))])] [],.set 2 (.frz (.call "_law_ends" 1 [(.var 0)])),.ite (.cmp .Eq (.var 1) (.ix (.var 2) (.int 0))) [.ret (.ix (.var 2) (.int 1))] [],.ret (.ix (.var 2) (.int 0))]
def d5:List D3.S:=[.ite (.tru (.bcall .isinstance [(.var 1),(.ty .tuple)])) [.ite (.orL [(.not (.tru (.bcall .isinstance [(.var 0),(.ty .tuple)]))),(.cmp .NotEq (.bcall .len [(.var 0)]) (.bcall .len [(.var 1)]))]) [.ret (.bl false)] [],.ret (.bcall .all [(.comp (.call "_law_same" 2 [(.var 0),(.var 1)]) (.zip2 (.var 0) (.var 1)) [] [] (.tp [(.nm 0),(.nm 1)]) 2)])] [],.ite (.cmp .Is (.var 1) .non) [.ret (.cmp .Is (.var 0) .non)] [],.ite (.orL [(.tru (.bcall .isinstance [(.var 1),(.ty .bool)])),(.tru (.bcall .isinstance [(.var 0),(.ty .bool)]))]) [.ret (.andL [(.bcall .isinstance [(.var 1),(.ty .bool)]),(.bcall .isinstance [(.var 0),(.ty .bool)]),(.cmp .Eq (.var 0) (.var 1))])] [],.ite (.tru (.bcall .isinstance [(.var 1),(.ty .int)])) [.ret (.andL [(.bcall .isinstance [(.var 0),(.ty .int)]),(.cmp .Eq (.var 0) (.var 1))])] [],.ret (.andL [(.bcall .isinstance [(.var 0),(.ty .str)]),(.cmp .Eq (.var 0) (.var 1))])]
def m8:List D3.S:=[.set 1 (.frz (.call "_law_names" 2 [(.frz (.sum1 (.slice (.var 0) none (some (.int 1))))),(.int 4)])),.for (.enum1 (.var 0)) (.tp [(.nm 2),(.nm 3)]) fG,.ret (.bl true)]
def m9:List D3.S:=[.ite (.cmp .Eq (.var 1) (.meth (.var 0) "nought" [])) [.ret (.meth (.var 0) "one" [])] [],.ret (.meth (.var 0) "nought" [])]
def nA:List D3.S:=[.ite (.cmp .Eq (.var 1) (.int 0)) [.ret (.meth (.var 0) "nought" [])] [],.retV 2]
def pV:List D3.S:=[.ret (.int 0)]
def pW:List D3.S:=[.ret (.int 1)]
def pX:List D3.S:=[.ret (.bin .Mult (.var 1) (.var 2))]
def pY:List D3.S:=[.ret (.bl false)]
def pZ:List D3.S:=[.ret (.bl true)]
def qA:List D3.S:=[.ret .non]
def qB:List D3.S:=[.ret (.int 0)]
def qC:List D3.S:=[.ret (.tup [(.int 0),(.int 1)])]
def qD:List D3.S:=[.ret (.tup [(.int 1),(.int 1)])]
def qE:List D3.S:=[.ret .non]
def qF:List D3.S:=[.ret (.tup [])]
def qG:List D3.S:=[.ret (.int 0)]
def qH:List D3.S:=[.ret (.int 1)]
def qI:List D3.S:=[.ret (.bin .Mod (.bin .Mult (.var 1) (.var 2)) (.fld (.var 0) "size"))]
def qJ:List D3.S:=[.ret (.tup [(.frz (.meth (.fld (.var 0) "first") "nought" [])),(.frz (.meth (.fld (.var 0) "second") "nought" []))])]
def qK:List D3.S:=[.ret (.tup [(.frz (.meth (.fld (.var 0) "first") "one" [])),(.frz (.meth (.fld (.var 0) "second") "one" []))])]
def qL:List D3.S:=[.ret (.tup [(.frz (.meth (.fld (.var 0) "first") "lack" [(.ix (.var 1) (.int 0))])),(.frz (.meth (.fld (.var 0) "second") "lack" [(.ix (.var 1) (.int 1))]))])]
def qM:List D3.S:=[.ret (.tup [(.frz (.meth (.fld (.var 0) "first") "many" [(.var 1),(.ix (.var 2) (.int 0))])),(.frz (.meth (.fld (.var 0) "second") "many" [(.var 1),(.ix (.var 2) (.int 1))]))])]
def qN:List D3.S:=[.ret (.tup [])]
def qO:List D3.S:=[.ret (.tup [(.tup [(.int 0),(.frz (.meth (.fld (.var 0) "kind") "one" []))])])]
def nB:List D3.S:=[.ret (.tcall .tuple [(.call "without_noughts" 2 [(.fld (.var 0) "kind"),(.frz (.comp (.tup [(.var 2),(.frz (.meth (.fld (.var 1) "kind") "many" [(.var 0),(.var 3)]))]) (.items (.var 2)) [] [1,0] (.tp [(.nm 2),(.nm 3)]) 2))])])]
def qP:List D3.S:=[.ret (.tup [])]
def qQ:List D3.S:=[.ret (.tup [(.tup [])])]
def wV:FD:=⟨["thing"],["thing"],mY⟩
def aKI:FD:=⟨["thing"],["thing"],aJ0⟩
def aKJ:FD:=⟨["sign"],["sign"],aJ1⟩
def aKK:FD:=⟨["top", "bottom"],["top", "bottom", "divisor"],aJ2⟩
def aKL:FD:=⟨["one", "other"],["one", "other"],aJ3⟩
def aKM:FD:=⟨["thing"],["thing"],aJ4⟩
def aKN:FD:=⟨["thing"],["thing"],aJ5⟩
def aKO:FD:=⟨["things"],["things"],aJ6⟩
def aKP:FD:=⟨["one", "other"],["one", "other"],aJ7⟩
def aKQ:FD:=⟨["kind", "notes"],["kind", "notes", "sums", "halves"],aJ8⟩
def aKR:FD:=⟨["kind", "groups"],["kind", "groups", "sums"],aJ9⟩
def wW:FD:=⟨["kind", "pairs"],["kind", "pairs", "nought"],mZ⟩
def aKS:FD:=⟨["kind", "groups"],["kind", "groups"],aKA⟩
def aKT:FD:=⟨["some"],["some"],aKB⟩
def aKU:FD:=⟨["sets"],["sets", "bits"],aKC⟩
def aKV:FD:=⟨["masks"],["masks", "least", "mask"],aKD⟩
def aKW:FD:=⟨["mask", "masks"],["mask", "masks", "one"],aKE⟩
def aKX:FD:=⟨["sets"],["sets", "bits", "bit", "name"],aKF⟩
def aKY:FD:=⟨["sets", "bits"],["sets", "bits"],aKG⟩
def aKZ:FD:=⟨["masks", "bits"],["masks", "bits"],aKH⟩
def wX:FD:=⟨["_law_cell", "_law_place"],["_law_cell", "_law_place", "_law_first"],m5⟩
def wY:FD:=⟨["_law_cell", "_law_many_here"],["_law_cell", "_law_many_here", "_law_letters", "_law_stem", "_law_at", "_law_start"],fH⟩
def wZ:FD:=⟨["_law_cell", "_law_place"],["_law_cell", "_law_place", "_law_words"],m6⟩
def w6:FD:=⟨["_law_cell"],["_law_cell", "_law_way", "_law_pair"],f7⟩
def w8:FD:=⟨["_law_spec_here"],["_law_spec_here"],dZ⟩
def xA:FD:=⟨["_law_spec_here"],["_law_spec_here", "_law_one", "_law_other", "_law_rows"],f8⟩
def xB:FD:=⟨["_law_pool", "_law_number"],["_law_pool", "_law_number"],m7⟩
def xC:FD:=⟨["_law_spec_here", "_law_cell", "_law_place", "_law_pool"],["_law_spec_here", "_law_cell", "_law_place", "_law_pool", "_law_number", "_law_some"],g9⟩
def xD:FD:=⟨["_law_spec_here", "_law_cell", "_law_place", "_law_pool"],["_law_spec_here", "_law_cell", "_law_place", "_law_pool", "_law_one", "_law_start", "_law_nought", "_law_pairs", "_law_number"],bU⟩
def xE:FD:=⟨["_law_spec_here", "_law_n", "_law_a"],["_law_spec_here", "_law_n", "_law_a", "_law_nought", "_law_pairs"],eX⟩
def xF:FD:=⟨["_law_spec_here", "_law_a"],["_law_spec_here", "_law_a", "_law_ends_here"],hB⟩
def xG:FD:=⟨["_law_found", "_law_due"],["_law_found", "_law_due"],d5⟩
def qR:FD:=⟨["_law_script"],["_law_script", "_law_pool", "_law_k", "_law_cell", "_law_spec_here", "_law_kind_here", "_law_a", "_law_n", "_law_nought"],m8⟩
def xH:FD:=⟨["self", "a"],["self", "a"],m9⟩
def xI:FD:=⟨["self", "n", "a"],["self", "n", "a"],nA⟩
def xJ:FD:=⟨["self"],["self"],pV⟩
def xK:FD:=⟨["self"],["self"],pW⟩
def xL:FD:=⟨["self", "n", "a"],["self", "n", "a"],pX⟩
def xM:FD:=⟨["self"],["self"],pY⟩
def xN:FD:=⟨["self"],["self"],pZ⟩
def xO:FD:=⟨["self"],["self"],qA⟩
def xP:FD:=⟨["self"],["self"],qB⟩
def xQ:FD:=⟨["self"],["self"],qC⟩
def xR:FD:=⟨["self"],["self"],qD⟩
def xS:FD:=⟨["self"],["self"],qE⟩
def xT:FD:=⟨["self"],["self"],qF⟩
def xU:FD:=⟨["self"],["self"],qG⟩
def xV:FD:=⟨["self"],["self"],qH⟩
def xW:FD:=⟨["self", "n", "a"],["self", "n", "a"],qI⟩
def xX:FD:=⟨["self"],["self"],qJ⟩
def xY:FD:=⟨["self"],["self"],qK⟩
def xZ:FD:=⟨["self", "a"],["self", "a"],qL⟩
def x9:FD:=⟨["self", "n", "a"],["self", "n", "a"],qM⟩
def yA:FD:=⟨["self"],["self"],qN⟩
def yB:FD:=⟨["self"],["self"],qO⟩
def yC:FD:=⟨["self", "n", "a"],["self", "n", "a"],nB⟩
def yD:FD:=⟨["self"],["self"],qP⟩
def yE:FD:=⟨["self"],["self"],qQ⟩
def kJ:ID:=⟨"Wheel", ["self", "size"],["self", "size"],(.guard (.orL [(.not (.tru (.call "is_whole" 1 [(.var 1)]))),(.cmp .Lt (.var 1) (.int 2))]) [.rz "NoKind" [(.str "the size of a wheel is a whole number from 2 on")]] (.fset "size" (.var 1) .done))⟩
def kK:ID:=⟨"Pair", ["self", "first", "second"],["self", "first", "second"],(.fset "first" (.var 1) (.fset "second" (.var 2) .done))⟩
def kL:ID:=⟨"Heaps", ["self", "kind"],["self", "kind"],(.fset "kind" (.var 1) .done)⟩
def aK0:CI:=⟨"Kind", ["Kind"],[],[("lack", "Kind.lack", 2)]⟩
def aK1:CI:=⟨"Single", ["Single", "Kind"],[],[("many", "Single.many", 3),("lack", "Kind.lack", 2)]⟩
def aK2:CI:=⟨"Counts", ["Counts", "Kind"],[],[("nought", "Counts.nought", 1),("one", "Counts.one", 1),("many", "Counts.many", 3),("lack", "Kind.lack", 2)]⟩
def aK3:CI:=⟨"Truth", ["Truth", "Single", "Kind"],[],[("nought", "Truth.nought", 1),("one", "Truth.one", 1),("many", "Single.many", 3),("lack", "Kind.lack", 2)]⟩
def aK4:CI:=⟨"Costs", ["Costs", "Single", "Kind"],[],[("nought", "Costs.nought", 1),("one", "Costs.one", 1),("many", "Single.many", 3),("lack", "Kind.lack", 2)]⟩
def aK5:CI:=⟨"Sure", ["Sure", "Single", "Kind"],[],[("nought", "Sure.nought", 1),("one", "Sure.one", 1),("many", "Single.many", 3),("lack", "Kind.lack", 2)]⟩
def aK6:CI:=⟨"Voices", ["Voices", "Single", "Kind"],[],[("nought", "Voices.nought", 1),("one", "Voices.one", 1),("many", "Single.many", 3),("lack", "Kind.lack", 2)]⟩
def aK7:CI:=⟨"Wheel", ["Wheel", "Kind"],["size"],[("nought", "Wheel.nought", 1),("one", "Wheel.one", 1),("many", "Wheel.many", 3),("lack", "Kind.lack", 2)]⟩
def aK8:CI:=⟨"Pair", ["Pair", "Kind"],["first", "second"],[("nought", "Pair.nought", 1),("one", "Pair.one", 1),("lack", "Pair.lack", 2),("many", "Pair.many", 3)]⟩
def aK9:CI:=⟨"Heaps", ["Heaps", "Kind"],["kind"],[("nought", "Heaps.nought", 1),("one", "Heaps.one", 1),("many", "Heaps.many", 3),("lack", "Kind.lack", 2)]⟩
def aLA:CI:=⟨"Least", ["Least", "Single", "Kind"],[],[("nought", "Least.nought", 1),("one", "Least.one", 1),("many", "Single.many", 3),("lack", "Kind.lack", 2)]⟩
def T:List (Str×FD):=[(("is_whole" : Str),wV),(("is_name" : Str),aKI),(("is_name_sign" : Str),aKJ),(("share" : Str),aKK),(("greatest_divisor" : Str),aKL),(("is_pair" : Str),aKM),(("is_name_set" : Str),aKN),(("is_rising" : Str),aKO),(("names_of_both" : Str),aKP),(("poured" : Str),aKQ),(("poured_groups" : Str),aKR),(("without_noughts" : Str),wW),(("heap_of" : Str),aKS),(("shown_set" : Str),aKT),(("least_of" : Str),aKU),(("least_masks" : Str),aKV),(("has_one_within" : Str),aKW),(("bits_of" : Str),aKX),(("masks_of" : Str),aKY),(("sets_of" : Str),aKZ),(("_law_mix" : Str),wX),(("_law_names" : Str),wY),(("_law_flat" : Str),wZ),(("_law_spec" : Str),w6),(("_law_kind" : Str),w8),(("_law_ends" : Str),xA),(("_law_names_by" : Str),xB),(("_law_named" : Str),xC),(("_law_note" : Str),xD),(("_law_many" : Str),xE),(("_law_lack" : Str),xF),(("_law_same" : Str),xG),(("law" : Str),qR),(("Kind.lack" : Str),xH),(("Single.many" : Str),xI),(("Counts.nought" : Str),xJ),(("Counts.one" : Str),xK),(("Counts.many" : Str),xL),(("Truth.nought" : Str),xM),(("Truth.one" : Str),xN),(("Costs.nought" : Str),xO),(("Costs.one" : Str),xP),(("Sure.nought" : Str),xQ),(("Sure.one" : Str),xR),(("Voices.nought" : Str),xS),(("Voices.one" : Str),xT),(("Wheel.nought" : Str),xU),(("Wheel.one" : Str),xV),(("Wheel.many" : Str),xW),(("Pair.nought" : Str),xX),(("Pair.one" : Str),xY),(("Pair.lack" : Str),xZ),(("Pair.many" : Str),x9),(("Heaps.nought" : Str),yA),(("Heaps.one" : Str),yB),(("Heaps.many" : Str),yC),(("Least.nought" : Str),yD),(("Least.one" : Str),yE)]
def TT:TB:=⟨T,[("Wheel.__init__", kJ),("Pair.__init__", kK),("Heaps.__init__", kL)],[aK0,aK1,aK2,aK3,aK4,aK5,aK6,aK7,aK8,aK9,aLA],[],[]⟩
def GG:MG:=⟨[(("Costs" : Str),(GV.cls)),(("Counts" : Str),(GV.cls)),(("Heaps" : Str),(GV.cls)),(("Least" : Str),(GV.cls)),(("NoKind" : Str),(GV.cls)),(("Pair" : Str),(GV.cls)),(("Sure" : Str),(GV.cls)),(("Truth" : Str),(GV.cls)),(("Voices" : Str),(GV.cls)),(("Wheel" : Str),(GV.cls)),(("_law_ends" : Str),(GV.fn 1)),(("_law_flat" : Str),(GV.fn 2)),(("_law_kind" : Str),(GV.fn 1)),(("_law_lack" : Str),(GV.fn 2)),(("_law_many" : Str),(GV.fn 3)),(("_law_mix" : Str),(GV.fn 2)),(("_law_named" : Str),(GV.fn 4)),(("_law_names" : Str),(GV.fn 2)),(("_law_names_by" : Str),(GV.fn 2)),(("_law_note" : Str),(GV.fn 4)),(("_law_same" : Str),(GV.fn 2)),(("_law_spec" : Str),(GV.fn 1)),(("all" : Str),(GV.no)),(("bool" : Str),(GV.no)),(("enumerate" : Str),(GV.no)),(("int" : Str),(GV.no)),(("is_whole" : Str),(GV.fn 1)),(("isinstance" : Str),(GV.no)),(("len" : Str),(GV.no)),(("min" : Str),(GV.no)),(("range" : Str),(GV.no)),(("sorted" : Str),(GV.no)),(("str" : Str),(GV.no)),(("sum" : Str),(GV.no)),(("tuple" : Str),(GV.no)),(("without_noughts" : Str),(GV.fn 2)),(("zip" : Str),(GV.no))],["Sure", "Voices", "Least", "Costs", "Truth", "Counts"],[("Pair", "Pair.__init__", 2),("Heaps", "Heaps.__init__", 1),("Wheel", "Wheel.__init__", 1)],[],["NoKind"],[]⟩
def top(i:Nat):Stmt:=PySem.Challenge.pw_whencewise_k11_many_and_lack.main.body.getD i (.Pass ⟨0,0,0,0⟩)
abbrev qS:Stmt:=top 56
theorem aLB(k:Nat):(WT TT (k+1)).Φ "is_whole" = phi 1 1 (evB (WT TT k) mY):=a8 (d:=wV) rfl
theorem aLC(k:Nat):(WT TT (k+1)).Φ "without_noughts" = phi 2 3 (evB (WT TT k) mZ):=a8 (d:=wW) rfl
theorem aLD(k:Nat):(WT TT (k+1)).Φ "_law_mix" = phi 2 3 (evB (WT TT k) m5):=a8 (d:=wX) rfl
theorem aLE(k:Nat):(WT TT (k+1)).Φ "_law_names" = phi 2 6 (evB (WT TT k) fH):=a8 (d:=wY) rfl
theorem aLF(k:Nat):(WT TT (k+1)).Φ "_law_flat" = phi 2 3 (evB (WT TT k) m6):=a8 (d:=wZ) rfl
theorem aLG(k:Nat):(WT TT (k+1)).Φ "_law_spec" = phi 1 3 (evB (WT TT k) f7):=a8 (d:=w6) rfl
theorem aLH(k:Nat):(WT TT (k+1)).Φ "_law_kind" = phi 1 1 (evB (WT TT k) dZ):=a8 (d:=w8) rfl
theorem qT(k:Nat):(WT TT (k+1)).Φ "_law_ends" = phi 1 4 (evB (WT TT k) f8):=a8 (d:=xA) rfl
theorem aLI(k:Nat):(WT TT (k+1)).Φ "_law_names_by" = phi 2 2 (evB (WT TT k) m7):=a8 (d:=xB) rfl
theorem aLJ(k:Nat):(WT TT (k+1)).Φ "_law_named" = phi 4 6 (evB (WT TT k) g9):=a8 (d:=xC) rfl
theorem aLK(k:Nat):(WT TT (k+1)).Φ "_law_note" = phi 4 9 (evB (WT TT k) bU):=a8 (d:=xD) rfl
theorem aLL(k:Nat):(WT TT (k+1)).Φ "_law_many" = phi 3 5 (evB (WT TT k) eX):=a8 (d:=xE) rfl
theorem yF(k:Nat):(WT TT (k+1)).Φ "_law_lack" = phi 2 3 (evB (WT TT k) hB):=a8 (d:=xF) rfl
theorem kM(k:Nat):(WT TT (k+1)).Φ "_law_same" = phi 2 2 (evB (WT TT k) d5):=a8 (d:=xG) rfl
theorem u_law(k:Nat):(WT TT (k+1)).Φ "law" = phi 1 9 (evB (WT TT k) m8):=a8 (d:=qR) rfl
theorem aLM(k:Nat):(WT TT (k+1)).Φ "Kind.lack" = phi 2 2 (evB (WT TT k) m9):=a8 (d:=xH) rfl
theorem aLN(k:Nat):(WT TT (k+1)).Φ "Single.many" = phi 3 3 (evB (WT TT k) nA):=a8 (d:=xI) rfl
theorem aLO(k:Nat):(WT TT (k+1)).Φ "Counts.nought" = phi 1 1 (evB (WT TT k) pV):=a8 (d:=xJ) rfl
theorem aLP(k:Nat):(WT TT (k+1)).Φ "Counts.one" = phi 1 1 (evB (WT TT k) pW):=a8 (d:=xK) rfl
theorem aLQ(k:Nat):(WT TT (k+1)).Φ "Counts.many" = phi 3 3 (evB (WT TT k) pX):=a8 (d:=xL) rfl
theorem aLR(k:Nat):(WT TT (k+1)).Φ "Truth.nought" = phi 1 1 (evB (WT TT k) pY):=a8 (d:=xM) rfl
theorem aLS(k:Nat):(WT TT (k+1)).Φ "Truth.one" = phi 1 1 (evB (WT TT k) pZ):=a8 (d:=xN) rfl
theorem aLT(k:Nat):(WT TT (k+1)).Φ "Costs.nought" = phi 1 1 (evB (WT TT k) qA):=a8 (d:=xO) rfl
theorem aLU(k:Nat):(WT TT (k+1)).Φ "Costs.one" = phi 1 1 (evB (WT TT k) qB):=a8 (d:=xP) rfl
theorem aLV(k:Nat):(WT TT (k+1)).Φ "Sure.nought" = phi 1 1 (evB (WT TT k) qC):=a8 (d:=xQ) rfl
theorem aLW(k:Nat):(WT TT (k+1)).Φ "Sure.one" = phi 1 1 (evB (WT TT k) qD):=a8 (d:=xR) rfl
theorem aLX(k:Nat):(WT TT (k+1)).Φ "Voices.nought" = phi 1 1 (evB (WT TT k) qE):=a8 (d:=xS) rfl
theorem aLY(k:Nat):(WT TT (k+1)).Φ "Voices.one" = phi 1 1 (evB (WT TT k) qF):=a8 (d:=xT) rfl
theorem aLZ(k:Nat):(WT TT (k+1)).Φ "Wheel.nought" = phi 1 1 (evB (WT TT k) qG):=a8 (d:=xU) rfl
theorem aL0(k:Nat):(WT TT (k+1)).Φ "Wheel.one" = phi 1 1 (evB (WT TT k) qH):=a8 (d:=xV) rfl
theorem aL1(k:Nat):(WT TT (k+1)).Φ "Wheel.many" = phi 3 3 (evB (WT TT k) qI):=a8 (d:=xW) rfl
theorem aL2(k:Nat):(WT TT (k+1)).Φ "Pair.nought" = phi 1 1 (evB (WT TT k) qJ):=a8 (d:=xX) rfl
theorem aL3(k:Nat):(WT TT (k+1)).Φ "Pair.one" = phi 1 1 (evB (WT TT k) qK):=a8 (d:=xY) rfl
theorem aL4(k:Nat):(WT TT (k+1)).Φ "Pair.lack" = phi 2 2 (evB (WT TT k) qL):=a8 (d:=xZ) rfl
theorem aL5(k:Nat):(WT TT (k+1)).Φ "Pair.many" = phi 3 3 (evB (WT TT k) qM):=a8 (d:=x9) rfl
theorem aL6(k:Nat):(WT TT (k+1)).Φ "Heaps.nought" = phi 1 1 (evB (WT TT k) qN):=a8 (d:=yA) rfl
theorem aL7(k:Nat):(WT TT (k+1)).Φ "Heaps.one" = phi 1 1 (evB (WT TT k) qO):=a8 (d:=yB) rfl
theorem aL8(k:Nat):(WT TT (k+1)).Φ "Heaps.many" = phi 3 3 (evB (WT TT k) nB):=a8 (d:=yC) rfl
theorem aL9(k:Nat):(WT TT (k+1)).Φ "Least.nought" = phi 1 1 (evB (WT TT k) qP):=a8 (d:=yD) rfl
theorem aMA(k:Nat):(WT TT (k+1)).Φ "Least.one" = phi 1 1 (evB (WT TT k) qQ):=a8 (d:=yE) rfl
theorem aMB:CI.meth TT.cl "Counts" "nought" = some (("Counts.nought" : Str),1):=rfl
theorem aMC{Φ:Str->List D->Res}{as:aG}:aV TT.cl Φ "nought" (.ok .fz (.ins "Counts" [])) as=aL 1 (Φ "Counts.nought") (aN (.ok .fz (.ins "Counts" [])) as):=bC aMB rfl
theorem aMD:CI.meth TT.cl "Counts" "one" = some (("Counts.one" : Str),1):=rfl
theorem aME{Φ:Str->List D->Res}{as:aG}:aV TT.cl Φ "one" (.ok .fz (.ins "Counts" [])) as=aL 1 (Φ "Counts.one") (aN (.ok .fz (.ins "Counts" [])) as):=bC aMD rfl
theorem aMF:CI.meth TT.cl "Counts" "many" = some (("Counts.many" : Str),3):=rfl
theorem aMG{Φ:Str->List D->Res}{as:aG}:aV TT.cl Φ "many" (.ok .fz (.ins "Counts" [])) as=aL 3 (Φ "Counts.many") (aN (.ok .fz (.ins "Counts" [])) as):=bC aMF rfl
theorem aMH:CI.meth TT.cl "Counts" "lack" = some (("Kind.lack" : Str),2):=rfl
theorem aMI{Φ:Str->List D->Res}{as:aG}:aV TT.cl Φ "lack" (.ok .fz (.ins "Counts" [])) as=aL 2 (Φ "Kind.lack") (aN (.ok .fz (.ins "Counts" [])) as):=bC aMH rfl
theorem aMJ:CI.meth TT.cl "Truth" "nought" = some (("Truth.nought" : Str),1):=rfl
theorem aMK{Φ:Str->List D->Res}{as:aG}:aV TT.cl Φ "nought" (.ok .fz (.ins "Truth" [])) as=aL 1 (Φ "Truth.nought") (aN (.ok .fz (.ins "Truth" [])) as):=bC aMJ rfl
theorem aML:CI.meth TT.cl "Truth" "one" = some (("Truth.one" : Str),1):=rfl
theorem aMM{Φ:Str->List D->Res}{as:aG}:aV TT.cl Φ "one" (.ok .fz (.ins "Truth" [])) as=aL 1 (Φ "Truth.one") (aN (.ok .fz (.ins "Truth" [])) as):=bC aML rfl
theorem aMN:CI.meth TT.cl "Truth" "many" = some (("Single.many" : Str),3):=rfl
theorem aMO{Φ:Str->List D->Res}{as:aG}:aV TT.cl Φ "many" (.ok .fz (.ins "Truth" [])) as=aL 3 (Φ "Single.many") (aN (.ok .fz (.ins "Truth" [])) as):=bC aMN rfl
theorem aMP:CI.meth TT.cl "Truth" "lack" = some (("Kind.lack" : Str),2):=rfl
theorem aMQ{Φ:Str->List D->Res}{as:aG}:aV TT.cl Φ "lack" (.ok .fz (.ins "Truth" [])) as=aL 2 (Φ "Kind.lack") (aN (.ok .fz (.ins "Truth" [])) as):=bC aMP rfl
theorem aMR:CI.meth TT.cl "Costs" "nought" = some (("Costs.nought" : Str),1):=rfl
theorem aMS{Φ:Str->List D->Res}{as:aG}:aV TT.cl Φ "nought" (.ok .fz (.ins "Costs" [])) as=aL 1 (Φ "Costs.nought") (aN (.ok .fz (.ins "Costs" [])) as):=bC aMR rfl
theorem aMT:CI.meth TT.cl "Costs" "one" = some (("Costs.one" : Str),1):=rfl
theorem aMU{Φ:Str->List D->Res}{as:aG}:aV TT.cl Φ "one" (.ok .fz (.ins "Costs" [])) as=aL 1 (Φ "Costs.one") (aN (.ok .fz (.ins "Costs" [])) as):=bC aMT rfl
theorem aMV:CI.meth TT.cl "Costs" "many" = some (("Single.many" : Str),3):=rfl
theorem aMW{Φ:Str->List D->Res}{as:aG}:aV TT.cl Φ "many" (.ok .fz (.ins "Costs" [])) as=aL 3 (Φ "Single.many") (aN (.ok .fz (.ins "Costs" [])) as):=bC aMV rfl
theorem aMX:CI.meth TT.cl "Costs" "lack" = some (("Kind.lack" : Str),2):=rfl
theorem aMY{Φ:Str->List D->Res}{as:aG}:aV TT.cl Φ "lack" (.ok .fz (.ins "Costs" [])) as=aL 2 (Φ "Kind.lack") (aN (.ok .fz (.ins "Costs" [])) as):=bC aMX rfl
theorem aMZ:CI.meth TT.cl "Sure" "nought" = some (("Sure.nought" : Str),1):=rfl
theorem aM0{Φ:Str->List D->Res}{as:aG}:aV TT.cl Φ "nought" (.ok .fz (.ins "Sure" [])) as=aL 1 (Φ "Sure.nought") (aN (.ok .fz (.ins "Sure" [])) as):=bC aMZ rfl
theorem aM1:CI.meth TT.cl "Sure" "one" = some (("Sure.one" : Str),1):=rfl
theorem aM2{Φ:Str->List D->Res}{as:aG}:aV TT.cl Φ "one" (.ok .fz (.ins "Sure" [])) as=aL 1 (Φ "Sure.one") (aN (.ok .fz (.ins "Sure" [])) as):=bC aM1 rfl
theorem aM3:CI.meth TT.cl "Sure" "many" = some (("Single.many" : Str),3):=rfl
theorem aM4{Φ:Str->List D->Res}{as:aG}:aV TT.cl Φ "many" (.ok .fz (.ins "Sure" [])) as=aL 3 (Φ "Single.many") (aN (.ok .fz (.ins "Sure" [])) as):=bC aM3 rfl
theorem aM5:CI.meth TT.cl "Sure" "lack" = some (("Kind.lack" : Str),2):=rfl
theorem aM6{Φ:Str->List D->Res}{as:aG}:aV TT.cl Φ "lack" (.ok .fz (.ins "Sure" [])) as=aL 2 (Φ "Kind.lack") (aN (.ok .fz (.ins "Sure" [])) as):=bC aM5 rfl
theorem aM7:CI.meth TT.cl "Voices" "nought" = some (("Voices.nought" : Str),1):=rfl
theorem aM8{Φ:Str->List D->Res}{as:aG}:aV TT.cl Φ "nought" (.ok .fz (.ins "Voices" [])) as=aL 1 (Φ "Voices.nought") (aN (.ok .fz (.ins "Voices" [])) as):=bC aM7 rfl
theorem aM9:CI.meth TT.cl "Voices" "one" = some (("Voices.one" : Str),1):=rfl
theorem aNA{Φ:Str->List D->Res}{as:aG}:aV TT.cl Φ "one" (.ok .fz (.ins "Voices" [])) as=aL 1 (Φ "Voices.one") (aN (.ok .fz (.ins "Voices" [])) as):=bC aM9 rfl
theorem aNB:CI.meth TT.cl "Voices" "many" = some (("Single.many" : Str),3):=rfl
theorem aNC{Φ:Str->List D->Res}{as:aG}:aV TT.cl Φ "many" (.ok .fz (.ins "Voices" [])) as=aL 3 (Φ "Single.many") (aN (.ok .fz (.ins "Voices" [])) as):=bC aNB rfl
theorem aND:CI.meth TT.cl "Voices" "lack" = some (("Kind.lack" : Str),2):=rfl
theorem aNE{Φ:Str->List D->Res}{as:aG}:aV TT.cl Φ "lack" (.ok .fz (.ins "Voices" [])) as=aL 2 (Φ "Kind.lack") (aN (.ok .fz (.ins "Voices" [])) as):=bC aND rfl
theorem aNF:CI.meth TT.cl "Wheel" "nought" = some (("Wheel.nought" : Str),1):=rfl
theorem aNG{Φ:Str->List D->Res}{as:aG}{fs:List (Str×D)}(hl:fs.lookup ("nought" : Str)=none):aV TT.cl Φ "nought" (.ok .fz (.ins "Wheel" fs)) as=aL 1 (Φ "Wheel.nought") (aN (.ok .fz (.ins "Wheel" fs)) as):=bC aNF hl
theorem aNH:CI.meth TT.cl "Wheel" "one" = some (("Wheel.one" : Str),1):=rfl
theorem aNI{Φ:Str->List D->Res}{as:aG}{fs:List (Str×D)}(hl:fs.lookup ("one" : Str)=none):aV TT.cl Φ "one" (.ok .fz (.ins "Wheel" fs)) as=aL 1 (Φ "Wheel.one") (aN (.ok .fz (.ins "Wheel" fs)) as):=bC aNH hl
theorem aNJ:CI.meth TT.cl "Wheel" "many" = some (("Wheel.many" : Str),3):=rfl
theorem aNK{Φ:Str->List D->Res}{as:aG}{fs:List (Str×D)}(hl:fs.lookup ("many" : Str)=none):aV TT.cl Φ "many" (.ok .fz (.ins "Wheel" fs)) as=aL 3 (Φ "Wheel.many") (aN (.ok .fz (.ins "Wheel" fs)) as):=bC aNJ hl
theorem aNL:CI.meth TT.cl "Wheel" "lack" = some (("Kind.lack" : Str),2):=rfl
theorem aNM{Φ:Str->List D->Res}{as:aG}{fs:List (Str×D)}(hl:fs.lookup ("lack" : Str)=none):aV TT.cl Φ "lack" (.ok .fz (.ins "Wheel" fs)) as=aL 2 (Φ "Kind.lack") (aN (.ok .fz (.ins "Wheel" fs)) as):=bC aNL hl
theorem aNN:CI.meth TT.cl "Pair" "nought" = some (("Pair.nought" : Str),1):=rfl
theorem aNO{Φ:Str->List D->Res}{as:aG}{fs:List (Str×D)}(hl:fs.lookup ("nought" : Str)=none):aV TT.cl Φ "nought" (.ok .fz (.ins "Pair" fs)) as=aL 1 (Φ "Pair.nought") (aN (.ok .fz (.ins "Pair" fs)) as):=bC aNN hl
theorem aNP:CI.meth TT.cl "Pair" "one" = some (("Pair.one" : Str),1):=rfl
theorem aNQ{Φ:Str->List D->Res}{as:aG}{fs:List (Str×D)}(hl:fs.lookup ("one" : Str)=none):aV TT.cl Φ "one" (.ok .fz (.ins "Pair" fs)) as=aL 1 (Φ "Pair.one") (aN (.ok .fz (.ins "Pair" fs)) as):=bC aNP hl
theorem aNR:CI.meth TT.cl "Pair" "lack" = some (("Pair.lack" : Str),2):=rfl
theorem aNS{Φ:Str->List D->Res}{as:aG}{fs:List (Str×D)}(hl:fs.lookup ("lack" : Str)=none):aV TT.cl Φ "lack" (.ok .fz (.ins "Pair" fs)) as=aL 2 (Φ "Pair.lack") (aN (.ok .fz (.ins "Pair" fs)) as):=bC aNR hl
theorem aNT:CI.meth TT.cl "Pair" "many" = some (("Pair.many" : Str),3):=rfl
theorem aNU{Φ:Str->List D->Res}{as:aG}{fs:List (Str×D)}(hl:fs.lookup ("many" : Str)=none):aV TT.cl Φ "many" (.ok .fz (.ins "Pair" fs)) as=aL 3 (Φ "Pair.many") (aN (.ok .fz (.ins "Pair" fs)) as):=bC aNT hl
theorem aNV:CI.meth TT.cl "Heaps" "nought" = some (("Heaps.nought" : Str),1):=rfl
theorem aNW{Φ:Str->List D->Res}{as:aG}{fs:List (Str×D)}(hl:fs.lookup ("nought" : Str)=none):aV TT.cl Φ "nought" (.ok .fz (.ins "Heaps" fs)) as=aL 1 (Φ "Heaps.nought") (aN (.ok .fz (.ins "Heaps" fs)) as):=bC aNV hl
theorem aNX:CI.meth TT.cl "Heaps" "one" = some (("Heaps.one" : Str),1):=rfl
theorem aNY{Φ:Str->List D->Res}{as:aG}{fs:List (Str×D)}(hl:fs.lookup ("one" : Str)=none):aV TT.cl Φ "one" (.ok .fz (.ins "Heaps" fs)) as=aL 1 (Φ "Heaps.one") (aN (.ok .fz (.ins "Heaps" fs)) as):=bC aNX hl
theorem aNZ:CI.meth TT.cl "Heaps" "many" = some (("Heaps.many" : Str),3):=rfl
theorem aN0{Φ:Str->List D->Res}{as:aG}{fs:List (Str×D)}(hl:fs.lookup ("many" : Str)=none):aV TT.cl Φ "many" (.ok .fz (.ins "Heaps" fs)) as=aL 3 (Φ "Heaps.many") (aN (.ok .fz (.ins "Heaps" fs)) as):=bC aNZ hl
theorem aN1:CI.meth TT.cl "Heaps" "lack" = some (("Kind.lack" : Str),2):=rfl
theorem aN2{Φ:Str->List D->Res}{as:aG}{fs:List (Str×D)}(hl:fs.lookup ("lack" : Str)=none):aV TT.cl Φ "lack" (.ok .fz (.ins "Heaps" fs)) as=aL 2 (Φ "Kind.lack") (aN (.ok .fz (.ins "Heaps" fs)) as):=bC aN1 hl
theorem aN3:CI.meth TT.cl "Least" "nought" = some (("Least.nought" : Str),1):=rfl
theorem aN4{Φ:Str->List D->Res}{as:aG}:aV TT.cl Φ "nought" (.ok .fz (.ins "Least" [])) as=aL 1 (Φ "Least.nought") (aN (.ok .fz (.ins "Least" [])) as):=bC aN3 rfl
theorem aN5:CI.meth TT.cl "Least" "one" = some (("Least.one" : Str),1):=rfl
theorem aN6{Φ:Str->List D->Res}{as:aG}:aV TT.cl Φ "one" (.ok .fz (.ins "Least" [])) as=aL 1 (Φ "Least.one") (aN (.ok .fz (.ins "Least" [])) as):=bC aN5 rfl
theorem aN7:CI.meth TT.cl "Least" "many" = some (("Single.many" : Str),3):=rfl
theorem aN8{Φ:Str->List D->Res}{as:aG}:aV TT.cl Φ "many" (.ok .fz (.ins "Least" [])) as=aL 3 (Φ "Single.many") (aN (.ok .fz (.ins "Least" [])) as):=bC aN7 rfl
theorem aN9:CI.meth TT.cl "Least" "lack" = some (("Kind.lack" : Str),2):=rfl
theorem aOA{Φ:Str->List D->Res}{as:aG}:aV TT.cl Φ "lack" (.ok .fz (.ins "Least" [])) as=aL 2 (Φ "Kind.lack") (aN (.ok .fz (.ins "Least" [])) as):=bC aN9 rfl
theorem aOB(k:Nat):(WT TT (k+2)).I "Wheel.__init__" = some (cT (WT TT k) kJ):=rfl
theorem aOC(k:Nat):(WT TT (k+2)).I "Pair.__init__" = some (cT (WT TT k) kK):=rfl
theorem aOD(k:Nat):(WT TT (k+2)).I "Heaps.__init__" = some (cT (WT TT k) kL):=rfl
def cU:Int:=1000000000000000000000000000000000000000000000000000000000000
theorem yG:op2 (bT .Pow) (.ok .fz (.int 10)) (.ok .fz (.int 60))=.ok .fz (.int cU):=by rfl
theorem z60:(0:Int)<cU:=by decide
def fJ:Int:=10000000000000000000000000000000000000000000000000000000000
theorem yH:op2 (bT .Pow) (.ok .fz (.int 10)) (.ok .fz (.int 58))=.ok .fz (.int fJ):=by rfl
theorem z58:(0:Int)<fJ:=by decide
def kN:Int:=100000000000000000000000000000000000000000000000000
theorem pow50:op2 (bT .Pow) (.ok .fz (.int 10)) (.ok .fz (.int 50))=.ok .fz (.int kN):=by rfl
theorem z50:(0:Int)<kN:=by decide
def mx(c p:Int):Int:=((c % cU+1) * (48271+130 * p) % 2147483647) * ((c % cU+1) * (48271+130 * p) % 2147483647) % 2147483629
theorem mx0(c p:Int):0<=mx c p:=aUN _ (by decide)
theorem mx1(c p:Int):mx c p<2147483629:=aUO _ (by decide)
theorem mix(k:Nat){c p:Int}(h0:0<=p)(h1:p<=200):(WT TT (k+1)).Φ "_law_mix" [.int c,.int p]=.ok .fz (.int (mx c p)):=by
 have hm:=aUN c (show cU≠0 by decide)
 have hM:=aUO c (show 0<cU by decide)
 have b1:bA (c % cU+1)=true:=dU (N:=1000000000000000000000000000000000000000000000000000000000001) (by unfold cU at *;omega)
 have b2:bA (48271+130 * p)=true:=dU (N:=1000000) (by omega)
 have b3:bA p=true:=dU (N:=200) (by omega)
 have b4:bA 130=true:=by decide +kernel
 have f0:=aUN ((c % cU+1) * (48271+130 * p)) (show (2147483647:Int)≠0 by decide)
 have f1:=aUO ((c % cU+1) * (48271+130 * p)) (show (0:Int)<2147483647 by decide)
 have b5:bA ((c % cU+1) * (48271+130 * p) % 2147483647)=true:=dU (N:=2147483647) (by omega)
 rw[aLD];refine bM rfl ?_;show evB _ m5 [some (false,.int c),some (false,.int p),none]=_;simp[m5,yG,dW,b1,b2,b3,b4,b5,z60,mx]
theorem Mx(k:Nat){c p:Int}(h0:0<=p)(h1:p<=200):aL 2 ((WT TT (k+1)).Φ "_law_mix") (.ok [(.fz,.int c),(.fz,.int p)])=.ok .fz (.int (mx c p)):=dX (mix k h0 h1)
theorem eL{ds:List D}{m m':Md}{i:Int}{d:D}(h:atI ds i=some d):op2 ixD (.ok m (.lst ds)) (.ok m' (.int i))=.ok .fz d:=cI (by show (atI ds i).map _=_;rw[h];rfl)
theorem kP{ds:List D}{m m':Md}{i:Int}{d:D}(h:atI ds i=some d):op2 ixD (.ok m (.tup ds)) (.ok m' (.int i))=.ok .fz d:=cI (by show (atI ds i).map _=_;rw[h];rfl)
theorem hC{α:Type}(xs:List α)(v:Int)(n:Int)(hn:n=xs.length)(h:0<n):∃ c,c∈xs/\atI xs (v % n)=some c:=by
 have h0:=aUN v (show n≠0 by omega)
 have h1:=aUO v h;obtain ⟨j,hj⟩:=aUP h0;have hl:j<xs.length:=by omega
 exact ⟨xs[j],aTG hl,by rw[hj];exact nR (aTF hl)⟩
theorem aOE{ns:List Int}{i:Int}(h:0<ns.length){m m':Md}:∃ c,op2 ixD (.ok m (.lst (ns.map .int))) (.ok m' (.int (i % ns.length)))=.ok .fz (.int c):=by
 obtain ⟨d,hd,e⟩:=hC (ns.map D.int) i ns.length (by simp) (by omega)
 obtain ⟨c,_,rfl⟩:=aUQ.mp hd;exact ⟨c,eL e⟩
theorem yI:∀ (ds:List D),eS (ds.map λ_=>D.bl true)=some (ds.map λ_=>true)
 | []=>rfl
 | d::ds=>by show eS (.bl true::ds.map λ_=>.bl true)=_;simp only[eS,yI ds];rfl
theorem aOF{m:Md}(ds:List D):jL [(m,.lst (ds.map λ_=>D.bl true))]=some (.fz,.bl true):=by
 show (eS (ds.map λ_=>D.bl true)).map _=_;rw[yI];show some (Md.fz,D.bl ((ds.map λ_=>true).all id))=_;have:(ds.map λ_=>true).all id=true:=by simp
 rw[this]
inductive Pl:Nat->D->Prop where
 | non {n}:Pl n .non
 | bl {n} (b:Bool):Pl n (.bl b)
 | int {n} (i:Int):Pl n (.int i)
 | str {n} (s:Str):Pl n (.str s)
 | tup {n} {ds:List D} (h:∀ d∈ds,Pl n d) (hl:ds.length<=1000):Pl (n+1) (.tup ds)
theorem Pl.mono{n:Nat}{d:D}(h:Pl n d):∀ {n':Nat},n<=n'->Pl n' d:=by
 induction h with
 | non=>intro _ _;exact .non
 | bl b=>intro _ _;exact .bl b
 | int b=>intro _ _;exact .int b
 | str b=>intro _ _;exact .str b
 | tup _ hl ih =>
  intro n' hn;cases n' with
  | zero=>omega
  | succ n'=>exact .tup (λd hd=>ih d hd (by omega)) hl
theorem yJ:∀ (ds:List D),dR ds ds=ds.map λd=>.tup [d,d]
 | []=>rfl
 | d::ds=>by rw[dR,yJ ds];rfl
theorem same{n:Nat}{d:D}(h:Pl n d):∀ {m:Nat},n<m->(WT TT m).Φ "_law_same" [d,d]=.ok .fz (.bl true):=by
 induction h with
 | non =>
  intro m hm;cases m with | zero=>omega | succ m=>?_
  rw[kM];refine bM rfl ?_;show evB _ d5 [some (false,.non),some (false,.non)]=_;have i1:cH [(.fz,.non),(.fz,.ty "tuple")]=some (.fz,.bl false):=rfl;simp[d5,i1,Ty.id]
 | bl b =>
  intro m hm;cases m with | zero=>omega | succ m=>?_
  rw[kM];refine bM rfl ?_;show evB _ d5 [some (false,.bl b),some (false,.bl b)]=_;have i1:cH [(.fz,.bl b),(.fz,.ty "tuple")]=some (.fz,.bl false):=rfl;have i2:cH [(.fz,.bl b),(.fz,.ty "bool")]=some (.fz,.bl true):=rfl;simp[d5,i1,i2,Ty.id]
 | int b =>
  intro m hm;cases m with | zero=>omega | succ m=>?_
  rw[kM];refine bM rfl ?_;show evB _ d5 [some (false,.int b),some (false,.int b)]=_;have i1:cH [(.fz,.int b),(.fz,.ty "tuple")]=some (.fz,.bl false):=rfl;have i2:cH [(.fz,.int b),(.fz,.ty "bool")]=some (.fz,.bl false):=rfl;have i3:cH [(.fz,.int b),(.fz,.ty "int")]=some (.fz,.bl true):=rfl;simp[d5,i1,i2,i3,Ty.id]
 | str b =>
  intro m hm;cases m with | zero=>omega | succ m=>?_
  rw[kM];refine bM rfl ?_;show evB _ d5 [some (false,.str b),some (false,.str b)]=_;have i1:cH [(.fz,.str b),(.fz,.ty "tuple")]=some (.fz,.bl false):=rfl;have i2:cH [(.fz,.str b),(.fz,.ty "bool")]=some (.fz,.bl false):=rfl;have i3:cH [(.fz,.str b),(.fz,.ty "int")]=some (.fz,.bl false):=rfl;have i4:cH [(.fz,.str b),(.fz,.ty "str")]=some (.fz,.bl true):=rfl;simp[d5,i1,i2,i3,i4,Ty.id]
 | @tup n ds h hl ih =>
  intro m hm;cases m with | zero=>omega | succ m=>?_
  rw[kM];refine bM rfl ?_;show evB _ d5 [some (false,.tup ds),some (false,.tup ds)]=_;have i1:cH [(.fz,.tup ds),(.fz,.ty "tuple")]=some (.fz,.bl true):=rfl;have ez:jV (.ok [(.fz,.tup ds),(.fz,.tup ds)])=.ok .fz (.lst (ds.map λd=>.tup [d,d])):=by show Res.ok .fz (.lst (dR ds ds))=_;rw[yJ]
  have ec:bN (.ok .fz (.lst (ds.map λd=>.tup [d,d]))) [some (false,.tup ds),some (false,.tup ds)] [] 2 (aW (.tp [.nm 0,.nm 1])) (λρ=>evF (WT TT m) [] ρ) (λρ=>evE (WT TT m) (.call "_law_same" 2 [(.var 0),(.var 1)]) ρ)=.ok .fr (.lst ((ds.map λd=>D.tup [d,d]).map λ_=>.bl true)):=by
   refine mW (ds:=ds.map λd=>D.tup [d,d]) (λ_=>.bl true) (by rw[aR2,aRT];omega) λz hz=>?_
   obtain ⟨x,hx,rfl⟩:=aUQ.mp hz;have sx:=dX (ih x hx (m:=m) (by omega))
   exact ⟨[some (false,x),some (false,x)],.fz,rfl,by simp,.fz,by simp[sx]⟩
  have ea:=aOF (m:=.fr) (ds.map λd=>D.tup [d,d]);have el:fQ [(.fz,.tup ds)]=some (.fz,.int ds.length):=rfl;unfold d5;generalize (List.map (λx=>D.bl true) (List.map (λd=>D.tup [d,d]) ds))=L at *;generalize (List.map (λd=>D.tup [d,d]) ds)=L2 at *;generalize D.tup ds=A at *;simp[Ty.id] at ec;simp[Ty.id,i1,el,ez,ec,ea]
@[simp] theorem aOW:(Str.ofString "counts" == Str.ofString "truth")=false:=by decide
@[simp] theorem aOX:(Str.ofString "counts" == Str.ofString "costs")=false:=by decide
@[simp] theorem aOY:(Str.ofString "counts" == Str.ofString "sure")=false:=by decide
@[simp] theorem aOZ:(Str.ofString "counts" == Str.ofString "voices")=false:=by decide
@[simp] theorem aO0:(Str.ofString "counts" == Str.ofString "least")=false:=by decide
@[simp] theorem aO1:(Str.ofString "counts" == Str.ofString "wheel")=false:=by decide
@[simp] theorem aO2:(Str.ofString "counts" == Str.ofString "pair")=false:=by decide
@[simp] theorem aO3:(Str.ofString "counts" == Str.ofString "heaps")=false:=by decide
@[simp] theorem aO4:(Str.ofString "truth" == Str.ofString "counts")=false:=by decide
@[simp] theorem aO5:(Str.ofString "truth" == Str.ofString "costs")=false:=by decide
@[simp] theorem aO6:(Str.ofString "truth" == Str.ofString "sure")=false:=by decide
@[simp] theorem aO7:(Str.ofString "truth" == Str.ofString "voices")=false:=by decide
@[simp] theorem aO8:(Str.ofString "truth" == Str.ofString "least")=false:=by decide
@[simp] theorem aO9:(Str.ofString "truth" == Str.ofString "wheel")=false:=by decide
@[simp] theorem aPA:(Str.ofString "truth" == Str.ofString "pair")=false:=by decide
@[simp] theorem aPB:(Str.ofString "truth" == Str.ofString "heaps")=false:=by decide
@[simp] theorem aPC:(Str.ofString "costs" == Str.ofString "counts")=false:=by decide
@[simp] theorem aPD:(Str.ofString "costs" == Str.ofString "truth")=false:=by decide
@[simp] theorem aPE:(Str.ofString "costs" == Str.ofString "sure")=false:=by decide
@[simp] theorem aPF:(Str.ofString "costs" == Str.ofString "voices")=false:=by decide
@[simp] theorem aPG:(Str.ofString "costs" == Str.ofString "least")=false:=by decide
@[simp] theorem aPH:(Str.ofString "costs" == Str.ofString "wheel")=false:=by decide
@[simp] theorem aPI:(Str.ofString "costs" == Str.ofString "pair")=false:=by decide
@[simp] theorem aPJ:(Str.ofString "costs" == Str.ofString "heaps")=false:=by decide
@[simp] theorem aPK:(Str.ofString "sure" == Str.ofString "counts")=false:=by decide
@[simp] theorem aPL:(Str.ofString "sure" == Str.ofString "truth")=false:=by decide
@[simp] theorem aPM:(Str.ofString "sure" == Str.ofString "costs")=false:=by decide
@[simp] theorem aPN:(Str.ofString "sure" == Str.ofString "voices")=false:=by decide
@[simp] theorem aPO:(Str.ofString "sure" == Str.ofString "least")=false:=by decide
@[simp] theorem aPP:(Str.ofString "sure" == Str.ofString "wheel")=false:=by decide
@[simp] theorem aPQ:(Str.ofString "sure" == Str.ofString "pair")=false:=by decide
@[simp] theorem aPR:(Str.ofString "sure" == Str.ofString "heaps")=false:=by decide
@[simp] theorem aPS:(Str.ofString "voices" == Str.ofString "counts")=false:=by decide
@[simp] theorem aPT:(Str.ofString "voices" == Str.ofString "truth")=false:=by decide
@[simp] theorem aPU:(Str.ofString "voices" == Str.ofString "costs")=false:=by decide
@[simp] theorem aPV:(Str.ofString "voices" == Str.ofString "sure")=false:=by decide
@[simp] theorem aPW:(Str.ofString "voices" == Str.ofString "least")=false:=by decide
@[simp] theorem aPX:(Str.ofString "voices" == Str.ofString "wheel")=false:=by decide
@[simp] theorem aPY:(Str.ofString "voices" == Str.ofString "pair")=false:=by decide
@[simp] theorem aPZ:(Str.ofString "voices" == Str.ofString "heaps")=false:=by decide
@[simp] theorem aP0:(Str.ofString "least" == Str.ofString "counts")=false:=by decide
@[simp] theorem aP1:(Str.ofString "least" == Str.ofString "truth")=false:=by decide
@[simp] theorem aP2:(Str.ofString "least" == Str.ofString "costs")=false:=by decide
@[simp] theorem aP3:(Str.ofString "least" == Str.ofString "sure")=false:=by decide
@[simp] theorem aP4:(Str.ofString "least" == Str.ofString "voices")=false:=by decide
@[simp] theorem aP5:(Str.ofString "least" == Str.ofString "wheel")=false:=by decide
@[simp] theorem aP6:(Str.ofString "least" == Str.ofString "pair")=false:=by decide
@[simp] theorem aP7:(Str.ofString "least" == Str.ofString "heaps")=false:=by decide
@[simp] theorem aP8:(Str.ofString "wheel" == Str.ofString "counts")=false:=by decide
@[simp] theorem aP9:(Str.ofString "wheel" == Str.ofString "truth")=false:=by decide
@[simp] theorem aQA:(Str.ofString "wheel" == Str.ofString "costs")=false:=by decide
@[simp] theorem aQB:(Str.ofString "wheel" == Str.ofString "sure")=false:=by decide
@[simp] theorem aQC:(Str.ofString "wheel" == Str.ofString "voices")=false:=by decide
@[simp] theorem aQD:(Str.ofString "wheel" == Str.ofString "least")=false:=by decide
@[simp] theorem aQE:(Str.ofString "wheel" == Str.ofString "pair")=false:=by decide
@[simp] theorem aQF:(Str.ofString "wheel" == Str.ofString "heaps")=false:=by decide
@[simp] theorem aQG:(Str.ofString "pair" == Str.ofString "counts")=false:=by decide
@[simp] theorem aQH:(Str.ofString "pair" == Str.ofString "truth")=false:=by decide
@[simp] theorem aQI:(Str.ofString "pair" == Str.ofString "costs")=false:=by decide
@[simp] theorem aQJ:(Str.ofString "pair" == Str.ofString "sure")=false:=by decide
@[simp] theorem aQK:(Str.ofString "pair" == Str.ofString "voices")=false:=by decide
@[simp] theorem aQL:(Str.ofString "pair" == Str.ofString "least")=false:=by decide
@[simp] theorem aQM:(Str.ofString "pair" == Str.ofString "wheel")=false:=by decide
@[simp] theorem aQN:(Str.ofString "pair" == Str.ofString "heaps")=false:=by decide
@[simp] theorem aQO:(Str.ofString "heaps" == Str.ofString "counts")=false:=by decide
@[simp] theorem aQP:(Str.ofString "heaps" == Str.ofString "truth")=false:=by decide
@[simp] theorem aQQ:(Str.ofString "heaps" == Str.ofString "costs")=false:=by decide
@[simp] theorem aQR:(Str.ofString "heaps" == Str.ofString "sure")=false:=by decide
@[simp] theorem aQS:(Str.ofString "heaps" == Str.ofString "voices")=false:=by decide
@[simp] theorem aQT:(Str.ofString "heaps" == Str.ofString "least")=false:=by decide
@[simp] theorem aQU:(Str.ofString "heaps" == Str.ofString "wheel")=false:=by decide
@[simp] theorem aQV:(Str.ofString "heaps" == Str.ofString "pair")=false:=by decide
inductive Kd where | counts (n:Int) | truth (n:Int) | costs (n:Int) | sure (n:Int) | voices (n:Int) | least (n:Int) | wheel (n:Int) | pair (a b:Kd) | heaps (a:Kd)
def sp:Kd->D
 | .counts n=>.tup [.str "counts", .int n]
 | .truth n=>.tup [.str "truth", .int n]
 | .costs n=>.tup [.str "costs", .int n]
 | .sure n=>.tup [.str "sure", .int n]
 | .voices n=>.tup [.str "voices", .int n]
 | .least n=>.tup [.str "least", .int n]
 | .wheel n=>.tup [.str "wheel", .int n]
 | .pair a b=>.tup [.str "pair", sp a,sp b]
 | .heaps a=>.tup [.str "heaps", sp a]
def ob:Kd->D
 | .counts _=>.ins "Counts" []
 | .truth _=>.ins "Truth" []
 | .costs _=>.ins "Costs" []
 | .sure _=>.ins "Sure" []
 | .voices _=>.ins "Voices" []
 | .least _=>.ins "Least" []
 | .wheel n=>.ins "Wheel" [("size", .int n)]
 | .pair a b=>.ins "Pair" [("first", ob a),("second", ob b)]
 | .heaps a=>.ins "Heaps" [("kind", ob a)]
def dep:Kd->Nat
 | .pair a b=>dep a+dep b+1
 | .heaps a=>dep a+2
 | _=>0
def fL:Kd->Prop
 | .wheel n=>2<=n/\n<=100
 | .pair a b=>fL a/\fL b
 | .heaps a=>fL a
 | _=>True
def no:Kd->D
 | .counts _=>.int 0
 | .truth _=>.bl false
 | .costs _=>.non
 | .sure _=>.tup [.int 0,.int 1]
 | .voices _=>.non
 | .least _=>.tup []
 | .wheel _=>.int 0
 | .pair a b=>.tup [no a,no b]
 | .heaps _=>.tup []
def on:Kd->D
 | .counts _=>.int 1
 | .truth _=>.bl true
 | .costs _=>.int 0
 | .sure _=>.tup [.int 1,.int 1]
 | .voices _=>.tup []
 | .least _=>.tup [.tup []]
 | .wheel _=>.int 1
 | .pair a b=>.tup [on a,on b]
 | .heaps a=>.tup [.tup [.int 0,on a]]
theorem pl2{n:Nat}{x y:D}(h1:Pl n x)(h2:Pl n y):Pl (n+1) (.tup [x,y]):=.tup (λd hd=>by
 simp only[aRA,aUB,aT4] at hd;rcases hd with rfl | rfl
 . exact h1
 . exact h2) (show 2<=1000 by decide)
theorem pl1{n:Nat}{x:D}(h1:Pl n x):Pl (n+1) (.tup [x]):=.tup (λd hd=>by
 rw[List.mem_singleton] at hd;rw[hd];exact h1) (show 1<=1000 by decide)
theorem pl0{n:Nat}:Pl (n+1) (.tup []):=.tup (λd hd=>nomatch hd) (by decide)
theorem bE:∀ K:Kd,Pl (dep K+2) (no K)
 | .counts _=>.int _
 | .truth _=>.bl _
 | .costs _=>.non
 | .sure _=>pl2 (.int _) (.int _)
 | .voices _=>.non
 | .least _=>pl0
 | .wheel _=>.int _
 | .pair a b=>pl2 ((bE a).mono (by simp only[dep];omega)) ((bE b).mono (by simp only[dep];omega))
 | .heaps _=>pl0
theorem d7:∀ K:Kd,Pl (dep K+2) (on K)
 | .counts _=>.int _
 | .truth _=>.bl _
 | .costs _=>.int _
 | .sure _=>pl2 (.int _) (.int _)
 | .voices _=>pl0
 | .least _=>pl1 pl0
 | .wheel _=>.int _
 | .pair a b=>pl2 ((d7 a).mono (by simp only[dep];omega)) ((d7 b).mono (by simp only[dep];omega))
 | .heaps a=>pl1 (pl2 (.int _) ((d7 a).mono (by simp only[dep];omega)))
theorem yK:∀ {n:Nat} (ds:List D),(∀ d∈ds,∃ p,aT d=some p/\p.depth<=n)->∃ ps,bR ds=some ps/\PyData.depthAll ps<=n
 | n,[],_=>⟨[],by simp[bR],by simp[PyData.depthAll]⟩
 | n,d::ds,h=>by obtain ⟨p,e,l⟩:=h d mcs;obtain ⟨ps,e2,l2⟩:=yK ds λx hx=>h x (mcm hx);exact ⟨p::ps,by simp[bR,e,e2],by simp only[PyData.depthAll];omega⟩
theorem yL{n:Nat}{d:D}(h:Pl n d):∃ p,aT d=some p/\p.depth<=n:=by
 induction h with
 | non=>exact ⟨.none,by simp[aT],by simp[PyData.depth]⟩
 | bl b=>exact ⟨.bool b,by simp[aT],by simp[PyData.depth]⟩
 | int b=>exact ⟨.int b,by simp[aT],by simp[PyData.depth]⟩
 | str b=>exact ⟨.str b,by simp[aT],by simp[PyData.depth]⟩
 | @tup n ds h hl ih=>obtain ⟨ps,e,l⟩:=yK ds ih;exact ⟨.tuple ps,by simp[aT,e],by simp only[PyData.depth];omega⟩
def eqB(x y:D):Bool:=match aT x,aT y with
 | some p,some q=>PyData.eqv p q
 | _,_=>false
theorem yM{neg:Bool}{n:Nat}{x y:D}{m m':Md}(hx:Pl n x)(hy:Pl n y)(hn:n<=50):eqF neg m x m' y=some (.fz,.bl (if neg then !eqB x y else eqB x y)):=by obtain ⟨p,ep,lp⟩:=yL hx;obtain ⟨q,eq,lq⟩:=yL hy;unfold eqF eqB;rw[ep,eq];dsimp only;rw[if_pos (by unfold jN;rw[aSR,aS4,aS4];omega)]
theorem yN{n:Nat}{x y:D}{m m':Md}(hx:Pl n x)(hy:Pl n y)(hn:n<=50):op2 (bK .Eq) (.ok m x) (.ok m' y)=.ok .fz (.bl (eqB x y)):=cI (by
 show orO (eqF false) _ m x m' y=_;unfold orO;rw[yM hx hy hn];rfl)
theorem qU{n:Nat}{x y:D}{m m':Md}(hx:Pl n x)(hy:Pl n y)(hn:n<=50):op2 (bK .NotEq) (.ok m x) (.ok m' y)=.ok .fz (.bl (!eqB x y)):=cI (by
 show orO (eqF true) _ m x m' y=_;unfold orO;rw[yM hx hy hn];rfl)
theorem yO{n:Nat}{Φ:List D->Res}{xs:List (Md×D)}{ds:List D}{d:D}(hl:ds.length=n)(ha:bX xs=some ds)(h:Φ ds=.ok .fr d):aL n Φ (.ok xs)=.ok .fr d:=by
 show (match bX xs with | some ds=>if ds.length=n then (match Φ ds with | .ok .bo _=>Res.stuck | r=>r) else .stuck | none=>.stuck)=_
 rw[ha];show (if ds.length=n then _ else _)=_;rw[if_pos hl,h]
theorem nC{Φ:List D->Res}{a d:D}(h:Φ [a]=.ok .fr d):aL 1 Φ (.ok [(.fz,a)])=.ok .fr d:=yO (ds:=[a]) rfl rfl h
theorem yP{Φ:List D->Res}{a b d:D}(h:Φ [a,b]=.ok .fr d):aL 2 Φ (.ok [(.fz,a),(.fz,b)])=.ok .fr d:=yO (ds:=[a,b]) rfl rfl h
theorem aO{m m':Md}{x y:D}:op2 ixD (.ok m (.tup [x,y])) (.ok m' (.int 0))=.ok .fz x:=kP rfl
theorem bZ{m m':Md}{x y:D}:op2 ixD (.ok m (.tup [x,y])) (.ok m' (.int 1))=.ok .fz y:=kP rfl
theorem kQ{m m':Md}{x y z:D}:op2 ixD (.ok m (.tup [x,y,z])) (.ok m' (.int 0))=.ok .fz x:=kP rfl
theorem kR{m m':Md}{x y z:D}:op2 ixD (.ok m (.tup [x,y,z])) (.ok m' (.int 1))=.ok .fz y:=kP rfl
theorem kS{m m':Md}{x y z:D}:op2 ixD (.ok m (.tup [x,y,z])) (.ok m' (.int 2))=.ok .fz z:=kP rfl
theorem hG:gO (.ok [])=.ok .fz (.tup []):=rfl
theorem kT{x:D}:gO (.ok [(.fz,x)])=.ok .fz (.tup [x]):=rfl
theorem bO{x y:D}:gO (.ok [(.fz,x),(.fz,y)])=.ok .fz (.tup [x,y]):=rfl
theorem nD{x y z:D}:gO (.ok [(.fz,x),(.fz,y),(.fz,z)])=.ok .fz (.tup [x,y,z]):=rfl
theorem cJ(k:Nat){d:D}{a b:Bool}(h1:cH [(.fz,d),(.fz,.ty "int")]=some (.fz,.bl a))(h2:cH [(.fz,d),(.fz,.ty "bool")]=some (.fz,.bl b)):(WT TT (k+1)).Φ "is_whole" [d]=.ok .fz (.bl (a&&!b)):=by rw[aLB];refine bM rfl ?_;show evB _ mY [some (false,d)]=_;simp[mY,h1,h2,Ty.id]
theorem aOG(k:Nat)(i:Int):(WT TT (k+1)).Φ "is_whole" [.int i]=.ok .fz (.bl true):=cJ k (d:=.int i) rfl rfl
theorem aOH(k:Nat){s:Int}(h:2<=s):dP 1 (cT (WT TT (k+1)) kJ) (.ok [(.fz,.int s)])=.ok .fr (ob (.wheel s)):=by
 have w:=aOG k s;have h':¬ s<2:=by omega
 have e:cT (WT TT (k+1)) kJ [.int s]=.ok .fr (ob (.wheel s)):=by
  show (match dI (WT TT (k+1)) "Wheel" (.guard (.orL [(.not (.tru (.call "is_whole" 1 [(.var 1)]))),(.cmp .Lt (.var 1) (.int 2))]) [.rz "NoKind" [(.str "the size of a wheel is a whole number from 2 on")]] (.fset "size" (.var 1) .done)) [none,some (false,.int s)] [] with | .ok fs=>Res.ok .fr (.ins "Wheel" fs) | .exc c=>.exc c | .stuck=>.stuck)=_
  simp[dI,w,h'];rfl
 show (match cT (WT TT (k+1)) kJ [.int s] with | .ok _ d=>Res.ok .fr d | r=>r)=_
 rw[e]
theorem aOI(k:Nat)(a b:D):dP 2 (cT (WT TT k) kK) (.ok [(.fz,a),(.fz,b)])=.ok .fr (.ins "Pair" [("first", a),("second", b)]):=by
 have e:cT (WT TT k) kK [a,b]=.ok .fr (.ins "Pair" [("first", a),("second", b)]):=by
  show (match dI (WT TT k) "Pair" (.fset "first" (.var 1) (.fset "second" (.var 2) .done)) [none,some (false,a),some (false,b)] [] with | .ok fs=>Res.ok .fr (.ins "Pair" fs) | .exc c=>.exc c | .stuck=>.stuck)=_
  simp[dI];rfl
 show (match cT (WT TT k) kK [a,b] with | .ok _ d=>Res.ok .fr d | r=>r)=_
 rw[e]
theorem aOJ(k:Nat)(a:D):dP 1 (cT (WT TT k) kL) (.ok [(.fz,a)])=.ok .fr (.ins "Heaps" [("kind", a)]):=by
 have e:cT (WT TT k) kL [a]=.ok .fr (.ins "Heaps" [("kind", a)]):=by
  show (match dI (WT TT k) "Heaps" (.fset "kind" (.var 1) .done) [none,some (false,a)] [] with | .ok fs=>Res.ok .fr (.ins "Heaps" fs) | .exc c=>.exc c | .stuck=>.stuck)=_
  simp[dI];rfl
 show (match cT (WT TT k) kL [a] with | .ok _ d=>Res.ok .fr d | r=>r)=_
 rw[e]
theorem kd_{m:Nat}{s o:D}{mm:Md}(h:evB (WT TT m) dZ [some (false,s)]=.rt .fr o):(WT TT (m+1)).Φ "_law_kind" [s]=.ok .fr o:=by rw[aLH];exact bM rfl h
theorem kind:∀ (K:Kd),fL K->∀ {m:Nat},dep K+4<=m->(WT TT m).Φ "_law_kind" [sp K]=.ok .fr (ob K)
 | .counts n,_,m+1,_=>kd_ (mm:=.fz) (by simp[dZ,sp,aO,ob])
 | .truth n,_,m+1,_=>kd_ (mm:=.fz) (by simp[dZ,sp,aO,ob])
 | .costs n,_,m+1,_=>kd_ (mm:=.fz) (by simp[dZ,sp,aO,ob])
 | .sure n,_,m+1,_=>kd_ (mm:=.fz) (by simp[dZ,sp,aO,ob])
 | .voices n,_,m+1,_=>kd_ (mm:=.fz) (by simp[dZ,sp,aO,ob])
 | .least n,_,m+1,_=>kd_ (mm:=.fz) (by simp[dZ,sp,aO,ob])
 | .wheel n,g,m+4,_=>kd_ (mm:=.fz) (by simp[dZ,sp,aO,bZ,pM (aOB (m+1)),aOH m g.1])
 | .pair a b,g,m+4,h=>by
  have ha:=nC (kind a g.1 (m:=m+3) (by simp only[dep] at h;omega))
  have hb:=nC (kind b g.2 (m:=m+3) (by simp only[dep] at h;omega))
  exact kd_ (mm:=.fz) (by simp[dZ,sp,kQ,kR,kS,pM (aOC (m+1)),ha,hb,aOI,ob])
 | .heaps a,g,m+4,h=>by
  have ha:=nC (kind a g (m:=m+3) (by simp only[dep] at h;omega))
  exact kd_ (mm:=.fz) (by simp[dZ,sp,aO,bZ,pM (aOD (m+1)),ha,aOJ,ob])
theorem yQ{α:Type}{enc:α->D}{p:α->Bool}{g:α->D}{k:D->Rho->Option Rho}{t e:Rho->Res}{ρ0:Rho}:∀ {xs:List α},(∀ x∈xs,∃ ρ1 m,k (enc x) ρ0=some ρ1/\t ρ1=.ok m (.bl (p x))/\(p x=true->∃ m',bB (e ρ1)=.ok m' (g x)))->eC k t e ρ0 (xs.map enc)=some ((xs.filter p).map g)
 | [],_=>rfl
 | x::xs,h=>by
  obtain ⟨ρ1,m,e1,e2,e3⟩:=h x mcs;have ih:=yQ λy hy=>h y (mcm hy);rw[aR1];unfold eC;rw[e1];dsimp only;rw[e2];cases q:p x with
  | true=>obtain ⟨m',e3⟩:=e3 q;simp[e3,ih,aUR,q]
  | false=>simp[ih,aUR,q]
theorem kU{α:Type}{enc:α->D}(p:α->Bool)(g:α->D){ρ:Rho}{aE:List Nat}{n:Nat}{k:D->Rho->Option Rho}{t e:Rho->Res}{m:Md}{xs:List α}(hl:xs.length<sizeLine)(h:∀ x∈xs,∃ ρ1 m,k (enc x) (cX aE ρ++List.replicate n none)=some ρ1/\t ρ1=.ok m (.bl (p x))/\(p x=true->∃ m',bB (e ρ1)=.ok m' (g x))):bN (.ok m (.lst (xs.map enc))) ρ aE n k t e=.ok .fr (.lst ((xs.filter p).map g)):=by unfold bN;rw[Res.thn_ok];dsimp only;rw[if_pos (by simpa using hl),yQ h]
theorem qV{α:Type}{enc:α->D}(g:α->D){ρ:Rho}{aE:List Nat}{n:Nat}{k:D->Rho->Option Rho}{t e:Rho->Res}{m:Md}{xs:List α}(hl:xs.length<sizeLine)(h:∀ x∈xs,∃ ρ1 m,k (enc x) (cX aE ρ++List.replicate n none)=some ρ1/\t ρ1=.ok m (.bl true)/\∃ m',bB (e ρ1)=.ok m' (g x)):bN (.ok m (.lst (xs.map enc))) ρ aE n k t e=.ok .fr (.lst (xs.map g)):=by
 have:=kU (enc:=enc) (λ_=>true) g (ρ:=ρ) (aE:=aE) (n:=n) (k:=k) (t:=t) (e:=e) (m:=m) hl λx hx=>by obtain ⟨ρ1,m,e1,e2,e3⟩:=h x hx;exact ⟨ρ1,m,e1,e2,λ_=>e3⟩
 rw[this,List.filter_eq_self.mpr λ_ _=>rfl]
theorem ph1{k:Nat}{key:Str}{b:List D3.S}{x d:D}(u:(WT TT (k+1)).Φ key=phi 1 1 (evB (WT TT k) b))(h:evB (WT TT k) b [some (false,x)]=.rt .fz d):aL 1 ((WT TT (k+1)).Φ key) (.ok [(.fz,x)])=.ok .fz d:=eW (by rw[u];exact bM rfl h)
theorem ph2{k:Nat}{key:Str}{b:List D3.S}{x y d:D}(u:(WT TT (k+1)).Φ key=phi 2 2 (evB (WT TT k) b))(h:evB (WT TT k) b [some (false,x),some (false,y)]=.rt .fz d):aL 2 ((WT TT (k+1)).Φ key) (.ok [(.fz,x),(.fz,y)])=.ok .fz d:=dX (by rw[u];exact bM rfl h)
theorem ph3{k:Nat}{key:Str}{b:List D3.S}{x y z d:D}(u:(WT TT (k+1)).Φ key=phi 3 3 (evB (WT TT k) b))(h:evB (WT TT k) b [some (false,x),some (false,y),some (false,z)]=.rt .fz d):aL 3 ((WT TT (k+1)).Φ key) (.ok [(.fz,x),(.fz,y),(.fz,z)])=.ok .fz d:=kH (by rw[u];exact bM rfl h)
noncomputable abbrev mt(m:Nat)(nm:Str)(K:Kd)(as:List (Md×D)):Res:=aV TT.cl (WT TT m).Φ nm (.ok .fz (ob K)) (.ok as)
theorem f1{m:Md}{a b:D}:fD TT.cl "first" (.ok m (.ins "Pair" [("first", a),("second", b)]))=.ok .fz a:=by rfl
theorem f2{m:Md}{a b:D}:fD TT.cl "second" (.ok m (.ins "Pair" [("first", a),("second", b)]))=.ok .fz b:=by rfl
theorem fK{m:Md}{a:D}:fD TT.cl "kind" (.ok m (.ins "Heaps" [("kind", a)]))=.ok .fz a:=by rfl
theorem fS{m:Md}{n:Int}:fD TT.cl "size" (.ok m (.ins "Wheel" [("size", .int n)]))=.ok .fz (.int n):=by rfl
theorem up{m n:Nat}(h:n<m):∃ k,m=k+1:=⟨m-1,by omega⟩
def eY:List (Key×D):=[(.inr "truth", .tup [.bl false,.bl true]),(.inr "costs", .tup [.non,.int 0]),(.inr "sure", .tup [.tup [.int 0,.int 1],.tup [.int 1,.int 1]]),(.inr "voices", .tup [.non,.tup []]),(.inr "least", .tup [.tup [],.tup [.tup []]])]
theorem hR{k:Nat}{w:Str}{s:D}(h1:op2 ixD (.ok .fz s) (.ok .fz (.int 0))=.ok .fz (.str w))(n1:(w==Str.ofString "pair")=false)(n2:(w==Str.ofString "heaps")=false):(WT TT (k+1)).Φ "_law_ends" [s]=.ok .fz ((eU eY (.inr w)).getD (.tup [.int 0,.int 1])):=by
 rw[qT];refine bM rfl ?_;show evB _ f8 [some (false,s),none,none,none]=_;have e1:evE (WT TT k) (.disp [(.str "truth"),(.str "costs"),(.str "sure"),(.str "voices")] [(.tup [(.bl false),(.bl true)]),(.tup [.non,(.int 0)]),(.tup [(.tup [(.int 0),(.int 1)]),(.tup [(.int 1),(.int 1)])]),(.tup [.non,(.tup [])])]) [some (false,s),none,none,none]=.ok .fr (.dct (eY.take 4)):=by rfl
 have e2:fF [some (false,s),none,none,some (true,.dct (eY.take 4))] 3 (.ok .fz (.str "least")) (.ok .fz (.tup [.tup [],.tup [.tup []]]))=.nx [some (false,s),none,none,some (true,.dct eY)]:=by rfl
 have e3:iQ [some (false,s),none,none,some (true,.dct eY)] 3=.nx [some (false,s),none,none,some (false,.dct eY)]:=by rfl
 have e4:j8 (.ok .fz (.dct eY)) (.ok .fz (.str w)) (.ok .fz (.tup [.int 0,.int 1]))=.ok .fz ((eU eY (.inr w)).getD (.tup [.int 0,.int 1])):=by rfl
 unfold f8;generalize E.disp _ _=E0 at *;generalize List.take 4 eY=R4 at *;generalize eY=R at *;simp[h1,n1,n2,e1,hG,kT,bO,e2,e3,e4]
theorem f9:∀ (K:Kd) {m:Nat},dep K<m->(WT TT m).Φ "_law_ends" [sp K]=.ok .fz (.tup [no K,on K])
 | .counts n,m+1,_=>(hR (w := "counts") aO (by simp) (by simp)).trans rfl
 | .truth n,m+1,_=>(hR (w := "truth") aO (by simp) (by simp)).trans rfl
 | .costs n,m+1,_=>(hR (w := "costs") aO (by simp) (by simp)).trans rfl
 | .sure n,m+1,_=>(hR (w := "sure") aO (by simp) (by simp)).trans rfl
 | .voices n,m+1,_=>(hR (w := "voices") aO (by simp) (by simp)).trans rfl
 | .least n,m+1,_=>(hR (w := "least") aO (by simp) (by simp)).trans rfl
 | .wheel n,m+1,_=>(hR (w := "wheel") aO (by simp) (by simp)).trans rfl
 | .pair a b,m+1,h=>by
  simp only[dep] at h;have ha:=eW (f9 a (m:=m) (by omega))
  have hb:=eW (f9 b (m:=m) (by omega))
  rw[qT];refine bM rfl ?_;show evB _ f8 [some (false,.tup [.str "pair", sp a,sp b]),none,none,none]=_;simp[f8,kQ,kR,kS,ha,hb,aO,bZ,bO,no,on]
 | .heaps a,m+1,h=>by
  simp only[dep] at h;have ha:=eW (f9 a (m:=m) (by omega))
  rw[qT];refine bM rfl ?_;show evB _ f8 [some (false,.tup [.str "heaps", sp a]),none,none,none]=_;simp[f8,aO,bZ,ha,hG,kT,bO,no,on]
theorem kW:∀ (K:Kd) {m:Nat},dep K<m->mt m "nought" K []=.ok .fz (no K)
 | .counts n,m+1,_=>aMC.trans (ph1 (aLO m) (by simp[pV,no]))
 | .truth n,m+1,_=>aMK.trans (ph1 (aLR m) (by simp[pY,no]))
 | .costs n,m+1,_=>aMS.trans (ph1 (aLT m) (by simp[qA,no]))
 | .sure n,m+1,_=>aM0.trans (ph1 (aLV m) (by simp[qC,no,bO]))
 | .voices n,m+1,_=>aM8.trans (ph1 (aLX m) (by simp[qE,no]))
 | .least n,m+1,_=>aN4.trans (ph1 (aL9 m) (by simp[qP,no,hG]))
 | .wheel n,m+1,_=>(aNG rfl).trans (ph1 (aLZ m) (by simp[qG,no]))
 | .pair a b,m+1,h=>by
  simp only[dep] at h;have ha:=kW a (m:=m) (by omega)
  have hb:=kW b (m:=m) (by omega)
  exact (aNO rfl).trans (ph1 (aL2 m) (by simp[qJ,f1,f2,ha,hb,bO,no]))
 | .heaps a,m+1,h=>(aNW rfl).trans (ph1 (aL6 m) (by simp[qN,no,hG]))
theorem one:∀ (K:Kd) {m:Nat},dep K<m->mt m "one" K []=.ok .fz (on K)
 | .counts n,m+1,_=>aME.trans (ph1 (aLP m) (by simp[pW,on]))
 | .truth n,m+1,_=>aMM.trans (ph1 (aLS m) (by simp[pZ,on]))
 | .costs n,m+1,_=>aMU.trans (ph1 (aLU m) (by simp[qB,on]))
 | .sure n,m+1,_=>aM2.trans (ph1 (aLW m) (by simp[qD,on,bO]))
 | .voices n,m+1,_=>aNA.trans (ph1 (aLY m) (by simp[qF,on,hG]))
 | .least n,m+1,_=>aN6.trans (ph1 (aMA m) (by simp[qQ,on,hG,kT]))
 | .wheel n,m+1,_=>(aNI rfl).trans (ph1 (aL0 m) (by simp[qH,on]))
 | .pair a b,m+1,h=>by
  simp only[dep] at h;have ha:=one a (m:=m) (by omega)
  have hb:=one b (m:=m) (by omega)
  exact (aNQ rfl).trans (ph1 (aL3 m) (by simp[qK,f1,f2,ha,hb,bO,on]))
 | .heaps a,m+1,h=>by
  simp only[dep] at h;have ha:=one a (m:=m) (by omega)
  exact (aNY rfl).trans (ph1 (aL7 m) (by simp[qO,fK,ha,kT,bO,on]))
abbrev enc(e:Int×D):D:=.tup [.int e.1,e.2]
def Nt:Kd->D->Prop
 | .counts _,d=>∃ i:Int,d=.int i/\i.natAbs<10 ^ 61
 | .wheel _,d=>∃ i:Int,d=.int i/\i.natAbs<10 ^ 61
 | .pair a b,d=>∃ x y,d=.tup [x,y]/\Nt a x/\Nt b y
 | .heaps a,d=>∃ es:List (Int×D),d=.tup (es.map enc)/\es.length<=3/\∀ e∈es,Nt a e.2
 | _,d=>Pl 2 d
theorem yR{n:Nat}{es:List (Int×D)}(h:∀ e∈es,Pl n e.2)(hl:es.length<=3):Pl (n+2) (.tup (es.map enc)):=.tup (λd hd=>by
 obtain ⟨e,he,rfl⟩:=aUQ.mp hd
 exact pl2 (.int _) (h e he)) (by rw[aR2];omega)
theorem cK:∀ (K:Kd) {d:D},Nt K d->Pl (dep K+2) d
 | .counts _,_,⟨i,rfl,_⟩=>.int _
 | .wheel _,_,⟨i,rfl,_⟩=>.int _
 | .truth _,_,h=>h
 | .costs _,_,h=>h
 | .sure _,_,h=>h
 | .voices _,_,h=>h
 | .least _,_,h=>h
 | .pair a b,_,⟨x,y,rfl,h1,h2⟩=>pl2 ((cK a h1).mono (by simp only[dep];omega)) ((cK b h2).mono (by simp only[dep];omega))
 | .heaps a,_,⟨es,rfl,hl,h⟩=>(yR (λe he=>cK a (h e he)) hl).mono (by simp only[dep];omega)
def lk:Kd->D->D
 | .pair a b,d=>match d with | .tup [x,y]=>.tup [lk a x,lk b y] | _=>.non
 | K,d=>if eqB d (no K) then on K else no K
def SN:Kd->D->Prop
 | .pair a b,d=>∃ x y,d=.tup [x,y]/\SN a x/\SN b y
 | K,d=>Pl (dep K+2) d
theorem kX:∀ (K:Kd) {d:D},Nt K d->SN K d
 | .pair a b,_,⟨x,y,e,h1,h2⟩=>⟨x,y,e,kX a h1,kX b h2⟩
 | .counts n,_,h=>cK (.counts n) h
 | .wheel n,_,h=>cK (.wheel n) h
 | .truth n,_,h=>cK (.truth n) h
 | .costs n,_,h=>cK (.costs n) h
 | .sure n,_,h=>cK (.sure n) h
 | .voices n,_,h=>cK (.voices n) h
 | .least n,_,h=>cK (.least n) h
 | .heaps n,_,h=>cK (.heaps n) h
theorem qW:∀ (K:Kd),SN K (no K)
 | .pair a b=>⟨_,_,rfl,qW a,qW b⟩
 | .counts n=>bE (.counts n)
 | .wheel n=>bE (.wheel n)
 | .truth n=>bE (.truth n)
 | .costs n=>bE (.costs n)
 | .sure n=>bE (.sure n)
 | .voices n=>bE (.voices n)
 | .least n=>bE (.least n)
 | .heaps n=>bE (.heaps n)
theorem gC{n:Nat}{c:Bool}{x y:D}(hx:Pl n x)(hy:Pl n y):Pl n (if c then x else y):=by cases c <;> assumption
theorem qX:∀ (K:Kd) {d:D},SN K d->Pl (dep K+2) (lk K d)
 | .pair a b,_,⟨x,y,rfl,h1,h2⟩=>pl2 ((qX a h1).mono (by simp only[dep];omega)) ((qX b h2).mono (by simp only[dep];omega))
 | .counts n,_,h=>gC (d7 (.counts n)) (bE (.counts n))
 | .wheel n,_,h=>gC (d7 (.wheel n)) (bE (.wheel n))
 | .truth n,_,h=>gC (d7 (.truth n)) (bE (.truth n))
 | .costs n,_,h=>gC (d7 (.costs n)) (bE (.costs n))
 | .sure n,_,h=>gC (d7 (.sure n)) (bE (.sure n))
 | .voices n,_,h=>gC (d7 (.voices n)) (bE (.voices n))
 | .least n,_,h=>gC (d7 (.least n)) (bE (.least n))
 | .heaps n,_,h=>gC (d7 (.heaps n)) (bE (.heaps n))
theorem gD{k:Nat}(K:Kd){d:D}(hk:dep K<k)(hd:dep K<=40)(h:Pl (dep K+2) d):aL 2 ((WT TT (k+1)).Φ "Kind.lack") (.ok [(.fz,ob K),(.fz,d)])=.ok .fz (if eqB d (no K) then on K else no K):=by
 refine ph2 (aLM k) ?_;have e1:=kW K hk;have e2:=one K hk;have e3:=yN (m:=.fz) (m':=.fz) h (bE K) (by omega)
 unfold mt at e1 e2;generalize ob K=O at *;cases q:eqB d (no K) with
 | true=>rw[q] at e3;simp[m9,e1,e2,e3]
 | false=>rw[q] at e3;simp[m9,e1,e2,e3]
theorem nE:∀ (K:Kd) {d:D} {m:Nat},dep K+1<m->dep K<=40->SN K d->mt m "lack" K [(.fz,d)]=.ok .fz (lk K d)
 | .pair a b,_,m+1,hm,hd,⟨x,y,rfl,h1,h2⟩=>by
  simp only[dep] at hm hd;have e1:=nE a (m:=m) (by omega) (by omega) h1
  have e2:=nE b (m:=m) (by omega) (by omega) h2
  exact (aNS rfl).trans (ph2 (aL4 m) (by simp[qL,f1,f2,aO,bZ,e1,e2,bO,lk]))
 | .counts n,_,m+1,hm,hd,h=>aMI.trans (gD (.counts n) (by omega) hd h)
 | .truth n,_,m+1,hm,hd,h=>aMQ.trans (gD (.truth n) (by omega) hd h)
 | .costs n,_,m+1,hm,hd,h=>aMY.trans (gD (.costs n) (by omega) hd h)
 | .sure n,_,m+1,hm,hd,h=>aM6.trans (gD (.sure n) (by omega) hd h)
 | .voices n,_,m+1,hm,hd,h=>aNE.trans (gD (.voices n) (by omega) hd h)
 | .least n,_,m+1,hm,hd,h=>aOA.trans (gD (.least n) (by omega) hd h)
 | .wheel n,_,m+1,hm,hd,h=>(aNM rfl).trans (gD (.wheel n) (by omega) hd h)
 | .heaps n,_,m+1,hm,hd,h=>(aN2 rfl).trans (gD (.heaps n) (by omega) hd h)
theorem gE{k:Nat}(K:Kd){w:Str}{d:D}(hk:dep K<k)(hd:dep K<=40)(h:Pl (dep K+2) d)(h1:op2 ixD (.ok .fz (sp K)) (.ok .fz (.int 0))=.ok .fz (.str w))(n1:(w==Str.ofString "pair")=false):(WT TT (k+1)).Φ "_law_lack" [sp K,d]=.ok .fz (if eqB d (no K) then on K else no K):=by
 have e1:=eW (f9 K hk);have e3:=yN (m:=.fz) (m':=.fz) h (bE K) (by omega)
 rw[yF];refine bM rfl ?_;show evB _ hB [some (false,sp K),some (false,d),none]=_;generalize sp K=O at *;cases q:eqB d (no K) with
 | true=>rw[q] at e3;simp[hB,h1,n1,e1,aO,bZ,e3]
 | false=>rw[q] at e3;simp[hB,h1,n1,e1,aO,bZ,e3]
theorem qY:∀ (K:Kd) {d:D} {m:Nat},dep K+1<m->dep K<=40->SN K d->(WT TT m).Φ "_law_lack" [sp K,d]=.ok .fz (lk K d)
 | .pair a b,_,m+1,hm,hd,⟨x,y,rfl,h1,h2⟩=>by
  simp only[dep] at hm hd;have e1:=dX (qY a (m:=m) (by omega) (by omega) h1)
  have e2:=dX (qY b (m:=m) (by omega) (by omega) h2)
  rw[yF];refine bM rfl ?_;show evB _ hB [some (false,.tup [.str "pair", sp a,sp b]),some (false,.tup [x,y]),none]=_;simp[hB,kQ,kR,kS,aO,bZ,e1,e2,bO,lk]
 | .counts n,_,m+1,hm,hd,h=>gE (.counts n) (w := "counts") (by omega) hd h aO (by simp)
 | .truth n,_,m+1,hm,hd,h=>gE (.truth n) (w := "truth") (by omega) hd h aO (by simp)
 | .costs n,_,m+1,hm,hd,h=>gE (.costs n) (w := "costs") (by omega) hd h aO (by simp)
 | .sure n,_,m+1,hm,hd,h=>gE (.sure n) (w := "sure") (by omega) hd h aO (by simp)
 | .voices n,_,m+1,hm,hd,h=>gE (.voices n) (w := "voices") (by omega) hd h aO (by simp)
 | .least n,_,m+1,hm,hd,h=>gE (.least n) (w := "least") (by omega) hd h aO (by simp)
 | .wheel n,_,m+1,hm,hd,h=>gE (.wheel n) (w := "wheel") (by omega) hd h aO (by simp)
 | .heaps n,_,m+1,hm,hd,h=>gE (.heaps n) (w := "heaps") (by omega) hd h aO (by simp)
noncomputable def mn:Kd->Int->D->D
 | .counts _,n,d=>match d with | .int i=>.int (n * i) | _=>.non
 | .wheel s,n,d=>match d with | .int i=>.int (n * i % s) | _=>.non
 | .pair a b,n,d=>match d with | .tup [x,y]=>.tup [mn a n x,mn b n y] | _=>.non
 | .heaps a,n,d=>match d with
  | .tup ds=>.tup ((ds.map λd=>match d with | .tup [k,x]=>D.tup [k,mn a n x] | d=>d).filter λd=>match d with | .tup [_,x]=>!eqB x (no a) | _=>false)
  | _=>.non
 | K,n,d=>if n=0 then no K else d
abbrev step(f:D->D)(e:Int×D):Int×D:=(e.1,f e.2)
theorem qZ(a:Kd)(n:Int)(es:List (Int×D)):mn (.heaps a) n (.tup (es.map enc))=.tup ((((es.map (step (mn a n))).filter λe=>!eqB e.2 (no a))).map enc):=by
 show D.tup (((es.map enc).map _).filter _)=_;congr 1
 induction es with
 | nil=>rfl
 | cons e es ih =>
  simp only[aR1,aUR];by_cases q:(!eqB (mn a n e.2) (no a))=true
  . rw[if_pos q,if_pos q,aR1,<- ih]
  . rw[if_neg q,if_neg q];exact ih
def MN:Kd->D->Prop
 | .counts _,d=>∃ i:Int,d=.int i/\i.natAbs<10 ^ 61
 | .wheel _,d=>∃ i:Int,d=.int i/\i.natAbs<10 ^ 61
 | .pair a b,d=>∃ x y,d=.tup [x,y]/\MN a x/\MN b y
 | .heaps a,d=>∃ es:List (Int×D),d=.tup (es.map enc)/\es.length<=3/\∀ e∈es,MN a e.2
 | K,d=>Pl (dep K+2) d
theorem i7:∀ (K:Kd) {d:D},Nt K d->MN K d
 | .counts n,_,h=>h
 | .wheel n,_,h=>h
 | .pair a b,_,⟨x,y,e,h1,h2⟩=>⟨x,y,e,i7 a h1,i7 b h2⟩
 | .heaps a,_,⟨es,e,hl,h⟩=>⟨es,e,hl,λe he=>i7 a (h e he)⟩
 | .truth n,_,h=>cK (.truth n) h
 | .costs n,_,h=>cK (.costs n) h
 | .sure n,_,h=>cK (.sure n) h
 | .voices n,_,h=>cK (.voices n) h
 | .least n,_,h=>cK (.least n) h
theorem rA:∀ (K:Kd),MN K (no K)
 | .counts n=>⟨0,rfl,by decide⟩
 | .wheel n=>⟨0,rfl,by decide⟩
 | .pair a b=>⟨_,_,rfl,rA a,rA b⟩
 | .heaps a=>⟨[],rfl,by decide,λe he=>nomatch he⟩
 | .truth n=>bE (.truth n)
 | .costs n=>bE (.costs n)
 | .sure n=>bE (.sure n)
 | .voices n=>bE (.voices n)
 | .least n=>bE (.least n)
theorem kY{n:Nat}{c:Prop}[Decidable c]{x y:D}(hx:Pl n x)(hy:Pl n y):Pl n (if c then x else y):=by split <;> assumption
theorem i8:∀ (K:Kd) {n:Int} {d:D},MN K d->Pl (dep K+2) (mn K n d)
 | .counts _,_,_,⟨i,rfl,_⟩=>.int _
 | .wheel _,_,_,⟨i,rfl,_⟩=>.int _
 | .pair a b,_,_,⟨x,y,rfl,h1,h2⟩=>pl2 ((i8 a h1).mono (by simp only[dep];omega)) ((i8 b h2).mono (by simp only[dep];omega))
 | .heaps a,n,_,⟨es,rfl,hl,h⟩=>by
  rw[qZ];refine (yR (n:=dep a+2) (λe he=>?_) ?_).mono (by simp only[dep];omega)
  . obtain ⟨e',he',rfl⟩:=aUQ.mp (aQ6.mp he).1;exact i8 a (h e' he')
  . exact aQ8 (aUS _ _) (by rw[aR2];exact hl)
 | .truth n,_,_,h=>kY (bE (.truth n)) h
 | .costs n,_,_,h=>kY (bE (.costs n)) h
 | .sure n,_,_,h=>kY (bE (.sure n)) h
 | .voices n,_,_,h=>kY (bE (.voices n)) h
 | .least n,_,_,h=>kY (bE (.least n)) h
theorem bt{i:Int}(h:i.natAbs<10 ^ 61):bA i=true:=dU (N:=10 ^ 61) (by omega)
theorem cL{d:D}{as:List (Md×D)}:aN (.ok .fz d) (.ok as)=.ok ((.fz,d)::as):=rfl
theorem sl3{n:Nat}(h:n<=3):n<sizeLine:=by rw[aRT];omega
theorem kZ{k:Nat}(K:Kd){n:Int}{d:D}(hk:dep K<k):aL 3 ((WT TT (k+1)).Φ "Single.many") (.ok [(.fz,ob K),(.fz,.int n),(.fz,d)])=.ok .fz (if n=0 then no K else d):=by
 refine ph3 (aLN k) ?_;have e1:=kW K hk;unfold mt at e1;generalize ob K=O at *;by_cases h:n=0
 . simp[nA,h,e1]
 . have h':(n==0)=false:=by simpa using h
   simp[nA,h,h',e1]
theorem aOK{k:Nat}(K:Kd){es:List (Int×D)}(hk:dep K<k)(hd:dep K<=40)(hl:es.length<=3)(h:∀ e∈es,Pl (dep K+2) e.2):(WT TT (k+1)).Φ "without_noughts" [ob K,.lst (es.map enc)]=.ok .fr (.lst ((es.filter λe=>!eqB e.2 (no K)).map enc)):=by
 have e1:=kW K hk;unfold mt at e1;rw[aLC];refine bM rfl ?_;show evB _ mZ [some (false,ob K),some (false,.lst (es.map enc)),none]=_;have ec:bN (.ok .fz (.lst (es.map enc))) [some (false,ob K),some (false,.lst (es.map enc)),some (false,no K)] [2] 2 (aW (.tp [.nm 1,.nm 2])) (λρ=>evF (WT TT k) [(.cmp .NotEq (.var 2) (.var 0))] ρ) (λρ=>evE (WT TT k) (.tup [(.var 1),(.var 2)]) ρ)=.ok .fr (.lst ((es.filter λe=>!eqB e.2 (no K)).map enc)):=by
  refine kU (enc:=enc) (λe=>!eqB e.2 (no K)) enc (sl3 hl) λe he=>?_;have e3:=qU (m:=.fz) (m':=.fz) (h e he) (bE K) (by omega)
  refine ⟨[some (false,no K),some (false,.int e.1),some (false,e.2)],.fz,rfl,?_,λ_=>⟨.fz,?_⟩⟩
  . simp only[mR,mQ,mO,eK,g_0,g_s,g_1,e3];cases eqB e.2 (no K) <;> rfl
  . simp[bO]
 unfold mZ;simp only[iY,mS,s_set,wA,aJS,eK,g_0,pN,wI,e1,iZ,x_set];generalize ob K=O at *;simp only[aK.thn_nx,iY,mS,List.set_cons_succ,aJW,pO,pL,wC,eK,g_s,g_1,g_0,iZ,itm_l,ec];rfl
theorem k4:∀ (K:Kd) {n:Int} {d:D} {m:Nat},fL K->dep K+1<m->dep K<=40->n.natAbs<10 ^ 61->MN K d->mt m "many" K [(.fz,.int n),(.fz,d)]=.ok .fz (mn K n d)
 | .counts s,n,_,m+1,_,hm,hd,hn,⟨i,rfl,hi⟩=>aMG.trans (ph3 (aLQ m) (by simp[pX,dW (bt hn) (bt hi),mn]))
 | .wheel s,n,_,m+1,g,hm,hd,hn,⟨i,rfl,hi⟩=>by
  have p0:0<s:=by have:=g.1;omega
  exact (aNK rfl).trans (ph3 (aL1 m) (by simp[qI,dW (bt hn) (bt hi),fS,p0,mn]))
 | .truth s,n,_,m+1,_,hm,hd,hn,h=>aMO.trans (kZ (.truth s) (by omega))
 | .costs s,n,_,m+1,_,hm,hd,hn,h=>aMW.trans (kZ (.costs s) (by omega))
 | .sure s,n,_,m+1,_,hm,hd,hn,h=>aM4.trans (kZ (.sure s) (by omega))
 | .voices s,n,_,m+1,_,hm,hd,hn,h=>aNC.trans (kZ (.voices s) (by omega))
 | .least s,n,_,m+1,_,hm,hd,hn,h=>aN8.trans (kZ (.least s) (by omega))
 | .pair a b,n,_,m+1,g,hm,hd,hn,⟨x,y,rfl,h1,h2⟩=>by
  simp only[dep] at hm hd;have e1:=k4 a (m:=m) g.1 (by omega) (by omega) hn h1
  have e2:=k4 b (m:=m) g.2 (by omega) (by omega) hn h2
  exact (aNU rfl).trans (ph3 (aL5 m) (by simp[qM,f1,f2,aO,bZ,e1,e2,bO,mn]))
 | .heaps a,n,_,m+1,g,hm,hd,hn,⟨es,rfl,hl,h⟩=>by
  simp only[dep] at hm hd;obtain ⟨m,rfl⟩:=up (n:=dep a+1) (m:=m) (by omega)
  refine (aN0 rfl).trans (ph3 (aL8 (m+1)) ?_);have ec:bN (.ok .fz (.lst (es.map enc))) [some (false,.ins "Heaps" [("kind", ob a)]),some (false,.int n),some (false,.tup (es.map enc))] [1,0] 2 (aW (.tp [.nm 2,.nm 3])) (λρ=>evF (WT TT (m+1)) [] ρ) (λρ=>evE (WT TT (m+1)) (.tup [(.var 2),(.frz (.meth (.fld (.var 1) "kind") "many" [(.var 0),(.var 3)]))]) ρ)=.ok .fr (.lst ((es.map (step (mn a n))).map enc)):=by
   rw[aUH];refine qV (enc:=enc) (λe=>enc (step (mn a n) e)) (sl3 hl) λe he=>?_;have e1:=k4 a (m:=m+1) g (by omega) (by omega) hn (h e he)
   refine ⟨[some (false,.int n),some (false,.ins "Heaps" [("kind", ob a)]),some (false,.int e.1),some (false,e.2)],.fz,rfl,by simp,.fz,?_⟩
   simp[fK,e1,bO]
  have ew:=yP (aOK (k:=m) a (es:=es.map (step (mn a n))) (by omega) (by omega) (by rw[aR2];exact hl) λe he=>by
   obtain ⟨e',he',rfl⟩:=aUQ.mp he;exact i8 a (h e' he'))
  show evB _ nB [some (false,.ins "Heaps" [("kind", ob a)]),some (false,.int n),some (false,.tup (es.map enc))]=_;rw[qZ];unfold nB;generalize List.map enc (List.map (step (mn a n)) es)=L at *;simp only[iY,mS,pO,wD,wE,pN,aJQ,e_fld,eK,g_0,g_s,g_1,wI,fK,wA,pL,wC,iZ,itm_t,ec,x_frr,cL,ew];rfl
theorem lm{k:Nat}{s d r:D}{n:Int}(h:evB (WT TT k) eX [some (false,s),some (false,.int n),some (false,d),none,none]=.rt .fz r):(WT TT (k+1)).Φ "_law_many" [s,.int n,d]=.ok .fz r:=by rw[aLL];exact bM rfl h
theorem k6{k:Nat}(K:Kd){w:Str}{n:Int}{d:D}(hk:dep K<k)(h1:op2 ixD (.ok .fz (sp K)) (.ok .fz (.int 0))=.ok .fz (.str w))(n1:(w==Str.ofString "pair")=false)(n2:(w==Str.ofString "heaps")=false)(n3:(w==Str.ofString "counts")=false)(n4:(w==Str.ofString "wheel")=false):(WT TT (k+1)).Φ "_law_many" [sp K,.int n,d]=.ok .fz (if n=0 then no K else d):=by
 have e1:=eW (f9 K hk);refine lm ?_;generalize sp K=O at *;by_cases h:n=0
 . simp[eX,h1,n1,n2,n3,n4,h,e1,aO]
 . have h':(n==0)=false:=by simpa using h
   simp[eX,h1,n1,n2,n3,n4,h,h',e1,aO]
theorem nF:∀ (K:Kd) {n:Int} {d:D} {m:Nat},fL K->dep K+1<m->dep K<=40->n.natAbs<10 ^ 61->MN K d->(WT TT m).Φ "_law_many" [sp K,.int n,d]=.ok .fz (mn K n d)
 | .counts s,n,_,m+1,_,hm,hd,hn,⟨i,rfl,hi⟩=>lm (by simp[eX,sp,aO,dW (bt hn) (bt hi),mn])
 | .wheel s,n,_,m+1,g,hm,hd,hn,⟨i,rfl,hi⟩=>by
  have p0:0<s:=by have:=g.1;omega
  exact lm (by simp[eX,sp,aO,bZ,dW (bt hn) (bt hi),p0,mn])
 | .truth s,n,_,m+1,_,hm,hd,hn,h=>k6 (.truth s) (w := "truth") (by omega) aO (by simp) (by simp) (by simp) (by simp)
 | .costs s,n,_,m+1,_,hm,hd,hn,h=>k6 (.costs s) (w := "costs") (by omega) aO (by simp) (by simp) (by simp) (by simp)
 | .sure s,n,_,m+1,_,hm,hd,hn,h=>k6 (.sure s) (w := "sure") (by omega) aO (by simp) (by simp) (by simp) (by simp)
 | .voices s,n,_,m+1,_,hm,hd,hn,h=>k6 (.voices s) (w := "voices") (by omega) aO (by simp) (by simp) (by simp) (by simp)
 | .least s,n,_,m+1,_,hm,hd,hn,h=>k6 (.least s) (w := "least") (by omega) aO (by simp) (by simp) (by simp) (by simp)
 | .pair a b,n,_,m+1,g,hm,hd,hn,⟨x,y,rfl,h1,h2⟩=>by
  simp only[dep] at hm hd;have e1:=kH (nF a (m:=m) g.1 (by omega) (by omega) hn h1)
  have e2:=kH (nF b (m:=m) g.2 (by omega) (by omega) hn h2)
  exact lm (by simp[eX,sp,kQ,kR,kS,aO,bZ,e1,e2,bO,mn])
 | .heaps a,n,_,m+1,g,hm,hd,hn,⟨es,rfl,hl,h⟩=>by
  simp only[dep] at hm hd;refine lm ?_;have ee:=eW (f9 a (m:=m) (by omega))
  have ec:bN (.ok .fz (.lst (es.map enc))) [some (false,.tup [.str "heaps", sp a]),some (false,.int n),some (false,.tup (es.map enc)),some (false,no a),none] [1,0] 2 (aW (.tp [.nm 2,.nm 3])) (λρ=>evF (WT TT m) [] ρ) (λρ=>evE (WT TT m) (.tup [(.var 2),(.frz (.call "_law_many" 3 [(.ix (.var 1) (.int 1)),(.var 0),(.var 3)]))]) ρ)=.ok .fr (.lst ((es.map (step (mn a n))).map enc)):=by
   rw[aUH];refine qV (enc:=enc) (λe=>enc (step (mn a n) e)) (sl3 hl) λe he=>?_;have e1:=kH (nF a (m:=m) g (by omega) (by omega) hn (h e he))
   refine ⟨[some (false,.int n),some (false,.tup [.str "heaps", sp a]),some (false,.int e.1),some (false,e.2)],.fz,rfl,by simp,.fz,?_⟩
   simp[bZ,e1,bO]
  have ef:∀ x2 x4,bN (.ok .fz (.lst ((es.map (step (mn a n))).map enc))) [some (false,.tup [.str "heaps", sp a]),some (false,.int n),x2,some (false,no a),x4] [3] 1 (aW (.nm 1)) (λρ=>evF (WT TT m) [(.cmp .NotEq (.ix (.var 1) (.int 1)) (.var 0))] ρ) (λρ=>evE (WT TT m) (.var 1) ρ)=.ok .fr (.lst (((es.map (step (mn a n))).filter λe=>!eqB e.2 (no a)).map enc)):=λx2 x4=>by
   refine kU (enc:=enc) (λe=>!eqB e.2 (no a)) enc (sl3 (by rw[aR2];exact hl)) λe he=>?_
   obtain ⟨e',he',rfl⟩:=aUQ.mp he;have e3:=qU (m:=.fz) (m':=.fz) (i8 a (n:=n) (h e' he')) (bE a) (by omega)
   refine ⟨[some (false,no a),some (false,enc (step (mn a n) e'))],.fz,rfl,?_,λ_=>⟨.fz,?_⟩⟩
   . simp only[mR,mQ,mO,mP,kG,eK,g_0,g_s,g_1,bZ,e3];cases eqB (mn a n e'.2) (no a) <;> rfl
   . simp
  show evB _ eX [some (false,.tup [.str "heaps", sp a]),some (false,.int n),some (false,.tup (es.map enc)),none,none]=_;rw[qZ];unfold eX;generalize List.map enc (List.filter (λe=>!eqB e.2 (no a)) (List.map (step (mn a n)) es))=L2 at *;generalize List.map enc (List.map (step (mn a n)) es)=L at *;generalize List.map enc es=T0 at *;simp at ec;simp at ef;simp[aO,bZ,ee,ec,ef]
theorem ix_s{z:Str}{m m':Md}{i:Int}{c:Nat}(h:atI z.cps.toList i=some c):op2 ixD (.ok m (.str z)) (.ok m' (.int i))=.ok .fz (.str ⟨#[c]⟩):=cI (by show (atI z.cps.toList i).map _=_;rw[h];rfl)
def i9:List Nat:=(Str.ofString "abcdefghijklmnopqrstuvwxyz").cps.toList
def lt(v:Int):Nat:=i9.getD (v % 26).toNat 0
theorem rB(v:Int){m m':Md}:op2 ixD (.ok m (.str "abcdefghijklmnopqrstuvwxyz")) (.ok m' (.int (v % 26)))=.ok .fz (.str ⟨#[lt v]⟩):=by
 have h0:=aUN v (show (26:Int)≠0 by decide)
 have h1:=aUO v (show (0:Int)<26 by decide)
 have hl:i9.length=26:=by decide +kernel
 obtain ⟨j,hj⟩:=aUP h0;refine ix_s ?_;show atI i9 (v % 26)=some (lt v);unfold lt;rw[hj];have h2:j<i9.length:=by omega
 rw[aSJ,aTE,aTF h2];exact nR (aTF h2)
theorem aOL:∀ (s:Fin 26) (i j:Fin 4),i≠j->i9.getD ((s.1+7 * i.1) % 26) 0≠i9.getD ((s.1+7 * j.1) % 26) 0:=by decide +kernel
theorem yS{s:Int}(h0:0<=s)(h1:s<26){i j:Nat}(hi:i<4)(hj:j<4)(ne:i≠j):lt (s+7 * (i:Int))≠lt (s+7 * (j:Int)):=by
 obtain ⟨n,rfl⟩:=aUP h0;have:=aOL ⟨n,by omega⟩ ⟨i,hi⟩ ⟨j,hj⟩ (by intro e;exact ne (congrArg Fin.val e))
 unfold lt;have e:∀ k:Nat,(((n:Int)+7 * (k:Int)) % 26).toNat=(n+7 * k) % 26:=λk=>by omega
 rw[e i,e j];exact this
theorem yT:∀ (l:List Nat),fR (l.map λx=>D.str ⟨#[x]⟩)=some (l.map λx=>(⟨#[x]⟩:Str))
 | []=>rfl
 | x::l=>by show (fR (l.map _)).map _=_;rw[yT l];rfl
theorem rC{d:D}{n:Int}(h:d∈bP 0 n):∃ i:Nat,(i:Int)<n/\d=.int i:=by simp only[bP,aUQ,aQ7] at h;obtain ⟨i,hi,rfl⟩:=h;exact ⟨i,by omega,by simp⟩
theorem glue4(a b c d:Nat):(Txt.join (Str.ofString "") [⟨#[a]⟩,⟨#[b]⟩,⟨#[c]⟩,⟨#[d]⟩]).length<=4:=by
 show ((#[a]++(Str.ofString "").cps++#[b]++(Str.ofString "").cps++#[c]++(Str.ofString "").cps++#[d]:Array Nat)).size<=4;rw[show (Str.ofString "").cps = #[] from rfl]
 simp
theorem stem(k:Nat)(c:Int)(ρ:Rho)(h0:ρ[0]? = some (some (false,.int c)))(h2:ρ[2]? = some (some (false,.str "abcdefghijklmnopqrstuvwxyz"))):∃ z:Str,z.length<=4/\lU "str" iF (.ok .fz (.str "")) (aN (bN (.ok .fz (.lst (bP 0 4))) ρ [2,0] 1 (aW (.nm 2)) (λρ=>evF (WT TT (k+1)) [] ρ) (λρ=>evE (WT TT (k+1)) (.ix (.var 0) (.bin .Mod (.call "_law_mix" 2 [(.var 1),(.var 2)]) (.int 26))) ρ)) (.ok []))=.ok .fz (.str z):=by
 have er:bP 0 4=[.int 0,.int 1,.int 2,.int 3]:=rfl;have ec:bN (.ok .fz (.lst (bP 0 4))) ρ [2,0] 1 (aW (.nm 2)) (λρ=>evF (WT TT (k+1)) [] ρ) (λρ=>evE (WT TT (k+1)) (.ix (.var 0) (.bin .Mod (.call "_law_mix" 2 [(.var 1),(.var 2)]) (.int 26))) ρ)=.ok .fr (.lst ([lt (mx c 0),lt (mx c 1),lt (mx c 2),lt (mx c 3)].map λx=>D.str ⟨#[x]⟩)):=by
  have:=mW (ρ:=ρ) (aE:=[2,0]) (n:=1) (k:=aW (.nm 2)) (t:=λρ=>evF (WT TT (k+1)) [] ρ) (e:=λρ=>evE (WT TT (k+1)) (.ix (.var 0) (.bin .Mod (.call "_law_mix" 2 [(.var 1),(.var 2)]) (.int 26))) ρ) (m:=.fz) (ds:=bP 0 4)
   (λd=>match d with | .int i=>.str ⟨#[lt (mx c i)]⟩ | d=>d) (by rw[er];decide) (λd hd=>by
    obtain ⟨i,hi,rfl⟩:=rC hd;have m:=Mx k (c:=c) (p:=i) (by omega) (by omega)
    have x:=rB (mx c i) (m:=.fz) (m':=.fz);refine ⟨[some (false,.str "abcdefghijklmnopqrstuvwxyz"),some (false,.int c),some (false,.int i)],.fz,by simp[cX,h0,h2],by simp,.fz,?_⟩
    simp[m,x])
  rw[this,er];rfl
 refine ⟨_,glue4 (lt (mx c 0)) (lt (mx c 1)) (lt (mx c 2)) (lt (mx c 3)),?_⟩;rw[ec];show (if jO "str" (.str "")=true then Res.of (iF .fz (.str "") [(.fr,.lst ([lt (mx c 0),lt (mx c 1),lt (mx c 2),lt (mx c 3)].map λx=>D.str ⟨#[x]⟩))]) else .stuck)=_;rw[if_pos (by decide)]
 show Res.of (match fR ([lt (mx c 0),lt (mx c 1),lt (mx c 2),lt (mx c 3)].map λx=>D.str ⟨#[x]⟩) with | some ys=>if (ys.map (·.length)).sum+ys.length * (Str.ofString "").length<=sizeLine then some (Md.fz,D.str (Txt.join (Str.ofString "") ys)) else none | none=>none)=_
 rw[yT];dsimp only;rw[if_pos (by have:sizeLine=16777216:=aRT;have e:(Str.ofString "").length=0:=rfl;rw[e,this];simp[PySem.Str.length])]
 rfl
theorem yU{z:Str}{m m':Md}{g:Rho->Res}{ρ:Rho}{i:Int}(h:g ρ=.ok m' (.int i)):slP (.ok m (.str z)) none (some g) ρ=.ok .fz (.str (Txt.slice z none (some i))):=by unfold slP;rw[Res.thn_ok];show cG none ρ _=_;unfold cG;show (g ρ).thn _=_;rw[h];rfl
theorem aOM{z:Str}{m m':Md}{g:Rho->Res}{ρ:Rho}{i:Int}(h:g ρ=.ok m' (.int i)):slP (.ok m (.str z)) (some g) none ρ=.ok .fz (.str (Txt.slice z (some i) none)):=by unfold slP;rw[Res.thn_ok];show cG (some g) ρ _=_;unfold cG;show (g ρ).thn _=_;rw[h];rfl
theorem j6:∀ (l:List Str),txD (l.map D.str)=some l
 | []=>rfl
 | x::l=>by rw[aR1];unfold txD;rw[j6 l];rfl
theorem rD{α:Type}[BEq α][LawfulBEq α]:∀ {l l':List α},l.Nodup->(∀ y∈l,y∈l')->l.length<=l'.length
 | [],_,_,_=>aR5 _
 | a::l,l',h1,h2=>by
  rw[aR8] at h1;have ha:=h2 a mcs;have:=rD (l':=l'.erase a) h1.2 λy hy=>by have hne:y≠a:=λe=>h1.1 (e ▸ hy);exact (List.mem_erase_of_ne hne).mpr (h2 y (mcm hy))
  rw[List.length_erase_of_mem ha] at this;have pos:0<l'.length:=List.length_pos_of_mem ha;rw[aRZ];omega
theorem aON{L:List Str}(h:gT L):L.Nodup:=h.imp λ{a b} h e=>by subst e;rw[j0] at h;cases h
theorem aOO{l:List Str}(h:l.Nodup):(uni l).length=l.length :=
 Nat.le_antisymm (rD (aON (oY l)) λy hy=>j2.mp hy) (rD h λy hy=>j2.mpr hy)
theorem srt4{m:Md}{f:Nat->Str}(h:∀ i j,i<4->j<4->i≠j->f i≠f j):∃ P:List Str,P.length=4/\c8 (aZ.or' fW gX) (aN (.ok m (.lst ([f 0,f 1,f 2,f 3].map .str))) (.ok []))=.ok .fr (.lst (P.map .str)):=by
 have nd:[f 0,f 1,f 2,f 3].Nodup:=by simp[h 0 1,h 0 2,h 0 3,h 1 2,h 1 3,h 2 3]
 refine ⟨uni [f 0,f 1,f 2,f 3],aOO nd,?_⟩;show Res.of (aZ.or' fW gX [(m,.lst ([f 0,f 1,f 2,f 3].map .str))])=_;have:fW [(m,.lst ([f 0,f 1,f 2,f 3].map .str))]=some (.fr,.lst ((uni [f 0,f 1,f 2,f 3]).map .str)):=by
  show (match txD ([f 0,f 1,f 2,f 3].map .str) with | some ns=>if ns.Nodup/\ns.length<64 then some (Md.fr,D.lst ((uni ns).map .str)) else none | none=>none)=_
  rw[j6];dsimp only;rw[if_pos ⟨nd,show 4<64 by decide⟩]
 unfold aZ.or';rw[this];rfl
theorem yV{a b b':Str}{x y:Nat}(h:a++⟨#[x]⟩++b=a++⟨#[y]⟩++b'):x=y:=by have h:=congrArg (λs:Str=>s.cps.toList) h;simp only[PySem.Str.cps_append,Array.toList_append] at h;simp at h;exact h.1
theorem sl(n:Nat)(h:n<=2000):n<=sizeLine:=by rw[aRT];omega
theorem er4:bP 0 4=[.int 0,.int 1,.int 2,.int 3]:=rfl
theorem rE{m:Md}:gP (.ok [(m,.int 4)])=.ok .fz (.lst (bP 0 4)):=rfl
theorem names(k:Nat)(c:Int):∃ P:List Str,P.length=4/\(WT TT (k+2)).Φ "_law_names" [.int c,.int 4]=.ok .fr (.lst (P.map .str)):=by
 have M5:=Mx k (c:=c) (p:=5) (by decide) (by decide)
 have M6:=Mx k (c:=c) (p:=6) (by decide) (by decide)
 have M7:=Mx k (c:=c) (p:=7) (by decide) (by decide)
 obtain ⟨z,lz,ez⟩:=stem k c [some (false,.int c),some (false,.int 4),some (false,.str "abcdefghijklmnopqrstuvwxyz"),none,none,none] rfl rfl;have a0:=aUN (mx c 5) (show (4:Int)≠0 by decide)
 have a1:=aUO (mx c 5) (show (0:Int)<4 by decide)
 have s0:=aUN (mx c 6) (show (26:Int)≠0 by decide)
 have s1:=aUO (mx c 6) (show (0:Int)<26 by decide)
 generalize hA:mx c 5 % 4=A at *;generalize hS:mx c 6 % 26=S at *;have b7:bA 7=true:=by decide +kernel
 have bi:∀ i:Nat,i<4->bA (i:Int)=true:=λi hi=>dU (N:=4) (by omega)
 let f:Nat->Str:=λj=>⟨#[lt (S+7 * (j:Int))]⟩++Txt.slice z none (some ((S+(j:Int)) % 4))
 let g:Nat->Str:=λj=>Txt.slice z none (some A)++⟨#[lt (S+7 * (j:Int))]⟩++Txt.slice z (some (A+1)) none
 have nf:∀ i j,i<4->j<4->i≠j->f i≠f j:=λi j hi hj ne e=>by refine yS s0 s1 hi hj ne (yV (a:=Str.empty) (b:=Txt.slice z none (some ((S+(i:Int)) % 4))) (b':=Txt.slice z none (some ((S+(j:Int)) % 4))) ?_);rw[PySem.Str.empty_append,PySem.Str.empty_append];exact e
 have ng:∀ i j,i<4->j<4->i≠j->g i≠g j:=λi j hi hj ne e=>yS s0 s1 hi hj ne (yV e);have cf:∀ x4,bN (.ok .fz (.lst (bP 0 4))) [some (false,.int c),some (false,.int 4),some (false,.str "abcdefghijklmnopqrstuvwxyz"),some (false,.str z),x4,some (false,.int S)] [2,3,5] 1 (aW (.nm 3)) (λρ=>evF (WT TT (k+1)) [] ρ) (λρ=>evE (WT TT (k+1)) (.bin .Add (.ix (.var 0) (.bin .Mod (.bin .Add (.var 2) (.bin .Mult (.int 7) (.var 3))) (.int 26))) (.slice (.var 1) none (some (.bin .Mod (.bin .Add (.var 2) (.var 3)) (.int 4))))) ρ)=.ok .fr (.lst ([f 0,f 1,f 2,f 3].map .str)):=λx4=>by
  have:=mW (ρ:=[some (false,.int c),some (false,.int 4),some (false,.str "abcdefghijklmnopqrstuvwxyz"),some (false,.str z),x4,some (false,.int S)]) (aE:=[2,3,5]) (n:=1) (k:=aW (.nm 3)) (t:=λρ=>evF (WT TT (k+1)) [] ρ) (e:=λρ=>evE (WT TT (k+1)) (.bin .Add (.ix (.var 0) (.bin .Mod (.bin .Add (.var 2) (.bin .Mult (.int 7) (.var 3))) (.int 26))) (.slice (.var 1) none (some (.bin .Mod (.bin .Add (.var 2) (.var 3)) (.int 4))))) ρ) (m:=.fz) (ds:=bP 0 4)
   (λd=>match d with | .int i=>.str (f i.toNat) | d=>d) (by rw[er4];decide) (λd hd=>by
    obtain ⟨i,hi,rfl⟩:=rC hd;refine ⟨[some (false,.str "abcdefghijklmnopqrstuvwxyz"),some (false,.str z),some (false,.int S),some (false,.int i)],.fz,rfl,by simp,.fz,?_⟩
    have x:=rB (S+7 * (i:Int)) (m:=.fz) (m':=.fz);have sh:slP (.ok .fz (.str z)) none (some (evE (WT TT (k+1)) (.bin .Mod (.bin .Add (.var 2) (.var 3)) (.int 4)))) [some (false,.str "abcdefghijklmnopqrstuvwxyz"),some (false,.str z),some (false,.int S),some (false,.int i)]=.ok .fz (.str (Txt.slice z none (some ((S+(i:Int)) % 4)))):=yU (m':=.fz) (by simp)
    have ad:=pQ (m:=.fz) (n:=.fz) (a:=⟨#[lt (S+7 * (i:Int))]⟩) (b:=Txt.slice z none (some ((S+(i:Int)) % 4))) (sl _ (by have:=aTA z none (some ((S+(i:Int)) % 4));show 1+_<=2000;omega))
    have mu:=dW (m:=.fz) (n:=.fz) b7 (bi i (by omega))
    simp only[pK,mP,eK,kG,g_0,g_s,g_1,mu,wH,pP (show (0:Int)<26 by decide),x,wB,wF,wG,sh,ad,iZ,aSJ]
    rfl)
  rw[this,er4];rfl
 have cg:bN (.ok .fz (.lst (bP 0 4))) [some (false,.int c),some (false,.int 4),some (false,.str "abcdefghijklmnopqrstuvwxyz"),some (false,.str z),some (false,.int A),some (false,.int S)] [3,2,4,5] 1 (aW (.nm 4)) (λρ=>evF (WT TT (k+1)) [] ρ) (λρ=>evE (WT TT (k+1)) (.bin .Add (.bin .Add (.slice (.var 0) none (some (.var 2))) (.ix (.var 1) (.bin .Mod (.bin .Add (.var 3) (.bin .Mult (.int 7) (.var 4))) (.int 26)))) (.slice (.var 0) (some (.bin .Add (.var 2) (.int 1))) none)) ρ)=.ok .fr (.lst ([g 0,g 1,g 2,g 3].map .str)):=by
  have:=mW (ρ:=[some (false,.int c),some (false,.int 4),some (false,.str "abcdefghijklmnopqrstuvwxyz"),some (false,.str z),some (false,.int A),some (false,.int S)]) (aE:=[3,2,4,5]) (n:=1) (k:=aW (.nm 4)) (t:=λρ=>evF (WT TT (k+1)) [] ρ) (e:=λρ=>evE (WT TT (k+1)) (.bin .Add (.bin .Add (.slice (.var 0) none (some (.var 2))) (.ix (.var 1) (.bin .Mod (.bin .Add (.var 3) (.bin .Mult (.int 7) (.var 4))) (.int 26)))) (.slice (.var 0) (some (.bin .Add (.var 2) (.int 1))) none)) ρ) (m:=.fz) (ds:=bP 0 4)
   (λd=>match d with | .int i=>.str (g i.toNat) | d=>d) (by rw[er4];decide) (λd hd=>by
    obtain ⟨i,hi,rfl⟩:=rC hd;refine ⟨[some (false,.str z),some (false,.str "abcdefghijklmnopqrstuvwxyz"),some (false,.int A),some (false,.int S),some (false,.int i)],.fz,rfl,by simp,.fz,?_⟩
    have x:=rB (S+7 * (i:Int)) (m:=.fz) (m':=.fz);have sh:slP (.ok .fz (.str z)) none (some (evE (WT TT (k+1)) (.var 2))) [some (false,.str z),some (false,.str "abcdefghijklmnopqrstuvwxyz"),some (false,.int A),some (false,.int S),some (false,.int i)]=.ok .fz (.str (Txt.slice z none (some A))):=yU (m':=.fz) (by simp)
    have sl':slP (.ok .fz (.str z)) (some (evE (WT TT (k+1)) (.bin .Add (.var 2) (.int 1)))) none [some (false,.str z),some (false,.str "abcdefghijklmnopqrstuvwxyz"),some (false,.int A),some (false,.int S),some (false,.int i)]=.ok .fz (.str (Txt.slice z (some (A+1)) none)):=aOM (m':=.fz) (by simp)
    have l1:=aTA z none (some A);have l2:=aTA z (some (A+1)) none;have ad:=pQ (m:=.fz) (n:=.fz) (a:=Txt.slice z none (some A)) (b:=⟨#[lt (S+7 * (i:Int))]⟩) (sl _ (by show _+1<=2000;omega))
    have ad2:=pQ (m:=.fz) (n:=.fz) (a:=Txt.slice z none (some A)++⟨#[lt (S+7 * (i:Int))]⟩) (b:=Txt.slice z (some (A+1)) none) (sl _ (by rw[PySem.Str.length_append];show _+1+_<=2000;omega))
    have mu:=dW (m:=.fz) (n:=.fz) b7 (bi i (by omega))
    simp only[pK,mP,eK,kG,g_0,g_s,g_1,mu,wH,pP (show (0:Int)<26 by decide),x,wB,wF,wG,sh,sl',ad,ad2,iZ,aSJ]
    rfl)
  rw[this,er4];rfl
 have cE:evB (WT TT (k+1)) (fH.take 4) [some (false,.int c),some (false,.int 4),none,none,none,none]=.nx [some (false,.int c),some (false,.int 4),some (false,.str "abcdefghijklmnopqrstuvwxyz"),some (false,.str z),some (false,.int A),some (false,.int S)]:=by simp[fH,rE] at ez ⊢;simp[ez,M5,M6,hA,hS]
 have key:∀ {m:Md} {d:D},evB (WT TT (k+1)) (fH.drop 4) [some (false,.int c),some (false,.int 4),some (false,.str "abcdefghijklmnopqrstuvwxyz"),some (false,.str z),some (false,.int A),some (false,.int S)]=.rt m d->(WT TT (k+2)).Φ "_law_names" [.int c,.int 4]=.ok m d:=λh=>by rw[aLE];refine bM rfl ?_;show evB _ (fH.take 4++fH.drop 4) [some (false,.int c),some (false,.int 4),none,none,none,none]=_;rw[mV,cE,aK.thn_nx,h]
 by_cases h7:mx c 7 % 3=0
 . obtain ⟨P,lP,eP⟩:=srt4 (m:=.fr) nf;refine ⟨P,lP,key ?_⟩;have cf':=cf (some (false,.int A));generalize List.map D.str [f 0,f 1,f 2,f 3]=L at *;simp at cf' eP;simp[fH,M7,h7,rE,cf',eP]
 . have h7':(mx c 7 % 3==0)=false:=by simpa using h7
   obtain ⟨P,lP,eP⟩:=srt4 (m:=.fr) ng;refine ⟨P,lP,key ?_⟩;have cg':=cg;generalize List.map D.str [g 0,g 1,g 2,g 3]=L at *;simp at cg' eP;simp[fH,M7,h7',rE,cg',eP]
theorem flat(k:Nat)(c:Int){p:Int}(h0:0<=p)(h1:p<=100):∃ K,dep K=0/\fL K/\(WT TT (k+2)).Φ "_law_flat" [.int c,.int p]=.ok .fz (sp K):=by
 have M1:=Mx k (c:=c) h0 (show p<=200 by omega)
 have M2:=Mx k (c:=c) (show 0<=p+1 by omega) (show p+1<=200 by omega)
 have a0:=aUN (mx c (p+1)) (show (9:Int)≠0 by decide)
 have a1:=aUO (mx c (p+1)) (show (0:Int)<9 by decide)
 have l1:dM (.ok [(.fz,.str "counts"),(.fz,.str "truth"),(.fz,.str "costs"),(.fz,.str "sure"),(.fz,.str "voices"),(.fz,.str "least"),(.fz,.str "wheel")])=.ok .fr (.lst [.str "counts", .str "truth", .str "costs", .str "sure", .str "voices", .str "least", .str "wheel"]):=rfl;obtain ⟨w,hw,ew⟩:=hC [D.str "counts", .str "truth", .str "costs", .str "sure", .str "voices", .str "least", .str "wheel"] (mx c p) 7 rfl (by decide)
 have xo:=eL (m:=.fz) (m':=.fz) ew;have key:(WT TT (k+2)).Φ "_law_flat" [.int c,.int p]=.ok .fz (.tup [w,.int (2+mx c (p+1) % 9)]):=by rw[aLF];refine bM rfl ?_;show evB _ m6 [some (false,.int c),some (false,.int p),none]=_;simp[m6];rw[l1];simp[M1,M2,xo,bO]
 rw[key];simp only[aRA,aUB,aT4] at hw;rcases hw with rfl | rfl | rfl | rfl | rfl | rfl | rfl
 . exact ⟨.counts _,rfl,trivial,rfl⟩
 . exact ⟨.truth _,rfl,trivial,rfl⟩
 . exact ⟨.costs _,rfl,trivial,rfl⟩
 . exact ⟨.sure _,rfl,trivial,rfl⟩
 . exact ⟨.voices _,rfl,trivial,rfl⟩
 . exact ⟨.least _,rfl,trivial,rfl⟩
 . exact ⟨.wheel _,rfl,⟨by omega,by omega⟩,rfl⟩
theorem spec(k:Nat)(c:Int):∃ K,dep K<=3/\fL K/\(WT TT (k+3)).Φ "_law_spec" [.int c]=.ok .fz (sp K):=by
 obtain ⟨A,dA,gA,eA⟩:=flat k c (p:=1) (by decide) (by decide)
 obtain ⟨B,dB,gB,eB⟩:=flat k c (p:=3) (by decide) (by decide)
 have M:=Mx (k+1) (c:=c) (show (0:Int)<=0 by decide) (show (0:Int)<=200 by decide)
 have a0:=aUN (mx c 0) (show (8:Int)≠0 by decide)
 have a1:=aUO (mx c 0) (show (0:Int)<8 by decide)
 have e:∀ r,evB (WT TT (k+2)) f7 [some (false,.int c),none,none]=.rt .fz r->(WT TT (k+3)).Φ "_law_spec" [.int c]=.ok .fz r:=λr h=>by rw[aLG];exact bM rfl h
 generalize hw:mx c 0 % 8=w at *;by_cases h0:w<4
 . refine ⟨A,by omega,gA,e _ ?_⟩
   simp[f7,M, *]
 . have h:w=4\/w=5\/w=6\/w=7:=by omega
   rcases h with rfl | rfl | rfl | rfl
   . refine ⟨.pair A B,by simp only[dep];omega,⟨gA,gB⟩,e _ ?_⟩
     simp[f7,M, *,nD,sp]
   . refine ⟨.heaps A,by simp only[dep];omega,gA,e _ ?_⟩
     simp[f7,M, *,nD,bO,sp]
   . refine ⟨.pair (.heaps A) B,by simp only[dep];omega,⟨gA,gB⟩,e _ ?_⟩
     simp[f7,M, *,nD,bO,sp]
   . refine ⟨.heaps (.pair A B),by simp only[dep];omega,⟨gA,gB⟩,e _ ?_⟩
     simp[f7,M, *,nD,bO,sp]
theorem aOP{α:Type}(xs:List α){i:Int}(h0:0<=i)(h1:i<xs.length):∃ c,c∈xs/\atI xs i=some c:=by
 obtain ⟨j,rfl⟩:=aUP h0;have hl:j<xs.length:=by omega
 exact ⟨xs[j],aTG hl,nR (aTF hl)⟩
theorem by_(k:Nat)(a b c d:Str)(n:Int):∃ l:List Str,l.length<=4/\(WT TT (k+1)).Φ "_law_names_by" [.lst [.str a,.str b,.str c,.str d],.int n]=.ok .fz (.tup (l.map .str)):=by
 let xs:List (Nat×Str):=[(0,a),(1,b),(2,c),(3,d)]
 let en:Nat×Str->D:=λx=>.tup [.int (x.1:Int),.str x.2]
 let p:Nat×Str->Bool:=λx=>Builtin.bitAnd (n / 2 ^ x.1) 1==1
 have ec:bN (.ok .fz (.lst (xs.map en))) [some (false,.lst [.str a,.str b,.str c,.str d]),some (false,.int n)] [1] 2 (aW (.tp [.nm 1,.nm 2])) (λρ=>evF (WT TT k) [(.cmp .Eq (.bin .BitAnd (.bin .RShift (.var 0) (.var 1)) (.int 1)) (.int 1))] ρ) (λρ=>evE (WT TT k) (.var 2) ρ)=.ok .fr (.lst ((xs.filter p).map λx=>.str x.2)):=by
  refine kU (enc:=en) p (λx=>.str x.2) (by rw[aRT];show 4<_;decide) λx hx=>?_
  refine ⟨[some (false,.int n),some (false,.int (x.1:Int)),some (false,.str x.2)],.fz,rfl,?_,λ_=>⟨.fz,by simp⟩⟩
  have sh:=x_shr (m:=.fz) (n:=.fz) (i:=n) (j:=(x.1:Int)) (by omega)
  rw[aSJ] at sh;simp only[mR,mQ,mO,pK,eK,kG,g_0,g_s,g_1,sh,aJT,x_eqI];show dH (.ok .fz (.bl (p x))) _=_;cases p x <;> rfl
 have en':iN (.ok [(.fz,.lst [.str a,.str b,.str c,.str d])])=.ok .fz (.lst (xs.map en)):=rfl;refine ⟨(xs.filter p).map (·.2),by rw[aR2];exact aUS _ _,?_⟩
 rw[aLI];refine bM rfl ?_;show evB _ m7 [some (false,.lst [.str a,.str b,.str c,.str d]),some (false,.int n)]=_;rw[aUH];show _=aK.rt .fz (.tup ((xs.filter p).map λx=>.str x.2));unfold m7;simp only[eK] at ec;simp only[iY,mS,pO,wD,wE,pN,pL,aJR,eK,g_0,iZ,cL,en',ec];rfl
theorem yW{n:Nat}{l:List Str}(h:l.length<=4):Pl (n+1) (.tup (l.map .str)):=.tup (λd hd=>by
 obtain ⟨x,_,rfl⟩:=aUQ.mp hd
 exact .str x) (by rw[aR2];omega)
abbrev bG(a b c d:Str):D:=.lst [.str a,.str b,.str c,.str d]
theorem nm_{k:Nat}{s P r:D}{c p:Int}(h:evB (WT TT k) g9 [some (false,s),some (false,.int c),some (false,.int p),some (false,P),none,none]=.rt .fz r):(WT TT (k+1)).Φ "_law_named" [s,.int c,.int p,P]=.ok .fz r:=by rw[aLJ];exact bM rfl h
theorem aOQ(k:Nat){a b e f:Str}{n:Int}(c:Int){p:Int}(h0:0<=p)(h1:p<=200):∃ d,Pl 2 d/\(WT TT (k+2)).Φ "_law_named" [sp (.voices n),.int c,.int p,bG a b e f]=.ok .fz d:=by
 have M:=Mx k (c:=c) h0 h1;obtain ⟨l,ll,el⟩:=by_ k a b e f (mx c p / 3);have el:=dX el;have x0:=aUN (mx c p) (show (3:Int)≠0 by decide)
 have l1:dM (.ok [(.fz,.non),(.fz,.tup (l.map .str))])=.ok .fr (.lst [.non,.tup (l.map .str)]):=rfl;obtain ⟨w,hw,ew⟩:=aOP [D.non,.tup (l.map .str)] (i:=if 1<mx c p % 3 then 1 else mx c p % 3) (by split <;> omega) (by show _<(2:Int);split <;> omega)
 have xo:=eL (m:=.fr) (m':=.fz) ew;refine ⟨w,?_,nm_ ?_⟩
 . simp only[aRA,aUB,aT4] at hw;rcases hw with rfl | rfl
   . exact .non
   . exact yW ll
 . generalize D.tup (List.map D.str l)=T0 at *;simp[g9,sp,aO,M,el];rw[l1];simp[xo]
theorem aOR(k:Nat){a b e f:Str}{n:Int}(c:Int){p:Int}(h0:0<=p)(h1:p<=200):∃ d,Pl 2 d/\(WT TT (k+2)).Φ "_law_named" [sp (.least n),.int c,.int p,bG a b e f]=.ok .fz d:=by
 have M:=Mx k (c:=c) h0 h1;obtain ⟨l,ll,el⟩:=by_ k a b e f (1+mx c p % 15);have el:=dX el;have x0:op2 ixD (.ok .fz (bG a b e f)) (.ok .fz (.int 0))=.ok .fz (.str a):=eL rfl;have x1:op2 ixD (.ok .fz (bG a b e f)) (.ok .fz (.int 1))=.ok .fz (.str b):=eL rfl;have x2:op2 ixD (.ok .fz (bG a b e f)) (.ok .fz (.int 2))=.ok .fz (.str e):=eL rfl;have l1:dM (.ok [(.fz,.tup []),(.fz,.tup [.tup []]),(.fz,.tup [.tup (l.map .str)]),(.fz,.tup [.tup [.str a,.str e],.tup [.str b]])])=.ok .fr (.lst [.tup [],.tup [.tup []],.tup [.tup (l.map .str)],.tup [.tup [.str a,.str e],.tup [.str b]]]):=rfl;obtain ⟨w,hw,ew⟩:=hC [D.tup [],.tup [.tup []],.tup [.tup (l.map .str)],.tup [.tup [.str a,.str e],.tup [.str b]]] (mx c p / 16) 4 rfl (by decide)
 have xo:=eL (m:=.fz) (m':=.fz) ew;refine ⟨w,?_,nm_ ?_⟩
 . simp only[aRA,aUB,aT4] at hw;rcases hw with rfl | rfl | rfl | rfl
   . exact pl0
   . exact pl1 pl0
   . exact pl1 (yW ll)
   . exact pl2 (pl2 (.str _) (.str _)) (pl1 (.str _))
 . unfold bG at *;generalize D.tup (List.map D.str l)=T0 at *;simp[g9,sp,aO,M,el,x0,x1,x2,hG,kT,bO];rw[l1];simp[xo]
theorem aOS(k:Nat){P:D}{n:Int}(c:Int){p:Int}(h0:0<=p)(h1:p<=200):∃ d,Pl 2 d/\(WT TT (k+2)).Φ "_law_named" [sp (.sure n),.int c,.int p,P]=.ok .fz d:=by
 have M:=Mx k (c:=c) h0 h1;have l1:dM (.ok [(.fz,.tup [.int 0,.int 1]),(.fz,.tup [.int 1,.int 1]),(.fz,.tup [.int (1+mx c p % 6),.int 7]),(.fz,.tup [.int (1+mx c p % 100),.int 101])])=.ok .fr (.lst [.tup [.int 0,.int 1],.tup [.int 1,.int 1],.tup [.int (1+mx c p % 6),.int 7],.tup [.int (1+mx c p % 100),.int 101]]):=rfl;obtain ⟨w,hw,ew⟩:=hC [D.tup [.int 0,.int 1],.tup [.int 1,.int 1],.tup [.int (1+mx c p % 6),.int 7],.tup [.int (1+mx c p % 100),.int 101]] (mx c p / 7) 4 rfl (by decide)
 have xo:=eL (m:=.fr) (m':=.fz) ew;refine ⟨w,?_,nm_ ?_⟩
 . simp only[aRA,aUB,aT4] at hw;rcases hw with rfl | rfl | rfl | rfl <;> exact pl2 (.int _) (.int _)
 . simp[g9,sp,aO,M,bO];rw[l1];simp[xo]
theorem aOT(k:Nat){P:D}{n:Int}(c:Int){p:Int}(h0:0<=p)(h1:p<=200):∃ d,Pl 2 d/\(WT TT (k+2)).Φ "_law_named" [sp (.truth n),.int c,.int p,P]=.ok .fz d:=by have M:=Mx k (c:=c) h0 h1;exact ⟨.bl (mx c p % 2==1),.bl _,nm_ (by simp[g9,sp,aO,M])⟩
abbrev fr0(s P:D)(c p:Int):Rho:=[some (false,s),some (false,.int c),some (false,.int p),some (false,P),none,none,none,none,none]
theorem nt_{k:Nat}{s P r:D}{c p:Int}(h:evB (WT TT k) bU (fr0 s P c p)=.rt .fz r):(WT TT (k+1)).Φ "_law_note" [s,.int c,.int p,P]=.ok .fz r:=by rw[aLK];exact bM rfl h
theorem in4{w:Str}{b:Bool}(h:([Str.ofString "truth", Str.ofString "voices", Str.ofString "least", Str.ofString "sure"].any λx=>x==w)=b):op2 (bK .In) (.ok .fz (.str w)) (.ok .fr (.lst [.str "truth", .str "voices", .str "least", .str "sure"]))=.ok .fz (.bl b):=by subst h;exact cI rfl
theorem num(k:Nat)(c:Int){p:Int}(h0:0<=p)(h1:p<=100)(s P:D):∃ n:Int,0<=n/\n<10 ^ 60/\∀ R,evB (WT TT (k+1)) ((bU.drop 3).take 2++R) (fr0 s P c p)=evB (WT TT (k+1)) R [some (false,s),some (false,.int c),some (false,.int p),some (false,P),none,none,none,none,some (false,.int n)]:=by
 have M1:=Mx k (c:=c) (show 0<=p+50 by omega) (show p+50<=200 by omega)
 have M2:=Mx k (c:=c) (show 0<=p+60 by omega) (show p+60<=200 by omega)
 have M3:=Mx k (c:=c) (show 0<=p+40 by omega) (show p+40<=200 by omega)
 have M4:=Mx k (c:=c) h0 (show p<=200 by omega)
 have a0:=aUN (mx c (p+50)) (show (9:Int)≠0 by decide)
 have a1:=aUO (mx c (p+50)) (show (0:Int)<9 by decide)
 have b0:=aUN (mx c (p+40)) (show (4:Int)≠0 by decide)
 have b1:=aUO (mx c (p+40)) (show (0:Int)<4 by decide)
 have c0:=aUN c (show fJ≠0 by decide)
 have c1:=aUO c z58;have x1:bA (c % fJ)=true:=dU (N:=10000000000000000000000000000000000000000000000000000000000) (by unfold fJ at *;omega)
 have x2:bA (1+mx c (p+50) % 9)=true:=dU (N:=100) (by omega)
 have y0:=mx0 c (p+60);have y1:=mx1 c (p+60);by_cases h:mx c p % 2=1
 . refine ⟨mx c (p+40) % 4,b0,by omega,λR=>?_⟩
   simp[bU,fr0,M1,M2,M3,M4,yH,z58,dW x1 x2,h]
 . have h':(mx c p % 2==1)=false:=by simpa using h
   refine ⟨c % fJ * (1+mx c (p+50) % 9)+mx c (p+60),?_,?_,λR=>?_⟩
   . have:=Int.mul_nonneg c0 (show 0<=1+mx c (p+50) % 9 by omega);omega
   . have:c % fJ * (1+mx c (p+50) % 9)<=fJ * 9:=Int.mul_le_mul (by omega) (by omega) (by omega) (by decide)
     unfold fJ at *;omega
   . simp[bU,fr0,M1,M2,M3,M4,yH,z58,dW x1 x2,h']
theorem rF{k:Nat}{s P:D}{c p:Int}{w:Str}(h1:op2 ixD (.ok .fz s) (.ok .fz (.int 0))=.ok .fz (.str w))(n1:(w==Str.ofString "pair")=false)(n2:(w==Str.ofString "heaps")=false)(n3:op2 (bK .In) (.ok .fz (.str w)) (.ok .fr (.lst [.str "truth", .str "voices", .str "least", .str "sure"]))=.ok .fz (.bl false)):evB (WT TT k) (bU.take 3) (fr0 s P c p)=.nx (fr0 s P c p):=by have l1:dM (.ok [(.fz,.str "truth"),(.fz,.str "voices"),(.fz,.str "least"),(.fz,.str "sure")])=.ok .fr (.lst [.str "truth", .str "voices", .str "least", .str "sure"]):=rfl;simp[bU,fr0,h1,n1,n2];rw[l1];simp[n3]
theorem nG{k:Nat}{s P d:D}{c p:Int}{w:Str}(h1:op2 ixD (.ok .fz s) (.ok .fz (.int 0))=.ok .fz (.str w))(n1:(w==Str.ofString "pair")=false)(n2:(w==Str.ofString "heaps")=false)(n3:op2 (bK .In) (.ok .fz (.str w)) (.ok .fr (.lst [.str "truth", .str "voices", .str "least", .str "sure"]))=.ok .fz (.bl true))(h:(WT TT k).Φ "_law_named" [s,.int c,.int p,P]=.ok .fz d):(WT TT (k+1)).Φ "_law_note" [s,.int c,.int p,P]=.ok .fz d:=by have l1:dM (.ok [(.fz,.str "truth"),(.fz,.str "voices"),(.fz,.str "least"),(.fz,.str "sure")])=.ok .fr (.lst [.str "truth", .str "voices", .str "least", .str "sure"]):=rfl;refine nt_ ?_;have h:=kI h;simp[bU,fr0,h1,n1,n2];rw[l1];simp[n3,h]
theorem rG{k:Nat}{s P d:D}{c p n:Int}(h:evB (WT TT k) (bU.take 3) (fr0 s P c p)=.nx (fr0 s P c p))(e:∀ R,evB (WT TT k) ((bU.drop 3).take 2++R) (fr0 s P c p)=evB (WT TT k) R [some (false,s),some (false,.int c),some (false,.int p),some (false,P),none,none,none,none,some (false,.int n)])(h2:evB (WT TT k) (bU.drop 5) [some (false,s),some (false,.int c),some (false,.int p),some (false,P),none,none,none,none,some (false,.int n)]=.rt .fz d):(WT TT (k+1)).Φ "_law_note" [s,.int c,.int p,P]=.ok .fz d:=by refine nt_ ?_;show evB _ (bU.take 3++((bU.drop 3).take 2++bU.drop 5)) (fr0 s P c p)=_;rw[mV,h,aK.thn_nx,e,h2]
theorem nH{a b e f:Str}:∀ (K:Kd),fL K->∀ {m:Nat} (c:Int) {p:Int},dep K+3<=m->0<=p->(dep K=0/\p<=100\/dep K=1/\p<=24\/dep K=2/\p<=11\/dep K=3/\p<=2)->∃ d,Nt K d/\(WT TT m).Φ "_law_note" [sp K,.int c,.int p,bG a b e f]=.ok .fz d
 | .counts n,_,m+2,c,p,_,h0,h1=>by
  have hp:p<=100:=by simp only[dep] at h1;omega
  obtain ⟨x,x0,x1,ex⟩:=num m c h0 hp (sp (.counts n)) (bG a b e f);refine ⟨.int x,⟨x,rfl,by omega⟩,rG (rF (w := "counts") aO (by simp) (by simp) (in4 (by decide))) ex ?_⟩
  simp[bU,sp,aO]
 | .wheel n,g,m+2,c,p,_,h0,h1=>by
  have hp:p<=100:=by simp only[dep] at h1;omega
  obtain ⟨x,x0,x1,ex⟩:=num m c h0 hp (sp (.wheel n)) (bG a b e f);have p0:0<n:=by have:=g.1;omega
  have y0:=aUN x (show n≠0 by omega)
  have y1:=aUO x p0;have y2:=g.2;refine ⟨.int (x % n),⟨_,rfl,by omega⟩,rG (rF (w := "wheel") aO (by simp) (by simp) (in4 (by decide))) ex ?_⟩
  simp[bU,sp,aO,bZ,p0]
 | .costs n,_,m+2,c,p,_,h0,h1=>by
  have hp:p<=100:=by simp only[dep] at h1;omega
  obtain ⟨x,x0,x1,ex⟩:=num m c h0 hp (sp (.costs n)) (bG a b e f);have M:=Mx m (c:=c) (show 0<=p+30 by omega) (show p+30<=200 by omega)
  have l1:dM (.ok [(.fz,.int x),(.fz,.int (-x)),(.fz,.non)])=.ok .fr (.lst [.int x,.int (-x),.non]):=rfl;obtain ⟨w,hw,ew⟩:=hC [D.int x,.int (-x),.non] (mx c (p+30)) 3 rfl (by decide)
  have xo:=eL (m:=.fr) (m':=.fz) ew;refine ⟨w,?_,rG (rF (w := "costs") aO (by simp) (by simp) (in4 (by decide))) ex ?_⟩
  . show Pl 2 w;simp only[aRA,aUB,aT4] at hw;rcases hw with rfl | rfl | rfl
    . exact .int _
    . exact .int _
    . exact .non
  . simp[bU,sp,aO];rw[l1];simp[M,xo]
 | .truth n,_,m+3,c,p,_,h0,h1=>by
  obtain ⟨d,pd,ed⟩:=aOT m (P:=bG a b e f) (n:=n) c h0 (show p<=200 by simp only[dep] at h1;omega)
  exact ⟨d,pd,nG (w := "truth") aO (by simp) (by simp) (in4 (by decide)) ed⟩
 | .sure n,_,m+3,c,p,_,h0,h1=>by
  obtain ⟨d,pd,ed⟩:=aOS m (P:=bG a b e f) (n:=n) c h0 (show p<=200 by simp only[dep] at h1;omega)
  exact ⟨d,pd,nG (w := "sure") aO (by simp) (by simp) (in4 (by decide)) ed⟩
 | .voices n,_,m+3,c,p,_,h0,h1=>by
  obtain ⟨d,pd,ed⟩:=aOQ m (a:=a) (b:=b) (e:=e) (f:=f) (n:=n) c h0 (show p<=200 by simp only[dep] at h1;omega)
  exact ⟨d,pd,nG (w := "voices") aO (by simp) (by simp) (in4 (by decide)) ed⟩
 | .least n,_,m+3,c,p,_,h0,h1=>by
  obtain ⟨d,pd,ed⟩:=aOR m (a:=a) (b:=b) (e:=e) (f:=f) (n:=n) c h0 (show p<=200 by simp only[dep] at h1;omega)
  exact ⟨d,pd,nG (w := "least") aO (by simp) (by simp) (in4 (by decide)) ed⟩
 | .pair A B,g,m+1,c,p,h,h0,h1=>by
  simp only[dep] at h h1;obtain ⟨x,nx,ex⟩:=nH (a:=a) (b:=b) (e:=e) (f:=f) A g.1 (m:=m) c (p:=2 * p+1) (by omega) (by omega) (by omega)
  obtain ⟨y,ny,ey⟩:=nH (a:=a) (b:=b) (e:=e) (f:=f) B g.2 (m:=m) c (p:=2 * p+2) (by omega) (by omega) (by omega)
  have ex:=kI ex;have ey:=kI ey;refine ⟨.tup [x,y],⟨x,y,rfl,nx,ny⟩,nt_ ?_⟩;have x1:bA 2=true:=by decide +kernel
  have x2:bA p=true:=dU (N:=200) (by omega)
  simp[bU,fr0,sp,kQ,kR,kS,dW x1 x2,ex,ey,bO]
 | .heaps A,g,m+1,c,p,h,h0,h1=>by
  simp only[dep] at h h1;obtain ⟨m,rfl⟩:=up (m:=m) (n:=0) (by omega)
  have M1:=Mx m (c:=c) (show 0<=p+70 by omega) (show p+70<=200 by omega)
  have M2:=Mx m (c:=c) (show 0<=p+71 by omega) (show p+71<=200 by omega)
  have l1:dM (.ok [(.fz,.int (mx c (p+70) % 5-2)),(.fz,.int (-(c % kN)))])=.ok .fr (.lst [.int (mx c (p+70) % 5-2),.int (-(c % kN))]):=rfl;obtain ⟨w,hw,ew⟩:=hC [D.int (mx c (p+70) % 5-2),.int (-(c % kN))] (mx c (p+71)) 2 rfl (by decide)
  have xo:=eL (m:=.fr) (m':=.fz) ew;obtain ⟨s,rfl⟩:∃ s:Int,w=.int s:=by simp only[aRA,aUB,aT4] at hw;rcases hw with rfl | rfl <;> exact ⟨_,rfl⟩
  have ee:=eW (f9 A (m:=m+1) (by omega))
  have q0:=aUN c (show (4:Int)≠0 by decide)
  have q1:=aUO c (show (0:Int)<4 by decide)
  have each:∀ i:Nat,∃ d,i<4->Nt A d/\(WT TT (m+1)).Φ "_law_note" [sp A,.int c,.int (4 * p+(i:Int)),bG a b e f]=.ok .fz d:=λi=>by
   by_cases hi:i<4
   . obtain ⟨d,nd,ed⟩:=nH (a:=a) (b:=b) (e:=e) (f:=f) A g (m:=m+1) c (p:=4 * p+(i:Int)) (by omega) (by omega) (by omega)
     exact ⟨d,λ_=>⟨nd,ed⟩⟩
   . exact ⟨.non,λz=>absurd z hi⟩
  obtain ⟨N,hN⟩:∃ N:Nat->D,∀ i:Nat,i<4->Nt A (N i)/\aL 4 ((WT TT (m+1)).Φ "_law_note") (.ok [(.fz,sp A),(.fz,.int c),(.fz,.int (4 * p+(i:Int))),(.fz,bG a b e f)])=.ok .fz (N i):=⟨λi=>(each i).choose,λi hi=>⟨((each i).choose_spec hi).1,kI ((each i).choose_spec hi).2⟩⟩;obtain ⟨n,hn⟩:=aUP q0;have n4:n<4:=by omega
  obtain ⟨es,hes⟩:∃ es:List (Int×D),es=(List.range n).map λi:Nat=>(s+3 * (i:Int),N i):=⟨_,rfl⟩;have les:es.length<=3:=by rw[hes,aR2,aUG];omega
  have mes:∀ x∈es,Nt A x.2:=λx hx=>by rw[hes] at hx;obtain ⟨i,hi,rfl⟩:=aUQ.mp hx;exact (hN i (by have:=aQ7.mp hi;omega)).1
  have b3:bA 3=true:=by decide +kernel
  have b4:bA 4=true:=by decide +kernel
  have bp:bA p=true:=dU (N:=200) (by omega)
  have er:gP (.ok [(.fz,.int (n:Int))])=.ok .fz (.lst (bP 0 n)):=by unfold gP;rw[aG.thn_ok];dsimp only;rw[if_pos];simp only[aSR,aS4];omega
  have ec:∀ x4 x7 x8,bN (.ok .fz (.lst (bP 0 n))) [some (false,.tup [.str "heaps", sp A]),some (false,.int c),some (false,.int p),some (false,bG a b e f),x4,some (false,.int s),some (false,no A),x7,x8] [5,1,3,0,2] 1 (aW (.nm 5)) (λρ=>evF (WT TT (m+1)) [] ρ) (λρ=>evE (WT TT (m+1)) (.tup [(.frz (.bin .Add (.var 0) (.bin .Mult (.int 3) (.var 5)))),(.frz (.call "_law_note" 4 [(.ix (.var 3) (.int 1)),(.var 1),(.frz (.bin .Add (.bin .Mult (.int 4) (.var 4)) (.var 5))),(.var 2)]))]) ρ)=.ok .fr (.lst (es.map enc)):=λx4 x7 x8=>by
   have rd:bP 0 n=(List.range n).map λi:Nat=>D.int (i:Int):=by simp[bP]
   rw[rd];have:=qV (enc:=λi:Nat=>D.int (i:Int)) (λi=>enc (s+3 * (i:Int),N i)) (ρ:=[some (false,.tup [.str "heaps", sp A]),some (false,.int c),some (false,.int p),some (false,bG a b e f),x4,some (false,.int s),some (false,no A),x7,x8]) (aE:=[5,1,3,0,2]) (n:=1) (k:=aW (.nm 5)) (t:=λρ=>evF (WT TT (m+1)) [] ρ) (e:=λρ=>evE (WT TT (m+1)) (.tup [(.frz (.bin .Add (.var 0) (.bin .Mult (.int 3) (.var 5)))),(.frz (.call "_law_note" 4 [(.ix (.var 3) (.int 1)),(.var 1),(.frz (.bin .Add (.bin .Mult (.int 4) (.var 4)) (.var 5))),(.var 2)]))]) ρ) (m:=.fz) (xs:=List.range n) (by rw[aUG,aRT];omega) λi hi=>by
    have hi:=aQ7.mp hi;have bi:bA (i:Int)=true:=dU (N:=4) (by omega)
    refine ⟨[some (false,.int s),some (false,.int c),some (false,bG a b e f),some (false,.tup [.str "heaps", sp A]),some (false,.int p),some (false,.int i)],.fz,rfl,by simp,.fz,?_⟩
    have hc:=(hN i (by omega)).2
    simp[dW b3 bi,dW b4 bp,bZ,hc,bO]
   rw[this,hes,aUH];rfl
  have ef:∀ x4 x8,bN (.ok .fz (.lst (es.map enc))) [some (false,.tup [.str "heaps", sp A]),some (false,.int c),some (false,.int p),some (false,bG a b e f),x4,some (false,.int s),some (false,no A),some (false,.lst (es.map enc)),x8] [6] 1 (aW (.nm 1)) (λρ=>evF (WT TT (m+1)) [(.cmp .NotEq (.ix (.var 1) (.int 1)) (.var 0))] ρ) (λρ=>evE (WT TT (m+1)) (.var 1) ρ)=.ok .fr (.lst ((es.filter λx=>!eqB x.2 (no A)).map enc)):=λx4 x8=>by
   refine kU (enc:=enc) (λx=>!eqB x.2 (no A)) enc (sl3 les) λx hx=>?_;have e3:=qU (m:=.fz) (m':=.fz) (cK A (mes x hx)) (bE A) (by omega)
   refine ⟨[some (false,no A),some (false,enc x)],.fz,rfl,?_,λ_=>⟨.fz,?_⟩⟩
   . simp only[mR,mQ,mO,mP,kG,eK,g_0,g_s,g_1,bZ,e3];cases eqB x.2 (no A) <;> rfl
   . simp
  refine ⟨.tup ((es.filter λx=>!eqB x.2 (no A)).map enc),⟨_,rfl,aQ8 (aUS _ _) les,λx hx=>mes x (aQ6.mp hx).1⟩,nt_ ?_⟩;have e5:evE (WT TT (m+1)) (.ix (.lst [(.frz (.bin .Sub (.bin .Mod (.call "_law_mix" 2 [(.var 1),(.frz (.bin .Add (.var 2) (.int 70)))]) (.int 5)) (.int 2))),(.neg (.bin .Mod (.var 1) (.bin .Pow (.int 10) (.int 50))))]) (.bin .Mod (.call "_law_mix" 2 [(.var 1),(.frz (.bin .Add (.var 2) (.int 71)))]) (.int 2))) (fr0 (.tup [.str "heaps", sp A]) (bG a b e f) c p)=.ok .fz (.int s):=by unfold fr0 bG;simp[M1,M2,pow50,z50];rw[l1];simp[xo]
  show evB _ bU (fr0 (.tup [.str "heaps", sp A]) (bG a b e f) c p)=_;unfold bU;generalize E.ix (.lst [(.frz (.bin .Sub (.bin .Mod (.call "_law_mix" 2 [(.var 1),(.frz (.bin .Add (.var 2) (.int 70)))]) (.int 5)) (.int 2))),(.neg (.bin .Mod (.var 1) (.bin .Pow (.int 10) (.int 50))))]) (.bin .Mod (.call "_law_mix" 2 [(.var 1),(.frz (.bin .Add (.var 2) (.int 71)))]) (.int 2))=E5 at *;have ec1:=ec none none none;have ef1:=ef none none;generalize List.map enc (es.filter λx=>!eqB x.2 (no A))=L2 at *;generalize List.map enc es=L at *;generalize bG a b e f=PO at *;unfold fr0 at *;simp at ec1;simp at ef1;simp[aO,bZ,e5,ee,hn,er,ec1,ef1]
theorem aOU{ds:List D}{i:Nat}:eI ds none (some (i:Int))=ds.take i:=by
 unfold eI;rw[HT.aBR,HT.aBS,aTU,Nat.sub_zero];by_cases h:i<=ds.length
 . rw[Nat.min_eq_left h]
 . rw[Nat.min_eq_right (by omega),aT7,List.take_of_length_le (by omega)]
theorem aOV(W:WD)(ns:List Int)(ρ:Rho){m:Md}:∃ c:Int,c8 (aZ.or' iS iU) (aN (slP (.ok m (.lst (ns.map D.int))) none (some (evE W (.int 1))) ρ) (.ok []))=.ok .fz (.int c):=by
 have e1:slP (.ok m (.lst (ns.map D.int))) none (some (evE W (.int 1))) ρ=.ok .fr (.lst ((ns.take 1).map D.int)):=by show Res.ok Md.fr (.lst (eI (ns.map D.int) none (some ((1:Nat):Int))))=_;rw[aOU,List.map_take]
 rw[e1];cases ns with
 | nil=>exact ⟨0,rfl⟩
 | cons n ns=>exact ⟨n,rfl⟩
theorem yX:∀ {ds:List D} {j:Nat} {d:D},d∈eG j ds->∃ i x,x∈ds/\d=.tup [.int (i:Nat),x]
 | [],_,_,h=>by cases h
 | x::ds,j,d,h=>by
  rcases aRA.mp h with rfl | h
  . exact ⟨j,x,mcs,rfl⟩
  . obtain ⟨i,y,hy,e⟩:=yX h;exact ⟨i,y,mcm hy,e⟩
theorem rH:∀ (K:Kd),lk K (no K)=on K
 | .pair a b=>by show D.tup [lk a (no a),lk b (no b)]=_;rw[rH a,rH b];rfl
 | .counts n=>by simp[lk,eqB,no,on,aT,bR,PyData.eqv,PyData.eqvAll]
 | .wheel n=>by simp[lk,eqB,no,on,aT,bR,PyData.eqv,PyData.eqvAll]
 | .truth n=>by simp[lk,eqB,no,on,aT,bR,PyData.eqv,PyData.eqvAll]
 | .costs n=>by simp[lk,eqB,no,on,aT,bR,PyData.eqv,PyData.eqvAll]
 | .sure n=>by simp[lk,eqB,no,on,aT,bR,PyData.eqv,PyData.eqvAll]
 | .voices n=>by simp[lk,eqB,no,on,aT,bR,PyData.eqv,PyData.eqvAll]
 | .least n=>by simp[lk,eqB,no,on,aT,bR,PyData.eqv,PyData.eqvAll]
 | .heaps n=>by simp[lk,eqB,no,on,aT,bR,PyData.eqv,PyData.eqvAll]
theorem rJ:∀ (K:Kd) (n:Int),mn K n (no K)=no K
 | .pair a b,n=>by show D.tup [mn a n (no a),mn b n (no b)]=_;rw[rJ a,rJ b];rfl
 | .counts _,n=>by show D.int (n * 0)=_;rw[Int.mul_zero];rfl
 | .wheel s,n=>by show D.int (n * 0 % s)=_;rw[Int.mul_zero,Int.zero_emod];rfl
 | .heaps a,n=>rfl
 | .truth s,n=>by show (if n=0 then no (.truth s) else no (.truth s))=_;split <;> rfl
 | .costs s,n=>by show (if n=0 then no (.costs s) else no (.costs s))=_;split <;> rfl
 | .sure s,n=>by show (if n=0 then no (.sure s) else no (.sure s))=_;split <;> rfl
 | .voices s,n=>by show (if n=0 then no (.voices s) else no (.voices s))=_;split <;> rfl
 | .least s,n=>by show (if n=0 then no (.least s) else no (.least s))=_;split <;> rfl
theorem body(k:Nat)(ns:List Int)(hn:0<ns.length)(a b e f:Str)(i c:Int)(x4 x5 x6 x7 x8:Option (Bool×D)):∃ y4 y5 y6 y7 y8,evB (WT TT (k+8)) fG [some (false,.lst (ns.map .int)),some (false,bG a b e f),some (false,.int i),some (false,.int c),x4,x5,x6,x7,x8]=.nx [some (false,.lst (ns.map .int)),some (false,bG a b e f),some (false,.int i),some (false,.int c),y4,y5,y6,y7,y8]:=by
 obtain ⟨q,eq⟩:=aOE (ns:=ns) (i:=i+1) hn (m:=.fz) (m':=.fz);have hp':∀ {m n:Md} {i:Int},op2 (bT .Mod) (.ok m (.int i)) (.ok n (.int (ns.length:Int)))=.ok .fz (.int (i % (ns.length:Int))):=pP (by omega)
 obtain ⟨K,hd,g,es⟩:=spec (k+5) c;have es:=eW es;have ek:=nC (kind K g (m:=k+8) (by omega))
 obtain ⟨d,nd,ed⟩:=nH (a:=a) (b:=b) (e:=e) (f:=f) K g (m:=k+8) c (p:=1) (by omega) (by decide) (by omega)
 have ed:=kI ed;have M:=Mx (k+7) (c:=c) (show (0:Int)<=9 by decide) (show (9:Int)<=200 by decide)
 obtain ⟨w,hw,ew⟩:=hC [D.int 0,.int 1,.int 2,.int (c % 100),.int (q % cU)] (mx c 9) 5 rfl (by decide)
 have xo:=eL (m:=.fr) (m':=.fz) ew;obtain ⟨n,rfl,hnn⟩:∃ n:Int,w=.int n/\n.natAbs<10 ^ 61:=by
  have c0:=aUN c (show (100:Int)≠0 by decide)
  have c1:=aUO c (show (0:Int)<100 by decide)
  have q0:=aUN q (show cU≠0 by decide)
  have q1:=aUO q z60;unfold cU at *;simp only[aRA,aUB,aT4] at hw;rcases hw with rfl | rfl | rfl | rfl | rfl
  . exact ⟨_,rfl,by decide⟩
  . exact ⟨_,rfl,by decide⟩
  . exact ⟨_,rfl,by decide⟩
  . exact ⟨_,rfl,by omega⟩
  . exact ⟨_,rfl,by omega⟩
 have l1:dM (.ok [(.fz,.int 0),(.fz,.int 1),(.fz,.int 2),(.fz,.int (c % 100)),(.fz,.int (q % cU))])=.ok .fr (.lst [.int 0,.int 1,.int 2,.int (c % 100),.int (q % cU)]):=rfl;have z1:=k4 K (m:=k+8) g (by omega) (by omega) hnn (i7 K nd)
 have z2:=kH (nF K (m:=k+8) g (by omega) (by omega) hnn (i7 K nd))
 have z3:=nE K (m:=k+8) (by omega) (by omega) (kX K nd)
 have z4:=dX (qY K (m:=k+8) (by omega) (by omega) (kX K nd))
 have z5:=eW (f9 K (m:=k+8) (by omega))
 have z6:=nE K (m:=k+8) (by omega) (by omega) (qW K)
 have z7:=k4 K (m:=k+8) g (by omega) (by omega) hnn (rA K)
 have s1:=dX (same (i8 K (n:=n) (i7 K nd)) (m:=k+8) (by omega))
 have s2:=dX (same (qX K (kX K nd)) (m:=k+8) (by omega))
 have lno:lk K (no K)=on K:=rH K;have mno:mn K n (no K)=no K:=rJ K n;rw[lno] at z6;rw[mno] at z7;have s3:=dX (same (d7 K) (m:=k+8) (by omega))
 have s4:=dX (same (bE K) (m:=k+8) (by omega))
 refine ⟨some (false,sp K),some (false,ob K),some (false,d),some (false,.int n),some (false,no K),?_⟩;unfold mt at *;have e1:fG=fG.take 4++fG.drop 4:=rfl;generalize bG a b e f=PO at *;generalize ob K=O at *;generalize sp K=P at *;rw[e1,mV,show evB (WT TT (k+8)) (fG.take 4) [some (false,.lst (ns.map .int)),some (false,PO),some (false,.int i),some (false,.int c),x4,x5,x6,x7,x8]=.nx [some (false,.lst (ns.map .int)),some (false,PO),some (false,.int i),some (false,.int c),some (false,P),some (false,O),some (false,d),some (false,.int n),x8] by
  simp[fG,es,ek,ed,eq,hp',yG,z60];rw[l1];simp[M,xo],aK.thn_nx]
 generalize no K=N0 at *;generalize on K=N1 at *;generalize lk K d=L0 at *;generalize mn K n d=M0 at *;simp[fG,z1,z2,z3,z4,z5,z6,z7,s1,s2,s3,s4,aO,bZ]
def kk:Nat:=8
theorem main(ns:List Int)(h:ns.length<=63):(WT TT (kk+1)).Φ ("law" : Str) (lX ns)=.ok .fz (.bl true):=by
 rw[u_law];refine bM rfl ?_;show evB (WT TT 8) m8 [some (false,.lst (ns.map .int)),none,none,none,none,none,none,none,none]=_;have en:iN (.ok [(.fz,.lst (ns.map .int))])=.ok .fz (.lst (eG 0 (ns.map .int))):=rfl;obtain ⟨c,ec⟩:=aOV (WT TT 8) ns [some (false,.lst (ns.map .int)),none,none,none,none,none,none,none,none] (m:=.fz);obtain ⟨P,lP,eP⟩:=names 6 c;have eP:=yP eP;obtain ⟨a,b,e,f,rfl⟩:∃ a b e f,P=[a,b,e,f]:=len4 (P:=λP=>∃ a b e f,P=[a,b,e,f]) (λa b e f=>⟨a,b,e,f,rfl⟩) P lP;obtain ⟨ρ',e',x2,x3,x4,x5,x6,x7,x8,rfl⟩:=aJX (m:=.fz) (ds:=eG 0 (ns.map .int)) (k:=aW (.tp [(.nm 2),(.nm 3)])) (body:=evB (WT TT 8) fG) (ρ:=[some (false,.lst (ns.map .int)),some (false,bG a b e f),none,none,none,none,none,none,none])
  (λρ=>∃ x2 x3 x4 x5 x6 x7 x8,ρ=[some (false,.lst (ns.map .int)),some (false,bG a b e f),x2,x3,x4,x5,x6,x7,x8]) (λd hd ρ hρ=>by
   obtain ⟨x2,x3,x4,x5,x6,x7,x8,rfl⟩:=hρ;obtain ⟨i,x,hx,rfl⟩:=yX hd;obtain ⟨c,hc,rfl⟩:=aUQ.mp hx;have hn:0<ns.length:=List.length_pos_of_mem hc;obtain ⟨y4,y5,y6,y7,y8,e'⟩:=body 0 ns hn a b e f i c x4 x5 x6 x7 x8;refine ⟨[some (false,.lst (ns.map .int)),some (false,bG a b e f),some (false,.int (i:Int)),some (false,.int c),x4,x5,x6,x7,x8],_,by simp,.inl e',_,_,_,_,_,_,_,rfl⟩) ⟨_,_,_,_,_,_,_,rfl⟩
 have eP:aL 2 ((WT TT 8).Φ "_law_names") (.ok [(.fz,.int c),(.fz,.int 4)])=.ok .fr (bG a b e f):=eP;generalize bG a b e f=PO at *;simp[m8,ec,eP,en,e']
end K11
namespace K11
open PySem PySem.W Tp
theorem tw:Prod.fst (true,PySem.Challenge.pw_whencewise_k11_many_and_lack)=true:=by k_qdec
def as:List Addr:=[2,3,15,22,23,24,25,28,35,36,37,40,47,48,49,52,54,55,57,58,59,62,63,64,66,67,69,70,71,73,74,76,77,78,80,81,83,84,92,94,95,97,98,99,100,101,102,103,106,113,115,116,118,119,120,121,122,125,132,134,135,137,138,139,141,142,144,145,146,148,149,151,152,153,155,156,158,159,160,162,163,165,166,167,169,170,172,173,174,176,177,179,180,181,182,183,186,193,195,196,198,199,200,202,203,205,206,207,209,210,212,213,214,216,217,219,220,221,223,224,226,227,228,230,231,233,234,235,236,237,240,247,249,250,252,253,254,256,257,259,260,261,263,264,266,267,268,270,271,273,274,275,277,278,280,281,282,284,285,287,288,289,290,291,294,301,303,304,306,307,308,310,311,313,314,315,317,318,320,321,322,324,325,327,328,329,331,332,334,335,336,338,339,341,342,343,344,345,348,355,357,358,360,361,362,364,365,367,368,369,371,372,374,375,376,378,379,381,382,383,385,386,388,389,390,392,393,395,396,397,398,399,402,409,411,412,414,415,416,418,419,421,422,423,425,426,428,429,430,432,433,435,436,437,439,440,442,443,444,446,447,449,450,451,453,454,456,457,458,460,461,463,464,465,466,467,470,477,479,480,482,483,484,486,487,489,490,491,493,494,496,497,498,500,501,503,504,505,507,508,510,511,512,514,515,517,518,519,521,522,524,525,526,528,529,531,532,533,535,536,538,539,540,541,542,545,547,548,550,551,552,555,556,557,560,561,562,564,565,567,568,569,572,573,574,577,578,579,582,583,584,591,593,594,596,597,598,600,601,603,604,605,607,608,610,611,612,614,615,617,618,619,621,622,624,625,626,629,630,631,634,635,636,638,639,641,642,643,646,647,648,649,650,653,655,656,658,659,660,667,669,670,672,673,674,676,677,679,680,681,683,684,686,687,688,691,692,693,696,697,698,701,702,703,704,705,708,710,711,713,714,715,717,718,720,721,722,724,725,727,728,729,731,732,734,735,736,739,740,741,744,745,746,749,750,751,753,754,756,757,758,761,762,763,765,766,768,769,770,772,773,775,776,777,779,780,782,783,784,786,787,789,790,791,794,795,796,798,799,801,802,803,806,807,808,811,812,813,815,816,818,819,820,823,824,825,827,828,830,831]
theorem pre(w:World)(os:OsState):topGo treeTable PySem.Challenge.pw_whencewise_k11_many_and_lack w 11 an 12 ⟨boot_heap w.params,#[],boot_drawn,boot_toks,os⟩ (topStub PySem.Challenge.pw_whencewise_k11_many_and_lack)=some ((sh w.params (sA w.params) 15 187 os).abs,⟨denote treeTable (cd PySem.Challenge.pw_whencewise_k11_many_and_lack),cd PySem.Challenge.pw_whencewise_k11_many_and_lack,z0,[topFrame z0]⟩):=by
 rw[Fast.te16472613050780351683,Fast.te203182992438928480,Fast.te13144403056285818395,Fast.te15667345088766844465,Fast.te14364793385576792824,Fast.te11892475500146522536]
 kernel_rfl
theorem blk(w:World)(s:Shared):segRun treeTable PySem.Challenge.pw_whencewise_k11_many_and_lack w 11 an 1 1 s (blockOf PySem.Challenge.pw_whencewise_k11_many_and_lack.main.body (ev PySem.Challenge.pw_whencewise_k11_many_and_lack) (cd PySem.Challenge.pw_whencewise_k11_many_and_lack) z0 [topFrame z0])=some (.next,s,cd PySem.Challenge.pw_whencewise_k11_many_and_lack,z0):=by kernel_rfl
theorem run(w:World)(os:OsState):go treeTable PySem.Challenge.pw_whencewise_k11_many_and_lack w 1000 PySem.Challenge.pw_whencewise_k11_many_and_lack.main.body (sh w.params (sA w.params) 15 187 os) (cd PySem.Challenge.pw_whencewise_k11_many_and_lack) z0=some (sh w.params (lay w.params PySem.Challenge.pw_whencewise_k11_many_and_lack.main.body (sA w.params)) 832 1214 os,cd PySem.Challenge.pw_whencewise_k11_many_and_lack,⟨471,0,485,15⟩):=by
 rw[Fast.te16472613050780351683,Fast.te203182992438928480,Fast.te13144403056285818395,Fast.te5678740263434597267,Fast.te14364793385576792824,Fast.te10212481707522018265]
 kernel_rfl
theorem rK(w:World):(λos=>((staticsOk (importedModules PySem.Challenge.pw_whencewise_k11_many_and_lack.main.body) (boot_heap w.params) (H1 PySem.Challenge.pw_whencewise_k11_many_and_lack.main.body 832 w.params)&&namesBound PySem.Challenge.pw_whencewise_k11_many_and_lack (H1 PySem.Challenge.pw_whencewise_k11_many_and_lack.main.body 832 w.params)&&gensDone (S1 PySem.Challenge.pw_whencewise_k11_many_and_lack.main.body 832 1214 w.params os)&&laidKept (boot_heap w.params) (H1 PySem.Challenge.pw_whencewise_k11_many_and_lack.main.body 832 w.params)),openSeen (vw PySem.Challenge.pw_whencewise_k11_many_and_lack) (los PySem.Challenge.pw_whencewise_k11_many_and_lack.main.body) (importedModules PySem.Challenge.pw_whencewise_k11_many_and_lack.main.body) (xt PySem.Challenge.rw_whencewise_k11_many_and_lack.row) true (S1 PySem.Challenge.pw_whencewise_k11_many_and_lack.main.body 832 1214 w.params os),(hk PySem.Challenge.pw_whencewise_k11_many_and_lack.main.body as).obs (S1 PySem.Challenge.pw_whencewise_k11_many_and_lack.main.body 832 1214 w.params os)))=λ_=>(true,openGood (vw PySem.Challenge.pw_whencewise_k11_many_and_lack) (los PySem.Challenge.pw_whencewise_k11_many_and_lack.main.body),(hk PySem.Challenge.pw_whencewise_k11_many_and_lack.main.body as).val w):=by
 rw[Fast.te14387180822208032119,Fast.te16472613050780351683,Fast.te5923862056798008813,Fast.te9407923862454927560,Fast.te15884229538025494872,Fast.te4187177175401517315,Fast.te18076920544200396443,Fast.te9318435048543301240,Fast.te17808466708180730929,Fast.te2368527892694137696]
 kernel_rfl
theorem gf(P:Params):D3.pU (KK PySem.Challenge.pw_whencewise_k11_many_and_lack.main.body as P) GG TT=true:=by
 kernel_rfl
abbrev dl:DefRec:=⟨"law", L2.lM qS,L2.gI qS,L2.c7 qS,⟨471,0,485,15⟩⟩
end K11
open PySem PySem.W PyProof.Rows
set_option maxRecDepth 100000 in
set_option maxHeartbeats 0 in
theorem PySem.Challenge.cw_whencewise_k11_many_and_lack_holds : PySem.Challenge.rw_whencewise_k11_many_and_lack.Holds := by
 w_on;o_law
 exact Tp.head (p:=PySem.Challenge.rw_whencewise_k11_many_and_lack) (d:=K11.dl) (Tp.left (by kernel_rfl) K11.pre K11.blk K11.run (by kernel_rfl) (by kernel_rfl) (λ_=>by kernel_rfl) K11.rK) (by assumption) (by kernel_rfl) (by kernel_rfl) rfl rfl (by decide +kernel) ⟨rfl,rfl,rfl,rfl,rfl,by decide +kernel⟩ (by w_witness2)
  (D3.walkG (K:=Tp.KK PySem.Challenge.pw_whencewise_k11_many_and_lack.main.body K11.as) (kk:=K11.kk) (e:=K11.qR) rfl rfl rfl (λw h Y=>PySem.W.kIn_of Y) K11.gf (D3.aJZ (g:=K11.GG) (by decide +kernel)) rfl rfl ⟨rfl,by decide,by decide⟩ K11.main)
