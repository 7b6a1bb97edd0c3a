import PyProof.Rows.All
import Wide.All
import OpenK.AllK
import Wide.FinOn
import Lean
import PyProof.EqAt
import PyProof.EqKinds
import PyProof.TupleCall
import PySem.Challenge.RW_whencewise_k62_settled
set_option linter.all false
section
open PySem PySem.Spec PyProof.Rows
def aPB:=@decide_eq_false
def aPC:=@beq_eq_false_iff_ne
def aPD:=@PySem.Paired.length
def aPE:=@Option.some.inj
def aPF:=@PySem.Heap.get?_push_size
def aPG:=@PySem.Heap.lt_size
def aPH:=@Nat.lt_of_lt_of_le
def aPI:=@Nat.lt_irrefl
def aPJ:=@Nat.ne_of_lt
def aPK:=@PySem.W.hideAll_get
def aPL:=@List.mem_filter
def aPM:=@List.mem_range
def aPN:=@Nat.le_trans
def aPO:=@List.filterMap_cons
def aPP:=@List.mem_cons
def aPQ:=@List.mem_append
def aPR:=@List.mem_append_left
def aPS:=@List.getElem?_eq_some_iff
def aPT:=@List.getElem?_set_self
def aPU:=@List.getElem?_set_ne
def aPV:=@PySem.wpAny_mono
def aPW:=@PySem.wpAny_truthy_bool
def aPX:=@Array.length_toList
def aPY:=@PySem.wpAny_execs_nil
def aPZ:=@PySem.wpAny_bind
def aP0:=@PySem.wpAny_standAt
def aP1:=@PySem.wpAny_pure
def aP2:=@PySem.wpAny_newObj_type
def aP3:=@PySem.wpAny_rule
def aP4:=@PySem.wpAny_passesOwn
def aP5:=@Bool.false_ne_true
def aP6:=@Nat.ne_of_gt
def aP7:=@PySem.wpAny_pyIter_list
def aP8:=@Nat.le_refl
def aP9:=@PySem.wpAny_pyIter_tuple
def aQA:=@PyProof.Rows.callWith_type1
def aQB:=@List.mem_filterMap
def aQC:=@List.mem_append_right
def aQD:=@PySem.sizeLine_eq
def aQE:=@List.size_toArray
def aQF:=@List.append_nil
def aQG:=@List.nodup_cons
def aQH:=@List.of_mem_zip
def aQI:=@List.length_take
def aQJ:=@PySem.mem_of_lookup
def aQK:=@List.getElem?_append_right
def aQL:=@List.getElem?_replicate
def aQM:=@List.getElem?_append_left
def aQN:=@List.getElem?_map
def aQO:=@List.take_sublist
def aQP:=@List.mem_of_getElem?
def aQQ:=@List.length_append
def aQR:=@List.length_map
def aQS:=@PySem.wpAny_Call_Name_kw
def aQT:=@PySem.concat_meets
def aQU:=@PySem.noFill_tuple_add
def aQV:=@PySem.F.slot_tuple_add
def aQW:=@PySem.F.entry_tuple_add
def aQX:=@PySem.F.args_tuple_add_2
def aQY:=@Int.toNat_natCast
def aQZ:=@if_false
def aQ0:=@if_true
def aQ1:=@PySem.wpAny_field
def aQ2:=@List.length_drop
def aQ3:=@PySem.wpAny_holding
def aQ4:=@PySem.wpAny_callSpecial?_slot
def aQ5:=@PyProof.Rows.slot_tuple_getitem
def aQ6:=@PySem.wpAny_call_entry
def aQ7:=@PySem.wpAny_typeOf
def aQ8:=@Bool.and_eq_true
def aQ9:=@Option.getD_none
def aRA:=@List.all_cons
def aRB:=@List.any_cons
def aRC:=@List.length_singleton
def aRD:=@List.find?_cons
def aRE:=@decide_eq_true
def aRF:=@List.length_cons
def aRG:=@List.map_cons
def aRH:=@Option.isSome_map
def aRI:=@PySem.tupleKind_room_in1
def aRJ:=@PySem.wpAny_specialOf
def aRK:=@Nat.zero_le
def aRL:=@decide_eq_true_eq
def aRM:=@of_decide_eq_true
def aRN:=@Bool.or_eq_true
def aRO:=@Array.all_eq_true_iff_forall_mem
def aRP:=@Array.mem_toList_iff
def aRQ:=@PySem.wpAny_getItem_str_slice
def aRR:=@PySem.post_val_or_str
def aRS:=@PySem.Txt.slice_le
def aRT:=@List.replicate_succ
def aRU:=@List.foldl_cons
def aRV:=@Bool.or_eq_false_iff
def aRW:=@beq_iff_eq
def aRX:=@PySem.W.kia_one
def aRY:=@Bool.eq_iff_iff
def aRZ:=@List.all_eq_true
def aR0:=@List.getD_eq_getElem?_getD
def aR1:=@List.getElem?_eq_getElem
def aR2:=@List.getElem_mem
def aR3:=@List.length_set
def aR4:=@List.getElem?_set
def aR5:=@Option.map_some
def aR6:=@List.drop_eq_getElem_cons
def aR7:=@List.drop_length
def aR8:=@List.forIn_nil
def aR9:=@List.forIn_cons
def aSA:=@LawfulMonad.pure_bind
def aSB:=@List.lookup_cons
def aSC:=@beq_self_eq_true
def aSD:=@Bool.false_eq_true
def aSE:=@PySem.Heap.size_push
def aSF:=@Nat.lt_succ_of_lt
def aSG:=@List.drop_zero
def aSH:=@List.take_of_length_le
def aSI:=@List.mem_singleton
def aSJ:=@PySem.F.slot_tuple_iterator_next
def aSK:=@PySem.F.entry_tuple_iterator_next
def aSL:=@PySem.F.args_tuple_iterator_next_1
def aSM:=@PySem.wpAny_seqItems
def aSN:=@PySem.wpAny_setField_rec
def aSO:=@PySem.wpAny_onRaise
def aSP:=@PySem.wpAny_updateSeq_pair
def aSQ:=@PySem.wpAny_attempt
def aSR:=@PySem.F.slot_zip_next
def aSS:=@PySem.F.entry_zip_next
def aST:=@PySem.F.args_zip_next_1
def aSU:=@PySem.wpAny_isInstance
def aSV:=@List.mem_nil_iff
def aSW:=@or_false
def aSX:=@PySem.wpAny_pyIter_enum
def aSY:=@List.take_length
def aSZ:=@List.nil_append
def aS0:=@PySem.W.mg_of
def aS1:=@PySem.codeAny_builtin
def aS2:=@PySem.Around.under_plainId
def aS3:=@Array.getElem?_eq_none_iff
def aS4:=@Array.getElem?_eq_getElem
def aS5:=@Nat.le_add_right
def aS6:=@bne_iff_ne
def aS7:=@List.contains_iff_mem
def aS8:=@Nat.lt_of_le_of_lt
def aS9:=@Nat.add_le_add_left
def aTA:=@Bool.not_eq_true'
def aTB:=@List.mem_map
def aTC:=@Nat.le_add_left
def aTD:=@List.getElem?_cons_succ
def aTE:=@List.map_append
def aTF:=@Nat.succ_le_succ
def aTG:=@List.not_mem_nil
def aTH:=@List.mem_of_mem_take
def aTI:=@Nat.pow_succ
def aTJ:=@Nat.pow_le_pow_right
def aTK:=@Nat.mul_succ
def aTL:=@Nat.mul_add
def aTM:=@Nat.mul_lt_mul_of_pos_right
end
abbrev VSP := PySem.Value -> PySem.Shared -> Prop
abbrev Fg := PySem.W.Frag
abbrev LAO := List (PySem.Addr × PySem.Obj)
abbrev SOV := PySem.Str -> Option PySem.Value
theorem mcm {α : Type} {a b : α} {l : List α} (h : a ∈ l) : a ∈ b :: l := List.mem_cons_of_mem _ h
theorem mcs {α : Type} {a : α} {l : List α} : a ∈ a :: l := List.mem_cons_self
theorem hps {h : PySem.Heap} {o p : PySem.Obj} {b : PySem.Addr} (e : h.get? b = some o) : (h.push p).get? b = some o := PySem.Heap.get?_push_of_some _ e
set_option Elab.async false
set_option linter.all false
set_option maxRecDepth 100000
namespace L2
open PySem PySem.Spec PyProof.Rows
abbrev Key:=Sum Int Str
def jD:Key->Value->Bool
 | .inl k,v=>Value.isInt k v
 | .inr x,v=>Value.isStrOf x v
def keyH(w:World):Key->Int
 | .inl k=>hashInt k
 | .inr x=>hashStr w x
theorem fO:∀ {k:Key} {v:Value},jD k v=true->(∃ i t,k=Sum.inl i/\v=Value.int i t)\/(∃ x t,k=Sum.inr x/\v=Value.str x t)
 | .inl i,v,h=>by obtain ⟨t,e⟩:=Value.isInt_shape (k:=i) (v:=v) h;exact .inl ⟨i,t,rfl,e⟩
 | .inr x,v,h=>by obtain ⟨t,e⟩:=Value.isStrOf_shape (x:=x) (v:=v) h;exact .inr ⟨x,t,rfl,e⟩
theorem aCF(i:Int)(t:Tok):jD (.inl i) (.int i t)=true:=by simp[jD,Value.isInt]
theorem aCG(x:Str)(t:Tok):jD (.inr x) (.str x t)=true:=by simp[jD,Value.isStrOf]
theorem aCH(a b:Int):decide ((Sum.inl a:Key)=Sum.inl b)=(a==b):=by
 by_cases e:a=b
 . subst e;simp
 . have h:¬ (Sum.inl a:Key)=Sum.inl b:=λq=>e (Sum.inl.inj q);rw[aPB h];exact (aPC.mpr e).symm
theorem aCI(a b:Str):decide ((Sum.inr a:Key)=Sum.inr b)=decide (a=b):=by
 by_cases e:a=b
 . subst e;simp
 . have h:¬ (Sum.inr a:Key)=Sum.inr b:=λq=>e (Sum.inr.inj q);rw[aPB h,aPB e]
theorem aCJ(a:Int)(b:Str):decide ((Sum.inl a:Key)=Sum.inr b)=false:=aPB (λq=>nomatch q)
theorem aCK(a:Str)(b:Int):decide ((Sum.inr a:Key)=Sum.inl b)=false:=aPB (λq=>nomatch q)
def bT(prog:Program)(w:World):PySem.KeyKind prog w Key where
 is:=jD
 hash:=keyH w
 inj:=λv a b ha hb=>by
  rcases fO ha with ⟨i,t,rfl,rfl⟩ | ⟨x,t,rfl,rfl⟩
  . rcases fO hb with ⟨j,u,rfl,e⟩ | ⟨y,u,rfl,e⟩
    . injection e with e1 _;rw[e1]
    . exact nomatch e
  . rcases fO hb with ⟨j,u,rfl,e⟩ | ⟨y,u,rfl,e⟩
    . exact nomatch e
    . injection e with e1 _;rw[e1]
 byValue:=λk v h=>by rcases fO h with ⟨i,t,rfl,rfl⟩ | ⟨x,t,rfl,rfl⟩ <;> rfl
 pyHash:=λhv h=>by
  rcases fO hv with ⟨i,t,rfl,rfl⟩ | ⟨x,t,rfl,rfl⟩
  . exact wpAny_pyHash_int h
  . exact wpAny_pyHash_str h
 eqBool:=λhu hv h=>by
  rcases fO hu with ⟨i,t,rfl,rfl⟩ | ⟨x,t,rfl,rfl⟩
  . rcases fO hv with ⟨j,u,rfl,rfl⟩ | ⟨y,u,rfl,rfl⟩
    . rw[aCH] at h;exact wpAny_eqBool_int h
    . rw[aCJ] at h;exact SeqAt.EqAt.int_str i t y u _ _ _ _ h
  . rcases fO hv with ⟨j,u,rfl,rfl⟩ | ⟨y,u,rfl,rfl⟩
    . rw[aCK] at h;exact SeqAt.EqAt.str_int x t j u _ _ _ _ h
    . rw[aCI] at h;exact wpAny_eqBool_str h
 «strs»:=λk x t v h=>by
  rcases fO h with ⟨i,u,rfl,e⟩ | ⟨y,u,rfl,e⟩
  . exact nomatch e
  . injection e with e1 _
    subst e1;cases v <;> rfl
theorem aCL(prog:Program)(w:World)(i:Int)(t:Tok):(bT prog w).is (.inl i) (.int i t)=true:=aCF i t
theorem aCM(prog:Program)(w:World)(x:Str)(t:Tok):(bT prog w).is (.inr x) (.str x t)=true:=aCG x t
inductive V where
 | non | bl (b:Bool) | int (i:Int) | str (x:Str) | byt (b:Array UInt8) | flt (b:UInt64) | ref (a:Addr) | ty (n:String)
 deriving DecidableEq
def aO:V->Value->Prop
 | .non,u=>u=Value.none
 | .bl b,u=>u=Value.bool b
 | .int i,u=>∃ t,u=Value.int i t
 | .str x,u=>∃ t,u=Value.str x t
 | .byt b,u=>∃ t,u=Value.bytes b t
 | .flt b,u=>∃ t,u=Value.float b t
 | .ref a,u=>u=Value.ref a
 | .ty n,u=>u=Value.type n
abbrev aP:List V->List Value->Prop:=Paired aO
theorem aP.length{xs:List V}{us:List Value}(r:aP xs us):xs.length=us.length:=aPD r
theorem aP.get:∀ {xs:List V} {us:List Value} {i:Nat} {x:V},aP xs us->xs[i]? = some x->∃ u,us[i]? = some u/\aO x u
 | _,_,_,_,.nil,e=>by simp at e
 | _,_,0,_,.cons r _,e=>by simp at e;subst e;exact ⟨_,rfl,r⟩
 | _,_,i+1,x,.cons _ t,e=>by
  obtain ⟨u,h1,h2⟩:=aP.get (i:=i) (x:=x) t (by simpa using e)
  exact ⟨u,by simpa using h1,h2⟩
theorem aP.append:∀ {xs ys:List V} {us ws:List Value},aP xs us->aP ys ws->aP (xs++ys) (us++ws)
 | _,_,_,_,.nil,s=>s
 | _,_,_,_,.cons r t,s=>.cons r (aP.append t s)
theorem aP.take:∀ {xs:List V} {us:List Value} (n:Nat),aP xs us->aP (xs.take n) (us.take n)
 | _,_,0,_=>.nil
 | _,_,_+1,.nil=>.nil
 | _,_,n+1,.cons r t=>.cons r (aP.take n t)
theorem aP.drop:∀ {xs:List V} {us:List Value} (n:Nat),aP xs us->aP (xs.drop n) (us.drop n)
 | _,_,0,r=>r
 | _,_,_+1,.nil=>.nil
 | _,_,n+1,.cons _ t=>aP.drop n t
def dN:Option V->Option Value->Prop
 | some v,some u=>aO v u
 | none,none=>True
 | _,_=>False
def KV{κ:Type}:List (κ×V)->List (κ×Value)->Prop:=Paired λ(p:κ×V) (q:κ×Value)=>p.1=q.1/\aO p.2 q.2
def kV:Key->V
 | .inl i=>.int i
 | .inr x=>.str x
inductive HO where
 /-- a list -/
 | lst (xs:List V)
 /-- a tuple (never changes) -/
 | tup (xs:List V)
 /-- a dict whose keys are ints and texts;one whose keys are tuples of ints and texts (the empty one is both) -/
 | dK (kvs:List (Key×V)) | dT (kvs:List (List Key×V))
 /-- a set of ints: its members,its size -/
 | set (S:Key->Bool) (n:Nat)
 /-- an instance of the class at C,its dict at dx,its attributes -/
 | ins (C dx:Addr) (fs:List (Str×V))
 /-- the dict of the instance at x -/
 | own (x:Addr)
 /-- the dict of an exception -/
 | xd (fs:List (Str×V))
 /-- a bound method,f of x -/
 | met (f x:Addr)
 /-- a range object lo,lo+1,.. below hi -/
 | rng (lo hi:Int)
 /-- a thing that is known to the object (the script;a dict while a mW walks it): read,never written while it is so -/
 | frz (o:Obj) (u:HO)
 /-- a code object's table -/
 | tbl (ps:Array Value)
 /-- any other thing,by what is true of its one object (a def of one's own: SetO a S n:=HO.ext λh=>..) -/
 | ext (φ:Heap->Prop)
abbrev Hp:=Addr->Option HO
def upd(H:Hp)(a:Addr)(o:HO):Hp:=λb=>if b=a then some o else H b
theorem bV{H:Hp}{a:Addr}{o:HO}:upd H a o a=some o:=by unfold upd;rw[if_pos rfl]
theorem aU{H:Hp}{a b:Addr}{o:HO}(h:b≠a):upd H a o b=H b:=by unfold upd;rw[if_neg h]
theorem ne_of{H:Hp}{a b:Addr}{o u:HO}(h:H a=some o)(h':H b=some u)(d:o≠u):a≠b:=by intro e;subst e;rw[h] at h';exact d (aPE h')
theorem cO{H:Hp}{a b:Addr}{o:HO}(h:H a=some o)(h':H b=none):a≠b:=by intro e;subst e;rw[h] at h';cases h'
def fP(h:Heap)(a:Addr)(items:Array Value):Prop:=∃ o,h.get? a=some o/\o.cls=.type "tuple" /\ o.dict=none/\∃ n,o.data=.seq items n
theorem fP.isTup{h:Heap}{a:Addr}{items:Array Value}(x:fP h a items):IsTup h a items:=by obtain ⟨o,e,c,_,n,d⟩:=x;exact ⟨o,e,c,n,d⟩
theorem fP.new(h:Heap)(items:Array Value):fP (h.push { cls:=.type "tuple", data:=.seq items }) h.objs.size items:=⟨_,aPF _ rfl,rfl,rfl,_,rfl⟩
section
variable (P:Program)(w:World)
def bW(H:Hp)(h:Heap)(a:Addr):HO->Prop
 | .lst xs=>xs.length<=sizeLine/\∃ (its:List Value) (n:Nat),aP xs its/\h.get? a=some { cls:=.type "list", data:=.seq its.toArray n }
 | .tup xs=>xs.length<=sizeLine/\∃ its:List Value,aP xs its/\fP h a its.toArray
 | .dK kvs=>kvs.length<=sizeLine/\(a==sysModules)=false/\∃ vs,KV kvs vs/\h.DictOf (bT P w) a vs
 | .dT kvs => kvs.length ≤ sizeLine ∧ (a == sysModules) = false ∧ ∃ xs : List (List Key × Addr × Value),
     Paired (λ(p:List Key×V) (q:List Key×Addr×Value)=>p.1=q.1/\H q.2.1=some (.tup (p.1.map kV))/\aO p.2 q.2.2) kvs xs /\
     ∃ o es ep,h.get? a=some o/\o.ExactDict/\o.data=.dict es ep/\es.toList=xs.map (entryOfKey (tupleKind (bT P w)))/\(xs.map (·.1)).Nodup
 | .set S n=>h.SetOf (bT P w) a S n
 | .ins C dx fs => H dx = some (.own a) ∧ fs.length ≤ 1000 ∧ dx ≠ a ∧ h.get? a = some (PySem.W.instObj C dx) ∧
     ∃ mA,h.Ns1 dx mA/\(∀ f,dN (fs.lookup f) (mA f))/\PySem.Within mA (fs.map (·.1))
 | .own _=>∃ o,h.get? a=some o
 | .xd fs=>∃ mA,h.Ns1 a mA/\∀ f,dN (fs.lookup f) (mA f)
 | .rng lo hi=>∃ t u v,h.get? a=some { cls:=.type "range", data:=.fields #[.int lo t,.int hi u,.int 1 v] }
 | .frz o u=>h.get? a=some o/\bW H h a u
 | .tbl ps=>h.get? a=some { cls:=.none,data:=.fields ps }
 | .met f x=>h.get? a=some (PySem.W.methodObj (.ref f) (.ref x))
 | .ext φ=>φ h/\(∃ o,h.get? a=some o)/\∀ h1 h2:Heap,φ h1->(∀ o,h1.get? a=some o->h2.get? a=some o)->φ h2
def HOk(H:Hp)(h:Heap):Prop:=∀ a o,H a=some o->bW P w H h a o
end
section
variable {P:Program}{w:World}{H H':Hp}{h h':Heap}{a:Addr}{o:HO}
theorem bW.lt(x:bW P w H h a o):a<h.objs.size:=by
 cases o with
 | lst xs=>obtain ⟨_,_,_,_,e⟩:=x;exact aPG e
 | tup xs=>obtain ⟨_,_,_,p⟩:=x;exact p.isTup.lt
 | dK kvs=>obtain ⟨_,_,_,_,o,_,_,e,_⟩:=x;exact aPG e
 | dT kvs=>obtain ⟨_,_,_,_,o,_,_,e,_⟩:=x;exact aPG e
 | set S n=>obtain ⟨o,_,_,_,e,_⟩:=x;exact aPG e
 | ins C dx fs=>obtain ⟨_,_,_,e,_⟩:=x;exact aPG e
 | own y=>obtain ⟨_,e⟩:=x;exact aPG e
 | xd fs=>obtain ⟨_,⟨_,_,_,e,_⟩,_⟩:=x;exact aPG e
 | rng lo hi=>obtain ⟨_,_,_,e⟩:=x;exact aPG e
 | frz ob u=>obtain ⟨e,_⟩:=x;exact aPG e
 | tbl ps=>exact aPG (show h.get? a=some _ from x)
 | met f y=>exact aPG (show h.get? a=some _ from x)
 | ext φ=>obtain ⟨_,⟨_,e⟩,_⟩:=x;exact aPG e
theorem Paired.mapP{α β:Type}{F G:α->β->Prop}:∀ {l₁:List α} {l₂:List β},Paired F l₁ l₂->(∀ a b,F a b->G a b)->Paired G l₁ l₂
 | _,_,.nil,_=>.nil
 | _,_,.cons r t,f=>.cons (f _ _ r) (Paired.mapP t f)
theorem bW.stay(x:bW P w H h a o)(k:∀ b u,(b=a\/H b=some (.own a))->h.get? b=some u->h'.get? b=some u)(ho:∀ b,H b=some (.own a)->H' b=some (.own a))(ht:∀ b xs,H b=some (.tup xs)->H' b=some (.tup xs)):bW P w H' h' a o:=by
 induction o with
 | lst xs=>obtain ⟨z,its,n,r,e⟩:=x;exact ⟨z,its,n,r,k _ _ (.inl rfl) e⟩
 | tup xs=>obtain ⟨z,its,r,ob,e,c⟩:=x;exact ⟨z,its,r,ob,k _ _ (.inl rfl) e,c⟩
 | dK kvs=>obtain ⟨z,y,vs,r,ob,es,ep,e,c⟩:=x;exact ⟨z,y,vs,r,ob,es,ep,k _ _ (.inl rfl) e,c⟩
 | dT kvs=>obtain ⟨z,y,xs,r,ob,es,ep,e,c⟩:=x;exact ⟨z,y,xs,Paired.mapP r λp q z=>⟨z.1,ht _ _ z.2.1,z.2.2⟩,ob,es,ep,k _ _ (.inl rfl) e,c⟩
 | set S n=>obtain ⟨ob,es,ep,t,e,c⟩:=x;exact ⟨ob,es,ep,t,k _ _ (.inl rfl) e,c⟩
 | ins C dx fs=>obtain ⟨d,z,ne,e,mA,⟨od,es,ep,e2,c⟩,r⟩:=x;exact ⟨ho _ d,z,ne,k _ _ (.inl rfl) e,mA,⟨od,es,ep,k _ _ (.inr d) e2,c⟩,r⟩
 | own y=>obtain ⟨ob,e⟩:=x;exact ⟨ob,k _ _ (.inl rfl) e⟩
 | xd fs=>obtain ⟨mA,⟨od,es,ep,e,c⟩,r⟩:=x;exact ⟨mA,⟨od,es,ep,k _ _ (.inl rfl) e,c⟩,r⟩
 | rng lo hi=>obtain ⟨t,u,v,e⟩:=x;exact ⟨t,u,v,k _ _ (.inl rfl) e⟩
 | frz ob u ih=>obtain ⟨e,q⟩:=x;exact ⟨k _ _ (.inl rfl) e,ih q⟩
 | tbl ps=>have e:h.get? a=some { cls:=.none,data:=.fields ps }:=x;show h'.get? a=some { cls:=.none,data:=.fields ps };exact k a _ (.inl rfl) e
 | met f y=>have e:h.get? a=some (PySem.W.methodObj (.ref f) (.ref y)):=x;show h'.get? a=some (PySem.W.methodObj (.ref f) (.ref y));exact k a _ (.inl rfl) e
 | ext φ=>obtain ⟨p,⟨o,e⟩,st⟩:=x;exact ⟨st _ _ p λo q=>k _ _ (.inl rfl) q,⟨o,k _ _ (.inl rfl) e⟩,st⟩
theorem HOk.lt(x:HOk P w H h)(e:H a=some o):a<h.objs.size:=(x a o e).lt
theorem HOk.fresh(x:HOk P w H h)(e:h.objs.size<=a):H a=none:=by
 cases q:H a with
 | none=>rfl
 | some u=>exact absurd (aPH (x.lt q) e) (aPI _)
theorem HOk.kept(x:HOk P w H h)(k:∀ b u,h.get? b=some u->h'.get? b=some u):HOk P w H h':=λa o e =>
 (x a o e).stay (λb u _ q=>k b u q) (λ_ q=>q) λ_ _ q=>q
theorem HOk.laid(x:HOk P w H h)(k:∀ b u,h.get? b=some u->h'.get? b=some u)(hp:h.objs.size<=a)(new:bW P w (upd H a o) h' a o):HOk P w (upd H a o) h':=λb u e=>by
 have hn:=x.fresh hp;by_cases hb:b=a
 . subst hb;rw[bV] at e;cases e;exact new
 . rw[aU hb] at e;exact (x b u e).stay (λc v _ q=>k c v q) (λc q=>by rw[aU (cO q hn)];exact q) λc xs q=>by rw[aU (cO q hn)];exact q
end
def Rd(H:Hp)(a:Addr)(u:HO):Prop:=H a=some u\/∃ o,H a=some (.frz o u)
theorem Rd.ok{P:Program}{w:World}{H:Hp}{h:Heap}{a:Addr}{u:HO}(r:Rd H a u)(x:HOk P w H h):bW P w H h a u:=by
 rcases r with r | ⟨o,r⟩
 . exact x a u r
 . obtain ⟨_,q⟩:=x a _ r;exact q
def Mut:Option HO->Prop
 | some (.lst _)=>True
 | some (.dK _)=>True
 | some (.dT _)=>True
 | some (.set _ _)=>True
 | some (.ins _ _ _)=>True
 | some (.ext _)=>True
 | _=>False
section
variable {P:Program}{w:World}{H:Hp}{h h':Heap}{x e:Addr}{o':HO}
theorem HOk.write(ok:HOk P w H h)(mu:Mut (H x))(he:e=x\/H e=some (.own x))(k:∀ b u,b≠e->h.get? b=some u->h'.get? b=some u)(heo:∃ u,h'.get? e=some u)(new:bW P w (upd H x o') h' x o'):HOk P w (upd H x o') h':=λb u q=>by
 have nown:∀ c y,H c=some (.own y)->c≠x:=λc y r z=>by subst z;rw[r] at mu;exact mu
 have ntup:∀ c xs,H c=some (.tup xs)->c≠x:=λc xs r z=>by subst z;rw[r] at mu;exact mu
 by_cases hb:b=x
 . subst hb;rw[bV] at q;cases q;exact new
 . rw[aU hb] at q;by_cases hbe:b=e
   . have q':H b=some (.own x):=by
       rcases he with z | z
       . exact absurd (hbe.trans z) hb
       . rw[hbe];exact z
     rw[q] at q';cases q';obtain ⟨v,hv⟩:=heo;exact ⟨v,by rw[hbe];exact hv⟩
   . refine (ok b u q).stay (λc v hc r=>k c v ?_ r) (λc r=>by rw[aU (nown c b r)];exact r) λc xs r=>by rw[aU (ntup c xs r)];exact r
     rcases hc with rfl | hc
     . exact hbe
     . rintro rfl;rcases he with z | z
       . exact nown c b hc z
       . rw[hc] at z;cases z;exact hb rfl
end
structure Un(fs ex:List Addr)(H H':Hp)(h h':Heap):Prop where
 keep:∀ b o,h.get? b=some o->H b=none->b∉fs->b∉ex->h'.get? b=some o
 slot:∀ b o,h.get? b=some o->H b=none->b∈fs->b∉ex->∃ sl,h'.get? b=some { o with slots:=sl }
 free:∀ b o,h.get? b=some o->H b=none->b∉ex->H' b=none
 there:∀ b o,h.get? b=some o->b∉ex->∃ o',h'.get? b=some o'
 tups:∀ b xs,H b=some (.tup xs)->H' b=some (.tup xs)
 frzs:∀ b o u,H b=some (.frz o u)->H' b=some (.frz o u)
 tbls:∀ b ps,H b=some (.tbl ps)->∃ more,H' b=some (.tbl (ps++more))
section
variable {fs fs' ex ex':List Addr}{H H1 H2:Hp}{h h1 h2 h':Heap}{a x e:Addr}{o:HO}
theorem Un.any(u:Un fs ex H H1 h h1){b:Addr}{ob:Obj}(q:h.get? b=some ob)(n:H b=none)(hx:b∉ex):∃ sl,h1.get? b=some { ob with slots:=sl }:=by
 by_cases hb:b∈fs
 . exact u.slot b ob q n hb hx
 . exact ⟨ob.slots,u.keep b ob q n hb hx⟩
theorem Un.kept(k:∀ b u,h.get? b=some u->h'.get? b=some u):Un fs ex H H h h' :=
 ⟨λb ob q _ _ _=>k b ob q,λb ob q _ _ _=>⟨ob.slots,k b ob q⟩,λ_ _ _ n _=>n,λb ob q _=>⟨ob,k b ob q⟩,λ_ _ q=>q,λ_ _ _ q=>q,λ_ ps q=>⟨#[],by rw[q];simp⟩⟩
theorem Un.refl:Un fs ex H H h h:=Un.kept λ_ _ q=>q
theorem Un.laid(k:∀ b u,h.get? b=some u->h'.get? b=some u)(hp:h.objs.size<=a)(hn:H a=none):Un fs ex H (upd H a o) h h' where
 keep:=λb u q _ _ _=>k b u q
 slot:=λb u q _ _ _=>⟨u.slots,k b u q⟩
 free:=λb u q n _=>by rw[aU (aPJ (aPH (aPG q) hp))];exact n
 there:=λb u q _=>⟨u,k b u q⟩
 tups:=λb xs q=>by rw[aU (cO q hn)];exact q
 frzs:=λb u xs q=>by rw[aU (cO q hn)];exact q
 tbls:=λb ps q=>⟨#[],by rw[aU (cO q hn),q];simp⟩
theorem Un.write(mu:Mut (H x))(he:e=x\/H e=some (.own x))(k:∀ b u,b≠e->h.get? b=some u->h'.get? b=some u)(heo:∃ u,h'.get? e=some u):Un fs ex H (upd H x o) h h':=by
 have hx:∀ b,H b=none->b≠x:=λb n z=>by subst z;rw[n] at mu;exact mu
 have hb:∀ b,H b=none->b≠e:=λb n z=>by
  subst z;rcases he with r | r
  . exact hx b n r
  . rw[n] at r;cases r
 have hm:∀ b u,H b=some u -> ¬ Mut (some u)->b≠x:=λb u q nm z=>by subst z;rw[q] at mu;exact nm mu
 refine ⟨λb u q n _ _=>k b u (hb b n) q,λb u q n _ _=>⟨u.slots,k b u (hb b n) q⟩,λb u q n _=>by rw[aU (hx b n)];exact n,λb u q _=>?_,
  λb xs q=>by rw[aU (hm b _ q λz=>z)];exact q,λb u xs q=>by rw[aU (hm b _ q λz=>z)];exact q,λb ps q=>⟨#[],by rw[aU (hm b _ q λz=>z),q];simp⟩⟩
 by_cases hbe:b=e
 . subst hbe;exact heo
 . exact ⟨u,k b u hbe q⟩
end
def trk(h:Heap)(H:Hp):List Addr:=(List.range h.objs.size).filter λa=>(H a).isSome
def fQ(h:Heap)(H:Hp):Heap:=PySem.W.hideAll h (trk h H)
theorem aCN(h:Heap)(H:Hp):(fQ h H).objs.size=h.objs.size:=PySem.W.hideAll_size _ _
theorem aCO{h:Heap}{H:Hp}{b:Addr}{o:Obj}(e:h.get? b=some o)(n:H b=none):(fQ h H).get? b=some o :=
 aPK _ e λhm=>by have q:(H b).isSome=true:=(aPL.mp hm).2;rw[n] at q;simp at q
theorem aCP{h:Heap}{H:Hp}{b:Addr}{o:Obj}(e:(fQ h H).get? b=some o):h.get? b=some o/\H b=none:=by
 have e':h.get? b=some o:=PySem.W.of_hideAll (trk h H) e;refine ⟨e',?_⟩;cases q:H b with
 | none=>rfl
 | some x =>
  have hm:b∈trk h H:=aPL.mpr ⟨aPM.mpr (aPG e'),by simp[q]⟩
  have z:(fQ h H).get? b=none:=PySem.W.hideAll_none (trk h H) hm;rw[z] at e;cases e
def aCQ(g h:Heap)(L:Addr):LAO:=(List.range h.objs.size).filterMap λa=>if a=L\/(g.get? a).isSome=true then none else (h.get? a).map λo=>(a,o)
def aZ(g h:Heap)(L d:Addr):LAO:=(aCQ g h L).filter λp=>decide (p.1≠d)
structure Mod(K:Fg)(mg:SOV)(base:Heap):Prop where
 kin:K.In base
 glob:base.Ns mainGlobals mg
 blt:∃ mb,base.Ns builtinsNs mb/\∀ x:Str,x ≠ "__name__" -> mb x=bootBuiltins x
 nolimit:base.NoLimit
structure Cx where
 prog:Program
 w:World
 K:Fg
 mg:SOV
 base:Heap
 A:Around
 N:List Str
 s₀:Shared
 H₀:Hp
 env:Env
 outer:List Env
 stack:List Env
 ex:List Addr
 fn:Str->Bool
 calm:Bool
 pn:LAO
 xe:VSP
def frs(l:List Env):List Addr:=l.filterMap (·.frame)
abbrev Cx.fs(X:Cx):List Addr:=frs X.outer
def Vis(sc:Scope)(x:Str):Prop:=sc.names.lookup x=some .local\/sc.names.lookup x=some .cell\/sc.names.lookup x=some .free
def Loc(sc:Scope)(x:Str):Prop:=sc.names.lookup x=some .local\/sc.names.lookup x=some .cell
def Look(env:Env)(h:Heap)(m:SOV)(x:Str)(u:Value):Prop :=
 (env.kindOf x=some .local/\m x=some u)\/((env.kindOf x=some .cell\/env.kindOf x=some .free)/\∃ c,env.cells.lookup x=some c/\h.IsCell c (some u))
structure Cx.Ok(X:Cx):Prop where
 mod:Mod X.K X.mg X.base
 kind:X.env.scope.kind=.function
 glob:X.env.globals=mainGlobals
 blt:X.env.builtins=builtinsNs
 above:X.s₀.heap.objs.size<=X.env.locals
 inj:∀ x y c,X.env.cells.lookup x=some c->X.env.cells.lookup y=some c->x=y
 has:∀ x,(X.env.kindOf x=some .cell\/X.env.kindOf x=some .free)->∃ c,X.env.cells.lookup x=some c
 cab:∀ x c,X.fn x=true->X.env.cells.lookup x=some c->X.s₀.heap.objs.size<=c
 hd:X.calm=true->X.A.handled=none
 frames:X.A.frames=some X.stack
 stk:X.stack=X.outer\/(X.stack=X.env::X.outer/\X.env.frame=some X.env.locals)
 exf:∀ b∈X.ex,b≠X.env.locals/\∀ x c,X.env.cells.lookup x=some c->c≠b
 bs:∀ b o,X.base.get? b=some o->X.s₀.heap.get? b=some o/\X.H₀ b=none
 bsz:X.base.objs.size<=X.s₀.heap.objs.size
 noex:∀ b o,X.base.get? b=some o->b∉X.ex
 exfs:∀ b∈X.ex,b∉X.fs
 funs:X.s₀.heap.FunFrames X.base X.outer
 frf:∀ b∈X.fs,X.H₀ b=none
structure Inv(X:Cx)(aA:LAO)(σ:List (Option V))(H:Hp)(s:Shared):Prop where
 ok:X.Ok
 os:s.os=X.s₀.os
 bare:AllBare s.gens
 base:Un X.fs X.ex X.H₀ H X.s₀.heap s.heap
 loc:∃ m,s.heap.Ns X.env.locals m/\∀ (i:Nat) (x:Str) (v:V),X.N[i]? = some x->σ[i]? = some (some v)->Vis X.env.scope x->∃ u,aO v u/\Look X.env s.heap m x u
 cell:∀ x c,X.env.cells.lookup x=some c->∃ v,s.heap.IsCell c v
 free:H X.env.locals=none
 freeC:∀ x c,X.env.cells.lookup x=some c->H c=none
 pin:∀ p∈X.pn++aA,s.heap.get? p.1=some p.2/\H p.1=none/\p.1≠X.env.locals/\p.1∉X.fs/\∀ v,p.2.data ≠ .cell v
 hok:HOk X.prog X.w H s.heap
 len:σ.length=X.N.length
section
variable {X:Cx}{aA:LAO}{σ:List (Option V)}{H H':Hp}{s:Shared}{h':Heap}
theorem Cx.Ok.nofr(ok:X.Ok){b:Addr}{o:Obj}(e:X.base.get? b=some o):b∉X.fs:=λhb=>by have:=(ok.funs.mem hb).1;rw[e] at this;cases this
theorem Inv.bs(I:Inv X aA σ H s):∀ b o,X.base.get? b=some o->s.heap.get? b=some o/\H b=none:=λb o e =>
 ⟨I.base.keep b o (I.ok.bs b o e).1 (I.ok.bs b o e).2 (I.ok.nofr e) (I.ok.noex b o e),I.base.free b o (I.ok.bs b o e).1 (I.ok.bs b o e).2 (I.ok.noex b o e)⟩
theorem Inv.bk(I:Inv X aA σ H s):∀ b o,X.base.get? b=some o->s.heap.get? b=some o:=λb o e=>(I.bs b o e).1
theorem Inv.mod(I:Inv X aA σ H s):Mod X.K X.mg X.base:=I.ok.mod
theorem Inv.kIn(I:Inv X aA σ H s):X.K.In s.heap:=I.ok.mod.kin.keeps I.bk
theorem Inv.lt(I:Inv X aA σ H s):X.env.locals<s.heap.objs.size:=let ⟨_,hn,_⟩:=I.loc;hn.lt
theorem Inv.sz(I:Inv X aA σ H s):X.s₀.heap.objs.size<=s.heap.objs.size:=aPN I.ok.above (Nat.le_of_lt I.lt)
theorem Inv.nofs(I:Inv X aA σ H s){a:Addr}(h:s.heap.objs.size<=a):a∉X.fs:=λhb=>by obtain ⟨_,o,ho,_⟩:=I.ok.funs.mem hb;exact absurd (aPH (aPG ho) (aPN I.sz h)) (aPI _)
theorem Inv.cne(I:Inv X aA σ H s):∀ x c,X.env.cells.lookup x=some c->c≠X.env.locals:=λx c e z=>by obtain ⟨v,o,ho,hd⟩:=I.cell x c e;obtain ⟨m,⟨o',es,ep,ho',hd',_⟩,_⟩:=I.loc;rw[z,ho'] at ho;cases ho;rw[hd'] at hd;cases hd
theorem Inv.funs(I:Inv X aA σ H s):s.heap.FunFrames X.base X.outer:=by
 have all:∀ (l:List Env),(∀ b∈frs l,b∈X.fs)->X.s₀.heap.FunFrames X.base l->s.heap.FunFrames X.base l:=by
  intro l
  induction l with
  | nil=>intro _ _;trivial
  | cons env r ih =>
   intro hs hl;obtain ⟨hk,⟨L,o,hf,hn,ho,hd⟩,hr⟩:=hl;have hL:L∈X.fs:=hs L (by unfold frs;rw[aPO,hf];exact mcs)
   obtain ⟨sl,e⟩:=I.base.slot L o ho (I.ok.frf L hL) hL λz=>I.ok.exfs L z hL;exact ⟨hk,⟨L,_,hf,hn,e,hd⟩,ih (λb hb=>hs b (by unfold frs;rw[aPO,hf];exact mcm hb)) hr⟩
 exact all X.outer (λ_ hb=>hb) I.ok.funs
theorem Inv.stack(I:Inv X aA σ H s):s.heap.FunFrames X.base X.stack:=by
 rcases I.ok.stk with e | ⟨e,hf⟩
 . rw[e];exact I.funs
 . rw[e];obtain ⟨m,hn,_⟩:=I.loc;refine .cons (by rw[I.ok.kind];decide) hf hn ?_ I.funs
   exact Heap.get?_none_of_le (aPN I.ok.bsz I.ok.above)
theorem Inv.stkSub(I:Inv X aA σ H s):∀ b∈frs X.stack,b∈X.env.locals::X.fs:=λb hb=>by
 rcases I.ok.stk with e | ⟨e,hf⟩
 . rw[e] at hb;exact mcm hb
 . rw[e] at hb;unfold frs at hb;rw[aPO,hf] at hb;exact hb
theorem Inv.stkFree(I:Inv X aA σ H s):∀ b∈frs X.stack,H b=none:=λb hb=>by
 rcases aPP.mp (I.stkSub b hb) with e | hb
 . rw[e];exact I.free
 . obtain ⟨_,o,ho,_⟩:=I.ok.funs.mem hb;exact I.base.free b o ho (I.ok.frf b hb) λz=>I.ok.exfs b z hb
theorem Inv.step{g':Array GenState}{t':Nat}{d':Drawn}{ch:List Addr}(I:Inv X aA σ H s)(hch:∀ b∈ch,(b∈X.ex\/X.s₀.heap.objs.size<=b)/\b≠X.env.locals/\(∀ x c,X.env.cells.lookup x=some c->c≠b)/\∀ p∈X.pn++aA,p.1≠b)(keep:∀ b o,b≠X.env.locals->b∉X.fs->b∉ch->s.heap.get? b=some o->H b=none->h'.get? b=some o)(slot:∀ b o,b≠X.env.locals->b∈X.fs->b∉ch->s.heap.get? b=some o->H b=none->∃ sl,h'.get? b=some { o with slots:=sl })(free:∀ b o,b∉ch->s.heap.get? b=some o->H b=none->H' b=none)(there:∀ b o,b∉ch->s.heap.get? b=some o->∃ o',h'.get? b=some o')(tups:∀ b xs,H b=some (.tup xs)->H' b=some (.tup xs))(frzs:∀ b o u,H b=some (.frz o u)->H' b=some (.frz o u))(tbls:∀ b ps,H b=some (.tbl ps)->∃ more,H' b=some (.tbl (ps++more)))(ns:∀ m,s.heap.Ns X.env.locals m->h'.Ns X.env.locals m)(hok:HOk X.prog X.w H' h')(hg:AllBare g'):Inv X aA σ H' { s with heap:=h',gens:=g',drawn:=d',toks:=t' }:=by
 have neL:∀ b o,X.s₀.heap.get? b=some o->b≠X.env.locals:=λb o e=>aPJ (aPH (aPG e) I.ok.above);have neC:∀ b o,X.s₀.heap.get? b=some o->b∉X.ex->b∉ch:=λb o e hx hb=>by
  rcases (hch b hb).1 with z | z
  . exact hx z
  . exact absurd (aPH (aPG e) z) (aPI _)
 have cellK:∀ x c,X.env.cells.lookup x=some c->∀ v,s.heap.IsCell c v->h'.IsCell c v:=λx c e v ⟨o,ho,hd⟩=>by
  have nch:c∉ch:=λz=>(hch c z).2.2.1 x c e rfl;by_cases hc:c∈X.fs
  . obtain ⟨sl,q⟩:=slot c o (I.cne x c e) hc nch ho (I.freeC x c e);exact ⟨_,q,hd⟩
  . exact ⟨o,keep c o (I.cne x c e) hc nch ho (I.freeC x c e),hd⟩
 refine ⟨I.ok,I.os,hg,⟨λb o e n hb hx=>?_,λb o e n hb hx=>?_,λb o e n hx=>?_,λb o e hx=>?_,λb xs e=>tups b xs (I.base.tups b xs e),λb o xs e=>frzs b o xs (I.base.frzs b o xs e),λb ps e=>?_⟩,?_,λx c e=>?_,?_,λx c e=>?_,λp hp=>?_,hok,I.len⟩
 . exact keep b o (neL b o e) hb (neC b o e hx) (I.base.keep b o e n hb hx) (I.base.free b o e n hx)
 . obtain ⟨sl,e1⟩:=I.base.slot b o e n hb hx;obtain ⟨sl',e2⟩:=slot b _ (neL b o e) hb (neC b o e hx) e1 (I.base.free b o e n hx);exact ⟨sl',e2⟩
 . obtain ⟨o',e1⟩:=I.base.there b o e hx;exact free b o' (neC b o e hx) e1 (I.base.free b o e n hx)
 . obtain ⟨o',e1⟩:=I.base.there b o e hx;exact there b o' (neC b o e hx) e1
 . obtain ⟨m1,e1⟩:=I.base.tbls b ps e;obtain ⟨m2,e2⟩:=tbls b _ e1;exact ⟨m1++m2,by rw[e2,Array.append_assoc]⟩
 . obtain ⟨m,hn,hl⟩:=I.loc;refine ⟨m,ns m hn,λi x v e1 e2 e3=>?_⟩;obtain ⟨u,r,l⟩:=hl i x v e1 e2 e3;refine ⟨u,r,?_⟩;rcases l with l | ⟨k,c,e,z⟩
   . exact .inl l
   . exact .inr ⟨k,c,e,cellK x c e _ z⟩
 . obtain ⟨v,z⟩:=I.cell x c e;exact ⟨v,cellK x c e v z⟩
 . obtain ⟨m,⟨o,_,_,ho,_⟩,_⟩:=I.loc;exact free _ o (λz=>(hch _ z).2.1 rfl) ho I.free
 . obtain ⟨v,o,ho,hd⟩:=I.cell x c e;exact free c o (λz=>(hch c z).2.2.1 x c e rfl) ho (I.freeC x c e)
 . obtain ⟨e,n,ne,nf,d⟩:=I.pin p hp;have nch:p.1∉ch:=λz=>(hch p.1 z).2.2.2 p hp rfl;exact ⟨keep p.1 p.2 ne nf nch e n,free p.1 p.2 nch e n,ne,nf,d⟩
theorem Inv.un{t':Nat}(I:Inv X aA σ H s)(u:Un X.fs [] H H' s.heap h')(hok:HOk X.prog X.w H' h'):Inv X aA σ H' { s with heap:=h',toks:=t' }:=by
 obtain ⟨m,⟨o,es,ep,ho,r⟩,_⟩:=id I.loc;obtain ⟨sl,hL⟩:=u.any ho I.free (by simp)
 exact I.step (g':=s.gens) (d':=s.drawn) (ch:=[]) (λ_ z=>nomatch z) (λb o _ hb _ e n=>u.keep b o e n hb (by simp)) (λb o _ hb _ e n=>u.slot b o e n hb (by simp)) (λb o _ e n=>u.free b o e n (by simp)) (λb o _ e=>u.there b o e (by simp)) u.tups u.frzs u.tbls (λm' hm=>by
  obtain ⟨o',es',ep',ho',r'⟩:=hm;rw[ho] at ho';cases ho';exact ⟨_,es',ep',hL,r'⟩) hok I.bare
theorem Inv.call{g':Array GenState}{t':Nat}{d':Drawn}{ch:List Addr}(I:Inv X aA σ H s)(u:Un (frs X.stack) ch H H' s.heap h')(hok:HOk X.prog X.w H' h')(hg:AllBare g')(hch:∀ b∈ch,(b∈X.ex\/X.s₀.heap.objs.size<=b)/\b≠X.env.locals/\(∀ x c,X.env.cells.lookup x=some c->c≠b)/\∀ p∈X.pn++aA,p.1≠b):Inv X aA σ H' { s with heap:=h',gens:=g',drawn:=d',toks:=t' }:=by
 obtain ⟨m,⟨o,es,ep,ho,r⟩,_⟩:=id I.loc;obtain ⟨sl,hL⟩:=u.any ho I.free λz=>(hch _ z).2.1 rfl;exact I.step (ch:=ch) hch (λb o hL hb hc e n=>u.keep b o e n (λz=>(aPP.mp (I.stkSub b z)).elim hL hb) hc) (λb o _ _ hc e n=>u.any e n hc) (λb o hc e n=>u.free b o e n hc) (λb o hc e=>u.there b o e hc) u.tups u.frzs u.tbls (λm' hm=>by
  obtain ⟨o',es',ep',ho',r'⟩:=hm;rw[ho] at ho';cases ho';exact ⟨_,es',ep',hL,r'⟩) hok hg
theorem Inv.turned{t':Nat}{it:Addr}(I:Inv X aA σ H s)(k:∀ b o,b≠it->s.heap.get? b=some o->h'.get? b=some o)(hn:H it=none)(hL:it≠X.env.locals)(h1:it∈X.ex\/X.s₀.heap.objs.size<=it)(h2:∀ x c,X.env.cells.lookup x=some c->c≠it)(h3:∀ p∈X.pn++aA,p.1≠it):Inv X aA σ H { s with heap:=h',toks:=t' }:=by
 have nit:∀ b u,H b=some u->b≠it:=λb u e z=>by rw[z,hn] at e;cases e
 refine I.step (g':=s.gens) (d':=s.drawn) (ch:=[it]) (λb hb=>?_) (λb o _ _ hc e _=>k b o (λz=>hc (by simp[z])) e) (λb o _ _ hc e _=>⟨o.slots,k b o (λz=>hc (by simp[z])) e⟩) (λ_ _ _ _ n=>n)
  (λb o hc e=>⟨o,k b o (λz=>hc (by simp[z])) e⟩) (λ_ _ e=>e) (λ_ _ _ e=>e) (λb ps e=>⟨#[],by rw[e];simp⟩) (λm hm=>?_) (λb u e=>?_) I.bare
 . have e:b=it:=by simpa using hb
   subst e;exact ⟨h1,hL,h2,h3⟩
 . obtain ⟨o,es,ep,ho,r⟩:=hm;exact ⟨o,es,ep,k _ o (Ne.symm hL) ho,r⟩
 . refine (I.hok b u e).stay (λc v hc q=>k c v ?_ q) (λ_ q=>q) λ_ _ q=>q;rcases hc with z | z
   . rw[z];exact nit b u e
   . exact nit c _ z
theorem Inv.tok(I:Inv X aA σ H s)(t:Nat):Inv X aA σ H { s with toks:=t }:=I.un (h':=s.heap) (t':=t) Un.refl I.hok
theorem Inv.kept{t':Nat}(I:Inv X aA σ H s)(k:∀ b u,s.heap.get? b=some u->h'.get? b=some u):Inv X aA σ H { s with heap:=h',toks:=t' }:=I.un (Un.kept k) (I.hok.kept k)
theorem Inv.laid{a:Addr}{o:HO}{t':Nat}(I:Inv X aA σ H s)(k:∀ b u,s.heap.get? b=some u->h'.get? b=some u)(hp:s.heap.objs.size<=a)(new:bW X.prog X.w (upd H a o) h' a o):Inv X aA σ (upd H a o) { s with heap:=h',toks:=t' }:=I.un (Un.laid k hp (I.hok.fresh hp)) (I.hok.laid k hp new)
theorem Inv.write{x e:Addr}{o:HO}{t':Nat}(I:Inv X aA σ H s)(mu:Mut (H x))(he:e=x\/H e=some (.own x))(k:∀ b u,b≠e->s.heap.get? b=some u->h'.get? b=some u)(heo:∃ u,h'.get? e=some u)(new:bW X.prog X.w (upd H x o) h' x o):Inv X aA σ (upd H x o) { s with heap:=h',toks:=t' }:=I.un (Un.write mu he k heo) (I.hok.write mu he k heo new)
theorem Inv.weak{σ':List (Option V)}(I:Inv X aA σ H s)(hl:σ'.length=σ.length)(w:∀ (i:Nat) v,σ'[i]? = some (some v)->σ[i]? = some (some v)):Inv X aA σ' H s :=
 ⟨I.ok,I.os,I.bare,I.base,let ⟨m,hn,hl'⟩:=I.loc;⟨m,hn,λi x v e1 e2 e3=>hl' i x v e1 (w i v e2) e3⟩,I.cell,I.free,I.freeC,I.pin,I.hok,hl.trans I.len⟩
theorem Inv.pins_of{pins':LAO}(I:Inv X aA σ H s)(h:∀ p∈pins',s.heap.get? p.1=some p.2/\H p.1=none/\p.1≠X.env.locals/\p.1∉X.fs/\∀ v,p.2.data ≠ .cell v):Inv X pins' σ H s :=
 ⟨I.ok,I.os,I.bare,I.base,I.loc,I.cell,I.free,I.freeC,λp hp=>(aPQ.mp hp).elim (λz=>I.pin p (aPR _ z)) (h p),I.hok,I.len⟩
theorem uQ{N:List Str}(hN:N.Nodup){i j:Nat}{x:Str}(a:N[i]? = some x)(b:N[j]? = some x):i=j:=by obtain ⟨h1,e1⟩:=aPS.mp a;obtain ⟨h2,e2⟩:=aPS.mp b;exact (List.getElem_inj hN).mp (e1.trans e2.symm)
theorem uR{M:Model}{A:Around}{E:VSP}{i:Nat}{x:Str}{v:V}{u:Value}{Q:Unit->Shared->Prop}(I:Inv X aA σ H s)(hN:X.N.Nodup)(hi:X.N[i]? = some x)(hx:Loc X.env.scope x)(r:aO v u)(h:∀ s',Inv X aA (σ.set i (some v)) H s'->(∃ a,Heap.SameBut a s.heap s'.heap/\(a=X.env.locals\/X.env.cells.lookup x=some a))->Q () s')(hf:X.fn x=true\/X.env.scope.names.lookup x=some .local:=by first | exact .inl rfl | exact .inr rfl | assumption):wpAny M A (storeName X.env x u) Q E s:=by
 obtain ⟨m,hn,hl⟩:=id I.loc;have hcls:(X.env.scope.kind == .class||(X.env.scope.kind == .module&&X.env.locals != X.env.globals))=false:=by rw[I.ok.kind];rfl
 have hiσ:i<σ.length:=by rw[I.len];exact (aPS.mp hi).1
 have cne:=I.cne;have tracked:∀ {a:Addr} {h':Heap},(∃ o,s.heap.get? a=some o/\H a=none)->Heap.SameBut a s.heap h'->HOk X.prog X.w H h':=λ{a h'} ha hs b ob e=>by
  obtain ⟨_,_,dM⟩:=ha;refine (I.hok b ob e).stay (λc w' hc q=>(hs.2 c ?_).trans q) (λ_ q=>q) λ_ _ q=>q;rintro rfl;rcases hc with rfl | hc
  . rw[dM] at e;cases e
  . rw[dM] at hc;cases hc
 rcases hx with hk | hk
 . refine wpAny_storeName_local hk hn (λh' hn' hs=>?_) hcls;obtain ⟨oL,_,_,hoL,_⟩:=id hn;refine h _ ⟨I.ok,I.os,I.bare,⟨λb o e n hb hx=>?_,λb o e n hb hx=>?_,I.base.free,λb o e hx=>?_,I.base.tups,I.base.frzs,I.base.tbls⟩,⟨_,hn',λj y v' e1 e2 e3=>?_⟩,λy c e=>?_,I.free,I.freeC,λp hp=>?_,tracked ⟨oL,hoL,I.free⟩ hs,by simpa using I.len⟩ ⟨_,hs,.inl rfl⟩
   . exact (hs.2 b (aPJ (aPH (aPG e) I.ok.above))).trans (I.base.keep b o e n hb hx)
   . obtain ⟨sl,e1⟩:=I.base.slot b o e n hb hx;exact ⟨sl,(hs.2 b (aPJ (aPH (aPG e) I.ok.above))).trans e1⟩
   . obtain ⟨o',e1⟩:=I.base.there b o e hx;exact ⟨o',(hs.2 b (aPJ (aPH (aPG e) I.ok.above))).trans e1⟩
   . by_cases hj:j=i
     . subst hj;rw[hi] at e1;cases e1;rw[aPT hiσ] at e2;cases e2;exact ⟨u,r,.inl ⟨hk,by simp⟩⟩
     . rw[aPU (Ne.symm hj)] at e2;obtain ⟨u',r',q⟩:=hl j y v' e1 e2 e3;refine ⟨u',r',?_⟩;rcases q with ⟨k,e⟩ | ⟨k,c,e,z⟩
       . refine .inl ⟨k,?_⟩;have:y≠x:=λe=>hj (uQ hN e1 (e ▸ hi));simp[this,e]
       . exact .inr ⟨k,c,e,z.sameBut hs (cne y c e)⟩
   . obtain ⟨w',z⟩:=I.cell y c e;exact ⟨w',z.sameBut hs (cne y c e)⟩
   . obtain ⟨e,n,ne,nf,d⟩:=I.pin p hp;exact ⟨(hs.2 p.1 ne).trans e,n,ne,nf,d⟩
 . have hfn:X.fn x=true:=by
     rcases hf with z | z
     . exact z
     . rw[z] at hk;cases hk
   obtain ⟨c,hc⟩:=I.ok.has x (.inl hk);obtain ⟨w',z⟩:=I.cell x c hc;refine wpAny_storeName_cell I.ok.kind hk hc z (λh' hc' hs=>?_);obtain ⟨oc,hoc,hocd⟩:=id z;refine h { s with heap:=h' } ⟨I.ok,I.os,I.bare,⟨λb o e n hb hx=>?_,λb o e n hb hx=>?_,I.base.free,λb o e hx=>?_,I.base.tups,I.base.frzs,I.base.tbls⟩,⟨m,hn.sameBut hs (Ne.symm (cne x c hc)),λj y v' e1 e2 e3=>?_⟩,λy c' e=>?_,I.free,I.freeC,λp hp=>?_,tracked ⟨oc,hoc,I.freeC x c hc⟩ hs,by simpa using I.len⟩ ⟨c,hs,.inr hc⟩
   . exact (hs.2 b (aPJ (aPH (aPG e) (I.ok.cab x c hfn hc)))).trans (I.base.keep b o e n hb hx)
   . obtain ⟨sl,e1⟩:=I.base.slot b o e n hb hx;exact ⟨sl,(hs.2 b (aPJ (aPH (aPG e) (I.ok.cab x c hfn hc)))).trans e1⟩
   . obtain ⟨o',e1⟩:=I.base.there b o e hx;exact ⟨o',(hs.2 b (aPJ (aPH (aPG e) (I.ok.cab x c hfn hc)))).trans e1⟩
   . by_cases hj:j=i
     . subst hj;rw[hi] at e1;cases e1;rw[aPT hiσ] at e2;cases e2;exact ⟨u,r,.inr ⟨.inl hk,c,hc,hc'⟩⟩
     . rw[aPU (Ne.symm hj)] at e2;obtain ⟨u',r',q⟩:=hl j y v' e1 e2 e3;refine ⟨u',r',?_⟩;rcases q with q | ⟨k,c',e,z'⟩
       . exact .inl q
       . refine .inr ⟨k,c',e,z'.sameBut hs ?_⟩;rintro rfl;exact hj (uQ hN e1 (I.ok.inj _ _ _ e hc ▸ hi))
   . by_cases hcc:c'=c
     . subst hcc;exact ⟨_,hc'⟩
     . obtain ⟨w2,z2⟩:=I.cell y c' e;exact ⟨w2,z2.sameBut hs hcc⟩
   . obtain ⟨e,n,ne,nf,d⟩:=I.pin p hp;refine ⟨(hs.2 p.1 ?_).trans e,n,ne,nf,d⟩;intro q;rw[q,hoc] at e;have q':oc=p.2:=aPE e;exact d w' (by rw[<- q'];exact hocd)
theorem mX{M:Model}{A:Around}{E:VSP}{i:Nat}{x:Str}{v:V}{u:Value}{Q:Unit->Shared->Prop}(I:Inv X aA σ H s)(hN:X.N.Nodup)(hi:X.N[i]? = some x)(hx:Loc X.env.scope x)(r:aO v u)(h:∀ s',Inv X aA (σ.set i (some v)) H s'->Q () s')(hf:X.fn x=true\/X.env.scope.names.lookup x=some .local:=by first | exact .inl rfl | exact .inr rfl | assumption):wpAny M A (storeName X.env x u) Q E s :=
 uR I hN hi hx r (λs' I' _=>h s' I') hf
theorem Inv.call'{s':Shared}{ch:List Addr}(I:Inv X aA σ H s)(ho:s'.os=s.os)(u:Un (frs X.stack) ch H H' s.heap s'.heap)(hok:HOk X.prog X.w H' s'.heap)(hg:AllBare s'.gens)(hch:∀ b∈ch,(b∈X.ex\/X.s₀.heap.objs.size<=b)/\b≠X.env.locals/\(∀ x c,X.env.cells.lookup x=some c->c≠b)/\∀ p∈X.pn++aA,p.1≠b):Inv X aA σ H' s':=by obtain ⟨h',g',d',t',o'⟩:=s';have e:o'=s.os:=ho;subst e;exact I.call (g':=g') (t':=t') (d':=d') u hok hg hch
end
abbrev XK:=Value->Option Addr->Hp->Prop
abbrev St:=List (Option V)
abbrev VK:=V->Hp->Prop
abbrev TE:=St->Hp->VK->Prop
abbrev TT:=St->Hp->(Bool->Hp->Prop)->Prop
abbrev TA:=St->Hp->(List V->Hp->Prop)->Prop
structure e7 where
 nx:St->Hp->Prop
 rt:VK
 bk:St->Hp->Prop:=λ_ _=>False
 ct:St->Hp->Prop:=λ_ _=>False
abbrev TS:=e7->St->Hp->Prop
def EP(X:Cx)(aA:LAO)(σ:St)(Q:VK)(u:Value)(s':Shared):Prop:=∃ v H',Inv X aA σ H' s'/\aO v u/\Q v H'
def TP(X:Cx)(aA:LAO)(σ:St)(Q:Bool->Hp->Prop)(b:Bool)(s':Shared):Prop:=∃ H',Inv X aA σ H' s'/\Q b H'
def AP(X:Cx)(aA:LAO)(σ:St)(Q:List V->Hp->Prop)(us:List Value)(s':Shared):Prop:=∃ vs H',Inv X aA σ H' s'/\aP vs us/\Q vs H'
def SP(X:Cx)(aA:LAO)(D:e7)(f:Flow)(s':Shared):Prop :=
 match f with
 | .next=>∃ σ' H',Inv X aA σ' H' s'/\D.nx σ' H'
 | .brk=>∃ σ' H',Inv X aA σ' H' s'/\D.bk σ' H'
 | .cont=>∃ σ' H',Inv X aA σ' H' s'/\D.ct σ' H'
 | .ret u=>∃ v σ' H',Inv X aA σ' H' s'/\aO v u/\D.rt v H'
def PE(X:Cx)(e:Expr)(t:TE):Prop :=
 ∀ (aA:LAO) (s:Shared) (σ:St) (H:Hp) (Q:VK),Inv X aA σ H s->t σ H Q->wpAny (model X.prog X.w) X.A (eval e X.env) (EP X aA σ Q) X.xe s
def PT(X:Cx)(e:Expr)(t:TT):Prop :=
 ∀ (aA:LAO) (s:Shared) (σ:St) (H:Hp) (Q:Bool->Hp->Prop),Inv X aA σ H s->t σ H Q->wpAny (model X.prog X.w) X.A (isTrue e X.env (eval e X.env)) (TP X aA σ Q) X.xe s
def PW(X:Cx)(e:Expr)(t:TT):Prop :=
 ∀ (whole:Sem Value) (aA:LAO) (s:Shared) (σ:St) (H:Hp) (Q:Bool->Hp->Prop),Inv X aA σ H s->t σ H Q->wpAny (model X.prog X.w) X.A (isTrue e X.env whole) (TP X aA σ Q) X.xe s
theorem PW.pt{X:Cx}{e:Expr}{t:TT}(h:PW X e t):PT X e t:=h _
def PA(X:Cx)(es:List Expr)(t:TA):Prop :=
 ∀ (pos:Pos) (aA:LAO) (s:Shared) (σ:St) (H:Hp) (Q:List V->Hp->Prop),Inv X aA σ H s->t σ H Q->wpAny (model X.prog X.w) X.A (spliced (backTo pos (starEach es X.env))) (AP X aA σ Q) X.xe s
def PS(X:Cx)(st:Stmt)(t:TS):Prop :=
 ∀ (aA:LAO) (s:Shared) (σ:St) (H:Hp) (D:e7),Inv X aA σ H s->t D σ H->wpAny (model X.prog X.w) X.A (exec st X.env) (SP X aA D) X.xe s
def PSs(X:Cx)(st:List Stmt)(t:TS):Prop :=
 ∀ (aA:LAO) (s:Shared) (σ:St) (H:Hp) (D:e7),Inv X aA σ H s->t D σ H->wpAny (model X.prog X.w) X.A (execs st X.env) (SP X aA D) X.xe s
theorem thn{α:Type}{t:Sem α}{Q Q':α->Shared->Prop}{M:Model}{A:Around}{E:VSP}{s:Shared}(h:wpAny M A t Q E s)(hQ:∀ a s,Q a s->Q' a s):wpAny M A t Q' E s:=aPV h hQ λ_ _ x=>x
section
variable {X:Cx}
def iF(i:Nat):TE:=λσ H Q=>∃ v,σ[i]? = some (some v)/\Q v H
def tC(v:V):TE:=λ_ H Q=>Q v H
theorem jE{i:Nat}{x:Str}{pos:Pos}(hN:X.N[i]? = some x)(hv:Vis X.env.scope x)(hd:(x==("__debug__" : Str))=false:=by decide)(hcd:(x==("__classdict__" : Str))=false:=by decide):PE X (.Name x pos) (iF i):=by
 intro aA s σ H Q I h;obtain ⟨v,e,h⟩:=h;obtain ⟨m,hn,hl⟩:=I.loc;obtain ⟨u,r,l⟩:=hl i x v hN e hv;have fin:EP X aA σ Q u s:=⟨v,H,I,r,h⟩;rcases l with ⟨hk,hm⟩ | ⟨hk,c,hc,cV⟩
 . exact wpAny_Name (wpAny_loadName_local I.ok.kind hk hn hm fin) hd
 . rcases hk with hk | hk
   . exact wpAny_Name (wpAny_loadName_cell I.ok.kind hk hc cV fin) hd
   . exact wpAny_Name (wpAny_loadName_free I.ok.kind hk hc cV fin hcd) hd
theorem aCR{i j pos}:PE X (.Constant (.int i) j pos) (tC (.int i)):=λ_ _ _ H _ I h=>wpAny_Constant_int ⟨.int i,H,I.tok _,⟨_,rfl⟩,h⟩
theorem pe_bl{b j pos}:PE X (.Constant (.bool b) j pos) (tC (.bl b)):=λ_ _ _ H _ I h=>Constant_bool ⟨.bl b,H,I,rfl,h⟩
theorem aCS{j pos}:PE X (.Constant .none j pos) (tC .non):=λ_ _ _ H _ I h=>Constant_none ⟨.non,H,I,rfl,h⟩
theorem aCT{x j pos}:PE X (.Constant (.str x) j pos) (tC (.str x)):=λ_ _ _ H _ I h=>Calls.Constant_str ⟨.str x,H,I.tok _,⟨_,rfl⟩,h⟩
def Gl(X:Cx)(x:Str):Prop:=X.env.kindOf x=some .globalImplicit
theorem mY{E:VSP}{aA:LAO}{s:Shared}{σ:St}{H:Hp}{x:Str}{u:Value}{pos:Pos}{Q:VSP}(I:Inv X aA σ H s)(hg:Gl X x)(hm:X.mg x=some u)(h:Q u s)(hd:(x==("__debug__" : Str))=false:=by decide):wpAny (model X.prog X.w) X.A (eval (.Name x pos) X.env) Q E s :=
 Calls.Name_function_global I.ok.kind hg (Calls.loadGlobal_global (by rw[I.ok.glob];exact I.mod.glob.keeps I.bk) hm h) hd
theorem gK{E:VSP}{aA:LAO}{s:Shared}{σ:St}{H:Hp}{x:Str}{u:Value}{pos:Pos}{Q:VSP}(I:Inv X aA σ H s)(hg:Gl X x)(hm:X.mg x=none)(hv:bootBuiltins x=some u)(h:Q u s)(hn:x ≠ "__name__" := by decide)(hd:(x==("__debug__" : Str))=false:=by decide):wpAny (model X.prog X.w) X.A (eval (.Name x pos) X.env) Q E s:=by obtain ⟨mb,h1,h2⟩:=I.mod.blt;exact Calls.Name_function_global I.ok.kind hg (Calls.loadGlobal_builtin (by rw[I.ok.glob];exact I.mod.glob.keeps I.bk) hm (by rw[I.ok.blt];exact h1.keeps I.bk) ((h2 x hn).trans hv) h) hd
theorem uS{x:Str}{v:V}{u:Value}{pos:Pos}(hg:Gl X x)(hm:X.mg x=some u)(r:aO v u)(hd:(x==("__debug__" : Str))=false:=by decide):PE X (.Name x pos) (tC v) :=
 λ_ _ _ H _ I h=>mY I hg hm ⟨v,H,I,r,h⟩ hd
theorem aCU{x:Str}{v:V}{u:Value}{pos:Pos}(hg:Gl X x)(hm:X.mg x=none)(hv:bootBuiltins x=some u)(r:aO v u)(hn:x ≠ "__name__" := by decide)(hd:(x==("__debug__" : Str))=false:=by decide):PE X (.Name x pos) (tC v) :=
 λ_ _ _ H _ I h=>gK I hg hm hv ⟨v,H,I,r,h⟩ hn hd
variable {a b:Expr}{ta tb:TE}{pos:Pos}
variable {tA tB':TT}{aZ:List Expr}
def qJ(t u:TT):TT:=λσ H Q=>t σ H λc H1=>if c=true then u σ H1 Q else Q false H1
def tOr(t u:TT):TT:=λσ H Q=>t σ H λc H1=>if c=true then Q true H1 else u σ H1 Q
def tNot(t:TT):TT:=λσ H Q=>t σ H λc H1=>Q (!c) H1
theorem aCV(ha:PT X a tA):PW X (.BoolOp .And [a] pos) tA:=by
 intro wh aA s σ H Q I h;refine isTrue_and (thn (ha aA s σ H Q I h) λc s1 e=>?_);cases c with
 | true=>exact isTrue_and_nil e
 | false=>exact e
theorem aCW(ha:PT X a tA):PW X (.BoolOp .Or [a] pos) tA:=by
 intro wh aA s σ H Q I h;refine isTrue_or (thn (ha aA s σ H Q I h) λc s1 e=>?_);cases c with
 | false=>exact isTrue_or_nil e
 | true=>exact e
theorem aCX(ha:PT X a tA)(hb:PW X (.BoolOp .And (b::aZ) pos) tB'):PW X (.BoolOp .And (a::b::aZ) pos) (qJ tA tB'):=by
 intro wh aA s σ H Q I h;refine isTrue_and (thn (ha aA s σ H _ I h) λc s1 ⟨H1,I1,q1⟩=>?_);cases c with
 | true=>exact hb wh aA s1 σ H1 Q I1 q1
 | false=>exact ⟨H1,I1,q1⟩
theorem pw_or(ha:PT X a tA)(hb:PW X (.BoolOp .Or (b::aZ) pos) tB'):PW X (.BoolOp .Or (a::b::aZ) pos) (tOr tA tB'):=by
 intro wh aA s σ H Q I h;refine isTrue_or (thn (ha aA s σ H _ I h) λc s1 ⟨H1,I1,q1⟩=>?_);cases c with
 | true=>exact ⟨H1,I1,q1⟩
 | false=>exact hb wh aA s1 σ H1 Q I1 q1
theorem aCY(ha:PT X a tA):PT X (.UnaryOp .Not a pos) (tNot tA):=by intro aA s σ H Q I h;exact isTrue_not (ha aA s σ H (λc H1=>Q (!c) H1) I h)
def uT(ta tb:TE):TE:=λσ H Q=>ta σ H λx H1=>∃ c,x=.bl c/\if c=true then tb σ H1 Q else Q (.bl false) H1
def tOrV(ta tb:TE):TE:=λσ H Q=>ta σ H λx H1=>∃ c,x=.bl c/\if c=true then Q (.bl true) H1 else tb σ H1 Q
def uU(ta:TE):TE:=λσ H Q=>ta σ H λx H1=>∃ c,x=.bl c/\Q (.bl (!c)) H1
theorem aCZ{op}{t:TE}(h:PE X a t):PE X (.BoolOp op [a] pos) t:=λaA s σ H Q I hw=>BoolOp_one (h aA s σ H Q I hw)
theorem aC0(ha:PE X a ta)(hb:PE X (.BoolOp .And (b::aZ) pos) tb):PE X (.BoolOp .And (a::b::aZ) pos) (uT ta tb):=by
 intro aA s σ H Q I h;refine BoolOp_and (thn (ha aA s σ H _ I h) λv s1 ⟨x,H1,I1,r1,q1⟩=>?_);obtain ⟨c,rfl,q1⟩:=q1;cases r1;refine aPW ?_;cases c with
 | true=>exact hb aA s1 σ H1 Q I1 q1
 | false=>exact ⟨.bl false,H1,I1,rfl,q1⟩
theorem pe_or(ha:PE X a ta)(hb:PE X (.BoolOp .Or (b::aZ) pos) tb):PE X (.BoolOp .Or (a::b::aZ) pos) (tOrV ta tb):=by
 intro aA s σ H Q I h;refine BoolOp_or (thn (ha aA s σ H _ I h) λv s1 ⟨x,H1,I1,r1,q1⟩=>?_);obtain ⟨c,rfl,q1⟩:=q1;cases r1;refine aPW ?_;cases c with
 | false=>exact hb aA s1 σ H1 Q I1 q1
 | true=>exact ⟨.bl true,H1,I1,rfl,q1⟩
theorem aC1(ha:PE X a ta):PE X (.UnaryOp .Not a pos) (uU ta):=by intro aA s σ H Q I h;refine UnaryOp_ (thn (ha aA s σ H _ I h) λv s1 ⟨x,H1,I1,r1,q1⟩=>?_);obtain ⟨c,rfl,q1⟩:=q1;cases r1;exact not_of (aPW ⟨.bl (!c),H1,I1,rfl,q1⟩)
end
def SqL(K:Fg)(H:Hp)(a:Addr)(xs:List V):Prop :=
 Rd H a (.lst xs) \/
  ∃ (o:Obj) (its:Array Value) (n:Nat),K.lookup a=some o/\o.cls=.type "list" /\ o.dict=none/\o.data=.seq its n/\its.size<=sizeLine/\aP xs its.toList
def SqT(K:Fg)(H:Hp)(a:Addr)(xs:List V):Prop :=
 Rd H a (.tup xs) \/
  ∃ (o:Obj) (its:Array Value) (n:Nat),K.lookup a=some o/\o.cls=.type "tuple" /\ o.dict=none/\o.data=.seq its n/\its.size<=sizeLine/\aP xs its.toList
def absV:Value->Option V
 | .none=>some .non
 | .bool b=>some (.bl b)
 | .int i _=>some (.int i)
 | .str x _=>some (.str x)
 | .bytes b _=>some (.byt b)
 | .float b _=>some (.flt b)
 | .ref a=>some (.ref a)
 | .type n=>some (.ty n)
 | _=>none
theorem aO.abs{x:V}{u:Value}(r:aO x u):absV u=some x:=by
 cases x with
 | non=>cases r;rfl
 | bl _=>cases r;rfl
 | int _=>obtain ⟨t,rfl⟩:=r;rfl
 | str _=>obtain ⟨t,rfl⟩:=r;rfl
 | byt _=>obtain ⟨t,rfl⟩:=r;rfl
 | flt _=>obtain ⟨t,rfl⟩:=r;rfl
 | ref _=>cases r;rfl
 | ty _=>cases r;rfl
theorem aO.inj{x y:V}{u:Value}(r:aO x u)(q:aO y u):x=y:=aPE (r.abs.symm.trans q.abs)
theorem aP.inj:∀ {xs ys:List V} {us:List Value},aP xs us->aP ys us->xs=ys
 | _,_,_,.nil,.nil=>rfl
 | _,_,_,.cons r t,.cons r' t'=>by rw[r.inj r',aP.inj t t']
section
variable {X:Cx}{aA:LAO}{σ:St}{H:Hp}{s:Shared}{a:Addr}{xs ys:List V}
theorem SqL.of{K:Fg}(h:H a=some (.lst xs)):SqL K H a xs:=.inl (.inl h)
theorem SqT.of{K:Fg}(h:H a=some (.tup xs)):SqT K H a xs:=.inl (.inl h)
theorem Inv.list(I:Inv X aA σ H s)(h:SqL X.K H a xs):∃ its:List Value,aP xs its/\PlainL s.heap a its.toArray/\xs.length<=sizeLine:=by
 rcases h with h | ⟨o,its,n,hk,hc,hd,hs,hz,r⟩
 . obtain ⟨z,its,n,r,e⟩:=h.ok I.hok;exact ⟨its,r,⟨_,n,e,rfl,rfl,rfl⟩,z⟩
 . refine ⟨its.toList,r,⟨o,n,I.kIn a o hk,hc,hd,by simpa using hs⟩,?_⟩
   have e:=r.length;simp only[aPX] at e;omega
theorem Inv.tuple(I:Inv X aA σ H s)(h:SqT X.K H a xs):∃ its:List Value,aP xs its/\IsTup s.heap a its.toArray/\xs.length<=sizeLine:=by
 rcases h with h | ⟨o,its,n,hk,hc,hdt,hs,hz,r⟩
 . obtain ⟨z,its,r,p⟩:=h.ok I.hok;exact ⟨its,r,p.isTup,z⟩
 . refine ⟨its.toList,r,⟨o,I.kIn a o hk,hc,n,by simpa using hs⟩,?_⟩
   have e:=r.length;simp only[aPX] at e;omega
theorem Inv.list_inj(I:Inv X aA σ H s)(h:SqL X.K H a xs)(h':SqL X.K H a ys):xs=ys:=by
 obtain ⟨its,r,⟨o,n,e,_,_,d⟩,_⟩:=I.list h;obtain ⟨its',r',⟨o',n',e',_,_,d'⟩,_⟩:=I.list h';rw[e] at e';cases e';rw[d] at d';injection d' with d1 _
 have:its=its':=by simpa using congrArg Array.toList d1
 subst this;exact r.inj r'
theorem Inv.tuple_inj(I:Inv X aA σ H s)(h:SqT X.K H a xs)(h':SqT X.K H a ys):xs=ys:=by
 obtain ⟨its,r,⟨o,e,_,n,d⟩,_⟩:=I.tuple h;obtain ⟨its',r',⟨o',e',_,n',d'⟩,_⟩:=I.tuple h';rw[e] at e';cases e';rw[d] at d';injection d' with d1 _
 have:its=its':=by simpa using congrArg Array.toList d1
 subst this;exact r.inj r'
end
abbrev Cx.wish(X:Cx)(E:VSP):Cx:={ X with xe:=E }
section
variable {X:Cx}{aA:LAO}{σ:St}{H:Hp}{s:Shared}{E:VSP}
end
section
variable {X:Cx}{st:Stmt}{aZ:List Stmt}{t u:TS}{e:Expr}{te:TE}{pos:Pos}
def tNext:TS:=λD σ H=>D.nx σ H
def tSeq(t u:TS):TS:=λD σ H=>t { D with nx:=u D } σ H
theorem aC2:PSs X [] tNext:=λ_ _ σ H _ I h=>aPY ⟨σ,H,I,h⟩
theorem aC3(h1:PS X st t)(h2:PSs X aZ u):PSs X (st::aZ) (tSeq t u):=by
 intro aA s σ H D I h;refine wpAny_execs_cons (thn (h1 aA s σ H { D with nx:=u D } I h) λf s1 q=>?_)
 cases f with
 | next=>obtain ⟨σ',H',I',q⟩:=q;exact h2 aA s1 σ' H' D I' q
 | ret v=>exact q
 | brk=>exact q
 | cont=>exact q
theorem Inv.quiet{aA:LAO}{σ:St}{H:Hp}{s:Shared}(I:Inv X aA σ H s):interactive X.env=false:=by simp[interactive,I.ok.kind]
def qK(te:TE):TS:=λD σ H=>te σ H λ_ H1=>D.nx σ H1
theorem qL(he:PE X e te)(hs:swapsWith e none pos.line X.env=pure false:=by rfl):PS X (.Expr e pos) (qK te):=by intro aA s σ H D I h;exact wpAny_Expr_any (thn (he aA s σ H _ I h) λv s1 ⟨x,H1,I1,r1,q1⟩=>⟨σ,H1,I1,q1⟩) I.quiet hs
def tRet(te:TE):TS:=λD σ H=>te σ H D.rt
theorem uV(he:PE X e te):PS X (.Return (some e) pos) (tRet te):=by intro aA s σ H D I h;exact wpAny_Return_some (thn (he aA s σ H _ I h) λv s1 ⟨x,H1,I1,r1,q1⟩=>⟨x,σ,H1,I1,r1,q1⟩)
def tIfS(c:TT)(t u:TS):TS:=λD σ H=>c σ H λb H1=>if b=true then t D σ H1 else u D σ H1
theorem ps_if{c:Expr}{a b:List Stmt}{tc:TT}(hc:PT X c tc)(ha:PSs X a t)(hb:PSs X b u):PS X (.If c a b pos) (tIfS tc t u):=by
 intro aA s σ H D I h;refine wpAny_If (thn (hc aA s σ H _ I h) λd s1 ⟨H1,I1,q1⟩=>?_);cases d with
 | true=>exact ha aA s1 σ H1 D I1 q1
 | false=>exact hb aA s1 σ H1 D I1 q1
end
abbrev TG:=V->St->Hp->(St->Hp->Prop)->Prop
abbrev TGs:=List V->St->Hp->(St->Hp->Prop)->Prop
def PG(X:Cx)(target:Expr)(t:TG):Prop :=
 ∀ (aA:LAO) (s:Shared) (σ:St) (H:Hp) (v:V) (u:Value) (Q:St->Hp->Prop),Inv X aA σ H s->aO v u->t v σ H Q ->
  wpAny (model X.prog X.w) X.A (assign target X.env u) (λ_ s'=>∃ σ' H',Inv X aA σ' H' s'/\Q σ' H') X.xe s
def PGs(X:Cx)(ts:List Expr)(t:TGs):Prop :=
 ∀ (aA:LAO) (s:Shared) (σ:St) (H:Hp) (vs:List V) (us:List Value) (Q:St->Hp->Prop),Inv X aA σ H s->aP vs us->t vs σ H Q ->
  wpAny (model X.prog X.w) X.A (assignInOrder ((assignEach ts X.env).map (·.2)) us) (λ_ s'=>∃ σ' H',Inv X aA σ' H' s'/\Q σ' H') X.xe s
section
variable {X:Cx}{pos:Pos}
def kT(i:Nat):TG:=λv σ H Q=>Q (σ.set i (some v)) H
theorem aC4{i:Nat}{x:Str}(hN:X.N.Nodup)(hi:X.N[i]? = some x)(hx:Loc X.env.scope x)(hf:X.fn x=true\/X.env.scope.names.lookup x=some .local:=by first | exact .inl rfl | exact .inr rfl | assumption):PG X (.Name x pos) (kT i):=by intro aA s σ H v u Q I r h;exact wpAny_assign_Name (mX I hN hi hx r (λs' I'=>⟨_,H,I',h⟩) hf)
def gNil:TGs:=λvs σ H Q=>vs=[]/\Q σ H
def uW(t:TG)(u:TGs):TGs:=λvs σ H Q=>∃ v r,vs=v::r/\t v σ H λσ' H'=>u r σ' H' Q
theorem aC5:PGs X [] gNil:=by intro aA s σ H vs us Q I r h;obtain ⟨e,h⟩:=h;subst e;cases r;exact assignInOrder_nil ⟨σ,H,I,h⟩
theorem aC6{e:Expr}{es:List Expr}{t:TG}{u:TGs}(h1:PG X e t)(h2:PGs X es u)(hs:(assignEach (e::es) X.env).map (·.2)=assign e X.env::(assignEach es X.env).map (·.2):=by rfl):PGs X (e::es) (uW t u):=by
 intro aA s σ H vs us Q I r h;obtain ⟨v,vr,e1,h⟩:=h;subst e1;cases r with
 | cons r rr=>rw[hs];refine assignInOrder_cons (thn (h1 aA s σ H _ _ _ I r h) λ_ s1 ⟨σ1,H1,I1,q1⟩=>?_);exact h2 aA s1 σ1 H1 _ _ Q I1 rr q1
def gTup(K:Fg)(n:Nat)(t:TGs):TG:=λv σ H Q=>∃ a xs,v=.ref a/\SqT K H a xs/\xs.length=n/\t xs σ H Q
theorem aC7{es:List Expr}{k:Nat}{t:TGs}{n:Nat}(hc:X.calm=true)(h:PGs X es t)(hn:(assignEach es X.env).length=n:=by rfl)(hst:(assignEach es X.env).findIdx? (·.1)=none:=by rfl):PG X (.Tuple es k pos) (gTup X.K n t):=by
 intro aA s σ H v u Q I r hw;obtain ⟨a,xs,e1,hq,hl,hw⟩:=hw;subst e1;cases r;obtain ⟨its,rv,ht,hz⟩:=I.tuple hq;refine assign_Tuple_tuple (I.ok.hd hc) ht (by simp[hn,<- hl,rv.length]) hst λh' hx=>?_
 have I1:Inv X aA σ H { s with heap:=h' }:=I.kept (t':=s.toks) λb o e=>hx b o (aPJ (aPG e)) e
 exact h aA _ σ H xs _ Q I1 (by simpa using rv) hw
def kU(te:TE)(g:TG):TS:=λD σ H=>te σ H λx H1=>g x σ H1 D.nx
theorem aC8{tg e:Expr}{te:TE}{g:TG}(he:PE X e te)(hg:PG X tg g)(hs:swapsWithSole [tg] e pos.line X.env=pure false:=by rfl)(hw:swappedStores [tg] e X.env=pure none:=by rfl)(h1:(assignEach [tg] X.env).map (·.2)=[assign tg X.env]:=by rfl):PS X (.Assign [tg] e pos) (kU te g):=by intro aA s σ H D I h;refine wpAny_Assign_stores (thn (he aA s σ H _ I h) λv s1 ⟨x,H1,I1,r1,q1⟩=>?_) hs hw;rw[h1];exact thn (hg aA s1 σ H1 x v _ I1 r1 q1) λ_ s2 q=>q
theorem aC9{i:Nat}{x:Str}{e:Expr}{te:TE}{pos':Pos}(hN:X.N.Nodup)(hi:X.N[i]? = some x)(hx:Loc X.env.scope x)(he:PE X e te)(hs:swapsWith e (some (.Name x pos')) pos.line X.env=pure false:=by rfl)(hf:X.fn x=true\/X.env.scope.names.lookup x=some .local:=by first | exact .inl rfl | exact .inr rfl | assumption):PS X (.Assign [.Name x pos'] e pos) (kU te (kT i)):=by intro aA s σ H D I h;refine wpAny_Assign_Name (thn (he aA s σ H _ I h) λv s1 ⟨y,H1,I1,r1,q1⟩=>?_) hs;exact mX I1 hN hi hx r1 (λs2 I2=>⟨_,H1,I2,q1⟩) hf
def tPar(i j:Nat)(ta:TA):TS:=λD σ H=>ta σ H λvs H1=>∃ v w,vs=[v,w]/\D.nx ((σ.set i (some v)).set j (some w)) H1
theorem aDA{i j:Nat}{x y:Str}{a b:Expr}{ta:TA}{px py pt:Pos}{kt k2 pt2}(hc:X.calm=true)(hN:X.N.Nodup)(hi:X.N[i]? = some x)(hj:X.N[j]? = some y)(hij:i≠j)(hx:X.env.scope.names.lookup x=some .local)(hy:X.env.scope.names.lookup y=some .local)(ha:PA X [a,b] ta)(hw:swappedStores [.Tuple [.Name x px,.Name y py] kt pt] (.Tuple [a,b] k2 pt2) X.env=pure (some [x,y]))(hs:swapsWithSole [.Tuple [.Name x px,.Name y py] kt pt] (.Tuple [a,b] k2 pt2) pos.line X.env=pure false:=by rfl):PS X (.Assign [.Tuple [.Name x px,.Name y py] kt pt] (.Tuple [a,b] k2 pt2) pos) (tPar i j ta):=by
 intro aA s σ H D I h;rw[exec_Assign_arm];refine aPZ (aP0 ?_);rw[hs];refine aPZ (aP1 ?_);rw[if_neg (by decide)]
 refine aPZ (Tuple_ (thn (ha _ aA s σ H _ I h) λus s1 ⟨vs,H1,I1,r1,q1⟩=>?_));obtain ⟨v,w,e1,q1⟩:=q1;subst e1;obtain ⟨u1,u2,rfl,rv,rw'⟩:∃ u1 u2,us=[u1,u2]/\aO v u1/\aO w u2:=by
  cases r1 with
  | cons p q =>
   cases q with
   | cons p' q'=>cases q';exact ⟨_,_,rfl,p,p'⟩
 refine aP2 ?_ (by show 2<=sizeLine;decide)
 have I2:Inv X aA σ H1 { s1 with heap:=s1.heap.push { cls:=.type "tuple", data:=.seq [u1,u2].toArray } }:=I1.kept (t':=s1.toks) λb o e=>hps e
 rw[hw];refine aPZ (aP1 ?_);show wpAny (model X.prog X.w) X.A (do rule "assign.swapped-stores"; let items <- unpackItems (.ref s1.heap.objs.size) 2 none;assignInOrder [λv=>bindName X.env y v,λv=>bindName X.env x v] items.reverse;pure Flow.next) _ _ _
 refine aPZ (aP3 (aPZ (unpackItems_tuple (items:=#[u1,u2]) (I.ok.hd hc) (IsTup.new s1.heap _) λh' hx'=>?_)));have I3:=I2.kept (h':=h') (t':=s1.toks) λb o e=>hx' b o (aPJ (aPG e)) e;show wpAny _ _ (assignInOrder [λv=>bindName X.env y v,λv=>bindName X.env x v] [u2,u1] >>= λ_=>pure Flow.next) _ _ _;refine aPZ (assignInOrder_cons (wpAny_bindName (mX I3 hN hj (.inl hy) rw' (λs2 I4=>?_) (.inr hy))));refine assignInOrder_cons (wpAny_bindName (mX I4 hN hi (.inl hx) rv (λs3 I5=>assignInOrder_nil (aP1 ?_)) (.inr hx)));rw[List.set_comm _ _ (Ne.symm hij)] at I5;exact ⟨_,H1,I5,q1⟩
end
section
variable {X:Cx}{pos:Pos}
def aDB(c:TT)(tb:TS):TS:=λD σ H=>∃ W:Nat->St->Hp->Prop,(∃ m,W m σ H)/\∀ m σ H,W m σ H ->
 c σ H λb H1=>if b=true then ∃ N:St->Hp->Prop,(∀ σ' H',N σ' H'->∃ m',m'<m/\W m' σ' H')/\tb { D with nx:=N,ct:=N,bk:=D.nx } σ H1 else D.nx σ H1
theorem aDC{c:Expr}{body:List Stmt}{tc:TT}{tb:TS}(hp:PassesOwn (model X.prog X.w) X.A X.env X.xe)(hc:PT X c tc)(hb:PSs X body tb):PS X (.While c body [] pos) (aDB tc tb):=by
 intro aA s σ H D I h;obtain ⟨W,⟨m0,w0⟩,turn⟩:=h;refine wpAny_While (codeAny_whileLoop (λn s'=>∃ σ' H',Inv X aA σ' H' s'/\W n σ' H') ?_ m0 ⟨σ,H,I,w0⟩);rintro n s1 ⟨σ1,H1,I1,w1⟩;refine aP4 hp (thn (hc aA s1 σ1 H1 _ I1 (turn n σ1 H1 w1)) λb s2 ⟨H2,I2,q2⟩=>?_);cases b with
 | true =>
  obtain ⟨N,hN,q2⟩:=q2;rw[if_pos rfl];refine aP4 hp (thn (hb aA s2 σ1 H2 _ I2 q2) λf s3 q3=>?_);cases f with
  | next=>obtain ⟨σ3,H3,I3,n3⟩:=q3;obtain ⟨m',hm,w3⟩:=hN σ3 H3 n3;exact ⟨m',hm,σ3,H3,I3,w3⟩
  | cont=>obtain ⟨σ3,H3,I3,n3⟩:=q3;obtain ⟨m',hm,w3⟩:=hN σ3 H3 n3;exact ⟨m',hm,σ3,H3,I3,w3⟩
  | brk=>exact q3
  | ret v=>exact q3
 | false=>rw[if_neg aP5];exact aPY ⟨σ1,H2,I2,q2⟩
end
structure It where
 go:Nat->Hp->Prop
 yld:Nat->Hp->V->Hp->Prop
 stop:Nat->Hp->Prop
def eA(X:Cx)(aA:LAO)(H:Hp)(b:Addr):Prop :=
 H b=none/\b≠X.env.locals/\b∉X.fs/\(b∈X.ex\/X.s₀.heap.objs.size<=b)/\(∀ x c,X.env.cells.lookup x=some c->c≠b)/\∀ p∈X.pn++aA,p.1≠b
theorem Inv.fpOk{X:Cx}{aA:LAO}{σ:St}{H H':Hp}{s:Shared}{b:Addr}(I:Inv X aA σ H s)(hb:s.heap.objs.size<=b)(hn:H' b=none):eA X aA H' b:=by
 refine ⟨hn,aP6 (aPH I.lt hb),I.nofs hb,.inr (aPN I.sz hb),λx c e z=>?_,λp hp z=>?_⟩
 . obtain ⟨v,q⟩:=I.cell x c e;exact absurd (aPH q.lt (by rw[z];exact hb)) (aPI _)
 . exact absurd (aPH (aPG (I.pin p hp).1) (by rw[z];exact hb)) (aPI _)
structure gM(P:Program)(w:World)(K:Fg)(tg:Expr)(J:It)(fp:List Addr)(it:Addr)(tn:Nat->Heap->Prop):Prop where
 mem:it∈fp
 obj:∀ i h,tn i h->∀ b∈fp,∃ o,h.get? b=some o/\∀ v,o.data ≠ .cell v
 keep:∀ i h h',tn i h->(∀ b∈fp,∀ o,h.get? b=some o->h'.get? b=some o)->tn i h'
 item:∀ (X:Cx),X.prog=P->X.w=w->X.K=K->X.calm=true->∀ (i:Nat) (aA:LAO) (s:Shared) (σ:St) (H:Hp) (E:VSP),Inv X aA σ H s->(∀ b∈fp,eA X aA H b)->tn i s.heap->J.go i H ->
  wpAny (model P w) X.A (pyNext (.ref it)) (λr s1=>∃ u,r=some u /\
   wpAny (model P w) X.A (letOwnedTupleGo tg (.ref it) u) (λ_ s2=>∃ x H',Inv X aA σ H' s2/\aO x u/\J.yld i H x H'/\tn (i+1) s2.heap/\∀ b∈fp,H' b=none) E s1) E s
 done:∀ (X:Cx),X.prog=P->X.w=w->X.K=K->X.calm=true->∀ (i:Nat) (aA:LAO) (s:Shared) (σ:St) (H:Hp) (E:VSP),Inv X aA σ H s->(∀ b∈fp,eA X aA H b)->tn i s.heap->J.stop i H ->
  wpAny (model P w) X.A (pyNext (.ref it)) (λr s1=>r=none/\Inv X aA σ H s1) E s
 self:∀ (A:Around) (i:Nat) (s:Shared) (Q:VSP) (E:VSP),tn i s.heap->Q (.ref it) s->wpAny (model P w) A (pyIter (.ref it)) Q E s
abbrev TI:=St->Hp->(It->Hp->Prop)->Prop
def PIE(X:Cx)(aA:LAO)(σ:St)(tg:Expr)(R:It->Hp->Prop)(itv:Value)(s2:Shared):Prop :=
 ∃ (it:Addr) (fp:List Addr) (tn:Nat->Heap->Prop) (J:It) (H':Hp),itv=.ref it/\Inv X aA σ H' s2/\gM X.prog X.w X.K tg J fp it tn/\tn 0 s2.heap/\(∀ b∈fp,eA X aA H' b)/\R J H'
def PI(X:Cx)(tg aQ:Expr)(wi:TI):Prop :=
 ∀ (aA:LAO) (s:Shared) (σ:St) (H:Hp) (R:It->Hp->Prop),Inv X aA σ H s->wi σ H R ->
  wpAny (model X.prog X.w) X.A (eval aQ X.env) (λv s1=>wpAny (model X.prog X.w) X.A (pyIter v) (PIE X aA σ tg R) X.xe s1) X.xe s
theorem mZ{M:Model}{A:Around}{E:VSP}{s:Shared}{tg:Expr}{it:Addr}{u:Value}{o:Obj}{n:String}{vs:Array Value}{Q:Unit->Shared->Prop}(ho:s.heap.get? it=some o)(hc:o.cls=.type n)(hd:o.data=.fields vs)(hn:["enumerate", "zip", "dict_itemiterator", "dict_reverseitemiterator", "odict_iterator", "itertools.zip_longest", "itertools.pairwise"].contains n=false)(hQ:Q () s):wpAny M A (letOwnedTupleGo tg (.ref it) u) Q E s:=by
 unfold letOwnedTupleGo;cases tg <;> first
  | exact aP1 hQ
  | (cases u <;> first
      | exact aP1 hQ
      | (refine aPZ (wpAny_load ho ?_)
         rw[hc,hd];show wpAny M A (if (["enumerate", "zip", "dict_itemiterator", "dict_reverseitemiterator", "odict_iterator", "itertools.zip_longest", "itertools.pairwise"].contains n&&vs[0]?==some (rawInt _))=true then _ else _) Q E s;rw[if_neg (by intro h;rw[hn,Bool.false_and] at h;cases h)]
         exact aP1 hQ))
def Itl(K:Fg)(a:Addr):It :=
 ⟨λi H=>∃ xs x,SqL K H a xs/\xs[i]? = some x,λi H x H'=>H'=H/\∀ xs,SqL K H a xs->xs[i]? = some x,λi H=>∃ xs,SqL K H a xs/\xs.length<=i⟩
def Itt(K:Fg)(a:Addr):It :=
 ⟨λi H=>∃ xs x,SqT K H a xs/\xs[i]? = some x,λi H x H'=>H'=H/\∀ xs,SqT K H a xs->xs[i]? = some x,λi H=>∃ xs,SqT K H a xs/\xs.length<=i⟩
def Itr(lo:Int)(n:Nat):It:=⟨λi _=>i<n,λi H x H'=>H'=H/\x=.int (lo+i),λi _=>n<=i⟩
theorem aDD{P:Program}{w:World}{K:Fg}{tg:Expr}(a it:Addr):gM P w K tg (Itl K a) [it] it (λi h=>h.IsListIter it a i) where
 mem:=by simp
 obj:=λi h st b hb=>by
  have e:b=it:=by simpa using hb
  subst e;obtain ⟨o,e,c,d⟩:=st;exact ⟨o,e,λv z=>by rw[d] at z;cases z⟩
 keep:=λi h h' st k=>st.at λo e=>k it (by simp) o e
 item:=by
  intro X hP hw hK hc i aA s σ H E I hf st hg;subst hP hw hK;obtain ⟨xs,x,hq,hx⟩:=hg;obtain ⟨its,rv,p,hz⟩:=I.list hq;obtain ⟨u,hu,ru⟩:=rv.get hx;obtain ⟨f0,f1,f2,f3,f4,f5⟩:=hf it (by simp)
  refine wpAny_pyNext_list_item st p.isList (x:=u) (by simpa using hu) λh' st' sb=>?_
  have I1:Inv X aA σ H { s with heap:=h' }:=I.turned (t':=s.toks) (λb o hb e=>(sb.2 b hb).trans e) f0 f1 f3 f4 f5
  obtain ⟨o,e,c,d⟩:=id st';exact ⟨u,rfl,mZ (s:={ s with heap:=h' }) e c d (by decide) ⟨x,H,I1,ru,⟨rfl,λys hy=>by rw[I.list_inj hy hq];exact hx⟩,st',λb hb=>(hf b hb).1⟩⟩
 done:=by
  intro X hP hw hK hc i aA s σ H E I hf st hg;subst hP hw hK;obtain ⟨xs,hq,hx⟩:=hg;obtain ⟨its,rv,p,hz⟩:=I.list hq;obtain ⟨f0,f1,f2,f3,f4,f5⟩:=hf it (by simp)
  have hl:=rv.length;exact wpAny_pyNext_list_end (I.ok.hd hc) st p.isList (by simp;omega) λh' eb=>⟨rfl,I.turned (t':=s.toks) (λb o hb e=>eb b o hb e) f0 f1 f3 f4 f5⟩
 self:=λ_ _ _ _ _ st h=>wpAny_pyIter_listiter st h
theorem aDE{P:Program}{w:World}{K:Fg}{tg:Expr}(a it:Addr):gM P w K tg (Itt K a) [it] it (λi h=>h.IsTupleIter it a i) where
 mem:=by simp
 obj:=λi h st b hb=>by
  have e:b=it:=by simpa using hb
  subst e;obtain ⟨o,e,c,d⟩:=st;exact ⟨o,e,λv z=>by rw[d] at z;cases z⟩
 keep:=λi h h' st k=>st.at λo e=>k it (by simp) o e
 item:=by
  intro X hP hw hK hc i aA s σ H E I hf st hg;subst hP hw hK;obtain ⟨xs,x,hq,hx⟩:=hg;obtain ⟨its,rv,p,hz⟩:=I.tuple hq;obtain ⟨u,hu,ru⟩:=rv.get hx;obtain ⟨f0,f1,f2,f3,f4,f5⟩:=hf it (by simp)
  refine wpAny_pyNext_tuple_item st (show s.heap.IsTuple a its.toArray from p) (x:=u) (by simpa using hu) λh' st' sb=>?_
  have I1:Inv X aA σ H { s with heap:=h' }:=I.turned (t':=s.toks) (λb o hb e=>(sb.2 b hb).trans e) f0 f1 f3 f4 f5
  obtain ⟨o,e,c,d⟩:=id st';exact ⟨u,rfl,mZ (s:={ s with heap:=h' }) e c d (by decide) ⟨x,H,I1,ru,⟨rfl,λys hy=>by rw[I.tuple_inj hy hq];exact hx⟩,st',λb hb=>(hf b hb).1⟩⟩
 done:=by
  intro X hP hw hK hc i aA s σ H E I hf st hg;subst hP hw hK;obtain ⟨xs,hq,hx⟩:=hg;obtain ⟨its,rv,p,hz⟩:=I.tuple hq;obtain ⟨f0,f1,f2,f3,f4,f5⟩:=hf it (by simp)
  have hl:=rv.length;exact wpAny_pyNext_tuple_end (I.ok.hd hc) st (show s.heap.IsTuple a its.toArray from p) (by simp;omega) λh' eb=>⟨rfl,I.turned (t':=s.toks) (λb o hb e=>eb b o hb e) f0 f1 f3 f4 f5⟩
 self:=λ_ _ _ _ _ st h=>wpAny_pyIter_tupleiter st h
theorem aDF{P:Program}{w:World}{K:Fg}{tg:Expr}(it:Addr)(lo:Int)(n:Nat):gM P w K tg (Itr lo n) [it] it (λi h=>IsRangeIter h it (lo+(i:Nat) * 1) ((n:Int)-(i:Nat)) 1) where
 mem:=by simp
 obj:=λi h st b hb=>by
  have e:b=it:=by simpa using hb
  subst e;exact ⟨_,st,λv z=>by
   have z':Data.fields _=Data.cell v:=z;cases z'⟩
 keep:=λi h h' st k=>k it (by simp) _ st
 item:=by
  intro X hP hw hK hc i aA s σ H E I hf st hg;subst hP hw hK;obtain ⟨f0,f1,f2,f3,f4,f5⟩:=hf it (by simp)
  have W:=Walks.range (prog:=X.prog) (w:=X.w) (I.ok.hd hc) it lo 1 n;refine W.item i s _ _ hg st λv h' tk hv st' kk=>?_;obtain ⟨t,rfl⟩:=hv;have I1:Inv X aA σ H { s with heap:=h',toks:=tk }:=I.turned (λb o hb e=>kk b o (by simpa using hb) e) f0 f1 f3 f4 f5
  refine ⟨_,rfl,mZ (s:={ s with heap:=h',toks:=tk }) (n := "range_iterator") st' rfl rfl (by decide) ⟨.int (lo+i),H,I1,⟨t,?_⟩,⟨rfl,rfl⟩,st',λb hb=>(hf b hb).1⟩⟩
  rw[Int.mul_one]
 done:=by
  intro X hP hw hK hc i aA s σ H E I hf st hg;subst hP hw hK;obtain ⟨f0,f1,f2,f3,f4,f5⟩:=hf it (by simp)
  exact wpAny_pyNext_range_end (I.ok.hd hc) st (by have:n<=i:=hg;omega) λh' eb=>⟨rfl,I.turned (t':=s.toks) (λb o hb e=>eb b o hb e) f0 f1 f3 f4 f5⟩
 self:=λ_ _ _ _ _ st h=>wpAny_pyIter_rangeiter st h
section
variable {X:Cx}{tg:Expr}
def qM(K:Fg)(tl:TE):TI:=λσ H R=>tl σ H λx H1=>∃ a,x=.ref a/\(∃ xs,SqL K H1 a xs)/\R (Itl K a) H1
def iTup(K:Fg)(tl:TE):TI:=λσ H R=>tl σ H λx H1=>∃ a,x=.ref a/\(∃ xs,SqT K H1 a xs)/\R (Itt K a) H1
theorem aDG{l:Expr}{tl:TE}(hl:PE X l tl):PI X tg l (qM X.K tl):=by
 intro aA s σ H R I h;refine thn (hl aA s σ H _ I h) λv s1 ⟨x,H1,I1,r1,q1⟩=>?_;obtain ⟨a,e,⟨xs,hq⟩,q⟩:=q1;subst e;cases r1;obtain ⟨its,rv,p,hz⟩:=I1.list hq;refine aP7 p.isList ?_;refine ⟨s1.heap.objs.size,[s1.heap.objs.size],_,_,H1,rfl,I1.kept (t':=s1.toks) λb o e=>hps e,aDD a _,⟨_,aPF _ rfl,rfl,rfl⟩,λb hb=>?_,q⟩;have e:b=s1.heap.objs.size:=by simpa using hb
 subst e;exact I1.fpOk (aP8 _) (I1.hok.fresh (aP8 _))
theorem aDH{l:Expr}{tl:TE}(hl:PE X l tl):PI X tg l (iTup X.K tl):=by
 intro aA s σ H R I h;refine thn (hl aA s σ H _ I h) λv s1 ⟨x,H1,I1,r1,q1⟩=>?_;obtain ⟨a,e,⟨xs,hq⟩,q⟩:=q1;subst e;cases r1;obtain ⟨its,rv,p,hz⟩:=I1.tuple hq;refine aP9 (show s1.heap.IsTuple a its.toArray from p) ?_
 refine ⟨s1.heap.objs.size,[s1.heap.objs.size],_,_,H1,rfl,I1.kept (t':=s1.toks) λb o e=>hps e,aDE a _,⟨_,aPF _ rfl,rfl,rfl⟩,λb hb=>?_,q⟩;have e:b=s1.heap.objs.size:=by simpa using hb
 subst e;exact I1.fpOk (aP8 _) (I1.hok.fresh (aP8 _))
theorem uX{aA:LAO}{σ:St}{H:Hp}{s:Shared}{R:It->Hp->Prop}{E:VSP}{lo hi:Int}{t u v:Tok}{tk:Nat}(I:Inv X aA σ H s)(h1:-(2 ^ 62)<=lo)(h2:lo<2 ^ 62)(h3:-(2 ^ 62)<=hi)(h4:hi<2 ^ 62)(q:R (Itr lo (hi-lo).toNat) H):wpAny (model X.prog X.w) X.A (pyIter (.ref s.heap.objs.size)) (PIE X aA σ tg R) E { s with heap:=s.heap.push { cls:=.type "range", data:=.fields #[.int lo t,.int hi u,.int 1 v] },toks:=tk }:=by
 refine wpAny_pyIter_range (IsRange.new ..) (small_one h1 h2 h3 h4) ?_;have I1:Inv X aA σ H { s with heap:=s.heap.push { cls:=.type "range", data:=.fields #[.int lo t,.int hi u,.int 1 v] },toks:=tk }:=I.kept λb o e=>hps e
 refine ⟨(s.heap.push { cls:=.type "range", data:=.fields #[.int lo t,.int hi u,.int 1 v] }).objs.size,[(s.heap.push { cls:=.type "range", data:=.fields #[.int lo t,.int hi u,.int 1 v] }).objs.size],_,_,H,rfl,
  I1.kept (t':=tk) λb o e=>hps e,aDF _ lo (hi-lo).toNat,?_,λb hb=>?_,q⟩
 . have e1:lo+((0:Nat):Int) * 1=lo:=by simp
   have e2:(((hi-lo).toNat:Nat):Int)-((0:Nat):Int)=Builtin.Range.rangeSize lo hi 1:=by rw[rangeSize_one];split <;> omega
   show IsRangeIter _ _ (lo+((0:Nat):Int) * 1) ((((hi-lo).toNat:Nat):Int)-((0:Nat):Int)) 1;rw[e1,e2];exact aPF _ rfl
 . have e:b=(s.heap.push { cls:=.type "range", data:=.fields #[.int lo t,.int hi u,.int 1 v] }).objs.size:=by simpa using hb
   subst e;exact I1.fpOk (aP8 _) (I1.hok.fresh (aP8 _))
def uY(ta:TA):TI:=λσ H R=>ta σ H λvs H1=>∃ j:Int,vs=[.int j] /\ -(2 ^ 62)<=j/\j<2 ^ 62/\R (Itr 0 j.toNat) H1
def uZ(ta:TA):TI:=λσ H R=>ta σ H λvs H1=>∃ i j:Int,vs=[.int i,.int j]/\(-(2 ^ 62)<=i/\i<2 ^ 62 /\ -(2 ^ 62)<=j/\j<2 ^ 62)/\R (Itr i (j-i).toNat) H1
theorem aDI{a:Expr}{ta:TA}{p pos:Pos}(hg:Gl X "range")(hm:X.mg "range" = none)(ha:PA X [a] ta)(hs:starEach [a] X.env=[(false,eval a X.env)]:=by rfl):PI X tg (.Call (.Name "range" p) [a] [] pos) (uY ta):=by
 intro aA s σ H R I h;refine Call_ (gK I hg hm boot_range (aQA (thn (ha pos aA s σ H _ I h) λus s1 ⟨vs,H1,I1,r1,q1⟩=>?_) hs rfl));obtain ⟨j,e,q1,q2,q⟩:=q1;subst e;cases r1 with
 | cons r rr=>cases rr;obtain ⟨t,rfl⟩:=r;exact call_range_1 (uX I1 (by omega) (by omega) q1 q2 (by simpa using q))
theorem aDJ{a b:Expr}{ta:TA}{p pos:Pos}(hg:Gl X "range")(hm:X.mg "range" = none)(ha:PA X [a,b] ta)(hs:starEach [a,b] X.env=[(false,eval a X.env),(false,eval b X.env)]:=by rfl)(hs2:starEach [b] X.env=[(false,eval b X.env)]:=by rfl):PI X tg (.Call (.Name "range" p) [a,b] [] pos) (uZ ta):=by
 intro aA s σ H R I h;refine Call_ (gK I hg hm boot_range (aQA (thn (ha pos aA s σ H _ I h) λus s1 ⟨vs,H1,I1,r1,q1⟩=>?_) (by rw[hs,hs2]) (by rw[hs2];rfl)))
 obtain ⟨i,j,e,⟨q1,q2,q3,q4⟩,q⟩:=q1;subst e;cases r1 with
 | cons r rr =>
  cases rr with
  | cons r' rr=>cases rr;obtain ⟨t,rfl⟩:=r;obtain ⟨t',rfl⟩:=r';exact call_range_2 (uX I1 q1 q2 q3 q4 q)
def tFor(wi:TI)(g:TG)(tb:TS):TS:=λD σ H=>wi σ H λJ H1=>∃ W:Nat->Nat->St->Hp->Prop,(∃ m,W 0 m σ H1)/\∀ i m σ H,W i m σ H ->
 (J.stop i H/\D.nx σ H)\/(J.go i H/\∃ N:St->Hp->Prop,(∀ σ' H',N σ' H'->∃ m',m'<m/\W (i+1) m' σ' H')/\∀ x H',J.yld i H x H'->g x σ H' λσ2 H2=>tb { D with nx:=N,ct:=N,bk:=D.nx } σ2 H2)
def kW(fp:List Addr)(h:Heap):LAO:=fp.filterMap λb=>(h.get? b).map λo=>(b,o)
theorem qN{fp:List Addr}{h:Heap}{b:Addr}{o:Obj}(hb:b∈fp)(e:h.get? b=some o):(b,o)∈kW fp h:=aQB.mpr ⟨b,hb,by rw[e];rfl⟩
theorem aDK{fp:List Addr}{h:Heap}{p:Addr×Obj}(hp:p∈kW fp h):p.1∈fp/\h.get? p.1=some p.2:=by
 obtain ⟨b,hb,e⟩:=aQB.mp hp;cases q:h.get? b with
 | none=>rw[q] at e;cases e
 | some o=>rw[q] at e;have e':(b,o)=p:=aPE e;subst e';exact ⟨hb,q⟩
theorem Inv.pinned{aA:LAO}{σ:St}{H:Hp}{s:Shared}{fp:List Addr}(I:Inv X aA σ H s)(hf:∀ b∈fp,eA X aA H b)(ho:∀ b∈fp,∃ o,s.heap.get? b=some o/\∀ v,o.data ≠ .cell v):Inv X (aA++kW fp s.heap) σ H s :=
 I.pins_of λp hp=>(aPQ.mp hp).elim (λz=>I.pin p (aQC _ z)) λz=>by obtain ⟨hb,e⟩:=aDK z;obtain ⟨f0,f1,f2,_⟩:=hf p.1 hb;obtain ⟨o,e',d⟩:=ho p.1 hb;rw[e] at e';cases e';exact ⟨e,f0,f1,f2,d⟩
theorem Inv.unpinned{aA pl:LAO}{σ:St}{H:Hp}{s:Shared}(I:Inv X (aA++pl) σ H s):Inv X aA σ H s:=I.pins_of λp hp=>I.pin p (aQC _ (aPR _ hp))
theorem aDL{aQ:Expr}{body:List Stmt}{wi:TI}{g:TG}{tb:TS}{pos:Pos}(hp:PassesOwn (model X.prog X.w) X.A X.env X.xe)(hc:X.calm=true)(hi:PI X tg aQ wi)(hg:PG X tg g)(hb:PSs X body tb)(hs:∀ x,foldedSetIterable aQ X.env x=pure x:=by intro _;rfl):PS X (.For tg aQ body [] pos) (tFor wi g tb):=by
 intro aA s σ H D I h;refine wpAny_For (thn (hi aA s σ H _ I h) λv s1 h1=>thn h1 λitv s2 h2=>?_) hs;obtain ⟨it,fp,tn,J,H2,e,I2,T,st2,f2,W,⟨m0,w0⟩,turn⟩:=h2;subst e;have stat:∀ {H':Hp},(∀ b∈fp,H' b=none)->∀ b∈fp,eA X aA H' b:=λhn b hb=>⟨hn b hb,(f2 b hb).2⟩;refine codeAny_forLoop_any (λn s'=>∃ i σ' H',Inv X aA σ' H' s'/\tn i s'.heap/\(∀ b∈fp,H' b=none)/\W i n σ' H') ?_ m0 ⟨0,σ,H2,I2,st2,λb hb=>(f2 b hb).1,w0⟩;rintro n s3 ⟨i,σ3,H3,I3,st3,fr3,w3⟩;rcases turn i n σ3 H3 w3 with ⟨stop,qn⟩ | ⟨go,N,hN,step⟩
 . refine aP4 hp (thn (T.done X rfl rfl rfl hc i aA s3 σ3 H3 X.xe I3 (stat fr3) st3 stop) λr s4 ⟨hr,I4⟩=>?_);subst hr;exact aPY ⟨σ3,H3,I4,qn⟩
 . refine aP4 hp (thn (T.item X rfl rfl rfl hc i aA s3 σ3 H3 X.xe I3 (stat fr3) st3 go) λr s4 ⟨u,hr,h4⟩=>?_);subst hr;refine aP4 hp (thn h4 λ_ s5 ⟨x,H5,I5,r5,y5,st5,fr5⟩=>?_);have I5':=I5.pinned (stat fr5) (T.obj _ _ st5);refine aP4 hp (thn (hg _ s5 σ3 H5 x u _ I5' r5 (step x H5 y5)) λ_ s6 ⟨σ6,H6,I6,q6⟩=>?_);refine aP4 hp (thn (hb _ s6 σ6 H6 _ I6 q6) λf s7 q7=>?_);have again:∀ {σ7:St} {H7:Hp},Inv X (aA++kW fp s5.heap) σ7 H7 s7->N σ7 H7->∃ m,m<n/\∃ i σ' H',Inv X aA σ' H' s7/\tn i s7.heap/\(∀ b∈fp,H' b=none)/\W i m σ' H':=λ{σ7 H7} I7 n7=>by obtain ⟨m',hm,w7⟩:=hN σ7 H7 n7;refine ⟨m',hm,i+1,σ7,H7,I7.unpinned,T.keep _ _ _ st5 λb hb o e=>(I7.pin (b,o) (aQC _ (aQC _ (qN hb e)))).1,λb hb=>?_,w7⟩;obtain ⟨o,e,d⟩:=T.obj _ _ st5 b hb;exact (I7.pin (b,o) (aQC _ (aQC _ (qN hb e)))).2.1
   cases f with
   | next=>obtain ⟨σ7,H7,I7,n7⟩:=q7;exact again I7 n7
   | cont=>obtain ⟨σ7,H7,I7,n7⟩:=q7;exact again I7 n7
   | brk=>obtain ⟨σ7,H7,I7,q7⟩:=q7;exact ⟨σ7,H7,I7.unpinned,q7⟩
   | ret v=>obtain ⟨x7,σ7,H7,I7,r7,q7⟩:=q7;exact ⟨x7,σ7,H7,I7.unpinned,r7,q7⟩
end
abbrev R2:=V->V->Hp->VK->Prop
def OpR(X:Cx)(f:Value->Value->Sem Value)(r:R2):Prop :=
 ∀ (aA:LAO) (s:Shared) (σ:St) (H:Hp) (x y:V) (v u:Value) (Q:VK),Inv X aA σ H s->aO x v->aO y u->r x y H Q ->
  wpAny (model X.prog X.w) X.A (f v u) (EP X aA σ Q) X.xe s
def UnR(X:Cx)(f:Value->Sem Value)(r:V->Hp->VK->Prop):Prop :=
 ∀ (aA:LAO) (s:Shared) (σ:St) (H:Hp) (x:V) (v:Value) (Q:VK),Inv X aA σ H s->aO x v->r x H Q ->
  wpAny (model X.prog X.w) X.A (f v) (EP X aA σ Q) X.xe s
def gN(X:Cx)(f:Value)(r:List V->Hp->VK->Prop):Prop :=
 ∀ (aA:LAO) (s:Shared) (σ:St) (H:Hp) (xs:List V) (us:List Value) (Q:VK),Inv X aA σ H s->aP xs us->r xs H Q ->
  wpAny (model X.prog X.w) X.A (call f us) (EP X aA σ Q) X.xe s
def TruR(X:Cx)(r:V->Hp->(Bool->Hp->Prop)->Prop):Prop :=
 ∀ (aA:LAO) (s:Shared) (σ:St) (H:Hp) (x:V) (v:Value) (Q:Bool->Hp->Prop),Inv X aA σ H s->aO x v->r x H Q ->
  wpAny (model X.prog X.w) X.A (truthy v) (TP X aA σ Q) X.xe s
def tOp(r:R2)(ta tb:TE):TE:=λσ H Q=>ta σ H λx H1=>tb σ H1 λy H2=>r x y H2 Q
def tUn(r:V->Hp->VK->Prop)(ta:TE):TE:=λσ H Q=>ta σ H λx H1=>r x H1 Q
def rI(C:Int->Int->Prop)(g:Int->Int->V):R2:=λx y H Q=>∃ i j,x=.int i/\y=.int j/\C i j/\Q (g i j) H
def rI0(g:Int->Int->V):R2:=λx y H Q=>∃ i j,x=.int i/\y=.int j/\Q (g i j) H
def rU(g:Int->V):V->Hp->VK->Prop:=λx H Q=>∃ i,x=.int i/\Q (g i) H
section
variable {X:Cx}{a b c:Expr}{ta tb tc:TE}{pos:Pos}
theorem qO(ha:PE X a ta)(hb:PE X b tb){aA:LAO}{s:Shared}{σ:St}{H:Hp}{R:V->V->Hp->Prop}(I:Inv X aA σ H s)(h:ta σ H λx H1=>tb σ H1 λy H2=>R x y H2){Q:VSP}{f:Value->Value->Sem Value}(hf:∀ v u s2 x y H2,Inv X aA σ H2 s2->aO x v->aO y u->R x y H2->wpAny (model X.prog X.w) X.A (f v u) Q X.xe s2):wpAny (model X.prog X.w) X.A (eval a X.env) (λv s₁=>wpAny (model X.prog X.w) X.A (eval b X.env) (λu s₂=>wpAny (model X.prog X.w) X.A (f v u) Q X.xe s₂) X.xe s₁) X.xe s:=by refine thn (ha aA s σ H _ I h) λv s1 ⟨x,H1,I1,r1,q1⟩=>?_;refine thn (hb aA s1 σ H1 _ I1 q1) λu s2 ⟨y,H2,I2,r2,q2⟩=>?_;exact hf v u s2 x y H2 I2 r1 r2 q2
theorem pe_op{op:Operator}{r:R2}(ho:OpR X (binaryOp op) r)(ha:PE X a ta)(hb:PE X b tb):PE X (.BinOp a op b pos) (tOp r ta tb):=by intro aA s σ H Q I h;exact wpAny_BinOp (qO ha hb I h λv u s2 x y H2 I2 rx ry q=>ho aA s2 σ H2 x y v u Q I2 rx ry q)
theorem pe_un{op:UnaryOp}{r:V->Hp->VK->Prop}(ho:UnR X (unaryOp op) r)(ha:PE X a ta):PE X (.UnaryOp op a pos) (tUn r ta):=by intro aA s σ H Q I h;exact UnaryOp_ (thn (ha aA s σ H _ I h) λv s1 ⟨x,H1,I1,r1,q1⟩=>ho aA s1 σ H1 x v Q I1 r1 q1)
theorem opI{f:Value->Value->Sem Value}{C:Int->Int->Prop}{g:Int->Int->Int}(rule:∀ (i j:Int) (t u:Tok) (s:Shared) (Q:VSP) (E:VSP),C i j->Q (.int (g i j) s.toks) { s with toks:=s.toks+1 } -> wpAny (model X.prog X.w) X.A (f (.int i t) (.int j u)) Q E s):OpR X f (rI C λi j=>.int (g i j)):=by intro aA s σ H x y v u Q I rx ry h;obtain ⟨i,j,rfl,rfl,hc,q⟩:=h;obtain ⟨t,rfl⟩:=rx;obtain ⟨t',rfl⟩:=ry;exact rule i j t t' s _ _ hc ⟨.int (g i j),H,I.tok _,⟨_,rfl⟩,q⟩
theorem m5{f:Value->Value->Sem Value}{g:Int->Int->Int}(rule:∀ (i j:Int) (t u:Tok) (s:Shared) (Q:VSP) (E:VSP),Q (.int (g i j) s.toks) { s with toks:=s.toks+1 } -> wpAny (model X.prog X.w) X.A (f (.int i t) (.int j u)) Q E s):OpR X f (rI0 λi j=>.int (g i j)):=by intro aA s σ H x y v u Q I rx ry h;obtain ⟨i,j,rfl,rfl,q⟩:=h;obtain ⟨t,rfl⟩:=rx;obtain ⟨t',rfl⟩:=ry;exact rule i j t t' s _ _ ⟨.int (g i j),H,I.tok _,⟨_,rfl⟩,q⟩
theorem m6{f:Value->Value->Sem Value}{g:Int->Int->Bool}(rule:∀ (i j:Int) (t u:Tok) (s:Shared) (Q:VSP) (E:VSP),Q (.bool (g i j)) s->wpAny (model X.prog X.w) X.A (f (.int i t) (.int j u)) Q E s):OpR X f (rI0 λi j=>.bl (g i j)):=by intro aA s σ H x y v u Q I rx ry h;obtain ⟨i,j,rfl,rfl,q⟩:=h;obtain ⟨t,rfl⟩:=rx;obtain ⟨t',rfl⟩:=ry;exact rule i j t t' s _ _ ⟨.bl (g i j),H,I,rfl,q⟩
def CPow(i j:Int):Prop:=0<=j/\j<=1000000/\i.natAbs<2 ^ 64
theorem aDM(k:Nat):(0:Int)<=2 ^ k:=by rw[two_pow_cast];exact Int.natCast_nonneg _
theorem aDN:OpR X (binaryOp .Add) (rI0 λi j=>.int (i+j)):=m5 λ_ _ _ _ _ _ _ q=>add_int q
theorem aDO:OpR X (binaryOp .Sub) (rI0 λi j=>.int (i-j)):=m5 λ_ _ _ _ _ _ _ q=>sub_int q
theorem aDP:OpR X (binaryOp .Mod) (rI (λ_ j=>0<j) λi j=>.int (i % j)):=opI λi j _ _ _ _ _ hc q=>by have h1:(0:Int)<j:=hc;exact mod_int' (by omega) (by rw[Int.fmod_eq_emod_of_nonneg i (by omega)];exact q)
theorem aDQ:OpR X (binaryOp .Pow) (rI CPow λi j=>.int (i ^ j.toNat)):=opI λ_ _ _ _ _ _ _ hc q=>pow_int_small hc.1 hc.2.1 hc.2.2 q
theorem aDR:OpR X (binaryOp .LShift) (rI CPow λi j=>.int (i * 2 ^ j.toNat)):=opI λ_ _ _ _ _ _ _ hc q=>lshift_int_small hc.1 hc.2.1 hc.2.2 q
theorem aDS:OpR X (binaryOp .RShift) (rI (λ_ j=>0<=j) λi j=>.int (i / 2 ^ j.toNat)):=opI λi j _ _ _ _ _ hc q =>
 rshift_int hc (by rw[Int.fdiv_eq_ediv_of_nonneg i (aDM _)];exact q)
theorem aDT:OpR X (binaryOp .BitAnd) (rI0 λi j=>.int (Builtin.bitAnd i j)):=m5 λ_ _ _ _ _ _ _ q=>and_int q
theorem op_or:OpR X (binaryOp .BitOr) (rI0 λi j=>.int (Builtin.bitOr i j)):=m5 λ_ _ _ _ _ _ _ q=>or_int q
theorem unI{f:Value->Sem Value}{g:Int->Int}(rule:∀ (i:Int) (t:Tok) (s:Shared) (Q:VSP) (E:VSP),Q (.int (g i) s.toks) { s with toks:=s.toks+1 } -> wpAny (model X.prog X.w) X.A (f (.int i t)) Q E s):UnR X f (rU λi=>.int (g i)):=by intro aA s σ H x v Q I rx h;obtain ⟨i,rfl,q⟩:=h;obtain ⟨t,rfl⟩:=rx;exact rule i t s _ _ ⟨.int (g i),H,I.tok _,⟨_,rfl⟩,q⟩
theorem aDU:UnR X (unaryOp .USub) (rU λi=>.int (-i)):=unI λ_ _ _ _ _ q=>neg_int q
end
section
variable {X:Cx}{a b c:Expr}{ta tb tc:TE}{pos:Pos}
theorem m7{aA:LAO}{σ:St}{H:Hp}{s:Shared}{Q:VK}{k k':Bool}(I:Inv X aA σ H s)(q:Q (.bl k) H)(e:k=k'):EP X aA σ Q (.bool k') s:=by subst e;exact ⟨.bl k,H,I,rfl,q⟩
theorem op_lt:OpR X (compareOp .Lt) (rI0 λi j=>.bl (decide (i<j))):=m6 λ_ _ _ _ _ _ _ q=>lt_int q
theorem op_le:OpR X (compareOp .LtE) (rI0 λi j=>.bl (decide (i<=j))):=m6 λ_ _ _ _ _ _ _ q=>le_int q
theorem op_gt:OpR X (compareOp .Gt) (rI0 λi j=>.bl (decide (j<i))):=m6 λ_ _ _ _ _ _ _ q=>gt_int q
theorem op_ge:OpR X (compareOp .GtE) (rI0 λi j=>.bl (decide (j<=i))):=m6 λ_ _ _ _ _ _ _ q=>ge_int q
theorem aDV:OpR X (compareOp .In) (λx y H Q=>∃ i j,x=.str i/\y=.str j/\Q (.bl (!(Builtin.Str.occurrences j i 0 j.length 1).isEmpty)) H):=by intro aA s σ H x y v u Q I rx ry h;obtain ⟨i,j,rfl,rfl,q⟩:=h;obtain ⟨t,rfl⟩:=rx;obtain ⟨t',rfl⟩:=ry;exact in_str (m7 I q rfl)
theorem aDW:OpR X (compareOp .Is) (λx y H Q=>y=.non/\Q (.bl (decide (x=.non))) H):=by
 intro aA s σ H x y v u Q I rx ry h;obtain ⟨rfl,q⟩:=h;cases ry;refine is_none_gen (m7 I q ?_);cases x <;> first
  | (cases rx;rfl)
  | (obtain ⟨t,rfl⟩:=rx;rfl)
theorem aDX:OpR X (compareOp .IsNot) (λx y H Q=>y=.non/\Q (.bl (!decide (x=.non))) H):=by
 intro aA s σ H x y v u Q I rx ry h;obtain ⟨rfl,q⟩:=h;cases ry;refine isnot_none_gen (m7 I q ?_);cases x <;> first
  | (cases rx;rfl)
  | (obtain ⟨t,rfl⟩:=rx;rfl)
theorem aDY:OpR X (compareOp .NotIn) (λx y H Q=>∃ i j,x=.str i/\y=.str j/\Q (.bl (!(!(Builtin.Str.occurrences j i 0 j.length 1).isEmpty))) H):=by intro aA s σ H x y v u Q I rx ry h;obtain ⟨i,j,rfl,rfl,q⟩:=h;obtain ⟨t,rfl⟩:=rx;obtain ⟨t',rfl⟩:=ry;exact notIn_str (m7 I q rfl)
theorem OpR.or{f:Value->Value->Sem Value}{r r':R2}(h:OpR X f r)(h':OpR X f r'):OpR X f (λx y H Q=>r x y H Q\/r' x y H Q):=by
 intro aA s σ H x y v u Q I rx ry q;rcases q with q | q
 . exact h aA s σ H x y v u Q I rx ry q
 . exact h' aA s σ H x y v u Q I rx ry q
theorem aDZ{op:CmpOp}{r:R2}(ho:OpR X (compareOp op) r)(ha:PE X a ta)(hb:PE X b tb)(hm:behindInMarks op b=false):PE X (.Compare a [op] [b] pos) (tOp r ta tb):=by intro aA s σ H Q I h;exact wpAny_Compare1 (qO ha hb I h λv u s2 x y H2 I2 rx ry q=>ho aA s2 σ H2 x y v u Q I2 rx ry q) hm
def u7(t:TE):TT:=λσ H Q=>t σ H λx H'=>∃ k,x=.bl k/\Q k H'
theorem aD0{op:CmpOp}{r:R2}(ho:OpR X (compareOp op) r)(ha:PE X a ta)(hb:PE X b tb)(hm:behindInMarks op b=false):PT X (.Compare a [op] [b] pos) (u7 (tOp r ta tb)):=by
 intro aA s σ H Q I h;refine wpAny_isTrue_Compare1 (thn (ha aA s σ H _ I h) λv s1 ⟨x,H1,I1,r1,q1⟩=>thn (hb aA s1 σ H1 _ I1 q1) λu s2 ⟨y,H2,I2,r2,q2⟩ =>
  thn (ho aA s2 σ H2 x y v u _ I2 r1 r2 q2) λc s3 ⟨z,H3,I3,r3,k,e,q3⟩=>?_) hm
 subst e;cases r3;exact aPW ⟨H3,I3,q3⟩
def qP(K:Fg)(x:V)(H:Hp)(k:Bool):Prop :=
 match x with
 | .non=>k=false
 | .bl b=>k=b
 | .int i=>k=(i != 0)
 | .str y=>y.length<=sizeLine/\k=((y.length:Int) != 0)
 | .byt y=>y.size<=sizeLine/\k=((y.size:Int) != 0)
 | .ref p=>(∃ xs,SqL K H p xs/\k = !xs.isEmpty)\/(∃ xs,SqT K H p xs/\k = !xs.isEmpty)\/∃ kvs,H p=some (.dK kvs)/\k = !kvs.isEmpty
 | _=>False
theorem aD1{κ:Type}{kvs:List (κ×V)}{vs:List (κ×Value)}(r:KV kvs vs):(!vs.isEmpty) = !kvs.isEmpty:=by cases r <;> rfl
theorem u8{xs:List V}{its:List Value}(r:aP xs its):(!its.toArray.isEmpty) = !xs.isEmpty:=by cases r <;> simp
theorem kX:(sizeLine:Nat)<2 ^ 63:=by rw[aQD];decide
theorem aD2:TruR X (λx H Q=>∃ k,qP X.K x H k/\Q k H):=by
 intro aA s σ H x v Q I rx h;obtain ⟨k,e,q⟩:=h;have hl:=kX;have hs:sizeLine=16777216:=aQD;cases x with
 | non=>cases rx;have e':k=false:=e;subst e';exact truthy_none ⟨H,I,q⟩
 | bl b=>cases rx;have e':k=b:=e;subst e';exact aPW ⟨H,I,q⟩
 | int i=>obtain ⟨t,rfl⟩:=rx;have e':k=(i != 0):=e;subst e';exact PySem.P.truthy_int ⟨H,I,q⟩
 | str y=>obtain ⟨t,rfl⟩:=rx;obtain ⟨hy,e'⟩:y.length<=sizeLine/\k=((y.length:Int) != 0):=e;subst e';exact PySem.P.truthy_str (by omega) ⟨H,I.tok _,q⟩
 | byt y=>obtain ⟨t,rfl⟩:=rx;obtain ⟨hy,e'⟩:y.size<=sizeLine/\k=((y.size:Int) != 0):=e;subst e';exact PySem.W.truthy_bytes (by omega) ⟨H,I.tok _,q⟩
 | ref p =>
  cases rx;have e':(∃ xs,SqL X.K H p xs/\k = !xs.isEmpty)\/(∃ xs,SqT X.K H p xs/\k = !xs.isEmpty)\/∃ kvs,H p=some (.dK kvs)/\k = !kvs.isEmpty:=e;rcases e' with ⟨xs,hx,e'⟩ | ⟨xs,hx,e'⟩ | ⟨kvs,hx,e'⟩
  . subst e';obtain ⟨its,r,pl,hz⟩:=I.list hx;have hlen:=r.length;exact wpAny_truthy_list pl.isList (by simp only[aQE];omega) ⟨H,I.tok _,by rw[u8 r];exact q⟩
  . subst e';obtain ⟨its,r,pl,hz⟩:=I.tuple hx;have hlen:=r.length;exact truthy_tuple pl (by simp only[aQE];omega) ⟨H,I.tok _,by rw[u8 r];exact q⟩
  . subst e';obtain ⟨hz,hS,vs,r,m⟩:kvs.length<=sizeLine/\(p==sysModules)=false/\∃ vs,KV kvs vs/\s.heap.DictOf (bT X.prog X.w) p vs:=I.hok p _ hx;have hlen:kvs.length=vs.length:=aPD r;exact wpAny_truthy_dict hS m (by omega) ⟨H,I.tok _,by rw[aD1 r];exact q⟩
 | _=>exact (show False from e).elim
theorem aD3 (ha : PE X a ta) (he : ∀ whole, isTrue a X.env whole = (do let v ← whole; standAt a.pos; holding [v] (truthy v))) :
    PT X a (λσ H Q=>ta σ H λx H'=>∃ k,qP X.K x H' k/\Q k H'):=by
 intro aA s σ H Q I h;exact isTrue_plain (thn (ha aA s σ H _ I h) λv s1 ⟨x,H1,I1,r1,q1⟩=>aD2 aA s1 σ H1 x v Q I1 r1 q1) (he _)
theorem aD4:OpR X (binaryOp .Add) (λx y H Q=>∃ i j,x=.str i/\y=.str j/\i.length+j.length<=sizeLine/\Q (.str (i++j)) H):=by intro aA s σ H x y v u Q I rx ry h;obtain ⟨i,j,rfl,rfl,hz,q⟩:=h;obtain ⟨t,rfl⟩:=rx;obtain ⟨t',rfl⟩:=ry;exact add_str (λt' tk=>⟨.str (i++j),H,I.tok _,⟨_,rfl⟩,q⟩) hz
theorem fR{x:V}{us:List Value}(r:aP [x] us):∃ u,us=[u]/\aO x u:=by
 cases r with
 | cons r1 r2=>cases r2;exact ⟨_,rfl,r1⟩
theorem vals2{x y:V}{us:List Value}(r:aP [x,y] us):∃ u w',us=[u,w']/\aO x u/\aO y w':=by
 cases r with
 | cons r1 r2 =>
  cases r2 with
  | cons r3 r4=>cases r4;exact ⟨_,_,rfl,r1,r3⟩
theorem aD5:gN X (.type "int") (λxs H Q=>(∃ i,xs=[.int i]/\Q (.int i) H)\/∃ k,xs=[.bl k]/\Q (.int (if k then 1 else 0)) H):=by
 intro aA s σ H xs us Q I r h;rcases h with ⟨i,rfl,q⟩ | ⟨k,rfl,q⟩
 . obtain ⟨u,rfl,t,rfl⟩:=fR r;exact call_int_int ⟨.int i,H,I,⟨_,rfl⟩,q⟩
 . obtain ⟨u,rfl,r1⟩:=fR r;cases r1;exact call_int_bool ⟨.int (if k then 1 else 0),H,I.tok _,⟨_,rfl⟩,q⟩
theorem aD6:gN X (.type "str") (λxs H Q=>∃ i,xs=[.int i]/\i.natAbs.log2<1920/\Q (.str (toString i)) H):=by intro aA s σ H xs us Q I r h;obtain ⟨i,rfl,hz,q⟩:=h;obtain ⟨u,rfl,t,rfl⟩:=fR r;exact PySem.P.str_of_int hz ⟨.str _,H,I.tok _,⟨_,rfl⟩,q⟩
def LenV(K:Fg)(x:V)(H:Hp)(n:Nat):Prop :=
 match x with
 | .str y=>y.length<=sizeLine/\n=y.length
 | .byt y=>y.size<=sizeLine/\n=y.size
 | .ref p=>(∃ xs,SqL K H p xs/\n=xs.length)\/∃ xs,SqT K H p xs/\n=xs.length
 | _=>False
theorem aD7:gN X (.builtin "len") (λxs H Q=>∃ x n,xs=[x]/\LenV X.K x H n/\Q (.int n) H):=by
 intro aA s σ H xs us Q I r h;obtain ⟨x,n,rfl,e,q⟩:=h;obtain ⟨u,rfl,rx⟩:=fR r;have hl:=kX;have hs:sizeLine=16777216:=aQD;cases x with
 | str y=>obtain ⟨t,rfl⟩:=rx;obtain ⟨hy,e'⟩:y.length<=sizeLine/\n=y.length:=e;subst e';exact len_str (by omega) ⟨.int _,H,I.tok _,⟨_,rfl⟩,q⟩
 | byt y=>obtain ⟨t,rfl⟩:=rx;obtain ⟨hy,e'⟩:y.size<=sizeLine/\n=y.size:=e;subst e';exact PySem.W.len_bytes (by omega) ⟨.int _,H,I.tok _,⟨_,rfl⟩,q⟩
 | ref p =>
  cases rx;have e':(∃ xs,SqL X.K H p xs/\n=xs.length)\/∃ xs,SqT X.K H p xs/\n=xs.length:=e;rcases e' with ⟨xs,hx,e'⟩ | ⟨xs,hx,e'⟩
  . subst e';obtain ⟨its,r',pl,hz⟩:=I.list hx;have hlen:=r'.length;exact Calls.call_len_list pl.isList (by simp only[aQE];omega) ⟨.int xs.length,H,I.tok _,⟨_,by simp only[aQE];rw[hlen]⟩,q⟩
  . subst e';obtain ⟨its,r',pl,hz⟩:=I.tuple hx;have hlen:=r'.length;exact len_tuple pl (by simp only[aQE];omega) ⟨.int xs.length,H,I.tok _,⟨_,by simp only[aQE];rw[hlen]⟩,q⟩
 | _=>exact (show False from e).elim
end
section
variable {prog:Program}{w:World}{A:Around}{E:VSP}{s:Shared}{K:Fg}{x dx C f:Addr}{mA:SOV}{name:Str}{v:Value}
end
theorem dN.some_of{v:V}{o:Option Value}(r:dN (some v) o):∃ u,o=some u/\aO v u:=by
 cases o with
 | none=>exact (show False from r).elim
 | some u=>exact ⟨u,rfl,r⟩
theorem dN.none_of{o:Option Value}(r:dN none o):o=none:=by
 cases o with
 | none=>rfl
 | some u=>exact (show False from r).elim
section
variable {P:Program}{w:World}{H H':Hp}{h h':Heap}{a C dx:Addr}{fs fs':List (Str×V)}
end
structure Cls(K:Fg)(C:Addr):Prop where
 pg:PySem.W.plainGet K C Str.empty=true
 hd:PySem.W.hasDictIn K C=true
 po:PySem.W.plainOver K C=true
 sa:PySem.W.findIn K (.ref C) "__setattr__" = some (some (.builtin "object.__setattr__"))
def qQ(K:Fg)(C:Addr)(f:Str):Prop:=PySem.W.findIn K (.ref C) f=some none
structure qR(K:Fg)(C:Addr)(m:Str)(f:Addr):Prop where
 at_:PySem.W.findIn K (.ref C) m=some (some (.ref f))
 fn:PySem.W.isFn K (.ref f)=true
 kp:PySem.W.keepIn K (.ref f)=true
section
variable {X:Cx}{aA:LAO}{σ:St}{H:Hp}{s:Shared}{a C dx:Addr}{fs:List (Str×V)}{f:Str}{v:V}{A:Around}{E:VSP}
end
section
variable {X:Cx}{o e value:Expr}{f:Str}{pos pos' tpos:Pos}{ta tv:TE}
end
section
variable {X:Cx}{aA:LAO}{σ:St}{H:Hp}{s:Shared}{A:Around}{E:VSP}{Q:VSP}{c:Value}{b:Bool}
end
structure cI(k:Nat)(A:Around):Prop where
 hd:A.handled=none
 dp:A.depth+3 * k+5<recursionLimit
 un:A.units+16 * k+200<cLine
theorem cI.deeper{k:Nat}{A:Around}(r:cI (k+1) A)(env:Env):cI k (A.deeper env) :=
 ⟨r.hd,by have:=r.dp;show A.depth+1+3 * k+5<_;omega,by have:=r.un;show A.units+3+16 * k+200<_;omega⟩
theorem cI.depth{k:Nat}{A:Around}(r:cI k A):A.depth<recursionLimit:=by have:=r.dp;omega
theorem cI.units{k:Nat}{A:Around}(r:cI k A):A.units+64<cLine:=by have:=r.un;omega
def tNil:TA:=λ_ H Q=>Q [] H
def m8(ta:TE)(tr:TA):TA:=λσ H Q=>ta σ H λx H1=>tr σ H1 λxs H2=>Q (x::xs) H2
section
variable {X:Cx}{e:Expr}{es:List Expr}{te:TE}{t:TA}{pos:Pos}
theorem m9:PA X [] tNil:=λ_ _ _ _ H Q I h=>Calls.spliced_nil ⟨[],H,I,.nil,h⟩
theorem kY(ha:PE X e te)(hr:PA X es t)(hs:starEach (e::es) X.env=(false,eval e X.env)::starEach es X.env:=by rfl):PA X (e::es) (m8 te t):=by intro pos aA s σ H Q I h;rw[hs];show wpAny _ _ (spliced ((false,eval e X.env)::backTo pos (starEach es X.env))) _ _ s;refine Calls.spliced_cons (thn (ha aA s σ H _ I h) λu s1 ⟨x,H1,I1,r1,q1⟩=>?_);exact thn (hr pos aA s1 σ H1 _ I1 q1) λus s2 ⟨xs,H2,I2,r2,q2⟩=>⟨x::xs,H2,I2,.cons r1 r2,q2⟩
def tTup(t:TA):TE:=λσ H Q=>t σ H λxs H1=>xs.length<=sizeLine/\∀ p,H1 p=none->Q (.ref p) (upd H1 p (.tup xs))
def tLst(t:TA):TE:=λσ H Q=>t σ H λxs H1=>xs.length<=sizeLine/\∀ p,H1 p=none->Q (.ref p) (upd H1 p (.lst xs))
theorem aD8{x1}(h:PA X es t):PE X (.Tuple es x1 pos) (tTup t):=by
 intro aA s σ H Q I hq;refine wpAny_Tuple_spliced (thn (h pos aA s σ H _ I hq) λus s1 ⟨xs,H1,I1,r,z,q⟩=>⟨by rw[<- r.length];exact z,?_⟩)
 have hf:H1 s1.heap.objs.size=none:=I1.hok.fresh (aP8 _);refine ⟨.ref s1.heap.objs.size,upd H1 s1.heap.objs.size (.tup xs),I1.laid (t':=s1.toks) (λb u e=>hps e) (aP8 _) ?_,rfl,q _ hf⟩;exact ⟨z,us,r,⟨_,aPF _ rfl,rfl,rfl,_,rfl⟩⟩
theorem aD9(h:PA X es t):PE X (.List es pos) (tLst t):=by
 intro aA s σ H Q I hq;refine wpAny_List_spliced (thn (h pos aA s σ H _ I hq) λus s1 ⟨xs,H1,I1,r,z,q⟩=>⟨by rw[<- r.length];exact z,?_⟩)
 have hf:H1 s1.heap.objs.size=none:=I1.hok.fresh (aP8 _);refine ⟨.ref s1.heap.objs.size,upd H1 s1.heap.objs.size (.lst xs),I1.laid (t':=s1.toks) (λb u e=>hps e) (aP8 _) ?_,rfl,q _ hf⟩;exact ⟨z,us,0,r,aPF _ rfl⟩
end
abbrev Sp:=List V->Hp->VK->XK->Prop
abbrev CXT:=List Env->Hp->Shared->XK->Value->Shared->Prop
structure nC(P:Program)(w:World)(K:Fg)(mg:SOV)(base:Heap)(A:Around)(outer:List Env)(s:Shared)(H:Hp):Prop where
 frames:A.frames=some outer
 mod:Mod K mg base
 bs:∀ b o,base.get? b=some o->s.heap.get? b=some o/\H b=none
 bsz:base.objs.size<=s.heap.objs.size
 funs:s.heap.FunFrames base outer
 frf:∀ b∈frs outer,H b=none
 hok:HOk P w H s.heap
 bare:AllBare s.gens
def CE(outer:List Env)(P:Program)(w:World)(H:Hp)(s:Shared)(Q:VK)(u:Value)(s':Shared):Prop :=
 ∃ v H',s'.os=s.os/\AllBare s'.gens/\Un (frs outer) [] H H' s.heap s'.heap/\HOk P w H' s'.heap/\aO v u/\Q v H'
def CR(CX:CXT)(outer:List Env)(P:Program)(w:World)(H:Hp)(s:Shared)(Q:VK)(E:XK)(r:Result)(s':Shared):Prop :=
 match r with
 | .ok (.ret u)=>CE outer P w H s Q u s'
 | .ok _=>False
 | .error e=>CX outer H s E e s'
structure cW(P:Program)(w:World)(K:Fg)(mg:SOV)(base:Heap)(CX:CXT)(k:Nat)(f:Addr)(fd:FuncData)(ps:List Str)(sp:Sp):Prop where
 len:∀ vs H Q E,sp vs H Q E->vs.length=ps.length
 run:∀ (A:Around) (outer:List Env) (s:Shared) (H:Hp) (args:Args) (us:List Value) (vs:List V) (Q:VK) (E:XK),cI k A->nC P w K mg base A outer s H->BindsTo s fd args (ps.zip us)->aP vs us->sp vs H Q E ->
  codeAny (model P w) A (.call (.ref f) args) (CR CX outer P w H s Q E) s
theorem cW.imp{P:Program}{w:World}{K:Fg}{mg:SOV}{base:Heap}{CX:CXT}{k:Nat}{f:Addr}{fd:FuncData}{ps:List Str}{sp sp':Sp}(F:cW P w K mg base CX k f fd ps sp)(h:∀ vs H Q E,sp' vs H Q E->sp vs H Q E):cW P w K mg base CX k f fd ps sp' :=
 ⟨λvs H Q E q=>F.len vs H Q E (h _ _ _ _ q),λA outer s H args us vs Q E hr he hb hv hs=>F.run A outer s H args us vs Q E hr he hb hv (h _ _ _ _ hs)⟩
section
variable {X:Cx}{aA:LAO}{σ:St}{H:Hp}{s s':Shared}
theorem Inv.env0(I:Inv X aA σ H s):nC X.prog X.w X.K X.mg X.base X.A X.stack s H :=
 ⟨I.ok.frames,I.ok.mod,I.bs,aPN I.ok.bsz I.sz,I.stack,I.stkFree,I.hok,I.bare⟩
theorem Inv.after{Q:VK}{u:Value}(I:Inv X aA σ H s)(h:CE X.stack X.prog X.w H s Q u s'):EP X aA σ Q u s':=by obtain ⟨v,H',os,bare,un,hok,r,q⟩:=h;obtain ⟨hh,g,d,t,os'⟩:=s';obtain rfl:os'=s.os:=os;exact ⟨v,H',I.call (h':=hh) (g':=g) (d':=d) (t':=t) (ch:=[]) un hok bare (λb z=>absurd z (by simp)),r,q⟩
end
def e8(K:Fg)(fd:FuncData)(ps:List Str)(ds:List Value):Prop :=
 ∀ (s:Shared) (us:List Value),K.In s.heap->(us++ds).length=ps.length->BindsTo s fd ⟨us,[]⟩ (ps.zip (us++ds))
theorem e8.all{K:Fg}{fd:FuncData}{ps:List Str}(h:∀ us:List Value,us.length=ps.length->bindArgs fd ⟨us,[]⟩=pure (ps.zip us)):e8 K fd ps []:=λs us _ hl=>by rw[aQF] at hl ⊢;exact .of_eq (h us hl)
section
variable {X:Cx}{CX:CXT}{k:Nat}{f C:Addr}{fd:FuncData}{ps:List Str}{sp:Sp}{dvs:List V}{ds:List Value}{E:XK}{x m:Str}{p pos apos:Pos}{e o:Expr}{es:List Expr}{ta:TE}{t:TA}
structure Mk(K:Fg)(C f:Addr):Prop where
 makes:PySem.W.makesIn K C=true
 init:PySem.W.findIn K (.ref C) "__init__" = some (some (.ref f))
 fn:PySem.W.isFn K (.ref f)=true
 kp:PySem.W.keepIn K (.ref C)=true
end
section
variable {X:Cx}{CX:CXT}{k:Nat}{f C:Addr}{fd:FuncData}{ps ks:List Str}{sp:Sp}{E:XK}{x m:Str}{p pos apos kpos:Pos}{e o:Expr}{es:List Expr}{kws:List Keyword}{te ta:TE}{t tk:TA}{nm:Option Str}
variable {g:List Value->List Value->List Value}{gV:List V->List V->List V}
end
structure nD(N P:List Str)(sc:Scope):Prop where
 kind:sc.kind=.function
 co:sc.isCoroutine=false
 gen:sc.isGenerator=false
 nd:N.Nodup
 pre:N.take P.length=P
 par:∀ x∈P,sc.names.lookup x=some .local\/sc.names.lookup x=some .cell
 nofree:∀ y∈sc.names,y.2 ≠ .free
theorem u9{kindOf:Str->Option NameKind}{x:Str}:∀ {binds:List (Str×Value)} {m:SOV},(∀ v,(x,v)∉binds)->bindL kindOf binds m x=m x
 | [],_,_=>rfl
 | (n,v)::r,m,h=>by
  unfold bindL;rw[u9 λw hw=>h w (mcm hw)];split
  . have:x≠n:=by rintro rfl;exact h v mcs
    simp[this]
  . rfl
theorem vA{kindOf:Str->Option NameKind}{x:Str}:∀ {binds:List (Str×Value)} {m:SOV},(∀ v,(x,v)∉binds)->bindC kindOf binds m x=m x
 | [],_,_=>rfl
 | (n,v)::r,m,h=>by
  unfold bindC;rw[vA λw hw=>h w (mcm hw)];split
  . rfl
  . have:x≠n:=by rintro rfl;exact h v mcs
    simp[this]
theorem vB{kindOf:Str->Option NameKind}{x:Str}{v:Value}:∀ {P:List Str} {vs:List Value} {i:Nat} {m:SOV},P.Nodup->P[i]? = some x->vs[i]? = some v->kindOf x=some .local->bindL kindOf (P.zip vs) m x=some v
 | [],_,_,_,_,h,_,_=>by simp at h
 | _::_,[],_,_,_,_,h,_=>by simp at h
 | p::P,w::vs,0,m,nd,h1,h2,hk=>by simp at h1 h2;subst h1;subst h2;show bindL kindOf ((p,w)::P.zip vs) m p=_;unfold bindL;rw[u9 λv hv=>(aQG.mp nd).1 (aQH hv).1,if_pos hk];simp
 | p::P,w::vs,i+1,m,nd,h1,h2,hk=>by show bindL kindOf ((p,w)::P.zip vs) m x=_;unfold bindL;exact vB (i:=i) (aQG.mp nd).2 (by simpa using h1) (by simpa using h2) hk
theorem vC{kindOf:Str->Option NameKind}{x:Str}{v:Value}:∀ {P:List Str} {vs:List Value} {i:Nat} {m:SOV},P.Nodup->P[i]? = some x->vs[i]? = some v->kindOf x≠some .local->bindC kindOf (P.zip vs) m x=some v
 | [],_,_,_,_,h,_,_=>by simp at h
 | _::_,[],_,_,_,_,h,_=>by simp at h
 | p::P,w::vs,0,m,nd,h1,h2,hk=>by simp at h1 h2;subst h1;subst h2;show bindC kindOf ((p,w)::P.zip vs) m p=_;unfold bindC;rw[vA λv hv=>(aQG.mp nd).1 (aQH hv).1,if_neg hk];simp
 | p::P,w::vs,i+1,m,nd,h1,h2,hk=>by show bindC kindOf ((p,w)::P.zip vs) m x=_;unfold bindC;exact vC (i:=i) (aQG.mp nd).2 (by simpa using h1) (by simpa using h2) hk
def eK(N:List Str)(vs:List V):St:=vs.map some++List.replicate (N.length-vs.length) none
def dP(CX:CXT)(P:Program)(w:World)(K:Fg)(mg:SOV)(base:Heap)(N:List Str)(aS:Str)(scope:Scope)(f:Addr)(cd:Value)(A:Around)(outer:List Env)(s:Shared)(H:Hp)(E:XK):Cx where
 prog:=P
 w:=w
 K:=K
 mg:=mg
 base:=base
 A:=A.deeper (envOfC aS scope s.heap.objs.size f cd)
 N:=N
 s₀:=s
 H₀:=H
 env:=envOfC aS scope s.heap.objs.size f cd
 outer:=outer
 stack:=envOfC aS scope s.heap.objs.size f cd::outer
 ex:=[]
 calm:=true
 fn:=λ_=>true
 pn:=[]
 xe:=λe s'=>wpAny (model P w) (A.deeper (envOfC aS scope s.heap.objs.size f cd)) (leaving (envOfC aS scope s.heap.objs.size f cd) e) (λ_ s''=>CX outer H s E e s'') (λe' s''=>CX outer H s E e' s'') s'
theorem vD{sc:Scope}{n:Nat}{x:Str}(h:sc.names.lookup x=some .cell):∃ c,(cellsFrom n sc.names []).lookup x=some c:=by have q:=PySem.W.cellsFrom_some sc.names n [] (.inl h);exact Option.isSome_iff_exists.mp q
theorem aEA{CX:CXT}{P:Program}{w:World}{K:Fg}{mg:SOV}{base:Heap}{N ps:List Str}{aS:Str}{scope:Scope}{f:Addr}{cd:Value}{A:Around}{outer:List Env}{s s1:Shared}{H:Hp}{E:XK}{us:List Value}{vs:List V}(S:nD N ps scope)(hd:A.handled=none)(e0:nC P w K mg base A outer s H)(hl:vs.length=ps.length)(r:aP vs us)(x:InCallC s s.heap.objs.size (bindL (envOfC aS scope s.heap.objs.size f cd).kindOf (ps.zip us) λ_=>none) (cellsFrom (s.heap.objs.size+1) scope.names []) (bindC (envOfC aS scope s.heap.objs.size f cd).kindOf (ps.zip us) λ_=>none) s1):Inv (dP CX P w K mg base N aS scope f cd A outer s H E) [] (eK N vs) H s1:=by
 have hpl:ps.length<=N.length:=by have:=congrArg List.length S.pre;rw[aQI] at this;omega
 obtain ⟨h1,tk,rfl,hk⟩:=x.done;have noA:∀ b:Addr,b∉(dP CX P w K mg base N aS scope f cd A outer s H E).ex:=λb z=>absurd (show b∈([]:List Addr) from z) (by simp)
 refine ⟨⟨e0.mod,S.kind,rfl,rfl,aP8 _,λy z c h1 h2=>?_,λy hy=>?_,λy c _ h=>?_,λ_=>hd,Around.frames_deeper e0.frames,.inr ⟨rfl,rfl⟩,λb z=>absurd z (noA b),e0.bs,e0.bsz,λb _ _=>noA b,λb z=>absurd z (noA b),e0.funs,e0.frf⟩,
  rfl,e0.bare,Un.kept hk,⟨_,x.toInCall.ns,λi y v h1 h2 h3=>?_⟩,λy c h=>⟨_,x.cell y c h⟩,e0.hok.fresh (aP8 _),λy c h=>?_,λp hp=>absurd (show p∈([]:LAO) from hp) (by simp),e0.hok.kept hk,?_⟩
 . exact name_of_addr x.apart (aQJ h1) (aQJ h2)
 . have hy:scope.names.lookup y=some .cell\/scope.names.lookup y=some .free:=hy;rcases hy with hy | hy
   . exact vD hy
   . exact absurd rfl (S.nofree _ (aQJ hy))
 . exact Nat.le_of_lt (x.above y c (aQJ h))
 . have hi:i<vs.length:=by
     unfold eK at h2;by_cases hi:i<vs.length
     . exact hi
     . rw[aQK (by simpa using hi)] at h2
       rw[aQL] at h2;split at h2 <;> cases h2
   have ha:vs[i]? = some v:=by
    unfold eK at h2;rw[aQM (by simpa using hi),aQN] at h2
    cases e:vs[i]? with
    | none=>rw[e] at h2;cases h2
    | some a=>rw[e] at h2;cases h2;rfl
   obtain ⟨u,hu,rv⟩:=r.get ha;have hp:ps[i]? = some y:=by rw[<- S.pre,List.getElem?_take_of_lt (by omega)];exact h1
   have ndP:ps.Nodup:=by rw[<- S.pre];exact S.nd.sublist (aQO _ _)
   refine ⟨u,rv,?_⟩;rcases S.par y (aQP hp) with k | k
   . exact .inl ⟨k,vB ndP hp hu k⟩
   . obtain ⟨c,e⟩:=vD (n:=s.heap.objs.size+1) k;refine .inr ⟨.inl k,c,e,?_⟩;have q:=x.cell y c e;rw[vC ndP hp hu (by show scope.names.lookup y≠_;rw[k];decide)] at q
     exact q
 . exact e0.hok.fresh (Nat.le_of_lt (x.above y c (aQJ h)))
 . unfold eK;show _=N.length;rw[aQQ,aQR,List.length_replicate];omega
theorem fn_of{CX:CXT}{P:Program}{w:World}{K:Fg}{mg:SOV}{base:Heap}{k:Nat}{f:Addr}{name aS:Str}{params:Arguments}{body:List Stmt}{scope:Scope}{dV kV doc pm cdv ct oc:Value}{an od:Option Addr}{osl:Array (Option Value)}{N ps:List Str}{sp:Sp}(lk:K.lookup f=some ⟨oc,od,.func (PySem.W.fnOf name aS params body scope dV kV doc pm an cdv ct),osl⟩)(hcd:PySem.W.codeIn K cdv aS=true)(S:nD N ps scope)(len:∀ vs H Q E,sp vs H Q E->vs.length=ps.length)(hbody:∀ (A:Around) (outer:List Env) (s:Shared) (H:Hp) (vs:List V) (Q:VK) (E:XK),cI k (A.deeper (envOfC aS scope s.heap.objs.size f cdv))->sp vs H Q E->∃ t,PSs (dP CX P w K mg base N aS scope f cdv A outer s H E) body t/\t { nx:=λ_ H'=>Q .non H',rt:=Q } (eK N vs) H):cW P w K mg base CX (k+1) f (PySem.W.fnOf name aS params body scope dV kV doc pm an cdv ct) ps sp:=by
 refine ⟨len,λA outer s H args us vs Q E hr e0 hb r hsp=>?_⟩;have hl:=len _ _ _ _ hsp;have KX:K.In s.heap:=e0.mod.kin.keeps λb o e=>(e0.bs b o e).1;have lim:s.heap.NoLimit:=e0.mod.nolimit.keeps λb o e=>(e0.bs b o e).1;have dL:∀ y∈ps.zip us,scope.names.lookup y.1=some .local\/(scope.names.lookup y.1=some .cell/\((cellsFrom (s.heap.objs.size+1) scope.names []).lookup y.1).isSome=true):=λ⟨n,v⟩ hy=>by
  rcases S.par n (aQH hy).1 with q | q
  . exact .inl q
  . exact .inr ⟨q,PySem.W.cellsFrom_some _ _ _ (.inl q)⟩
 refine codeAny_call_function hr.depth (KX _ _ lk) rfl S.co S.gen rfl (PySem.W.codeRec_of KX hcd) (hb _ _ _ _ ?_);refine wpAny_newFunctionEnv_cells S.kind dL λenv he s1 x=>?_;subst he;refine ⟨lim.keeps x.toInCall.keep,codeAny_func ?_⟩;obtain ⟨t,ht,hq⟩:=hbody A outer s H vs Q E (hr.deeper _) hsp;have I:Inv (dP CX P w K mg base N aS scope f cdv A outer s H E) [] (eK N vs) H s1:=aEA S hr.hd e0 hl r x;refine aPV (ht [] s1 (eK N vs) H _ I hq) (λfl s' hs=>?_) λe s' hs=>hs;have fin:∀ {σ':St} {H':Hp} {v:V} {u:Value},Inv (dP CX P w K mg base N aS scope f cdv A outer s H E) [] σ' H' s'->aO v u->Q v H'->CE outer P w H s Q u s' :=
  λ{σ' H' v u} J rv q=>⟨v,H',J.os,J.bare,J.base,J.hok,rv,q⟩
 cases fl with
 | ret u=>obtain ⟨v,σ',H',J,rv,q⟩:=hs;exact fin J rv q
 | next=>obtain ⟨σ',H',J,q⟩:=hs;exact fin (v:=V.non) (u:=Value.none) J rfl q
 | brk=>obtain ⟨_,_,_,q⟩:=hs;exact False.elim q
 | cont=>obtain ⟨_,_,_,q⟩:=hs;exact False.elim q
section
variable {X:Cx}{x:Str}{p pos:Pos}{e:Expr}{es:List Expr}{t:TA}{id T:String}{r:List V->Hp->VK->Prop}
def tCB(r:List V->Hp->VK->Prop)(t:TA):TE:=λσ H Q=>t σ H λvs H1=>r vs H1 Q
theorem aEB(hc:gN X (.builtin id) r)(hg:Gl X x)(hm:X.mg x=none)(hv:bootBuiltins x=some (.builtin id))(ha:PA X (e::es) t)(hn:x ≠ "__name__" := by decide)(hdb:(x==("__debug__" : Str))=false:=by decide)(he:starEach (e::es) X.env=(false,eval e X.env)::starEach es X.env:=by rfl)(hpl:(backTo pos (starEach es X.env)).any (·.1)=false:=by rfl):PE X (.Call (.Name x p) (e::es) [] pos) (tCB r t):=by intro aA s σ H Q I h;refine aQS (gK I hg hm hv ?_ hn hdb);exact PyProof.Rows.callWith_builtin1 (thn (ha pos aA s σ H _ I h) λus s1 ⟨vs,H1,I1,r1,q1⟩=>hc aA s1 σ H1 vs us Q I1 r1 q1) he hpl
theorem aEC(hc:gN X (.type T) r)(hg:Gl X x)(hm:X.mg x=none)(hv:bootBuiltins x=some (.type T))(ha:PA X (e::es) t)(hn:x ≠ "__name__" := by decide)(hdb:(x==("__debug__" : Str))=false:=by decide)(he:starEach (e::es) X.env=(false,eval e X.env)::starEach es X.env:=by rfl)(hpl:(backTo pos (starEach es X.env)).any (·.1)=false:=by rfl):PE X (.Call (.Name x p) (e::es) [] pos) (tCB r t):=by intro aA s σ H Q I h;refine aQS (gK I hg hm hv ?_ hn hdb);exact aQA (thn (ha pos aA s σ H _ I h) λus s1 ⟨vs,H1,I1,r1,q1⟩=>hc aA s1 σ H1 vs us Q I1 r1 q1) he hpl
end
end L2
namespace HT
open PySem PyProof.Rows
section
open PySem.SeqAt
open PySem.AutoSeq1 (wpAny_loadPart')
open PySem.MeetsSeq PySem.MeetsSeq2 PySem.MeetsSeq3
end
section
variable {prog:Program}{w:World}{A:Around}{E:VSP}{s:Shared}
theorem aED{t b:Addr}{vs ws:List Value}{Q:VSP}(ht:IsTup s.heap t vs.toArray)(hb:IsTup s.heap b ws.toArray)(hv:vs≠[])(h1:ws=[]->Q (.ref t) s)(h2:ws≠[]->Q (.ref s.heap.objs.size) { s with heap:=s.heap.push { cls:=.type "tuple", data:=.seq (vs++ws).toArray } })(hsz:vs.length+ws.length<=sizeLine):wpAny (model prog w) A (binaryOp .Add (.ref t) (.ref b)) Q E s:=by
 obtain ⟨⟨cls,dd,data,sl⟩,ho,hc,n,hd⟩:=id ht;obtain ⟨⟨cls2,dd2,data2,sl2⟩,ho2,hc2,n2,hd2⟩:=id hb;simp only at hc hd hc2 hd2;subst hc hd hc2 hd2;have e:vs.toArray++ws.toArray=(vs++ws).toArray:=by simp
 by_cases hw:ws=[]
 . exact aQT ⟨_,ho,rfl⟩ ⟨_,ho2,rfl⟩ aQU seq_tuple_add aQV aQW (aQX _ _)
     (tuple_addW1 t b vs.toArray ws.toArray n n2 dd dd2 sl sl2 (by simpa using hv) (by simp[hw])) ⟨ho,ho2,h1 hw⟩
 . refine aQT ⟨_,ho,rfl⟩ ⟨_,ho2,rfl⟩ aQU seq_tuple_add aQV aQW (aQX _ _)
     (tuple_addW2 t b vs.toArray ws.toArray n n2 dd dd2 sl sl2 (by simpa using hv) (by simpa using hw) (by rw[aQE,aQE];exact hsz)) ⟨ho,ho2,?_⟩
   rw[e];exact h2 hw
def sIx(n d:Nat):Option Int->Nat
 | none=>d
 | some v=>if v<0 then (v+(n:Int)).toNat else min v.toNat n
theorem vE(n d:Nat):sIx n d none=d:=rfl
theorem nE(n d k:Nat):sIx n d (some (k:Int))=min k n:=by show (if (k:Int)<0 then ((k:Int)+(n:Int)).toNat else min (k:Int).toNat n)=min k n;rw[if_neg (by omega),aQY]
theorem aEE(n d:Nat)(hd:d<=n)(o:Option Int):sIx n d o<=n:=by
 cases o with
 | none=>exact hd
 | some v =>
  show (if v<0 then (v+(n:Int)).toNat else min v.toNat n)<=n;by_cases hv:v<0
  . rw[if_pos hv];omega
  . rw[if_neg hv];exact Nat.min_le_right _ _
theorem vF(v:Int)(n d:Nat):(if v<0 then max (v+(n:Int)) 0 else min v (n:Int))=((sIx n d (some v):Nat):Int):=by
 show (if v<0 then max (v+(n:Int)) 0 else min v (n:Int))=(((if v<0 then (v+(n:Int)).toNat else min v.toNat n):Nat):Int);by_cases hv:v<0
 . simp only[if_pos hv];omega
 . simp only[if_neg hv];omega
theorem aEF(lo hi:Option Int)(n:Nat):Builtin.Slice.sliceAdjust lo hi 1 (n:Int)=(((sIx n 0 lo:Nat):Int),((sIx n n hi:Nat):Int)):=by
 have h1:¬ ((1:Int)<0):=by omega
 unfold Builtin.Slice.sliceAdjust;simp only[h1,aQZ];refine Prod.ext ?_ ?_
 . cases lo with
   | none=>rfl
   | some v=>exact vF v n 0
 . cases hi with
   | none=>rfl
   | some v=>exact vF v n n
theorem aEG(i j:Nat):Builtin.Slice.slicePlaces (i:Int) (j:Int) 1=j-i:=by
 unfold Builtin.Slice.slicePlaces;have h1:(1:Int) > 0:=by omega
 simp only[h1,aQ0,Int.ediv_one];split <;> omega
theorem vG{v:Value}{o:Option Int}{Q:Option Int->Shared->Prop}(p:IsPart v o)(h:Q o s):wpAny (model prog w) A (Builtin.Slice.slicePartIndex v) Q E s:=by
 cases p with
 | none=>exact slicePart_none h
 | int i t=>exact slicePart_int h
theorem vH{sl:Addr}{vl vu:Value}{lo hi:Option Int}{n:Nat}{Q:Int×Int×Nat->Shared->Prop}(hs:s.heap.IsSliceOf sl vl vu .none)(pl:IsPart vl lo)(pu:IsPart vu hi)(h:Q (((sIx n 0 lo:Nat):Int),1,sIx n n hi-sIx n 0 lo) s):wpAny (model prog w) A (Builtin.Slice.sliceApplied (.ref sl) (pure (n:Int))) Q E s:=by
 obtain ⟨os,hos,hcs,hds⟩:=id hs;unfold Builtin.Slice.sliceApplied Builtin.Slice.sliceFields;refine aPZ (aPZ (aQ1 hos hds (x:=vl) rfl (aPZ (aQ1 hos hds (x:=vu) rfl (aPZ (aQ1 hos hds (x:=.none) rfl (aP1 ?_)))))));refine aPZ (slicePart_none ?_);show wpAny _ _ (if ((1:Int)==0)=true then _ else _) _ _ s;rw[if_neg (by decide)]
 refine aPZ (vG pl (aPZ (vG pu (aPZ (aP1 ?_)))));show wpAny _ _ (match Builtin.Slice.sliceAdjust lo hi 1 (n:Int) with | (lo,hi)=>pure (lo,(1:Int),Builtin.Slice.slicePlaces lo hi 1)) _ _ s
 rw[aEF lo hi n];show wpAny _ _ (pure (((sIx n 0 lo:Nat):Int),(1:Int),Builtin.Slice.slicePlaces ((sIx n 0 lo:Nat):Int) ((sIx n n hi:Nat):Int) 1)) _ _ s;rw[aEG];exact aP1 h
theorem aEH(xs:Array Value)(i k:Nat):((List.range k).filterMap λ(m:Nat)=>xs[((i:Int)+(m:Int) * 1).toNat]?).toArray=((xs.toList.drop i).take k).toArray:=by
 have e:(λ(m:Nat)=>xs[((i:Int)+(m:Int) * 1).toNat]?)=λm=>xs[i+m]?:=by
  funext m;have:((i:Int)+(m:Int) * 1).toNat=i+m:=by omega
  rw[this]
 rw[e];have:=pick_run xs i k;rw[List.filterMap_map] at this;have e2:((λx=>xs[x]?) ∘ λx=>i+x)=λm=>xs[i+m]?:=rfl;rw[e2] at this;rw[this]
theorem aEI{t sl:Addr}{items:Array Value}{vl vu:Value}{lo hi:Option Int}{Q:VSP}(ht:IsTup s.heap t items)(hs:s.heap.IsSliceOf sl vl vu .none)(pl:IsPart vl lo)(pu:IsPart vu hi)(hw:¬ (sIx items.size 0 lo=0/\sIx items.size items.size hi=items.size))(h:Q (.ref s.heap.objs.size) { s with heap:=s.heap.push { cls:=.type "tuple", data:=.seq ((items.toList.drop (sIx items.size 0 lo)).take (sIx items.size items.size hi-sIx items.size 0 lo)).toArray } })(hsz:items.size<=sizeLine):wpAny (model prog w) A (getItem (.ref t) (.ref sl)) Q E s:=by
 have htake:sizeOk (.seq ((items.toList.drop (sIx items.size 0 lo)).take (sIx items.size items.size hi-sIx items.size 0 lo)).toArray):=by show ((items.toList.drop (sIx items.size 0 lo)).take (sIx items.size items.size hi-sIx items.size 0 lo)).toArray.size<=sizeLine;rw[aQE,aQI,aQ2,aPX];omega
 have hj:sIx items.size items.size hi<=items.size:=aEE _ _ (aP8 _) hi;obtain ⟨os,hos,hcs,hds⟩:=id hs;have hTs:s.TypeIs (.ref sl) "slice" := ⟨os,hos,hcs⟩;unfold getItem
 try with_reducible refine aQ3 ?_
 first | refine aPZ (aP1 ?_) | skip
 refine aPZ (wpAny_sequenceKey ht.typeIs (by decide) ?_)
 refine aPZ (aQ4 (name:=Str.ofString "__getitem__") ht.typeIs aQ5
  (aQ6 aQ5 ht.typeIs entry_tuple_getitem ?_ (args_tuple_getitem _ _)))
 show wpAny _ _ (Builtin.Tuple.tupleItemsOf (.ref t) >>= _) _ _ s;refine aPZ (tupleItemsOf_ ht ?_);refine aPZ (aQ7 hTs ?_);rw[if_pos (by decide)]
 refine aPZ (vH hs pl pu ?_);have hno:¬ ((((sIx items.size 0 lo:Nat):Int)==0&&(1:Int)==1&&(sIx items.size items.size hi-sIx items.size 0 lo)==items.size)=true):=by intro q;rw[aQ8,aQ8] at q;have q1:((sIx items.size 0 lo:Nat):Int)=0:=eq_of_beq q.1.1;have q2:sIx items.size items.size hi-sIx items.size 0 lo=items.size:=eq_of_beq q.2;exact hw ⟨by omega,by omega⟩
 show wpAny _ _ (if (((sIx items.size 0 lo:Nat):Int)==0&&(1:Int)==1&&(sIx items.size items.size hi-sIx items.size 0 lo)==items.size)=true then _ else _) _ _ s;rw[if_neg hno,aEH]
 first
  | exact aPZ (m:=Builtin.Tuple.tupleExact _) (aP2 (aP1 ⟨_,rfl,aP1 h⟩) htake)
  | exact aPZ (m:=Builtin.Tuple.tupleExact _) (aP2 (aPZ (aP1 (aP1 ⟨_,rfl,aP1 h⟩))) htake)
  | exact aPZ (aPZ (m:=Builtin.Tuple.tupleExact _) (aP2 (aP1 (aP1 ⟨_,rfl,aP1 h⟩)) htake))
  | exact aPZ (aPZ (m:=Builtin.Tuple.tupleExact _) (aP2 (aP1 ⟨_,rfl,aP1 h⟩) htake))
end
end HT
namespace L2
open PySem PySem.Spec PyProof.Rows
abbrev TO:=St->Hp->(Option Int->Hp->Prop)->Prop
def PO(X:Cx)(e:Option Expr)(t:TO):Prop :=
 ∀ (aA:LAO) (s:Shared) (σ:St) (H:Hp) (Q:Option Int->Hp->Prop),Inv X aA σ H s->t σ H Q ->
  wpAny (model X.prog X.w) X.A (evalPart e X.env) (λu s'=>∃ o H',Inv X aA σ H' s'/\IsPart u o/\Q o H') X.xe s
def vI:TO:=λ_ H Q=>Q none H
def nF(t:TE):TO:=λσ H Q=>t σ H λx H1=>∃ i,x=.int i/\Q (some i) H1
section
variable {X:Cx}{e:Expr}{te:TE}{lo hi:Option Expr}{tl th:TO}{pos p2:Pos}
theorem aEJ:PO X none vI:=by intro aA s σ H Q I h;rw[evalPart_none];exact aP1 ⟨none,H,I,.none,h⟩
theorem aEK(h:PE X e te):PO X (some e) (nF te):=by intro aA s σ H Q I hw;rw[evalPart_some];refine thn (h aA s σ H _ I hw) λu s1 ⟨x,H1,I1,r1,q1⟩=>?_;obtain ⟨i,rfl,q⟩:=q1;obtain ⟨t,rfl⟩:=r1;exact ⟨some i,H1,I1,.int i t,q⟩
def SlR(X:Cx)(r:V->Option Int->Option Int->Hp->VK->Prop):Prop :=
 ∀ (aA:LAO) (s:Shared) (σ:St) (H:Hp) (x:V) (v vl vu:Value) (lo hi:Option Int) (sl:Addr) (Q:VK),Inv X aA σ H s->aO x v->s.heap.IsSliceOf sl vl vu .none->IsPart vl lo->IsPart vu hi->r x lo hi H Q ->
  ∃ T id,typeLookup (.type T) "__getitem__" = pure (some (.builtin id))/\s.TypeIs v T/\wpAny (model X.prog X.w) X.A (getItem v (.ref sl)) (EP X aA σ Q) X.xe s
theorem SlR.or{r r':V->Option Int->Option Int->Hp->VK->Prop}(h:SlR X r)(h':SlR X r'):SlR X (λx lo hi H Q=>r x lo hi H Q\/r' x lo hi H Q):=by
 intro aA s σ H x v vl vu lo hi sl Q I rx hs pl pu q;rcases q with q | q
 . exact h aA s σ H x v vl vu lo hi sl Q I rx hs pl pu q
 . exact h' aA s σ H x v vl vu lo hi sl Q I rx hs pl pu q
def tSl(r:V->Option Int->Option Int->Hp->VK->Prop)(te:TE)(tl th:TO):TE:=λσ H Q=>te σ H λx H1=>tl σ H1 λl H2=>th σ H2 λu H3=>r x l u H3 Q
theorem aEL{r:V->Option Int->Option Int->Hp->VK->Prop}(hr:SlR X r)(he:PE X e te)(hl:PO X lo tl)(hu:PO X hi th):PE X (.Subscript e (.Slice lo hi none p2) pos) (tSl r te tl th):=by
 intro aA s σ H Q I h;refine Subscript_ (thn (he aA s σ H _ I h) λv s1 ⟨x,H1,I1,r1,q1⟩=>?_);refine wpAny_Slice (thn (hl aA s1 σ H1 _ I1 q1) λvl s2 ⟨l,H2,I2,pl,q2⟩=>thn (hu aA s2 σ H2 _ I2 q2) λvu s3 ⟨u,H3,I3,pu,q3⟩=>?_);rw[evalPart_none];refine aP1 ?_;have I4:Inv X aA σ H3 { s3 with heap:=s3.heap.push { cls:=.type "slice", data:=.fields #[vl,vu,.none] } }:=I3.kept (t':=s3.toks) λb ob q=>hps q
 obtain ⟨T,id,hT,ht,hg⟩:=hr aA { s3 with heap:=s3.heap.push { cls:=.type "slice", data:=.fields #[vl,vu,.none] } } σ H3 x v vl vu l u s3.heap.objs.size Q I4 r1 (Heap.IsSliceOf.new ..) pl pu q3
 show wpAny (model X.prog X.w) X.A (subscriptTail e (.Slice lo hi none p2) v (.ref s3.heap.objs.size)) (EP X aA σ Q) X.xe { s3 with heap:=s3.heap.push { cls:=.type "slice", data:=.fields #[vl,vu,.none] } }
 exact tail_any (ops:=[.ref s3.heap.objs.size,v]) ht hT hg (by with_unfolding_all rfl)
def fT(xs:List V)(lo hi:Option Int):List V:=(xs.drop (HT.sIx xs.length 0 lo)).take (HT.sIx xs.length xs.length hi-HT.sIx xs.length 0 lo)
theorem vJ(xs:List V)(lo hi:Option Int):(fT xs lo hi).length<=xs.length:=by unfold fT;rw[aQI,aQ2];omega
def rSlT(K:Fg):V->Option Int->Option Int->Hp->VK->Prop:=λx lo hi H Q=>∃ a xs,x=.ref a/\SqT K H a xs /\
 ¬ (HT.sIx xs.length 0 lo=0/\HT.sIx xs.length xs.length hi=xs.length)/\∀ p,H p=none->Q (.ref p) (upd H p (.tup (fT xs lo hi)))
theorem aEM:SlR X (rSlT X.K):=by
 intro aA s σ H x v vl vu lo hi sl Q I rx hs pl pu h;obtain ⟨a,xs,rfl,hx,hw,q⟩:=h;cases rx;obtain ⟨its,r,ht,hz⟩:=I.tuple hx;have hlen:its.toArray.size=xs.length:=by rw[aQE];exact r.length.symm
 refine ⟨"tuple", _,PyProof.Rows.slot_tuple_getitem.lookup,ht.typeIs,?_⟩;refine HT.aEI ht hs pl pu (by rw[hlen];exact hw) ?_ (by rw[hlen];exact hz)
 rw[hlen];refine ⟨.ref s.heap.objs.size,_,I.laid (t':=s.toks) (o:=.tup (fT xs lo hi)) (λb ob q=>hps q) (aP8 _) ?_,rfl,q _ (I.hok.fresh (aP8 _))⟩;exact ⟨aPN (vJ xs lo hi) hz,_,(r.drop (HT.sIx xs.length 0 lo)).take (HT.sIx xs.length xs.length hi-HT.sIx xs.length 0 lo),fP.new _ _⟩
theorem aP.nil_iff{xs:List V}{us:List Value}(r:aP xs us):us=[]↔xs=[]:=by
 cases r with
 | nil=>simp
 | cons _ _=>simp
end
def ixN(n:Nat)(i:Int):Option Nat:=if 0<=i then (if i<n then some i.toNat else none) else if -(n:Int)<=i then some (i+n).toNat else none
def atI{α:Type}(xs:List α)(i:Int):Option α:=(ixN xs.length i).bind λj=>xs[j]?
theorem aEN{n:Nat}{i:Int}{j:Nat}(h:ixN n i=some j):seqIndex? i n=some j/\j<n /\ -(n:Int)<=i/\i<n:=by
 unfold ixN at h;by_cases h0:0<=i
 . rw[if_pos h0] at h;by_cases h1:i<n
   . rw[if_pos h1] at h;have e:i.toNat=j:=aPE h;exact ⟨by rw[seqIndex_of h0 h1,e],by omega,by omega,h1⟩
   . rw[if_neg h1] at h;cases h
 . rw[if_neg h0] at h;by_cases h1:-(n:Int)<=i
   . rw[if_pos h1] at h;have e:(i+n).toNat=j:=aPE h;exact ⟨by rw[seqIndex_neg (by omega) h1,e],by omega,h1,by omega⟩
   . rw[if_neg h1] at h;cases h
theorem nG{α:Type}{xs:List α}{i:Int}{v:α}(h:atI xs i=some v):∃ j,seqIndex? i xs.length=some j/\xs[j]? = some v/\j<xs.length /\ -(xs.length:Int)<=i/\i<xs.length:=by
 unfold atI at h;cases e:ixN xs.length i with
 | none=>rw[e] at h;cases h
 | some j=>rw[e] at h;obtain ⟨h1,h2,h3,h4⟩:=aEN e;exact ⟨j,h1,h,h2,h3,h4⟩
theorem bF{α:Type}{xs:List α}{j:Nat}{v:α}(h:xs[j]? = some v):atI xs (j:Int)=some v:=by
 have hj:j<xs.length:=(aPS.mp h).1;have e:ixN xs.length (j:Int)=some j:=by unfold ixN;rw[if_pos (by omega),if_pos (by omega)];simp
 unfold atI;rw[e];exact h
def nH(b:Expr):Prop:=∀ o i,subscripted b false o i=operate [o,i] (getItem o i)
def IxR(X:Cx)(r:R2):Prop :=
 ∀ (value slice:Expr) (aA:LAO) (s:Shared) (σ:St) (H:Hp) (x y:V) (v u:Value) (Q:VK),Inv X aA σ H s->aO x v->aO y u->r x y H Q ->
  subscripted slice false v u=operate [v,u] (getItem v u)->wpAny (model X.prog X.w) X.A (subscriptTail value slice v u) (EP X aA σ Q) X.xe s
def MtR(X:Cx)(id:String)(r:V->List V->Hp->VK->Prop):Prop :=
 ∀ (aA:LAO) (s:Shared) (σ:St) (H:Hp) (x:V) (xs:List V) (v:Value) (us:List Value) (Q:VK),Inv X aA σ H s->aO x v->aP xs us->r x xs H Q ->
  wpAny (model X.prog X.w) X.A (call (.builtin id) (v::us)) (EP X aA σ Q) X.xe s
section
variable {X:Cx}{a b:Expr}{ta tb:TE}{pos:Pos}
theorem IxR.or{r r':R2}(h:IxR X r)(h':IxR X r'):IxR X (λx y H Q=>r x y H Q\/r' x y H Q):=by
 intro value slice aA s σ H x y v u Q I rx ry q hs;rcases q with q | q
 . exact h value slice aA s σ H x y v u Q I rx ry q hs
 . exact h' value slice aA s σ H x y v u Q I rx ry q hs
theorem vK{r:R2}(hr:IxR X r)(ha:PE X a ta)(hb:PE X b tb)(hs:nH b):PE X (.Subscript a b pos) (tOp r ta tb):=by intro aA s σ H Q I h;exact Subscript_ (qO ha hb I h λv u s2 x y H2 I2 rx ry q=>hr a b aA s2 σ H2 x y v u Q I2 rx ry q (hs _ _))
def rIxL(K:Fg):R2:=λx y H Q=>∃ p xs i v,x=.ref p/\y=.int i/\SqL K H p xs/\atI xs i=some v/\Q v H
def rIxT(K:Fg):R2:=λx y H Q=>∃ p xs i v,x=.ref p/\y=.int i/\SqT K H p xs/\atI xs i=some v/\Q v H
def rIxS:R2:=λx y H Q=>∃ z i c,x=.str z/\y=.int i/\z.length<=sizeLine/\atI z.cps.toList i=some c/\Q (.str ⟨#[c]⟩) H
theorem aEO:IxR X (rIxL X.K):=by
 intro value slice aA s σ H x y v u Q I rx ry h hs;obtain ⟨p,xs,i,z,rfl,rfl,hq,he,q⟩:=h;cases rx;obtain ⟨t,rfl⟩:=ry;obtain ⟨its,r,pl,hz⟩:=I.list hq;obtain ⟨j,h1,h2,h3,h4,h5⟩:=nG he;obtain ⟨w,ew,rw'⟩:=r.get h2;have hl:=r.length;have hn:=kX;have fin:EP X aA σ Q w s:=⟨z,H,I,rw',q⟩;by_cases h0:0<=i
 . have hj:i.toNat=j:=by rw[seqIndex_of h0 h5] at h1;exact aPE h1
   exact item_listR pl.isList h0 (by omega) (by rw[hj];simpa using ew) fin hs
 . have hj:(i+(its.toArray.size:Int)).toNat=j:=by
     rw[seqIndex_neg (by omega) h4] at h1
     rw[aQE,<- hl];exact aPE h1
   exact subscriptTail_builtinR (x:=w) pl.isList.typeIs slot_list_getitem.lookup
    (wpAny_getItem_list_neg (Q:=λr s'=>r=w/\EP X aA σ Q r s') pl.isList (by omega) (by rw[aQE] <;> omega) (by omega) (by rw[hj];simpa using ew) ⟨rfl,fin⟩) hs
theorem aEP:IxR X (rIxT X.K):=by
 intro value slice aA s σ H x y v u Q I rx ry h hs;obtain ⟨p,xs,i,z,rfl,rfl,hq,he,q⟩:=h;cases rx;obtain ⟨t,rfl⟩:=ry;obtain ⟨its,r,pl,hz⟩:=I.tuple hq;obtain ⟨j,h1,h2,h3,h4,h5⟩:=nG he;obtain ⟨w,ew,rw'⟩:=r.get h2;have hl:=r.length;have hn:=kX;have fin:EP X aA σ Q w s:=⟨z,H,I,rw',q⟩;exact subscriptTail_builtinR (x:=w) pl.typeIs slot_tuple_getitem.lookup
  (getItem_tuple (j:=j) (Q:=λr s'=>r=w/\EP X aA σ Q r s') pl (by omega) (by omega) (by rw[aQE,<- hl];exact h1) (by simpa using ew) ⟨rfl,fin⟩) hs
theorem aEQ:IxR X rIxS:=by
 intro value slice aA s σ H x y v u Q I rx ry h hs;obtain ⟨z,i,c,rfl,rfl,hz,he,q⟩:=h;obtain ⟨t,rfl⟩:=rx;obtain ⟨t',rfl⟩:=ry;obtain ⟨j,h1,h2,h3,h4,h5⟩:=nG he;have hl:z.cps.toList.length=z.length:=by simp[Str.length]
 rw[hl] at h1 h4 h5;have hn:=kX;exact tail_any (typeIs_str s z t) slot_str_getitem.lookup (getItem_str (c:=c) (by
  have e1:decide (i < -(2 ^ 63:Int))=false:=aPB (by omega)
  have e2:decide (i ≥ 2 ^ 63)=false:=aPB (by omega)
  rw[e1,e2,Bool.or_false]) (by rw[h1];simpa using h2) ⟨.str ⟨#[c]⟩,H,I.tok _,⟨_,rfl⟩,q⟩) hs
def rIx(K:Fg):R2:=λx y H Q=>rIxL K x y H Q\/rIxT K x y H Q\/rIxS x y H Q
theorem aER:IxR X (rIx X.K):=aEO.or (aEP.or aEQ)
theorem aES(lo hi:Option Int)(n:Nat):(sliceBounds lo hi none n).1=((HT.sIx n 0 lo:Nat):Int)/\(sliceBounds lo hi none n).2.1=((HT.sIx n n hi:Nat):Int)/\(sliceBounds lo hi none n).2.2=1:=by
 refine ⟨?_,?_,rfl⟩
 . cases lo with
   | none=>simp[sliceBounds,HT.sIx]
   | some i =>
    simp only[sliceBounds,HT.sIx,aQ9,show (1:Int) > 0 by decide,aQ0]
    by_cases h:i<0
    . simp only[h,aQ0] <;> omega
    . simp only[h,aQZ] <;> omega
 . cases hi with
   | none=>simp[sliceBounds,HT.sIx]
   | some i =>
    simp only[sliceBounds,HT.sIx,aQ9,show (1:Int) > 0 by decide,aQ0]
    by_cases h:i<0
    . simp only[h,aQ0] <;> omega
    . simp only[h,aQZ] <;> omega
theorem aET(its:List Value)(lo hi:Option Int):slicePick its.toArray lo hi none=((its.drop (HT.sIx its.length 0 lo)).take (HT.sIx its.length its.length hi-HT.sIx its.length 0 lo)).toArray:=by obtain ⟨h1,h2,h3⟩:=aES lo hi its.toArray.size;unfold slicePick;rw[h1,h2,h3];simp only[sliceRange_one,pick_run,aQE] <;> rfl
def rSlL(K:Fg):V->Option Int->Option Int->Hp->VK->Prop:=λx lo hi H Q=>∃ a xs,x=.ref a/\SqL K H a xs/\∀ p,H p=none->Q (.ref p) (upd H p (.lst (fT xs lo hi)))
theorem aEU:SlR X (rSlL X.K):=by
 intro aA s σ H x v vl vu lo hi sl Q I rx hs pl pu h;obtain ⟨a,xs,rfl,hx,q⟩:=h;cases rx;obtain ⟨its,r,ht,hz⟩:=I.list hx;have hlen:=r.length;refine ⟨"list", _,slot_list_getitem.lookup,ht.isList.typeIs,?_⟩;refine wpAny_getItem_list_slice ht.isList hs pl pu .none (by simp) ?_ (by rw[aQE] <;> omega)
 rw[aET,<- hlen];refine ⟨.ref s.heap.objs.size,_,I.laid (t':=s.toks) (o:=.lst (fT xs lo hi)) (λb ob q=>hps q) (aP8 _) ?_,rfl,q _ (I.hok.fresh (aP8 _))⟩;exact ⟨aPN (vJ xs lo hi) hz,_,0,(r.drop (HT.sIx xs.length 0 lo)).take (HT.sIx xs.length xs.length hi-HT.sIx xs.length 0 lo),aPF _ rfl⟩
def e9:V->Bool
 | .non=>true
 | .bl _=>true
 | .int _=>true
 | .str _=>true
 | _=>false
def eqV:V->V->Bool
 | .non,.non=>true
 | .bl a,.bl b=>a==b
 | .bl a,.int b=>(if a then 1 else 0)==b
 | .int a,.bl b=>a==(if b then 1 else 0)
 | .int a,.int b=>a==b
 | .str a,.str b=>a==b
 | _,_=>false
theorem aEV{A:Around}{s:Shared}{y x:V}{u v:Value}(ry:aO y u)(rx:aO x v)(fy:e9 y=true)(fx:e9 x=true):SeqAt.EqAt A s u v (eqV y x):=by
 cases y with
 | non =>
  cases ry;cases x with
  | non=>cases rx;exact SeqAt.EqAt.same _
  | bl b=>cases rx;exact SeqAt.EqAt.none_bool b
  | int b=>obtain ⟨t,rfl⟩:=rx;exact SeqAt.EqAt.none_int b t
  | str b=>obtain ⟨t,rfl⟩:=rx;exact SeqAt.EqAt.none_str b t
  | _=>exact absurd (show false=true from fx) aP5
 | bl a =>
  cases ry;cases x with
  | non=>cases rx;exact SeqAt.EqAt.bool_none a
  | bl b=>cases rx;exact SeqAt.EqAt.bool_bool a b
  | int b=>obtain ⟨t,rfl⟩:=rx;exact SeqAt.EqAt.bool_int a b t
  | str b=>obtain ⟨t,rfl⟩:=rx;exact SeqAt.EqAt.bool_str a b t
  | _=>exact absurd (show false=true from fx) aP5
 | int a =>
  obtain ⟨t',rfl⟩:=ry;cases x with
  | non=>cases rx;exact SeqAt.EqAt.int_none a t'
  | bl b=>cases rx;exact SeqAt.EqAt.int_bool a t' b
  | int b=>obtain ⟨t,rfl⟩:=rx;exact SeqAt.EqAt.int_int a t' b t
  | str b=>obtain ⟨t,rfl⟩:=rx;exact SeqAt.EqAt.int_str a t' b t
  | _=>exact absurd (show false=true from fx) aP5
 | str a =>
  obtain ⟨t',rfl⟩:=ry;cases x with
  | non=>cases rx;exact SeqAt.EqAt.str_none a t'
  | bl b=>cases rx;exact SeqAt.EqAt.str_bool a t' b
  | int b=>obtain ⟨t,rfl⟩:=rx;exact SeqAt.EqAt.str_int a t' b t
  | str b=>obtain ⟨t,rfl⟩:=rx;exact SeqAt.EqAt.str_str a t' b t
  | _=>exact absurd (show false=true from fx) aP5
 | _=>exact absurd (show false=true from fy) aP5
def eqU(x:V)(u:Value):Bool:=match u with
 | .none=>eqV .non x
 | .bool b=>eqV (.bl b) x
 | .int i _=>eqV (.int i) x
 | .str z _=>eqV (.str z) x
 | _=>false
theorem vL{x y:V}{u:Value}(r:aO y u)(f:e9 y=true):eqU x u=eqV y x:=by
 cases y with
 | non=>cases r;rfl
 | bl b=>cases r;rfl
 | int i=>obtain ⟨t,rfl⟩:=r;rfl
 | str z=>obtain ⟨t,rfl⟩:=r;rfl
 | _=>exact absurd (show false=true from f) aP5
theorem kZ{x:V}:∀ {xs:List V} {us:List Value},aP xs us->xs.all e9=true->us.any (eqU x)=xs.any λy=>eqV y x
 | _,_,.nil,_=>rfl
 | y::xs,u::us,.cons r t,f=>by rw[aRA,aQ8] at f;rw[aRB,aRB,vL r f.1,kZ t f.2]
theorem k4{A:Around}{s:Shared}{x:V}{v:Value}(rx:aO x v)(fx:e9 x=true):∀ {xs:List V} {us:List Value},aP xs us->xs.all e9=true->∀ u∈us,SeqAt.EqAt A s u v (eqU x u)
 | _,_,.nil,_=>λu hu=>by cases hu
 | y::xs,u::us,.cons r t,f=>λu' hu=>by
  rw[aRA,aQ8] at f;rcases aPP.mp hu with rfl | hu
  . rw[vL r f.1];exact aEV r rx f.1 fx
  . exact k4 rx fx t f.2 u' hu
def inV(x:V)(xs:List V):Bool:=xs.any λy=>eqV y x
def rIn(K:Fg)(neg:Bool):R2:=λx y H Q=>∃ p xs,y=.ref p/\(SqL K H p xs\/SqT K H p xs)/\e9 x=true/\xs.all e9=true/\Q (.bl (if neg then !inV x xs else inV x xs)) H
theorem aEW:OpR X (compareOp .In) (rIn X.K false):=by
 intro aA s σ H x y v u Q I rx ry h;obtain ⟨p,xs,rfl,hq,fx,fs,q⟩:=h;cases ry;rcases hq with hq | hq
 . obtain ⟨its,r,pl,hz⟩:=I.list hq;refine SeqAt.in_listAt (eqU x) pl.isList (λw hw=>k4 rx fx r fs w (by simpa using hw)) ⟨.bl _,H,I,rfl,?_⟩
   rw[show its.toArray.any (eqU x)=its.any (eqU x) by simp,kZ r fs]
   exact q
 . obtain ⟨its,r,pl,hz⟩:=I.tuple hq;refine SeqAt.in_tupleAt (eqU x) pl (λw hw=>k4 rx fx r fs w (by simpa using hw)) ⟨.bl _,H,I,rfl,?_⟩
   rw[show its.toArray.any (eqU x)=its.any (eqU x) by simp,kZ r fs]
   exact q
theorem aEX:OpR X (compareOp .NotIn) (rIn X.K true):=by
 intro aA s σ H x y v u Q I rx ry h;obtain ⟨p,xs,rfl,hq,fx,fs,q⟩:=h;cases ry;rcases hq with hq | hq
 . obtain ⟨its,r,pl,hz⟩:=I.list hq;refine SeqAt.notIn_listAt (eqU x) pl.isList (λw hw=>k4 rx fx r fs w (by simpa using hw)) ⟨.bl _,H,I,rfl,?_⟩
   rw[show its.toArray.any (eqU x)=its.any (eqU x) by simp,kZ r fs]
   exact q
 . obtain ⟨its,r,pl,hz⟩:=I.tuple hq;refine SeqAt.notIn_tupleAt (eqU x) pl (λw hw=>k4 rx fx r fs w (by simpa using hw)) ⟨.bl _,H,I,rfl,?_⟩
   rw[show its.toArray.any (eqU x)=its.any (eqU x) by simp,kZ r fs]
   exact q
theorem aEY:gN X (.type "list") (λxs H Q=>∃ p ys,xs=[.ref p]/\(SqL X.K H p ys\/SqT X.K H p ys)/\∀ l,H l=none->Q (.ref l) (upd H l (.lst ys))):=by
 intro aA s σ H xs us Q I r h; obtain ⟨p, ys, rfl, hq, q⟩ := h; obtain ⟨u, rfl, rx⟩ := fR r; cases rx; have fin : ∀ (its : List Value), aP ys its → ys.length ≤ sizeLine → ∀ (h' : Heap) (c' : Nat), (∀ b o', s.heap.get? b = some o' → h'.get? b = some o') →
     h'.get? s.heap.objs.size=some { cls:=.type "list", dict:=none,data:=.seq its.toArray c',slots:=#[] } -> EP X aA σ Q (.ref s.heap.objs.size) { s with heap:=h' }:=λits r' hz h' c' kp e =>
  ⟨.ref s.heap.objs.size,_,I.laid (t':=s.toks) kp (aP8 _) (show bW X.prog X.w _ h' _ (.lst ys) from ⟨hz,its,c',r',e⟩),rfl,q _ (I.hok.fresh (aP8 _))⟩
 rcases hq with hq | hq
 . obtain ⟨its,r',pl,hz⟩:=I.list hq;have hlen:=r'.length;obtain ⟨o,ho,hc,n,hd⟩:=pl.isList;exact call_list_seq p (.inl rfl) ho hc hd (λh' c' kp e=>fin its r' hz h' c' kp e) (by simp only[aQE] <;> omega)
 . obtain ⟨its,r',pl,hz⟩:=I.tuple hq;have hlen:=r'.length;obtain ⟨o,ho,hc,n,hd⟩:=pl;exact call_list_seq p (.inr rfl) ho hc hd (λh' c' kp e=>fin its r' hz h' c' kp e) (by simp only[aQE] <;> omega)
theorem aEZ:gN X (.type "tuple") (λxs H Q=>∃ p ys,xs=[.ref p]/\((SqL X.K H p ys/\∀ l,H l=none->Q (.ref l) (upd H l (.tup ys)))\/(SqT X.K H p ys/\Q (.ref p) H))):=by
 intro aA s σ H xs us Q I r h;obtain ⟨p,ys,rfl,h⟩:=h;obtain ⟨u,rfl,rx⟩:=fR r;cases rx;rcases h with ⟨hq,q⟩ | ⟨hq,q⟩
 . obtain ⟨its,r',pl,hz⟩:=I.list hq;have hlen:=r'.length;refine call_tuple_list pl.isList (λh' kp=>?_) (by simp only[aQE] <;> omega)
   have I1:Inv X aA σ H { s with heap:=h' }:=I.kept (t':=s.toks) kp
   have I2:Inv X aA σ (upd H h'.objs.size (.tup ys)) { s with heap:=h'.push { cls:=.type "tuple", data:=.seq its.toArray } } :=
    I1.laid (t':=s.toks) (λb o e=>hps e) (aP8 _) (show bW X.prog X.w _ _ _ (.tup ys) from ⟨hz,its,r',fP.new _ _⟩)
   exact ⟨.ref h'.objs.size,_,I2,rfl,q _ (I1.hok.fresh (aP8 _))⟩
 . obtain ⟨its,r',pl,hz⟩:=I.tuple hq;exact call_tuple_same pl ⟨.ref p,H,I,rfl,q⟩
def tyV(K:Fg)(T:String)(x:V)(H:Hp):Prop:=match x with
 | .str _=>T = "str"
 | .int _=>T = "int"
 | .ref p => (T = "list" ∧ ∃ xs, SqL K H p xs) ∨ (T = "tuple" ∧ ∃ o, K.lookup p = some o ∧ o.cls = .type "tuple" ∧ o.dict = none) ∨
     (T = "dict" /\ ((∃ kvs,H p=some (.dK kvs))\/∃ kvs,H p=some (.dT kvs)))\/(T = "set" /\ ∃ S n,H p=some (.set S n))
 | _=>False
theorem aE0{aA:LAO}{σ:St}{H:Hp}{s:Shared}{T:String}{x:V}{v:Value}(I:Inv X aA σ H s)(r:aO x v)(ty:tyV X.K T x H):s.TypeIs v T/\∀ a,v=.ref a->∃ ob,s.heap.get? a=some ob/\ob.dict=none:=by
 cases x with
 | str z =>
  obtain ⟨t,rfl⟩:=r;cases (show T = "str" from ty)
  exact ⟨typeIs_str s z t,λ_ e=>nomatch e⟩
 | int i =>
  obtain ⟨t,rfl⟩:=r;cases (show T = "int" from ty)
  exact ⟨typeIs_int s i t,λ_ e=>nomatch e⟩
 | ref p =>
  cases r;rcases ty with ⟨rfl,xs,hq⟩ | ⟨rfl,o,hk,hc,hd⟩ | ⟨rfl,hk⟩ | ⟨rfl,S,n,hk⟩
  . obtain ⟨its,_,pl,_⟩:=I.list hq;refine ⟨pl.isList.typeIs,λa e=>?_⟩;cases e;obtain ⟨o,n,e,c,hd,_⟩:=pl;exact ⟨o,e,hd⟩
  . refine ⟨⟨o,I.kIn p o hk,hc⟩,λa e=>?_⟩;cases e;exact ⟨o,I.kIn _ o hk,hd⟩
  . have z:∃ o,s.heap.get? p=some o/\o.ExactDict:=by
      rcases hk with ⟨kvs,hk⟩ | ⟨kvs,hk⟩
      . obtain ⟨_,_,_,_,o,_,_,e,ex,_⟩:=I.hok p _ hk;exact ⟨o,e,ex⟩
      . obtain ⟨_,_,_,_,o,_,_,e,ex,_⟩:=I.hok p _ hk;exact ⟨o,e,ex⟩
    obtain ⟨o,e,ex⟩:=z;refine ⟨⟨o,e,ex.1⟩,λa e2=>?_⟩;cases e2;exact ⟨o,e,ex.2.1⟩
  . obtain ⟨o,_,_,_,e,ex,_⟩:=I.hok p _ hk;refine ⟨⟨o,e,ex.1⟩,λa e2=>?_⟩;cases e2;exact ⟨o,e,ex.2.1⟩
 | _=>exact False.elim ty
def tBM(K:Fg)(T:String)(r:V->List V->Hp->VK->Prop)(to:TE)(t:TA):TE:=λσ H Q=>to σ H λx H1=>tyV K T x H1/\t σ H1 λxs H2=>r x xs H2 Q
variable {o e:Expr}{es:List Expr}{to:TE}{t:TA}{name:Str}{apos cpos:Pos}{T id:String}{r:V->List V->Hp->VK->Prop}
theorem vM(pa:PlainAttrs T)(slot:Slot T name id)(hty:typeOf (.builtin id)=pure (.type "method_descriptor"))(hm:MtR X id r)(ho:PE X o to)(ha:PA X (e::es) t)(hbase:attributeBase o name X.env (eval o X.env)=eval o X.env:=by rfl)(hfew:((backTo cpos (starEach (e::es) X.env)).all (λx=>!x.1)&&(backToKw cpos (keywordEach [] X.env)).all (λx=>x.1.isSome)&&decide ((e::es).length+([]:List Keyword).length+(if ([]:List Keyword).isEmpty then 0 else 1)<30))=true:=by rfl)(hline:(apos.endLine==cpos.line)=true:=by rfl)(hs:starEach (e::es) X.env=(false,eval e X.env)::starEach es X.env:=by rfl)(hplain:(backTo cpos (starEach es X.env)).any (·.1)=false:=by rfl):PE X (.Call (.Attribute o name apos) (e::es) [] cpos) (tBM X.K T r to t):=by
 intro aA s σ H Q I h;refine wpAny_Call_method_late hbase hfew hline rfl (thn (ho aA s σ H _ I h) λv s1 ⟨x,H1,I1,r1,ty,q1⟩=>?_);obtain ⟨h1,h2⟩:=aE0 I1 r1 ty;refine ⟨T,id,pa,slot,hty,h1,h2,?_⟩;have hA:=ha cpos aA s1 σ H1 _ I1 q1;rw[hs] at hA ⊢;refine Calls.callWith_builtin (by show (false||(backTo cpos (starEach es X.env)).any (·.1))=false;rw[hplain] <;> rfl) (Calls.evalArgs_plain ?_)
 exact thn hA λus s2 ⟨vs,H2,I2,r2,q2⟩=>hm aA s2 σ H2 x vs v us Q I2 r1 r2 q2
end
def MtM(X:Cx)(id:String)(r:V->List V->Hp->VK->Prop):Prop :=
 ∀ (aA:LAO) (s:Shared) (σ:St) (H:Hp) (x:V) (xs:List V) (v:Value) (us:List Value) (Q:VK),Inv X aA σ H s->aO x v->aP xs us->r x xs H Q ->
  wpAny (model X.prog X.w) X.A (call (.builtin id) (v::us)) (EP X aA σ Q) X.xe s
theorem aP.one:∀ {x:V} {us:List Value},aP [x] us->∃ u,us=[u]/\aO x u
 | _,_,.cons r .nil=>⟨_,rfl,r⟩
section
variable {X:Cx}{aA:LAO}{σ:St}{H:Hp}{s:Shared}{l b:Addr}{xs ys zs:List V}
theorem Inv.lset{its its':List Value}{n:Nat}{f:Array Value->Array Value}{t':Nat}(I:Inv X aA σ H s)(hH:H l=some (.lst xs))(e:s.heap.get? l=some { cls:=.type "list", data:=.seq its.toArray n })(hf:f its.toArray=its'.toArray)(hv:aP ys its')(hz:ys.length<=sizeLine):Inv X aA σ (upd H l (.lst ys)) { s with heap:=s.heap.update l (Obj.mapSeq f),toks:=t' }:=by
 have q:=PySem.IsL.update e f;rw[hf] at q;refine I.write (x:=l) (e:=l) (by rw[hH];exact trivial) (.inl rfl) (λb' u hb hu=>(Heap.get?_update_other s.heap (Obj.mapSeq f) (Ne.symm hb)).trans hu) ⟨_,q⟩ ?_
 exact ⟨hz,its',_,hv,q⟩
theorem Inv.lstM(I:Inv X aA σ H s)(hH:H l=some (.lst xs)):xs.length<=sizeLine/\∃ (its:List Value) (n:Nat),aP xs its/\xs.length=its.length/\s.heap.get? l=some { cls:=.type "list", data:=.seq its.toArray n }:=by obtain ⟨z,its,n,r,e⟩:=I.hok l _ hH;exact ⟨z,its,n,r,r.length,e⟩
theorem aE1{n:Nat}(h:n<=sizeLine):Builtin.List.listTooLong n=false:=by unfold Builtin.List.listTooLong;exact aPB (by omega)
end
section
variable {X:Cx}
def aE2:V->List V->Hp->VK->Prop:=λx vs H Q=>∃ l xs y,x=.ref l/\vs=[y]/\H l=some (.lst xs)/\xs.length<sizeLine/\Q .non (upd H l (.lst (xs++[y])))
theorem vN:MtM X "list.append" aE2:=by
 intro aA s σ H x vs v us Q I rx rv h;obtain ⟨l,xs,y,rfl,rfl,hH,hz,q⟩:=h;cases rx;obtain ⟨u,rfl,ru⟩:=rv.one;obtain ⟨z,its,n,r,hl,e⟩:=I.lstM hH;refine call_meets F.slot_list_append ⟨_,e,rfl⟩ F.entry_list_append (F.args_list_append_2 _ _) (PySem.list_append l its.toArray n u (by rw[aQE];omega)) ⟨e,?_⟩
 refine ⟨.non,_,I.lset (its':=its++[u]) hH e (by simp) (r.append (.cons ru .nil)) ?_,rfl,q⟩
 rw[aQQ,aRC];omega
def aE3:V->List V->Hp->VK->Prop:=λx vs H Q=>∃ l b xs zs,x=.ref l/\vs=[.ref b]/\H l=some (.lst xs)/\H b=some (.lst zs)/\xs.length+zs.length<=sizeLine/\Q .non (upd H l (.lst (xs++zs)))
theorem aE4:MtM X "list.extend" aE3:=by
 intro aA s σ H x vs v us Q I rx rv h;obtain ⟨l,b,xs,zs,rfl,rfl,hH,hB,hz,q⟩:=h;cases rx;obtain ⟨u,rfl,ru⟩:=rv.one;cases ru;obtain ⟨z,its,n,r,hl,e⟩:=I.lstM hH;obtain ⟨z2,its2,n2,r2,hl2,e2⟩:=I.lstM hB;have hsz:its.toArray.size+its2.toArray.size<=sizeLine:=by rw[aQE,aQE];omega
 have hlong:¬ (!its.toArray.isEmpty&&Builtin.List.listTooLong (its.toArray.size+its2.toArray.size))=true:=by rw[aE1 hsz,Bool.and_false];exact aP5
 refine call_meets F.slot_list_extend ⟨_,e,rfl⟩ F.entry_list_extend (F.args_list_extend_2 _ _)
  (AutoSeq1.list_extend_list_list_0 l its.toArray n b its2.toArray n2 hlong (by rw[aQE];omega) (by omega)) ⟨e,e2,?_⟩
 refine ⟨.non,_,I.lset (its':=its++its2) hH e (by simp) (r.append r2) ?_,rfl,q⟩
 rw[aQQ];omega
end
section
variable {prog:Program}{w:World}{A:Around}{E:VSP}{s:Shared}
end
section
variable {X:Cx}
end
section
variable {κ:Type}[DecidableEq κ]
def cX(kvs:List (κ×V))(k:κ):Option V:=(kvs.find? λkv=>decide (kv.1=k)).map (·.2)
def cY(kvs:List (κ×V))(k:κ)(v:V):List (κ×V) :=
 if (kvs.any λkv=>decide (kv.1=k))=true then kvs.map (λkv=>if kv.1=k then (kv.1,v) else kv) else kvs++[(k,v)]
theorem nI{p:κ×V}{r:List (κ×V)}{k:κ}(e:p.1=k):cX (p::r) k=some p.2:=by simp[cX,aRD,e]
theorem nJ{p:κ×V}{r:List (κ×V)}{k:κ}(e:¬ p.1=k):cX (p::r) k=cX r k:=by simp[cX,aRD,e]
theorem vO(k:κ):∀ kvs:List (κ×V),(kvs.any λkv=>decide (kv.1=k))=(cX kvs k).isSome
 | []=>rfl
 | p::r=>by
  rw[aRB];by_cases e:p.1=k
  . simp only[nI e,aRE e,Bool.true_or,Option.isSome_some]
  . rw[nJ e,aPB e,Bool.false_or];exact vO k r
theorem qS(kvs:List (κ×V))(k:κ)(v:V):(cY kvs k v).length<=kvs.length+1:=by
 unfold cY;split
 . rw[aQR];omega
 . rw[aQQ,aRF,List.length_nil];omega
theorem dN.isSome_eq{o:Option V}{u:Option Value}(r:dN o u):o.isSome=u.isSome:=by
 cases o with
 | none=>cases u with
  | none=>rfl
  | some _=>exact (show False from r).elim
 | some _=>cases u with
  | none=>exact (show False from r).elim
  | some _=>rfl
theorem KV.val{kvs:List (κ×V)}{vs:List (κ×Value)}(r:KV kvs vs)(k:κ):dN (cX kvs k) (valueAt vs k):=by
 unfold KV at r
 induction r with
 | nil=>exact True.intro
 | @cons p q ps qs h t ih =>
  obtain ⟨h1,h2⟩:=h;by_cases e:p.1=k
  . have e':q.1=k:=h1.symm.trans e;have b:valueAt (q::qs) k=some q.2:=by simp[valueAt,aRD,e']
    rw[nI e,b];exact h2
  . have e':¬ q.1=k:=λz=>e (h1.trans z);have b:valueAt (q::qs) k=valueAt qs k:=by simp[valueAt,aRD,e']
    rw[nJ e,b];exact ih
theorem KV.any{kvs:List (κ×V)}{vs:List (κ×Value)}(r:KV kvs vs)(k:κ):(kvs.any λkv=>decide (kv.1=k))=vs.any λkv=>decide (kv.1=k):=by
 unfold KV at r
 induction r with
 | nil=>rfl
 | cons h t ih=>rw[aRB,aRB,ih,h.1]
theorem KV.repl{kvs:List (κ×V)}{vs:List (κ×Value)}(r:KV kvs vs)(k:κ){y:V}{u:Value}(ry:aO y u):KV (kvs.map λkv=>if kv.1=k then (kv.1,y) else kv) (vs.map λkv=>if kv.1=k then (kv.1,u) else kv):=by
 unfold KV at r ⊢
 induction r with
 | nil=>exact .nil
 | @cons p q ps qs h t ih =>
  rw[aRG,aRG];refine .cons ?_ ih;obtain ⟨h1,h2⟩:=h;by_cases e:p.1=k
  . rw[if_pos e,if_pos (h1.symm.trans e)];exact ⟨h1,ry⟩
  . rw[if_neg e,if_neg (λz=>e (h1.trans z))];exact ⟨h1,h2⟩
theorem KV.put{kvs:List (κ×V)}{vs:List (κ×Value)}(r:KV kvs vs)(k:κ){y:V}{u:Value}(ry:aO y u):KV (cY kvs k y) (stored vs k u):=by
 unfold cY stored;rw[r.any k];by_cases e:(vs.any λkv=>decide (kv.1=k))=true
 . rw[if_pos e,if_pos e];exact r.repl k ry
 . rw[if_neg e,if_neg e];exact Paired.snoc r ⟨rfl,ry⟩
theorem KV.length{kvs:List (κ×V)}{vs:List (κ×Value)}(r:KV kvs vs):kvs.length=vs.length:=aPD r
end
theorem iG{P:Program}{w:World}{k:Key}{u:Value}(r:aO (kV k) u):(bT P w).is k u=true:=by
 cases k with
 | inl i=>obtain ⟨t,e⟩:=(show ∃ t,u=Value.int i t from r);subst e;exact aCL P w i t
 | inr x=>obtain ⟨t,e⟩:=(show ∃ t,u=Value.str x t from r);subst e;exact aCM P w x t
theorem vP{P:Program}{w:World}:∀ {ks:List Key} {us:List Value},aP (ks.map kV) us->ItemsAre (bT P w) ks us
 | [],_,r=>by rw[List.map_nil] at r;cases r;exact .nil
 | k::ks,_,r=>by
  rw[aRG] at r;cases r with
  | cons h t=>exact .cons (iG h) (vP t)
abbrev KT(H:Hp):List (List Key×V)->List (List Key×Addr×Value)->Prop:=Paired λp q=>p.1=q.1/\H q.2.1=some (.tup (p.1.map kV))/\aO p.2 q.2.2
theorem KT.val{H:Hp}{kvs:List (List Key×V)}{xs:List (List Key×Addr×Value)}(r:KT H kvs xs)(k:List Key):dN (cX kvs k) ((atKey xs k).map (·.2)):=by
 induction r with
 | nil=>exact True.intro
 | @cons p q ps qs h t ih =>
  obtain ⟨h1,_,h2⟩:=h;by_cases e:p.1=k
  . have e':q.1=k:=h1.symm.trans e;have b:atKey (q::qs) k=some q.2:=by simp[atKey,aRD,e']
    rw[nI e,b];exact h2
  . have e':¬ q.1=k:=λz=>e (h1.trans z);have b:atKey (q::qs) k=atKey qs k:=by simp[atKey,aRD,e']
    rw[nJ e,b];exact ih
theorem KT.repl{H:Hp}{kvs:List (List Key×V)}{xs:List (List Key×Addr×Value)}(r:KT H kvs xs)(k:List Key){y:V}{u:Value}(ry:aO y u):KT H (kvs.map λkv=>if kv.1=k then (kv.1,y) else kv) (xs.map (putAt k u)):=by
 induction r with
 | nil=>exact .nil
 | @cons p q ps qs h t ih =>
  rw[aRG,aRG];refine .cons ?_ ih;obtain ⟨h1,h2,h3⟩:=h;unfold putAt;by_cases e:p.1=k
  . rw[if_pos e,if_pos (h1.symm.trans e)];exact ⟨h1,h2,ry⟩
  . rw[if_neg e,if_neg (λz=>e (h1.trans z))];exact ⟨h1,h2,h3⟩
theorem KT.put{H:Hp}{kvs:List (List Key×V)}{xs:List (List Key×Addr×Value)}(r:KT H kvs xs)(k:List Key){b:Addr}{y:V}{u:Value}(hb:H b=some (.tup (k.map kV)))(ry:aO y u):KT H (cY kvs k y) (storedH xs k b u):=by
 have e:(kvs.any λkv=>decide (kv.1=k))=(atKey xs k).isSome:=by rw[vO,(r.val k).isSome_eq,aRH]
 unfold cY storedH;rw[e];by_cases q:(atKey xs k).isSome=true
 . rw[if_pos q,if_pos q];exact r.repl k ry
 . rw[if_neg q,if_neg q];exact Paired.snoc r ⟨rfl,hb,ry⟩
theorem KT.keeps{H H':Hp}{kvs:List (List Key×V)}{xs:List (List Key×Addr×Value)}(r:KT H kvs xs)(ht:∀ b ys,H b=some (.tup ys)->H' b=some (.tup ys)):KT H' kvs xs :=
 Paired.mapP r λ_ _ z=>⟨z.1,ht _ _ z.2.1,z.2.2⟩
section
variable {P:Program}{w:World}{H:Hp}{h:Heap}{a:Addr}
theorem vQ{u:HO}(ok:HOk P w H h)(e:Rd H a u):bW P w H h a u:=e.ok ok
theorem jF{kvs:List (Key×V)}(ok:HOk P w H h)(e:Rd H a (.dK kvs)):kvs.length<=sizeLine/\(a==sysModules)=false/\∃ vs,KV kvs vs/\h.DictOf (bT P w) a vs :=
 show bW P w H h a (.dK kvs) from vQ ok e
theorem qT{kvs:List (Key×V)}(ok:HOk P w H h)(e:H a=some (.dK kvs)):kvs.length<=sizeLine/\(a==sysModules)=false/\∃ vs,KV kvs vs/\h.DictOf (bT P w) a vs:=jF ok (.inl e)
theorem k6{ks:List Key}(ok:HOk P w H h)(e:H a=some (.tup (ks.map kV))):(tupleKind (bT P w)).is h ks a:=by
 obtain ⟨_,its,r,o,h1,h2,_,n,h3⟩:=(show bW P w H h a (.tup (ks.map kV)) from ok a _ e)
 exact ⟨o,its.toArray,n,h1,h2,h3,by simpa using vP r⟩
theorem k7{kvs:List (List Key×V)}(ok:HOk P w H h)(e:Rd H a (.dT kvs)):kvs.length<=sizeLine/\(a==sysModules)=false/\∃ xs,KT H kvs xs/\h.DictOfH (tupleKind (bT P w)) a xs:=by
 obtain ⟨z,y,xs,r,o,es,ep,h1,h2,h3,h4,h5⟩:=(show bW P w H h a (.dT kvs) from vQ ok e)
 refine ⟨z,y,xs,r,o,es,ep,h1,h2,h3,h4,λx hx=>?_,h5⟩;have all:∀ {l:List (List Key×V)} {m:List (List Key×Addr×Value)},KT H l m->∀ x∈m,(tupleKind (bT P w)).is h x.1 x.2.1:=by
  intro l m q
  induction q with
  | nil=>intro x hx;exact nomatch hx
  | @cons p q ps qs hq t ih =>
   intro x hx;rcases aPP.mp hx with e | hx
   . subst e;exact k6 ok (by rw[<- hq.1];exact hq.2.1)
   . exact ih x hx
 exact all r x hx
theorem dt_of{kvs:List (List Key×V)}(ok:HOk P w H h)(e:H a=some (.dT kvs)):kvs.length<=sizeLine/\(a==sysModules)=false/\∃ xs,KT H kvs xs/\h.DictOfH (tupleKind (bT P w)) a xs:=k7 ok (.inl e)
end
def gO(H:Hp)(a:Addr)(y:V)(r:Option V):Prop :=
 (∃ kvs k,Rd H a (.dK kvs)/\y=kV k/\r=cX kvs k)\/∃ kvs k b,Rd H a (.dT kvs)/\y=.ref b/\H b=some (.tup (k.map kV))/\r=cX kvs k
def DPut(H:Hp)(a:Addr)(y v:V)(H':Hp):Prop :=
 (∃ kvs k,H a=some (.dK kvs)/\y=kV k/\kvs.length<sizeLine/\H'=upd H a (.dK (cY kvs k v))) \/
 ∃ kvs k b,H a=some (.dT kvs)/\y=.ref b/\H b=some (.tup (k.map kV))/\kvs.length<sizeLine/\H'=upd H a (.dT (cY kvs k v))
section
variable {X:Cx}{aA:LAO}{σ:St}{H:Hp}{s:Shared}{a:Addr}{y v:V}{u r:Value}{o:Option V}{A:Around}{E:VSP}
theorem Inv.big(I:Inv X aA σ H s):sysModules<s.heap.objs.size:=by have h:mainGlobals<s.heap.objs.size:=(I.mod.glob.keeps I.bk).lt;exact Nat.lt_trans (by decide) h
theorem aE5{Q:VSP}(hu:A.units+1<cLine)(I:Inv X aA σ H s)(g:gO H a y (some v))(ry:aO y u)(h:∀ w' s',Inv X aA σ H s'->aO v w'->Q w' s'):wpAny (model X.prog X.w) A (getItem (.ref a) u) Q E s:=by
 rcases g with ⟨kvs,k,e,ey,l⟩ | ⟨kvs,k,b,e,ey,eb,l⟩
 . subst ey;obtain ⟨z,hd,vs,rel,dd⟩:=jF I.hok e;obtain ⟨w',hw,rw'⟩:=dN.some_of (v:=v) (o:=valueAt vs k) (by rw[l];exact rel.val k)
   exact wpAny_getItem_of (iG ry) dd.mapOf hw (h w' _ (I.tok _) rw')
 . subst ey;cases (show u=Value.ref b from ry)
   obtain ⟨z,hd,xs,rel,dd⟩:=k7 I.hok e;obtain ⟨w',hw,rw'⟩:=dN.some_of (v:=v) (o:=(atKey xs k).map (·.2)) (by rw[l];exact rel.val k)
   obtain ⟨p,hp,hp2⟩:=Option.map_eq_some_iff.mp hw;refine wpAny_getItem_heap (aRI hu) (k6 I.hok eb) dd hp ?_;rw[hp2];exact h w' _ (I.tok _) rw'
theorem d_in{Q:VSP}(hu:A.units+1<cLine)(I:Inv X aA σ H s)(g:gO H a y o)(ry:aO y u)(h:∀ s',Inv X aA σ H s'->Q (.bool o.isSome) s'):wpAny (model X.prog X.w) A (compareOp .In u (.ref a)) Q E s:=by
 rcases g with ⟨kvs,k,e,ey,l⟩ | ⟨kvs,k,b,e,ey,eb,l⟩
 . subst ey;obtain ⟨z,hd,vs,rel,dd⟩:=jF I.hok e;refine wpAny_in_of (iG ry) hd dd.mapOf ?_;rw[<- (rel.val k).isSome_eq,<- l];exact h _ (I.tok _)
 . subst ey;cases (show u=Value.ref b from ry)
   obtain ⟨z,hd,xs,rel,dd⟩:=k7 I.hok e;refine wpAny_in_heap (aRI hu) (k6 I.hok eb) hd dd ?_;have q:=(rel.val k).isSome_eq;rw[aRH] at q;rw[<- q,<- l];exact h _ (I.tok _)
theorem aE6{Q:VSP}(hu:A.units+1<cLine)(I:Inv X aA σ H s)(g:gO H a y o)(ry:aO y u)(h:∀ s',Inv X aA σ H s'->Q (.bool (!o.isSome)) s'):wpAny (model X.prog X.w) A (compareOp .NotIn u (.ref a)) Q E s:=by
 rcases g with ⟨kvs,k,e,ey,l⟩ | ⟨kvs,k,b,e,ey,eb,l⟩
 . subst ey;obtain ⟨z,hd,vs,rel,dd⟩:=jF I.hok e;refine wpAny_notIn_of (iG ry) hd dd.mapOf ?_;rw[<- (rel.val k).isSome_eq,<- l];exact h _ (I.tok _)
 . subst ey;cases (show u=Value.ref b from ry)
   obtain ⟨z,hd,xs,rel,dd⟩:=k7 I.hok e;refine wpAny_notIn_heap (aRI hu) (k6 I.hok eb) hd dd ?_;have q:=(rel.val k).isSome_eq;rw[aRH] at q;rw[<- q,<- l];exact h _ (I.tok _)
theorem vR{h':Heap}{t':Nat}{ob:HO}(I:Inv X aA σ H s)(mu:Mut (H a))(hs:Heap.SameBut a s.heap h')(he:∃ q,h'.get? a=some q)(new:bW X.prog X.w (upd H a ob) h' a ob):Inv X aA σ (upd H a ob) { s with heap:=h',toks:=t' } :=
 I.write (x:=a) (e:=a) mu (.inl rfl) (λb q hb z=>(hs.2 b hb).trans z) he new
theorem qU{P:Program}{w:World}{H':Hp}{h':Heap}{kvs:List (Key×V)}{vs:List (Key×Value)}(z:kvs.length<=sizeLine)(hd:(a==sysModules)=false)(rel:KV kvs vs)(dd:h'.DictOf (bT P w) a vs):bW P w H' h' a (.dK kvs):=⟨z,hd,vs,rel,dd⟩
theorem aE7{H':Hp}{Q:Unit->Shared->Prop}(hu:A.units+1<cLine)(I:Inv X aA σ H s)(g:DPut H a y v H')(ry:aO y u)(rv:aO v r)(h:∀ s',Inv X aA σ H' s'->Q () s'):wpAny (model X.prog X.w) A (setItem (.ref a) u r) Q E s:=by
 rcases g with ⟨kvs,k,e,ey,l,eH⟩ | ⟨kvs,k,b,e,ey,eb,l,eH⟩
 . subst ey eH;obtain ⟨z,hd,vs,rel,dd⟩:=qT I.hok e;have hz:vs.length<=sizeLine:=by rw[<- rel.length];exact z
   have hl:(cY kvs k v).length<=sizeLine:=by have:=qS kvs k v;omega
   refine wpAny_setItem_pairs (hsz:=hz) (iG ry) dd λh' dd' hs=>h _ ?_;have he:∃ q,h'.get? a=some q:=let ⟨q,_,_,hq,_⟩:=dd';⟨q,hq⟩
   exact vR I (by rw[e];exact True.intro) hs he (qU hl hd (rel.put k rv) dd')
 . subst ey eH;cases (show u=Value.ref b from ry)
   obtain ⟨z,hd,xs,rel,dd⟩:=dt_of I.hok e;have hz:xs.length<=sizeLine:=by rw[<- aPD rel];exact z
   have hl:(cY kvs k v).length<=sizeLine:=by have:=qS kvs k v;omega
   refine wpAny_setItem_heap (hsz:=hz) (aRI hu) (k6 I.hok eb) dd λh' dd' hs=>h _ ?_;obtain ⟨q,es,ep,hq,h2,h3,h4,_,h5⟩:=dd';refine vR I (by rw[e];exact True.intro) hs ⟨q,hq⟩ ⟨hl,hd,_,(rel.put k eb rv).keeps λc ys ec=>?_,q,es,ep,hq,h2,h3,h4,h5⟩
   rw[aU (ne_of ec e (λz=>nomatch z))];exact ec
end
section
variable {X:Cx}{aA:LAO}{σ:St}{H:Hp}{s:Shared}{a:Addr}{kvs:List (Key×V)}{k:Key}{u:Value}{A:Around}{E:VSP}
end
def qV(i:Expr):Prop:=∀ ov iv,subscripted i false ov iv=operate [ov,iv] (getItem ov iv)
theorem aE8{prog:Program}{w:World}{A:Around}{E:VSP}{s:Shared}{env:Env}{value slice:Expr}{pos:Pos}{T id:String}{Q:VSP}(hl:typeLookup (.type T) "__getitem__" = pure (some (.builtin id)))(hs:qV slice)(h:wpAny (model prog w) A (eval value env) (λo s₁=>wpAny (model prog w) A (eval slice env) (λi s₂=>s₂.TypeIs o T/\wpAny (model prog w) A (getItem o i) Q E s₂) E s₁) E s):wpAny (model prog w) A (eval (.Subscript value slice pos) env) Q E s:=by
 refine Subscript_ (aPV h (λo s₁ h₁=>aPV h₁ (λi s₂ h₂=>?_) λ_ _ x=>x) λ_ _ x=>x);obtain ⟨hT,h₂⟩:=h₂;unfold subscriptTail;refine aPZ ?_;rw[getitemInPython_of_ne hT.not_modules];refine aPZ (aRJ hT hl ?_);have fin:wpAny (model prog w) A (subscripted slice false o i) (λr s₃=>wpAny (model prog w) A (letTemporaryGo value o r >>= λ_=>pure r) Q E s₃) E s₂:=by rw[hs o i];exact wpAny_operating (aPV h₂ (λr s₃ h₃=>aPZ (wpAny_letTemporaryGo (aP1 h₃))) λ_ _ x=>x)
 first
  | exact aP1 (aPZ fin)
  | exact aPZ (aP1 (aPZ fin))
  | exact aPZ fin
theorem aE9{X:Cx}{aA:LAO}{σ:St}{H:Hp}{s:Shared}{a:Addr}{y:V}{o:Option V}(I:Inv X aA σ H s)(g:gO H a y o):s.TypeIs (.ref a) "dict" := by
 rcases g with ⟨kvs,k,e,_,_⟩ | ⟨kvs,k,b,e,_,_,_⟩
 . obtain ⟨_,_,vs,_,dd⟩:=jF I.hok e;exact dd.typeIs
 . obtain ⟨_,_,xs,_,dd⟩:=k7 I.hok e;exact dd.typeIs
def vS(td ty tv:TE):TS:=λD σ H=>tv σ H λv H1=>td σ H1 λx H2=>ty σ H2 λy H3=>∃ a H4,x=.ref a/\DPut H3 a y v H4/\D.nx σ H4
section
variable {X:Cx}{o i e value:Expr}{pos pos' tpos:Pos}{td ty tv:TE}
theorem aFA(hu:X.A.units+1<cLine)(ho:PE X o td)(hi:PE X i ty)(hv:PE X value tv)(hs:swapsWith value (some (.Subscript o i pos')) pos.line X.env=pure false):PS X (.Assign [.Subscript o i pos'] value pos) (vS td ty tv):=by intro aA s σ H D I h;refine wpAny_Assign_Subscript (thn (hv aA s σ H _ I h) λr s1 ⟨v,H1,I1,rv,q1⟩=>thn (ho aA s1 σ H1 _ I1 q1) λu s2 ⟨x,H2,I2,rx,q2⟩=>thn (hi aA s2 σ H2 _ I2 q2) λiv s3 ⟨y,H3,I3,ry,a,H4,ex,g,q3⟩=>?_) hs;subst ex;obtain rfl:u=Value.ref a:=rx;exact aE7 hu I3 g ry rv λs4 I4=>⟨σ,H4,I4,q3⟩
end
theorem aFB{P:Program}{w:World}{H:Hp}(h:Heap)(hb:sysModules<h.objs.size):bW P w H (h.push { cls:=.type "dict", data:=.dict #[] }) h.objs.size (.dK []) :=
 ⟨aRK _,aPC.mpr (Ne.symm (aPJ hb)),[],.nil,Heap.DictOf.new h⟩
def aFC:TE:=λ_ H Q=>∀ p,H p=none->Q (.ref p) (upd H p (.dK []))
section
variable {X:Cx}{pos:Pos}
theorem aFD:PE X (.Dict [] [] pos) aFC:=λaA s σ H Q I h =>
 wpAny_Dict_empty ⟨.ref s.heap.objs.size,_,I.laid (a:=s.heap.objs.size) (o:=.dK []) (t':=s.toks) (λ_ _ q=>hps q) (aP8 _) (aFB s.heap I.big),rfl,h _ (I.hok.fresh (aP8 _))⟩
end
section
variable {X:Cx}{aA:LAO}{σ:St}{H:Hp}{s:Shared}{a:Addr}{y d:V}{u r:Value}{o:Option V}{A:Around}{E:VSP}
end
section
variable {X:Cx}{o e f:Expr}{apos cpos:Pos}{td ty tx:TE}
end
section
variable {X:Cx}{aA:LAO}{σ:St}{H:Hp}{s:Shared}{a:Addr}{kvs:List (Key×V)}{A:Around}{E:VSP}
theorem aFE{Q:VSP}(I:Inv X aA σ H s)(e:Rd H a (.dK kvs))(h:∀ p s',H p=none->Inv X aA σ (upd H p (.dK kvs)) s'->Q (.ref p) s'):wpAny (model X.prog X.w) A (call (.type "dict") [.ref a]) Q E s:=by
 obtain ⟨z,hd,vs,rel,dd⟩:=jF I.hok e;refine kt_call_dict hd dd (by rw[<- rel.length];exact z) λh' dd' hs=>?_
 refine h _ _ (I.hok.fresh (aP8 _)) (I.laid (a:=s.heap.objs.size) (o:=.dK kvs) (t':=s.toks) (λb q hq=>?_) (aP8 _) (qU z (aPC.mpr (Ne.symm (aPJ I.big))) rel dd'));exact (hs.2 b (aPJ (aPG hq))).trans (hps hq)
end
section
variable {X:Cx}{aA:LAO}{σ:St}{H:Hp}{s:Shared}{a:Addr}{y:V}{u:Value}{A:Around}{E:VSP}
end
end L2
namespace Att
open PySem PySem.W PySem.Calls PyProof.Rows
theorem aFF{P:Params}{h:Heap}:∀ (ns:List Int) (vs:List Value),WellAll P h vs (ns.map WData.int)->IntsAre vs ns:=by
 intro ns
 induction ns with
 | nil=>intro vs w;rw[List.map_nil] at w;cases w;exact .nil
 | cons n ns ih =>
  intro vs w;rw[aRG] at w;cases w with
  | cons a b=>cases a;exact .cons _ _ (ih _ b)
theorem aFG{l:OpenLaw}{n:Nat}(hn:l.most=some n){P:Params}{h:Heap}{args:List WData}{vals:List Value}(hpre:l.row.toRowW.claim.pre args=true)(hwl:WellAll P h vals args):∃ a vs ns,vals=[Value.ref a]/\args=[WData.list (ns.map WData.int)]/\h.get? a=some { cls:=.type "list", data:=.seq vs.toArray }/\IntsAre vs ns/\ns.length<=n:=by
 have hsh:WShape.hasAll [] args [.list .int]=true:=(pre_splitW hpre).1;have hc:l.pre.holds [] { args:=args }=true:=(pre_splitW hpre).2;obtain ⟨d,r,rfl,h1,h2⟩:=hasAllW_cons hsh;obtain rfl:=hasAllW_nil h2;obtain ⟨xs,rfl,h3⟩:=hasW_list h1;obtain ⟨ns,rfl⟩:=items_int h3;have hlen:ns.length<=n:=by
  unfold OpenLaw.pre at hc;have h4:(WTm.not (.lt (.lit (.int (n:Int))) (.len (.arg 0)))).holds [] { args:=[.list (ns.map .int)] }=true:=by have h4:=(holds_andW hc).1;rw[hn] at h4;exact h4
  have h5:=condW_of h4 (w_not (w_lt w_lit (w_len_list (w_arg rfl))));rw[aQR] at h5;refine Nat.le_of_not_lt λq=>?_;have q':(n:Int)<((ns.length:Nat):Int):=by omega
  first
   | (rw[aRE q'] at h5;exact absurd h5 (by decide))
   | (simp at h5;omega)
 cases hwl with
 | cons w1 w2 =>
  cases w2;cases w1 with
  | list ho hall=>exact ⟨_,_,ns,rfl,rfl,ho,aFF ns _ hall,hlen⟩
theorem aFH(l:OpenLaw)(args:List WData):l.row.toRowW.claim.post args (.bool true) args=true :=
 postW_of (r:=l.row.toRowW) (X:=(true==true))
  (show WShape.has [] (.bool true) .bool=true by first | rfl | decide | simp[WShape.has,WShape.arms,WShape.armsAll])
  (show (WTm.eq .res (.lit (.bool true))).value [] { args:=args,res:=some (.bool true),after:=args }=some (.bool (true==true)) from w_eq_bool (w_res rfl) w_lit) rfl
theorem aFI{l:OpenLaw}{n:Nat}{q:Program}{loose:List Str}{XP:(Str->Option Value)->Heap->Prop}{YP:World->Heap->Prop}{d:DefRec}(hn:l.most=some n)(hdf:d.params.defaults=[])(call:∀ (w:World) (s₀ s₁:Shared) (mg mb:SOV) (fa:Addr) (o:Obj) (pm cd doc:Value) (a:Addr) (vs:List Value) (ns:List Int),Ground q loose [] XP w s₀ mg mb s₁.heap->YP w s₁.heap->s₁.heap.get? fa=some o->o.data=.func (docDef d.name d.params d.body d.scope pm cd doc)->s₁.heap.CodeRec cd d.name->mg d.name=some (.ref fa)->s₁.heap.get? a=some { cls:=.type "list", data:=.seq vs.toArray } -> IntsAre vs ns->ns.length<=n->s₁.gens = #[]->codeAny (model l.prog w) callerA (.call (.ref fa) ⟨[.ref a],[]⟩) (λr s'=>r=.ok (.ret (.bool true))/\OldK s₁.heap s'.heap/\s'.os=s₁.os/\AllBare s'.gens) s₁):WalkO q loose XP YP l.row.toRowW d [] (λf vs=>PySem.call f vs):=by intro w s₀ s₁ mg mb G Y fa o pm cd doc dV kV ho hd hcd hD hmg hg args vals as hpre hlay hrd hwl hlo;obtain rfl:dV=.none:=Dflts.none hD hdf;obtain rfl:kV=.none:=Dflts.noKw hD;obtain ⟨a,vs,ns,rfl,rfl,hobj,hints,hlen⟩:=aFG hn hpre hwl;refine enter_call (codeAny_mono (call w s₀ s₁ mg mb fa o pm cd doc a vs ns G Y ho (fd_plain hd) hcd hmg hobj hints hlen hg) λr s' hq=>?_);obtain ⟨rfl,h2,h3,h4⟩:=hq;exact ⟨.inl ⟨.bool true,.bool true,[],rfl,λ_=>rfl,.bool true,aFH l _,λ_=>⟨List.Pairwise.nil,λ_ hm=>(nomatch hm)⟩⟩,h2,h3,h4⟩
section
variable {prog:Program}{w:World}{A:Around}{E:VSP}{s:Shared}{K:Frag}
def ledger(h:Heap)(L d:Addr):LAO:=(List.range h.objs.size).filterMap λa=>if a=L\/a=d then none else (h.get? a).map λo=>(a,o)
end
end Att
namespace L2
open PySem PySem.Spec PyProof.Rows
theorem vT:∀ {vs:List Value} {ns:List Int},IntsAre vs ns->aP (ns.map V.int) vs
 | _,_,.nil=>.nil
 | _,_,.cons n t h=>.cons ⟨t,rfl⟩ (vT h)
def qW(H:Hp):Prop:=∀ b,H b=none\/∃ o xs,H b=some (.frz o (.lst xs))
theorem aFJ{P:Program}{w:World}{K:Fg}{mg mb:SOV}{CX:CXT}{k:Nat}{fa a:Addr}{fd:FuncData}{x:Str}{sp:Sp}{s₁:Shared}{vs:List Value}{ns:List Int}(KX:K.In s₁.heap)(hns:s₁.heap.Ns mainGlobals mg)(hb:s₁.heap.Ns builtinsNs mb)(hbb:∀ x:Str,x ≠ "__name__" -> mb x=bootBuiltins x)(hlim:s₁.heap.NoLimit)(hg:s₁.gens = #[])(ha:s₁.heap.get? a=some { cls:=.type "list", data:=.seq vs.toArray })(hi:IntsAre vs ns)(hl:ns.length<=sizeLine)(hr:cI k callerA)(F:∀ base:Heap,K.In base->base.Ns mainGlobals mg->cW P w K mg base CX k fa fd [x] sp)(hbind:∀ (s:Shared) (u:Value),BindsTo s fd ⟨[u],[]⟩ [(x,u)])(hsp:∀ H:Hp,qW H->SqL K H a (ns.map V.int)->sp [.ref a] H (λv _=>v=.bl true) λ_ _ _=>False)(hCX:∀ H e s',CX [] H s₁ (λ_ _ _=>False) e s'->False):codeAny (model P w) callerA (.call (.ref fa) ⟨[.ref a],[]⟩) (λr s'=>r=.ok (.ret (.bool true))/\OldK s₁.heap s'.heap/\s'.os=s₁.os/\AllBare s'.gens) s₁:=by
 have rv := vT hi; have lenV := hi.length; have core : ∀ H : Hp, qW H → SqL K H a (ns.map V.int) → HOk P w H s₁.heap → (∀ b, H b ≠ none → b = a) → (H a ≠ none → K.lookup a = none) →
     codeAny (model P w) callerA (.call (.ref fa) ⟨[.ref a],[]⟩) (λr s'=>r=.ok (.ret (.bool true))/\OldK s₁.heap s'.heap/\s'.os=s₁.os/\AllBare s'.gens) s₁:=by
  intro H hO hS hok hA hK;have base_of:∀ {b:Addr} {o:Obj},s₁.heap.get? b=some o->H b=none->(fQ s₁.heap H).get? b=some o:=λe n=>aCO e n;have noA:∀ {b:Addr} {o:Obj} {es:Array DictEntry} {ep:Nat},s₁.heap.get? b=some o->o.data=.dict es ep->H b=none:=λ{b o es ep} e d=>by
   cases q:H b with
   | none=>rfl
   | some u =>
    have e':b=a:=hA b (by rw[q];simp)
    subst e';rw[ha] at e;cases e;have d':Data.seq vs.toArray _=Data.dict es ep:=d;cases d'
  have nsK:∀ {b:Addr} {m:SOV},s₁.heap.Ns b m->(fQ s₁.heap H).Ns b m:=λ{b m} ⟨o,es,ep,e,d,r⟩=>⟨o,es,ep,base_of e (noA e d),d,r⟩;have hKb:K.In (fQ s₁.heap H):=λb o e=>base_of (KX b o e) (by
   cases q:H b with
   | none=>rfl
   | some u =>
    have e':b=a:=hA b (by rw[q];simp)
    subst e'
    rw[hK (by rw[q];simp)] at e;cases e)
  have hM:Mod K mg (fQ s₁.heap H):=⟨hKb,nsK hns,⟨mb,nsK hb,hbb⟩,let ⟨mc,h1,h2⟩:=hlim;⟨mc,nsK h1,h2⟩⟩
  have e0:nC P w K mg (fQ s₁.heap H) callerA [] s₁ H:=⟨rfl,hM,λb o e=>aCP e,Nat.le_of_eq (aCN _ _),trivial,λb hb=>absurd (show b∈([]:List Addr) from hb) (by simp),hok,.of_eq hg⟩
  refine codeAny_mono ((F _ hKb (nsK hns)).run callerA [] s₁ H ⟨[.ref a],[]⟩ [.ref a] [.ref a] _ _ hr e0 (hbind s₁ (.ref a)) (.cons rfl .nil) (hsp H hO hS)) λr s' h=>?_;cases r with
  | error e=>exact (hCX H e s' h).elim
  | ok fl =>
   cases fl with
   | next=>exact False.elim h
   | brk=>exact False.elim h
   | cont=>exact False.elim h
   | ret u =>
    obtain ⟨v,H',os,bare,un,hok',r',q⟩:=h;have q':v=.bl true:=q;subst q';obtain rfl:u=Value.bool true:=r';refine ⟨rfl,OldK.of_keep λb o e=>?_,os,bare⟩;cases q:H b with
    | none=>exact un.keep b o e q (by intro z;exact absurd (show b∈([]:List Addr) from z) (by simp)) (by simp)
    | some u =>
     rcases hO b with z | ⟨ob,xs,z⟩
     . rw[q] at z;cases z
     . have z2:=un.frzs b ob _ z;obtain ⟨e1,_⟩:=hok b _ z;obtain ⟨e2,_⟩:=hok' b _ z2;rw[e] at e1;cases e1;exact e2
 cases hk:K.lookup a with
 | some o=>have e:=KX a o hk;rw[ha] at e;cases e;refine core (λ_=>none) (λ_=>.inl rfl) (.inr ⟨_,vs.toArray,_,hk,rfl,rfl,rfl,by rw[aQE,lenV];exact hl,by simpa using rv⟩) (λb u z=>by have z':(none:Option HO)=some u:=z;cases z') (λb z=>absurd rfl z) λz=>absurd rfl z
 | none =>
  refine core (λb=>if b=a then some (.frz { cls:=.type "list", data:=.seq vs.toArray } (.lst (ns.map V.int))) else none) (λb=>?_) (.inl (.inr ⟨{ cls:=.type "list", data:=.seq vs.toArray },if_pos rfl⟩)) (λb u z=>?_) (λb z=>?_) λ_=>hk
  . by_cases hb:b=a
    . exact .inr ⟨_,_,if_pos hb⟩
    . exact .inl (if_neg hb)
  . by_cases hb:b=a
    . have z':=(if_pos hb).symm.trans z;cases z';subst hb;exact ⟨ha,by rw[aQR];exact hl,vs,_,rv,ha⟩
    . have z':=(if_neg hb).symm.trans z;cases z'
  . by_cases hb:b=a
    . exact hb
    . exact absurd (if_neg hb) z
abbrev KOf{K:Fg}{h:Heap}(_:K.In h):Fg:=K
theorem aFK{l:PySem.W.OpenLaw}{n k:Nat}{q:Program}{loose:List Str}{XP:(Str->Option Value)->Heap->Prop}{YP:World->Heap->Prop}{d:DefRec}{K:Params->Fg}{CX:World->CXT}{sp:World->Sp}{x:Str}(hn:l.most=some n)(hn2:n<=sizeLine)(hdf:d.params.defaults=[])(hr:cI k callerA)(hY:∀ (w:World) (h:Heap),YP w h->(K w.params).In h)(F:∀ (w:World) (mg:SOV) (fa:Addr) (h:Heap),(K w.params).In h->h.Ns mainGlobals mg->mg d.name=some (.ref fa)->∃ fd:FuncData,(∀ (s:Shared) (u:Value),BindsTo s fd ⟨[u],[]⟩ [(x,u)])/\∀ base:Heap,(K w.params).In base->base.Ns mainGlobals mg->cW l.prog w (K w.params) mg base (CX w) k fa fd [x] (sp w))(hsp:∀ (w:World) (H:Hp) (a:Addr) (ns:List Int),ns.length<=n->qW H->SqL (K w.params) H a (ns.map V.int)->sp w [.ref a] H (λv _=>v=.bl true) λ_ _ _=>False)(hCX:∀ (w:World) (H:Hp) (s:Shared) (e:Value) (s':Shared),CX w [] H s (λ_ _ _=>False) e s'->False):PySem.W.WalkO q loose XP YP l.row.toRowW d [] (λf vs=>PySem.call f vs):=by refine Att.aFI hn hdf λw s₀ s₁ mg mb fa o pm cd doc a vs ns G Y ho hd hcd hmg hobj hints hlen hg=>?_;have KX:=hY w _ Y;obtain ⟨fd,hb,hF⟩:=F w mg fa _ KX G.T.g hmg;exact aFJ KX G.T.g G.T.b G.T.builtins G.T.nolimit hg hobj hints (aPN hlen hn2) hr hF hb (λH hO hS=>hsp w H a ns hlen hO hS) λH e s'=>hCX w H s₁ e s'
def nK(s:Stmt):Arguments:=match s with
 | .FunctionDef _ a _ _ _ _ _ _ _ _=>a
 | _=>{ posonlyargs:=[],args:=[],vararg:=none,kwonlyargs:=[],kw_defaults:=[],kwarg:=none,defaults:=[] }
def jG(s:Stmt):List Stmt:=match s with
 | .FunctionDef _ _ b _ _ _ _ _ _ _=>b
 | _=>[]
def eL(s:Stmt):Scope:=match s with
 | .FunctionDef _ _ _ _ _ _ sc _ _ _=>sc
 | _=>{ kind:=.function,names:=[],isGenerator:=false,isCoroutine:=false }
structure Fun(K:Fg)(x aS:Str)(st:Stmt)(f:Addr)(fd:FuncData):Prop where
 ex:∃ (oc:Value) (od:Option Addr) (kV doc pm:Value) (an:Option Addr) (cdv ct:Value) (osl:Array (Option Value)),
  fd=PySem.W.fnOf x aS (nK st) (jG st) (eL st) .none kV doc pm an cdv ct/\K.lookup f=some ⟨oc,od,.func fd,osl⟩/\PySem.W.codeIn K cdv aS=true
 kp:PySem.W.keepIn K (.ref f)=true
section
variable {P:Program}{w:World}{K:Fg}{mg:SOV}{base:Heap}
theorem aFL{x aS:Str}{st:Stmt}{f:Addr}{oc:Value}{od an:Option Addr}{osl:Array (Option Value)}{kV doc pm cdv ct:Value}(l:K.lookup f=some ⟨oc,od,.func (PySem.W.fnOf x aS (nK st) (jG st) (eL st) .none kV doc pm an cdv ct),osl⟩)(c:PySem.W.codeIn K cdv aS=true)(k:PySem.W.keepIn K (.ref f)=true):Fun K x aS st f (PySem.W.fnOf x aS (nK st) (jG st) (eL st) .none kV doc pm an cdv ct):=⟨⟨oc,od,kV,doc,pm,an,cdv,ct,osl,rfl,l,c⟩,k⟩
end
section
variable {X:Cx}
end
def aH(H H':Hp):Prop:=∀ b o,H b=some o->H' b=some o
theorem aH.refl(H:Hp):aH H H:=λ_ _ h=>h
theorem aH.trans{H H1 H2:Hp}(a:aH H H1)(b:aH H1 H2):aH H H2:=λc o h=>b c o (a c o h)
theorem aH.free{H H':Hp}(e:aH H H'){l:Addr}(h:H' l=Option.none):H l=Option.none:=by
 cases q:H l with
 | none=>rfl
 | some o=>rw[e l o q] at h;cases h
theorem aH.seq{K:Fg}{H H':Hp}{a:Addr}{xs:List V}(e:aH H H')(h:SqL K H a xs):SqL K H' a xs:=by
 rcases h with (h | ⟨o,h⟩) | h
 . exact .inl (.inl (e _ _ h))
 . exact .inl (.inr ⟨o,e _ _ h⟩)
 . exact .inr h
section
variable {κ:Type}[DecidableEq κ]
end
end L2
namespace D3
open PySem PySem.Spec PyProof.Rows L2
inductive D where
 | non | bl (b:Bool) | int (i:Int) | str (x:Str) | tup (xs:List D) | lst (xs:List D) | dct (kvs:List (Key×D)) | ty (n:String) | ob (a:Addr) | ins (c:Str) (fs:List (Str×D)) | fn (x:Str) | exn (c:Str) | set (ks:List Key)
inductive Md where | fz | fr | bo
 deriving DecidableEq
inductive Res where
 | ok (m:Md) (d:D) | exc (c:Str) | stuck
def xobj(a C:Addr):HO:=.ext λh=>∃ o,h.get? a=some o/\o.cls=.ref C
def vU(S:Key->Bool)(ks:List Key):Prop:=ks.Nodup/\∀ k,S k=true↔k∈ks
mutual
def aC(K:Fg)(F:Hp):D->V->Prop
 | .non,v=>v=.non
 | .bl b,v=>v=.bl b
 | .int i,v=>v=.int i
 | .str x,v=>v=.str x/\x.length<=sizeLine/\PyData.strOk x=true
 | .tup ds,v=>∃ a xs,v=.ref a/\SqT K F a xs/\aE K F ds xs
 | .lst ds,v=>∃ a xs,v=.ref a/\SqL K F a xs/\aE K F ds xs
 | .dct kvs,v=>∃ a xs,v=.ref a/\F a=some (.dK xs)/\aM K F kvs xs
 | .ty n,v=>v=.ty n
 | .ob a,v=>v=.ref a
 | .ins c fs,v=>∃ a C dx gs,v=.ref a/\PySem.W.nsIn K mainGlobals c=some (some (.ref C))/\F a=some (.ins C dx gs)/\eM K F fs gs
 | .fn x,v=>∃ a,v=.ref a/\PySem.W.nsIn K mainGlobals x=some (some (.ref a))
 | .exn c,v=>∃ a C,v=.ref a/\PySem.W.nsIn K mainGlobals c=some (some (.ref C))/\F a=some (xobj a C)
 | .set ks,v=>∃ a S,v=.ref a/\F a=some (.set S ks.length)/\vU S ks
def aE(K:Fg)(F:Hp):List D->List V->Prop
 | [],xs=>xs=[]
 | d::ds,xs=>∃ y ys,xs=y::ys/\aC K F d y/\aE K F ds ys
def aM(K:Fg)(F:Hp):List (Key×D)->List (Key×V)->Prop
 | [],xs=>xs=[]
 | (k,d)::ds,xs=>∃ y ys,xs=(k,y)::ys/\aC K F d y/\aM K F ds ys
def eM(K:Fg)(F:Hp):List (Str×D)->List (Str×V)->Prop
 | [],xs=>xs=[]
 | (k,d)::ds,xs=>∃ y ys,xs=(k,y)::ys/\aC K F d y/\eM K F ds ys
end
theorem aH.seqT{K:Fg}{H H':Hp}{a:Addr}{xs:List V}(e:aH H H')(h:SqT K H a xs):SqT K H' a xs:=by
 rcases h with (h | ⟨o,h⟩) | h
 . exact .inl (.inl (e _ _ h))
 . exact .inl (.inr ⟨o,e _ _ h⟩)
 . exact .inr h
section
variable {K:Fg}{F F':Hp}
mutual
theorem aC.mono(s:aH F F'):∀ (d:D) (v:V),aC K F d v->aC K F' d v
 | .non,_,h=>by simpa only [aC] using h
 | .bl _,_,h=>by simpa only [aC] using h
 | .int _,_,h=>by simpa only [aC] using h
 | .str _,_,h=>by simpa only [aC] using h
 | .tup ds,v,h=>by simp only[aC] at h ⊢;obtain ⟨a,xs,e,q,r⟩:=h;exact ⟨a,xs,e,aH.seqT s q,aE.mono s ds xs r⟩
 | .lst ds,v,h=>by simp only[aC] at h ⊢;obtain ⟨a,xs,e,q,r⟩:=h;exact ⟨a,xs,e,s.seq q,aE.mono s ds xs r⟩
 | .dct ds,v,h=>by simp only[aC] at h ⊢;obtain ⟨a,xs,e,q,r⟩:=h;exact ⟨a,xs,e,s _ _ q,aM.mono s ds xs r⟩
 | .ty _,_,h=>by simpa only [aC] using h
 | .ob _,_,h=>by simpa only [aC] using h
 | .fn _,_,h=>by simpa only [aC] using h
 | .exn _,_,h=>by simp only[aC] at h ⊢;obtain ⟨a,C,e,n,q⟩:=h;exact ⟨a,C,e,n,s _ _ q⟩
 | .set _,_,h=>by simp only[aC] at h ⊢;obtain ⟨a,S,e,q,r⟩:=h;exact ⟨a,S,e,s _ _ q,r⟩
 | .ins c fs,v,h=>by simp only[aC] at h ⊢;obtain ⟨a,C,dx,gs,e,n,q,r⟩:=h;exact ⟨a,C,dx,gs,e,n,s _ _ q,eM.mono s fs gs r⟩
theorem aE.mono(s:aH F F'):∀ (ds:List D) (xs:List V),aE K F ds xs->aE K F' ds xs
 | [],_,h=>by simpa only [aE] using h
 | d::ds,xs,h=>by simp only[aE] at h ⊢;obtain ⟨y,ys,e,q,r⟩:=h;exact ⟨y,ys,e,aC.mono s d y q,aE.mono s ds ys r⟩
theorem aM.mono(s:aH F F'):∀ (ds:List (Key×D)) (xs:List (Key×V)),aM K F ds xs->aM K F' ds xs
 | [],_,h=>by simpa only [aM] using h
 | (k,d)::ds,xs,h=>by simp only[aM] at h ⊢;obtain ⟨y,ys,e,q,r⟩:=h;exact ⟨y,ys,e,aC.mono s d y q,aM.mono s ds ys r⟩
theorem eM.mono(s:aH F F'):∀ (ds:List (Str×D)) (xs:List (Str×V)),eM K F ds xs->eM K F' ds xs
 | [],_,h=>by simpa only [eM] using h
 | (k,d)::ds,xs,h=>by simp only[eM] at h ⊢;obtain ⟨y,ys,e,q,r⟩:=h;exact ⟨y,ys,e,aC.mono s d y q,eM.mono s ds ys r⟩
end
theorem aE.length:∀ {ds:List D} {xs:List V},aE K F ds xs->xs.length=ds.length
 | [],_,h=>by simp only[aE] at h;subst h;rfl
 | d::ds,_,h=>by simp only[aE] at h;obtain ⟨y,ys,rfl,_,r⟩:=h;rw[aRF,aRF,aE.length r]
theorem aE.get:∀ {ds:List D} {xs:List V} {i:Nat} {x:V},aE K F ds xs->xs[i]? = some x->∃ d,ds[i]? = some d/\aC K F d x
 | [],_,_,_,h,e=>by simp only[aE] at h;subst h;simp at e
 | d::ds,_,0,_,h,e=>by simp only[aE] at h;obtain ⟨y,ys,rfl,r,_⟩:=h;simp at e;subst e;exact ⟨d,rfl,r⟩
 | d::ds,_,i+1,_,h,e=>by
  simp only[aE] at h;obtain ⟨y,ys,rfl,_,r⟩:=h;obtain ⟨d',e',r'⟩:=aE.get (i:=i) r (by simpa using e)
  exact ⟨d',by simpa using e',r'⟩
theorem aE.get':∀ {ds:List D} {xs:List V} {i:Nat} {d:D},aE K F ds xs->ds[i]? = some d->∃ x,xs[i]? = some x/\aC K F d x
 | [],_,_,_,h,e=>by simp at e
 | d::ds,_,0,_,h,e=>by simp only[aE] at h;obtain ⟨y,ys,rfl,r,_⟩:=h;simp at e;subst e;exact ⟨y,rfl,r⟩
 | d::ds,_,i+1,_,h,e=>by
  simp only[aE] at h;obtain ⟨y,ys,rfl,_,r⟩:=h;obtain ⟨d',e',r'⟩:=aE.get' (i:=i) r (by simpa using e)
  exact ⟨d',by simpa using e',r'⟩
theorem aE.append:∀ {ds es:List D} {xs ys:List V},aE K F ds xs->aE K F es ys->aE K F (ds++es) (xs++ys)
 | [],_,_,_,h,r=>by simp only[aE] at h;subst h;exact r
 | d::ds,_,_,_,h,r=>by simp only[aE] at h;obtain ⟨y,ys,rfl,q,t⟩:=h;show aE K F (d::(ds++_)) (y::(ys++_));simp only[aE];exact ⟨y,_,rfl,q,aE.append t r⟩
theorem aE.nil:aE K F [] []:=by simp only[aE]
theorem aE.cons{d:D}{ds:List D}{x:V}{xs:List V}(h:aC K F d x)(r:aE K F ds xs):aE K F (d::ds) (x::xs):=by simp only[aE];exact ⟨x,xs,rfl,h,r⟩
end
def Top(K:Fg)(F H:Hp)(a:Addr):D->Prop
 | .lst ds=>∃ xs,H a=some (.lst xs)/\aE K F ds xs
 | .dct ds=>∃ xs,H a=some (.dK xs)/\aM K F ds xs
 | .ins c fs=>∃ C dx gs,PySem.W.nsIn K mainGlobals c=some (some (.ref C))/\H a=some (.ins C dx gs)/\eM K F fs gs
 | .set ks=>∃ S,H a=some (.set S ks.length)/\vU S ks
 | _=>False
def Rp(K:Fg)(F H:Hp)(m:Md)(d:D)(v:V):Prop :=
 match m with
 | .fz=>aC K F d v
 | _=>∃ a,v=.ref a/\F a=none/\Top K F H a d
structure aN(F H F' H':Hp):Prop where
 same:aH H H'
 fsame:aH F F'
 sub:aH F' H'
 new:∀ a,F a=none->H a≠none->F' a=none
theorem aN.refl{F H:Hp}(h:aH F H):aN F H F H:=⟨aH.refl _,aH.refl _,h,λ_ h _=>h⟩
theorem aN.trans{F H F1 H1 F2 H2:Hp}(a:aN F H F1 H1)(b:aN F1 H1 F2 H2):aN F H F2 H2 :=
 ⟨a.same.trans b.same,a.fsame.trans b.fsame,b.sub,λx h1 h2=>b.new x (a.new x h1 h2) (by
  cases e:H x with
  | none=>exact absurd e h2
  | some o=>rw[a.same x o e];exact λz=>nomatch z)⟩
theorem aN.laid{F H:Hp}{p:Addr}(o:HO)(h:aH F H)(hp:H p=none):aN F H (upd F p o) (upd H p o):=by
 have hf:F p=none:=h.free hp;refine ⟨λb u e=>?_,λb u e=>?_,λb u e=>?_,λa h1 h2=>?_⟩
 . rw[aU (cO e hp)];exact e
 . rw[aU (cO e hf)];exact e
 . by_cases hb:b=p
   . subst hb;rw[bV] at e ⊢;exact e
   . rw[aU hb] at e ⊢;exact h b u e
 . have:a≠p:=by rintro rfl;exact h2 hp
   rw[aU this];exact h1
theorem aN.fresh{F H:Hp}{p:Addr}(o:HO)(h:aH F H)(hp:H p=none):aN F H F (upd H p o):=by
 refine ⟨λb u e=>?_,aH.refl _,λb u e=>?_,λa h1 _=>h1⟩
 . rw[aU (cO e hp)];exact e
 . rw[aU (cO (h b u e) hp)];exact h b u e
theorem Top.step{K:Fg}{F H F' H':Hp}{a:Addr}{d:D}(st:aN F H F' H')(h:Top K F H a d):Top K F' H' a d:=by
 cases d with
 | lst ds=>obtain ⟨xs,e,r⟩:=h;exact ⟨xs,st.same _ _ e,r.mono st.fsame _ _⟩
 | dct ds=>obtain ⟨xs,e,r⟩:=h;exact ⟨xs,st.same _ _ e,r.mono st.fsame _ _⟩
 | ins c fs=>obtain ⟨C,dx,gs,n,e,r⟩:=h;exact ⟨C,dx,gs,n,st.same _ _ e,r.mono st.fsame _ _⟩
 | set ks=>obtain ⟨S,e,r⟩:=h;exact ⟨S,st.same _ _ e,r⟩
 | _=>exact h.elim
theorem Top.there{K:Fg}{F H:Hp}{a:Addr}{d:D}(h:Top K F H a d):H a≠none:=by
 cases d with
 | lst ds=>obtain ⟨xs,e,r⟩:=h;rw[e];exact λz=>nomatch z
 | dct ds=>obtain ⟨xs,e,r⟩:=h;rw[e];exact λz=>nomatch z
 | ins c fs=>obtain ⟨C,dx,gs,n,e,r⟩:=h;rw[e];exact λz=>nomatch z
 | set ks=>obtain ⟨S,e,r⟩:=h;rw[e];exact λz=>nomatch z
 | _=>exact h.elim
theorem Rp.step{K:Fg}{F H F' H':Hp}{m:Md}{d:D}{v:V}(st:aN F H F' H')(h:Rp K F H m d v):Rp K F' H' m d v:=by
 cases m with
 | fz=>exact aC.mono st.fsame d v h
 | fr=>obtain ⟨a,e,n,t⟩:=h;exact ⟨a,e,st.new a n t.there,t.step st⟩
 | bo=>obtain ⟨a,e,n,t⟩:=h;exact ⟨a,e,st.new a n t.there,t.step st⟩
theorem Rp.seqL{K:Fg}{F H:Hp}{m:Md}{ds:List D}{v:V}(s:aH F H)(h:Rp K F H m (.lst ds) v):∃ a xs,v=.ref a/\SqL K H a xs/\aE K F ds xs:=by
 cases m with
 | fz=>have h:aC K F (.lst ds) v:=h;simp only[aC] at h;obtain ⟨a,xs,e,q,r⟩:=h;exact ⟨a,xs,e,s.seq q,r⟩
 | fr=>obtain ⟨a,e,n,xs,q,r⟩:=h;exact ⟨a,xs,e,SqL.of q,r⟩
 | bo=>obtain ⟨a,e,n,xs,q,r⟩:=h;exact ⟨a,xs,e,SqL.of q,r⟩
theorem Rp.seqT{K:Fg}{F H:Hp}{m:Md}{ds:List D}{v:V}(s:aH F H)(h:Rp K F H m (.tup ds) v):∃ a xs,v=.ref a/\SqT K H a xs/\aE K F ds xs:=by
 cases m with
 | fz=>have h:aC K F (.tup ds) v:=h;simp only[aC] at h;obtain ⟨a,xs,e,q,r⟩:=h;exact ⟨a,xs,e,aH.seqT s q,r⟩
 | fr=>obtain ⟨a,e,n,q⟩:=h;exact q.elim
 | bo=>obtain ⟨a,e,n,q⟩:=h;exact q.elim
theorem Rp.dict{K:Fg}{F H:Hp}{m:Md}{ds:List (Key×D)}{v:V}(s:aH F H)(h:Rp K F H m (.dct ds) v):∃ a xs,v=.ref a/\H a=some (.dK xs)/\aM K F ds xs:=by
 cases m with
 | fz=>have h:aC K F (.dct ds) v:=h;simp only[aC] at h;obtain ⟨a,xs,e,q,r⟩:=h;exact ⟨a,xs,e,s _ _ q,r⟩
 | fr=>obtain ⟨a,e,n,xs,q,r⟩:=h;exact ⟨a,xs,e,q,r⟩
 | bo=>obtain ⟨a,e,n,xs,q,r⟩:=h;exact ⟨a,xs,e,q,r⟩
theorem Rp.ins{K:Fg}{F H:Hp}{m:Md}{c:Str}{fs:List (Str×D)}{v:V}(s:aH F H)(h:Rp K F H m (.ins c fs) v):∃ a C dx gs,v=.ref a/\PySem.W.nsIn K mainGlobals c=some (some (.ref C))/\H a=some (.ins C dx gs)/\eM K F fs gs:=by
 cases m with
 | fz=>have h:aC K F (.ins c fs) v:=h;simp only[aC] at h;obtain ⟨a,C,dx,gs,e,n,q,r⟩:=h;exact ⟨a,C,dx,gs,e,n,s _ _ q,r⟩
 | fr=>obtain ⟨a,e,n,C,dx,gs,z,q,r⟩:=h;exact ⟨a,C,dx,gs,e,z,q,r⟩
 | bo=>obtain ⟨a,e,n,C,dx,gs,z,q,r⟩:=h;exact ⟨a,C,dx,gs,e,z,q,r⟩
theorem Rp.int{K:Fg}{F H:Hp}{m:Md}{i:Int}{v:V}(h:Rp K F H m (.int i) v):v=.int i:=by
 cases m with
 | fz=>have h:aC K F (.int i) v:=h;simpa only [aC] using h
 | fr=>obtain ⟨a,e,n,q⟩:=h;exact q.elim
 | bo=>obtain ⟨a,e,n,q⟩:=h;exact q.elim
theorem Rp.bl{K:Fg}{F H:Hp}{m:Md}{i:Bool}{v:V}(h:Rp K F H m (.bl i) v):v=.bl i:=by
 cases m with
 | fz=>have h:aC K F (.bl i) v:=h;simpa only [aC] using h
 | fr=>obtain ⟨a,e,n,q⟩:=h;exact q.elim
 | bo=>obtain ⟨a,e,n,q⟩:=h;exact q.elim
theorem Rp.non{K:Fg}{F H:Hp}{m:Md}{v:V}(h:Rp K F H m .non v):v=.non:=by
 cases m with
 | fz=>have h:aC K F .non v:=h;simpa only [aC] using h
 | fr=>obtain ⟨a,e,n,q⟩:=h;exact q.elim
 | bo=>obtain ⟨a,e,n,q⟩:=h;exact q.elim
theorem Rp.str{K:Fg}{F H:Hp}{m:Md}{x:Str}{v:V}(h:Rp K F H m (.str x) v):v=.str x/\x.length<=sizeLine/\PyData.strOk x=true:=by
 cases m with
 | fz=>have h:aC K F (.str x) v:=h;simpa only [aC] using h
 | fr=>obtain ⟨a,e,n,q⟩:=h;exact q.elim
 | bo=>obtain ⟨a,e,n,q⟩:=h;exact q.elim
theorem Rp.ty{K:Fg}{F H:Hp}{m:Md}{n:String}{v:V}(h:Rp K F H m (.ty n) v):v=.ty n:=by
 cases m with
 | fz=>have h:aC K F (.ty n) v:=h;simpa only [aC] using h
 | fr=>obtain ⟨a,e,n,q⟩:=h;exact q.elim
 | bo=>obtain ⟨a,e,n,q⟩:=h;exact q.elim
theorem Rp.ob{K:Fg}{F H:Hp}{m:Md}{n:Addr}{v:V}(h:Rp K F H m (.ob n) v):v=.ref n:=by
 cases m with
 | fz=>have h:aC K F (.ob n) v:=h;simpa only [aC] using h
 | fr=>obtain ⟨a,e,n,q⟩:=h;exact q.elim
 | bo=>obtain ⟨a,e,n,q⟩:=h;exact q.elim
theorem rp_ty{K:Fg}{F H:Hp}(i:String):Rp K F H .fz (.ty i) (.ty i):=by show aC K F _ _;simp only[aC]
theorem cE{K:Fg}{F H:Hp}(i:Int):Rp K F H .fz (.int i) (.int i):=by show aC K F _ _;simp only[aC]
theorem bZ{K:Fg}{F H:Hp}(i:Bool):Rp K F H .fz (.bl i) (.bl i):=by show aC K F _ _;simp only[aC]
theorem vV{K:Fg}{F H:Hp}:Rp K F H .fz .non .non:=by show aC K F _ _;simp only[aC]
theorem eN{K:Fg}{F H:Hp}{x:Str}(h:x.length<=sizeLine/\PyData.strOk x=true):Rp K F H .fz (.str x) (.str x):=by show aC K F _ _;simp only[aC,true_and];exact h
abbrev Rho:=List (Option (Bool×D))
structure aW(K:Fg)(F0 H0 F H:Hp)(σ:L2.St)(ρ:Rho):Prop where
 st:aN F0 H0 F H
 slot:∀ (i:Nat) (m:Bool) (d:D),ρ[i]? = some (some (m,d))->∃ v,σ[i]? = some (some v)/\Rp K F H (if m then .bo else .fz) d v/\(m=true->∀ a,v=.ref a->H0 a=none)
 apart:∀ (i j:Nat) (d d':D) (a:Addr),i≠j->ρ[i]? = some (some (true,d))->ρ[j]? = some (some (true,d'))->σ[i]? = some (some (.ref a))->σ[j]? = some (some (.ref a))->False
 len:σ.length=ρ.length
theorem aW.step{K:Fg}{F0 H0 F H F' H':Hp}{σ:L2.St}{ρ:Rho}(r:aW K F0 H0 F H σ ρ)(st:aN F H F' H'):aW K F0 H0 F' H' σ ρ :=
 ⟨r.st.trans st,λi m d e=>by obtain ⟨v,e1,e2,e3⟩:=r.slot i m d e;exact ⟨v,e1,e2.step st,e3⟩,r.apart,r.len⟩
theorem aW.sub{K:Fg}{F0 H0 F H:Hp}{σ:L2.St}{ρ:Rho}(r:aW K F0 H0 F H σ ρ):aH F H:=r.st.sub
abbrev XE:=Str->L2.St->Hp->Prop
structure Cw where
 K:Fg
 F0:Hp
 H0:Hp
 EE:XE
def tG(C:Cw)(g:Rho->Res):TE:=λσ H Q=>∃ ρ F,aW C.K C.F0 C.H0 F H σ ρ/\match g ρ with
 | .ok m d=>∀ v F' H',aN F H F' H'->Rp C.K F' H' m d v->(m=.fr->∀ a,v=.ref a->H a=none)->Q v H'
 | .exc c=>∀ F' H',aN F H F' H'->C.EE c σ H'
 | .stuck=>False
abbrev Cw.at(C:Cw)(X:Cx):Cw:={ C with K:=X.K }
def PV(C:Cw)(X:Cx)(e:Expr)(g:Rho->Res):Prop:=PE X e (tG (C.at X) g)
theorem PE.imp{X:Cx}{e:Expr}{t t':TE}(h:PE X e t)(i:∀ σ H Q,t' σ H Q->t σ H Q):PE X e t':=λaA s σ H Q I q=>h aA s σ H Q I (i σ H Q q)
def Res.thn(r:Res)(k:Md->D->Res):Res:=match r with
 | .ok m d=>k m d
 | .exc c=>.exc c
 | .stuck=>.stuck
@[simp] theorem Res.thn_ok(m:Md)(d:D)(k:Md->D->Res):(Res.ok m d).thn k=k m d:=rfl
@[simp] theorem Res.thn_exc(c:Str)(k:Md->D->Res):(Res.exc c).thn k=.exc c:=rfl
@[simp] theorem Res.thn_stuck(k:Md->D->Res):Res.stuck.thn k=.stuck:=rfl
def Res.of:Option (Md×D)->Res
 | some (m,d)=>.ok m d
 | none=>.stuck
@[simp] theorem Res.of_some(m:Md)(d:D):Res.of (some (m,d))=.ok m d:=rfl
@[simp] theorem Res.of_none:Res.of none=.stuck:=rfl
def a8(C:Cw)(F H:Hp)(σ:L2.St)(r:Res)(Q:VK):Prop:=match r with
 | .ok m d=>∀ v F' H',aN F H F' H'->Rp C.K F' H' m d v->(m=.fr->∀ a,v=.ref a->H a=none)->Q v H'
 | .exc c=>∀ F' H',aN F H F' H'->C.EE c σ H'
 | .stuck=>False
theorem bA{C:Cw}{g:Rho->Res}{σ:L2.St}{H:Hp}{Q:VK}:tG C g σ H Q=∃ ρ F,aW C.K C.F0 C.H0 F H σ ρ/\a8 C F H σ (g ρ) Q:=by unfold tG a8;rfl
theorem a8.step{C:Cw}{F H F1 H1:Hp}{σ:L2.St}{r:Res}{Q:VK}(st:aN F H F1 H1)(h:a8 C F H σ r Q):a8 C F1 H1 σ r Q:=by
 cases r with
 | ok m d=>exact λv F' H' s2 rp hf=>h v F' H' (st.trans s2) rp λe a ea=>st.same.free (hf e a ea)
 | exc c=>exact λF' H' s2=>h F' H' (st.trans s2)
 | stuck=>exact h
section
variable {C:Cw}{X:Cx}{a b:Expr}{ga gb:Rho->Res}{pos:Pos}
def dC(ρ:Rho)(i:Nat):Res:=match ρ[i]? with
 | some (some (false,d))=>.ok .fz d
 | some (some (true,d))=>.ok .bo d
 | _=>.stuck
theorem aFM(i:Nat){x:Str}(h:PE X (.Name x pos) (iF i)):PV C X (.Name x pos) (λρ=>dC ρ i):=by
 refine PE.imp h λσ H Q q=>?_;rw[bA] at q;obtain ⟨ρ,F,R,w⟩:=q;unfold dC at w;cases e:ρ[i]? with
 | none=>rw[e] at w;exact w.elim
 | some o =>
  cases o with
  | none=>rw[e] at w;exact w.elim
  | some p =>
   obtain ⟨m,d⟩:=p;obtain ⟨v,e1,r,_⟩:=R.slot i m d e;rw[e] at w;cases m with
   | false=>exact ⟨v,e1,w v F H (.refl R.sub) r (by intro z;cases z)⟩
   | true=>exact ⟨v,e1,w v F H (.refl R.sub) r (by intro z;cases z)⟩
theorem iH{e:Expr}{v:V}(d:D)(h:PE X e (tC v))(r:∀ F H,Rp X.K F H .fz d v):PV C X e (λ_=>.ok .fz d):=by refine PE.imp h λσ H Q q=>?_;rw[bA] at q;obtain ⟨ρ,F,R,w⟩:=q;exact w v F H (.refl R.sub) (r F H) (by intro z;cases z)
theorem aFN{i j}:PV C X (.Constant (.int i) j pos) (λ_=>.ok .fz (.int i)):=iH _ aCR λ_ _=>cE i
theorem pv_bl{i j}:PV C X (.Constant (.bool i) j pos) (λ_=>.ok .fz (.bl i)):=iH _ pe_bl λ_ _=>bZ i
theorem aFO{j}:PV C X (.Constant .none j pos) (λ_=>.ok .fz .non):=iH _ aCS λ_ _=>vV
theorem aFP{x:Str}{j}(h:(decide (x.length<=sizeLine)&&PyData.strOk x)=true:=by decide +kernel):PV C X (.Constant (.str x) j pos) (λ_=>.ok .fz (.str x)) :=
 iH _ aCT λ_ _=>eN (by rw[aQ8,aRL] at h;exact h)
def op2(φ:Md->D->Md->D->Option (Md×D))(x y:Res):Res:=x.thn λm d=>y.thn λn e=>Res.of (φ m d n e)
def OpD(C:Cw)(X:Cx)(f:Value->Value->Sem Value)(φ:Md->D->Md->D->Option (Md×D)):Prop :=
 ∃ r:R2,OpR X f r/\∀ F H m x n y v u k d Q,aH F H->Rp X.K F H m x v->Rp X.K F H n y u->φ m x n y=some (k,d) ->
  (∀ v' F' H',aN F H F' H'->Rp X.K F' H' k d v'->(k=.fr->∀ a,v'=.ref a->H a=none)->Q v' H')->r v u H Q
theorem k8{φ:Md->D->Md->D->Option (Md×D)}{r:R2}(h:∀ F H m x n y v u k d Q,aH F H->Rp C.K F H m x v->Rp C.K F H n y u->φ m x n y=some (k,d)->(∀ v' F' H',aN F H F' H'->Rp C.K F' H' k d v'->(k=.fr->∀ a,v'=.ref a->H a=none)->Q v' H')->r v u H Q){σ:L2.St}{H:Hp}{Q:VK}(q:tG C (λρ=>op2 φ (ga ρ) (gb ρ)) σ H Q):tOp r (tG C ga) (tG C gb) σ H Q:=by
 unfold tOp;rw[bA] at q ⊢;obtain ⟨ρ,F,R,w⟩:=q;refine ⟨ρ,F,R,?_⟩;cases ea:ga ρ with
 | stuck=>simp only[op2,ea,Res.thn] at w;exact w
 | exc c=>simp only[op2,ea,Res.thn] at w;exact w
 | ok m d =>
  intro v F1 H1 s1 r1 _;rw[bA];refine ⟨ρ,F1,R.step s1,?_⟩;have w1:=w.step s1;simp only[op2,ea,Res.thn] at w1;cases eb:gb ρ with
  | stuck=>rw[eb] at w1;exact w1
  | exc c=>rw[eb] at w1;exact w1
  | ok n e =>
   rw[eb] at w1;intro u F2 H2 s2 r2 _;have w2:a8 C F2 H2 σ (Res.of (φ m d n e)) Q:=a8.step s2 w1;cases ef:φ m d n e with
   | none=>rw[ef] at w2;exact w2.elim
   | some kd=>obtain ⟨k,d'⟩:=kd;rw[ef] at w2;exact h F2 H2 m d n e v u k d' Q s2.sub (r1.step s2) r2 ef w2
theorem pv_op{op:Operator}{φ}(o:OpD C X (binaryOp op) φ)(ha:PV C X a ga)(hb:PV C X b gb):PV C X (.BinOp a op b pos) (λρ=>op2 φ (ga ρ) (gb ρ)):=by obtain ⟨r,h1,h2⟩:=o;exact PE.imp (pe_op h1 ha hb) λσ H Q q=>k8 h2 q
theorem k9{op:CmpOp}{φ}(o:OpD C X (compareOp op) φ)(ha:PV C X a ga)(hb:PV C X b gb)(hm:behindInMarks op b=false):PV C X (.Compare a [op] [b] pos) (λρ=>op2 φ (ga ρ) (gb ρ)):=by obtain ⟨r,h1,h2⟩:=o;exact PE.imp (aDZ h1 ha hb hm) λσ H Q q=>k8 h2 q
def orO(φ ψ:Md->D->Md->D->Option (Md×D)):Md->D->Md->D->Option (Md×D):=λm x n y=>(φ m x n y).orElse λ_=>ψ m x n y
theorem OpD.or{f:Value->Value->Sem Value}{φ ψ}(h:OpD C X f φ)(h':OpD C X f ψ):OpD C X f (orO φ ψ):=by
 obtain ⟨r,h1,h2⟩:=h;obtain ⟨r',h1',h2'⟩:=h';refine ⟨_,h1.or h1',λF H m x n y v u k d Q s rx ry e w=>?_⟩;unfold orO at e;cases e1:φ m x n y with
 | none=>rw[e1] at e;exact .inr (h2' F H m x n y v u k d Q s rx ry e w)
 | some p=>rw[e1] at e;cases e;exact .inl (h2 F H m x n y v u k d Q s rx ry e1 w)
def fI(c:Int->Int->Bool)(g:Int->Int->D):Md->D->Md->D->Option (Md×D):=λ_ x _ y=>match x,y with
 | .int i,.int j=>if c i j=true then some (.fz,g i j) else none
 | _,_=>none
theorem jH{f:Value->Value->Sem Value}{Cc:Int->Int->Prop}{c:Int->Int->Bool}{g:Int->Int->V}{g':Int->Int->D}(o:OpR X f (rI Cc g))(hc:∀ i j,c i j=true->Cc i j)(hg:∀ F H i j,Rp X.K F H .fz (g' i j) (g i j)):OpD C X f (fI c g'):=by
 refine ⟨_,o,λF H m x n y v u k d Q s rx ry e w=>?_⟩;unfold fI at e;split at e
 . rename_i i j;cases rx.int;cases ry.int;split at e
   . rename_i hcc;cases e;exact ⟨i,j,rfl,rfl,hc i j hcc,w _ F H (.refl s) (hg F H i j) (by intro z;cases z)⟩
   . cases e
 . cases e
theorem gP{f:Value->Value->Sem Value}{g:Int->Int->V}{g':Int->Int->D}(o:OpR X f (rI0 g))(hg:∀ F H i j,Rp X.K F H .fz (g' i j) (g i j)):OpD C X f (fI (λ_ _=>true) g'):=by
 refine ⟨_,o,λF H m x n y v u k d Q s rx ry e w=>?_⟩;unfold fI at e;split at e
 . rename_i i j;cases rx.int;cases ry.int;rw[if_pos rfl] at e;cases e;exact ⟨i,j,rfl,rfl,w _ F H (.refl s) (hg F H i j) (by intro z;cases z)⟩
 . cases e
def b0(i:Int):Bool:=decide (i.natAbs.log2<9000)
theorem aFQ:OpD C X (binaryOp .Add) (fI (λ_ _=>true) λi j=>.int (i+j)):=gP aDN λ_ _ i j=>cE _
theorem aFR:OpD C X (binaryOp .Sub) (fI (λ_ _=>true) λi j=>.int (i-j)):=gP aDO λ_ _ i j=>cE _
theorem aFS{i j:Int}(h:(b0 i&&b0 j)=true):IntMulOk i j:=by
 rw[aQ8] at h;have b:∀ {i:Int},b0 i=true->Builtin.Int.intBits i<=2 ^ 20:=λ{i} h=>by
  unfold b0 at h;have:=aRM h;unfold Builtin.Int.intBits;split
  . exact aRK _
  . have e:(2:Nat) ^ 20=1048576:=by decide
    omega
 exact IntMulOk.of_bits (b h.1) (b h.2)
def w64(i:Int):Bool:=decide (i.natAbs<2 ^ 63)
theorem vW{i:Int}(h:w64 i=true):Builtin.Int.intBits i<=64:=by
 have h:=aRM h;unfold Builtin.Int.intBits;split
 . exact aRK _
 . rename_i hz;have:i.natAbs.log2<63:=(Nat.log2_lt (by simpa using hz)).mpr h
   omega
theorem aFT:OpD C X (binaryOp .Mult) (fI (λi j=>(b0 i&&b0 j)||(w64 i||w64 j)) λi j=>.int (i * j)) :=
 jH (Cc:=λi j=>IntMulOk i j) (opI λ_ _ _ _ _ _ _ hc q=>mul_int q hc) (λi j h=>by
  rcases (aRN _ _).mp h with h | h
  . exact aFS h
  . rcases (aRN _ _).mp h with h | h
    . exact IntMulOk.of_left (vW h)
    . exact IntMulOk.of_right (vW h)) λ_ _ i j=>cE _
theorem aFU:OpD C X (binaryOp .Mod) (fI (λ_ j=>decide (0<j)) λi j=>.int (i % j)):=jH aDP (λi j h=>aRM h) λ_ _ i j=>cE _
theorem aFV:OpR X (binaryOp .FloorDiv) (rI (λ_ j=>0<j/\b0 j=true) λi j=>.int (i / j)):=opI λi j _ _ _ _ _ hc q=>by
 obtain ⟨h1,h2⟩:=hc;refine floordiv_int (by omega) ?_ (.inl (PyProof.noPylong_of_log2 (aRM h2)))
 rw[Int.fdiv_eq_ediv_of_nonneg i (by omega)]
 exact q
theorem aFW:OpD C X (binaryOp .FloorDiv) (fI (λ_ j=>decide (0<j)&&b0 j) λi j=>.int (i / j)):=jH aFV (λi j h=>by rw[aQ8,aRL] at h;exact h) λ_ _ i j=>cE _
theorem aFX:OpD C X (binaryOp .Pow) (fI (λi j=>decide (0<=j)&&decide (j<=1000000)&&decide (i.natAbs<2 ^ 64)) λi j=>.int (i ^ j.toNat)) :=
 jH aDQ (λi j h=>by simp only[aQ8,aRL] at h;exact ⟨h.1.1,h.1.2,h.2⟩) λ_ _ i j=>cE _
theorem aFY:OpD C X (compareOp .Lt) (fI (λ_ _=>true) λi j=>.bl (decide (i<j))):=gP op_lt λ_ _ i j=>bZ _
theorem aFZ:OpD C X (compareOp .LtE) (fI (λ_ _=>true) λi j=>.bl (decide (i<=j))):=gP op_le λ_ _ i j=>bZ _
theorem aF0:OpD C X (compareOp .Gt) (fI (λ_ _=>true) λi j=>.bl (decide (j<i))):=gP op_gt λ_ _ i j=>bZ _
theorem aF1:OpD C X (compareOp .GtE) (fI (λ_ _=>true) λi j=>.bl (decide (j<=i))):=gP op_ge λ_ _ i j=>bZ _
def fS(c:Str->Str->Bool)(g:Str->Str->D):Md->D->Md->D->Option (Md×D):=λ_ x _ y=>match x,y with
 | .str i,.str j=>if c i j=true then some (.fz,g i j) else none
 | _,_=>none
theorem vX{x y:Str}(hx:PyData.strOk x=true)(hy:PyData.strOk y=true):PyData.strOk (x++y)=true:=by unfold PyData.strOk at *;show (x.cps++y.cps).all _=true;rw[Array.all_append,hx,hy];rfl
theorem aF2:OpD C X (binaryOp .Add) (fS (λi j=>decide (i.length+j.length<=sizeLine)) λi j=>.str (i++j)):=by
 refine ⟨_,aD4,λF H m x n y v u k d Q s rx ry e w=>?_⟩;unfold fS at e;split at e
 . rename_i i j;obtain ⟨rfl,h1⟩:=rx.str;obtain ⟨rfl,h2⟩:=ry.str;split at e
   . rename_i hc;cases e;have hc:=aRM hc;exact ⟨i,j,rfl,rfl,hc,w _ F H (.refl s) (eN ⟨by rw[strLen_append];exact hc,vX h1.2 h2.2⟩) (by intro z;cases z)⟩
   . cases e
 . cases e
def jI(i j:Str):Bool:=!(Builtin.Str.occurrences j i 0 j.length 1).isEmpty
theorem aF3:OpD C X (compareOp .In) (fS (λ_ _=>true) λi j=>.bl (jI i j)):=by
 refine ⟨_,aDV,λF H m x n y v u k d Q s rx ry e w=>?_⟩;unfold fS at e;split at e
 . rename_i i j;obtain ⟨rfl,h1⟩:=rx.str;obtain ⟨rfl,h2⟩:=ry.str;rw[if_pos rfl] at e;cases e;exact ⟨i,j,rfl,rfl,w _ F H (.refl s) (bZ _) (by intro z;cases z)⟩
 . cases e
theorem aF4:OpD C X (compareOp .NotIn) (fS (λ_ _=>true) λi j=>.bl (!jI i j)):=by
 refine ⟨_,aDY,λF H m x n y v u k d Q s rx ry e w=>?_⟩;unfold fS at e;split at e
 . rename_i i j;obtain ⟨rfl,h1⟩:=rx.str;obtain ⟨rfl,h2⟩:=ry.str;rw[if_pos rfl] at e;cases e;exact ⟨i,j,rfl,rfl,w _ F H (.refl s) (bZ _) (by intro z;cases z)⟩
 . cases e
end
section
variable {C:Cw}{X:Cx}{a b c e:Expr}{ga gb gc g:Rho->Res}{pos:Pos}
def bG:Res->Res
 | .ok .bo _=>.stuck
 | .ok _ d=>.ok .fz d
 | r=>r
theorem aN.freeze{F H F' H':Hp}{x:Addr}{o:HO}(st:aN F H F' H')(hx:H x=none)(hx':F' x=none)(ho:H' x=some o):aN F H (upd F' x o) H':=by
 refine ⟨st.same,λb u q=>?_,λb u q=>?_,λy h1 h2=>?_⟩
 . rw[aU (cO (st.fsame b u q) hx')];exact st.fsame b u q
 . by_cases hb:b=x
   . subst hb;rw[bV] at q;rw[<- q];exact ho
   . rw[aU hb] at q;exact st.sub b u q
 . have:y≠x:=by rintro rfl;exact h2 hx
   rw[aU this];exact st.new y h1 h2
theorem Top.freeze{K:Fg}{F H:Hp}{x:Addr}{d:D}(hx:F x=none)(h:Top K F H x d):∃ o,H x=some o/\aC K (upd F x o) d (.ref x):=by
 have s:∀ o,aH F (upd F x o):=λo b u q=>by rw[aU (cO q hx)];exact q
 cases d with
 | lst ds=>obtain ⟨xs,q,r⟩:=h;refine ⟨_,q,?_⟩;simp only[aC];exact ⟨x,xs,rfl,SqL.of bV,r.mono (s _) _ _⟩
 | dct ds=>obtain ⟨xs,q,r⟩:=h;refine ⟨_,q,?_⟩;simp only[aC];exact ⟨x,xs,rfl,bV,r.mono (s _) _ _⟩
 | ins c fs=>obtain ⟨C,dx,gs,n,q,r⟩:=h;refine ⟨_,q,?_⟩;simp only[aC];exact ⟨x,C,dx,gs,rfl,n,bV,r.mono (s _) _ _⟩
 | set ks=>obtain ⟨S,q,r⟩:=h;refine ⟨_,q,?_⟩;simp only[aC];exact ⟨x,S,rfl,bV,r⟩
 | _=>exact h.elim
theorem a8.frz{F H:Hp}{σ:L2.St}{r:Res}{Q:VK}(w:a8 C F H σ (bG r) Q):a8 C F H σ r Q:=by
 cases r with
 | exc c=>exact w
 | stuck=>exact w
 | ok m d =>
  cases m with
  | fz=>exact w
  | bo=>exact (show False from w).elim
  | fr=>intro v F' H' st rp fr;obtain ⟨x,rfl,n,t⟩:=rp;obtain ⟨o,ho,r⟩:=t.freeze n;exact w (.ref x) (upd F' x o) H' (st.freeze (fr rfl x rfl) n ho) r (by intro z;cases z)
theorem gQ(h:PV C X e g):PV C X e (λρ=>bG (g ρ)):=PE.imp h λσ H Q q=>by
 rw[bA] at q ⊢;obtain ⟨ρ,F,R,w⟩:=q
 try dsimp only at w
 exact ⟨ρ,F,R,w.frz⟩
def iI(C:Cw)(F H:Hp)(σ:L2.St)(r:Res)(Q:Bool->Hp->Prop):Prop:=match r with
 | .ok _ (.bl b)=>∀ F' H',aN F H F' H'->Q b H'
 | .exc c=>∀ F' H',aN F H F' H'->C.EE c σ H'
 | _=>False
theorem iI.step{F H F1 H1:Hp}{σ:L2.St}{r:Res}{Q:Bool->Hp->Prop}(st:aN F H F1 H1)(h:iI C F H σ r Q):iI C F1 H1 σ r Q:=by
 cases r with
 | ok m d =>
  cases d with
  | bl b=>exact λF' H' s2=>h F' H' (st.trans s2)
  | _=>exact h
 | exc c=>exact λF' H' s2=>h F' H' (st.trans s2)
 | stuck=>exact h
def tT(C:Cw)(g:Rho->Res):TT:=λσ H Q=>∃ ρ F,aW C.K C.F0 C.H0 F H σ ρ/\iI C F H σ (g ρ) Q
def PTv(C:Cw)(X:Cx)(e:Expr)(g:Rho->Res):Prop:=PT X e (tT (C.at X) g)
def PWv(C:Cw)(X:Cx)(e:Expr)(g:Rho->Res):Prop:=PW X e (tT (C.at X) g)
theorem PT.imp{X:Cx}{e:Expr}{t t':TT}(h:PT X e t)(i:∀ σ H Q,t' σ H Q->t σ H Q):PT X e t':=λaA s σ H Q I q=>h aA s σ H Q I (i σ H Q q)
theorem PW.imp{X:Cx}{e:Expr}{t t':TT}(h:PW X e t)(i:∀ σ H Q,t' σ H Q->t σ H Q):PW X e t':=λwhole aA s σ H Q I q=>h whole aA s σ H Q I (i σ H Q q)
def nL:D->Option Bool
 | .non=>some false
 | .bl b=>some b
 | .int i=>some (i != 0)
 | .str x=>some ((x.length:Int) != 0)
 | .tup ds=>some (!ds.isEmpty)
 | .lst ds=>some (!ds.isEmpty)
 | .dct ds=>some (!ds.isEmpty)
 | _=>none
def jJ(r:Res):Res:=r.thn λ_ d=>match nL d with | some b=>.ok .fz (.bl b) | none=>.stuck
theorem aE.isEmpty{K:Fg}{F:Hp}{ds:List D}{xs:List V}(h:aE K F ds xs):ds.isEmpty=xs.isEmpty:=by
 cases ds with
 | nil=>simp only[aE] at h;subst h;rfl
 | cons d ds=>simp only[aE] at h;obtain ⟨y,ys,rfl,_⟩:=h;rfl
theorem aM.isEmpty{K:Fg}{F:Hp}{ds:List (Key×D)}{xs:List (Key×V)}(h:aM K F ds xs):ds.isEmpty=xs.isEmpty:=by
 cases ds with
 | nil=>simp only[aM] at h;subst h;rfl
 | cons d ds=>obtain ⟨k,d⟩:=d;simp only[aM] at h;obtain ⟨y,ys,rfl,_⟩:=h;rfl
theorem aF5{K:Fg}{F H:Hp}{m:Md}{d:D}{v:V}{k:Bool}(s:aH F H)(h:Rp K F H m d v)(e:nL d=some k):qP K v H k:=by
 cases d with
 | non=>cases h.non;cases e;rfl
 | bl b=>cases h.bl;cases e;rfl
 | int i=>cases h.int;cases e;rfl
 | str x=>obtain ⟨rfl,hl,_⟩:=h.str;cases e;exact ⟨hl,rfl⟩
 | tup ds=>obtain ⟨a,xs,rfl,q,r⟩:=h.seqT s;cases e;exact .inr (.inl ⟨xs,q,by rw[r.isEmpty]⟩)
 | lst ds=>obtain ⟨a,xs,rfl,q,r⟩:=h.seqL s;cases e;exact .inl ⟨xs,q,by rw[r.isEmpty]⟩
 | dct ds=>obtain ⟨a,xs,rfl,q,r⟩:=h.dict s;cases e;exact .inr (.inr ⟨xs,q,by rw[r.isEmpty]⟩)
 | ty n=>cases e
 | ob n=>cases e
 | ins n=>cases e
 | fn n=>cases e
 | exn n=>cases e
 | set n=>cases e
theorem aF6(h:PV C X e g)(he:∀ whole,isTrue e X.env whole=(do let v <- whole;standAt e.pos;holding [v] (truthy v)):=by intro _;rfl):PTv C X e (λρ=>jJ (g ρ)):=by
 refine PT.imp (aD3 h he) λσ H Q q=>?_;obtain ⟨ρ,F,R,w⟩:=q
 try dsimp only at w
 rw[bA];refine ⟨ρ,F,R,?_⟩;cases er:g ρ with
 | stuck=>rw[er] at w;exact w
 | exc c=>rw[er] at w;exact w
 | ok m d =>
  rw[er] at w;intro v F' H' st rp _;have w:iI (C.at X) F H σ (match nL d with | some b=>.ok .fz (.bl b) | none=>.stuck) Q:=w
  cases ed:nL d with
  | none=>rw[ed] at w;exact w.elim
  | some k=>rw[ed] at w;exact ⟨k,aF5 st.sub rp ed,w F' H' st⟩
theorem lA{op:CmpOp}{φ}(o:OpD C X (compareOp op) φ)(hb':∀ m x n y k d,φ m x n y=some (k,d)->∃ t,k=.fz/\d=.bl t)(ha:PV C X a ga)(hb:PV C X b gb)(hm:behindInMarks op b=false):PTv C X (.Compare a [op] [b] pos) (λρ=>op2 φ (ga ρ) (gb ρ)):=by
 obtain ⟨r,h1,h2⟩:=o;refine PT.imp (aD0 h1 ha hb hm) λσ H Q q=>?_;obtain ⟨ρ,F,R,w⟩:=q
 try dsimp only at w
 unfold u7;refine k8 h2 ?_;rw[bA];refine ⟨ρ,F,R,?_⟩;cases er:op2 φ (ga ρ) (gb ρ) with
 | stuck=>rw[er] at w;exact w
 | exc c=>rw[er] at w;exact w
 | ok m d =>
  rw[er] at w;have:∃ t,m=.fz/\d=.bl t:=by
   unfold op2 at er;cases e1:ga ρ with
   | stuck=>rw[e1] at er;cases er
   | exc c=>rw[e1] at er;cases er
   | ok m1 d1 =>
    cases e2:gb ρ with
    | stuck=>rw[e1,e2] at er;cases er
    | exc c=>rw[e1,e2] at er;cases er
    | ok m2 d2 =>
     rw[e1,e2] at er;have er:Res.of (φ m1 d1 m2 d2)=.ok m d:=er;cases e3:φ m1 d1 m2 d2 with
     | none=>rw[e3] at er;cases er
     | some kd=>rw[e3] at er;obtain ⟨k,d'⟩:=kd;cases er;exact hb' _ _ _ _ _ _ e3
  obtain ⟨t,rfl,rfl⟩:=this;intro v F' H' st rp _;cases rp.bl;exact ⟨t,rfl,w F' H' st⟩
def eB(x:Res)(y:Res):Res:=x.thn λ_ d=>match d with | .bl true=>y | .bl false=>.ok .fz (.bl false) | _=>.stuck
def orR(x:Res)(y:Res):Res:=x.thn λ_ d=>match d with | .bl true=>.ok .fz (.bl true) | .bl false=>y | _=>.stuck
def lB(x:Res):Res:=x.thn λ_ d=>match d with | .bl b=>.ok .fz (.bl (!b)) | _=>.stuck
theorem aF7(ha:PTv C X a ga):PTv C X (.UnaryOp .Not a pos) (λρ=>lB (ga ρ)):=by
 refine PT.imp (aCY ha) λσ H Q q=>?_;obtain ⟨ρ,F,R,w⟩:=q
 try dsimp only at w
 refine ⟨ρ,F,R,?_⟩;cases er:ga ρ with
 | stuck=>rw[er] at w;exact w
 | exc c=>rw[er] at w;exact w
 | ok m d =>
  rw[er] at w;cases d with
  | bl b=>exact w
  | _=>exact w
theorem vY{op:BoolOp}(h:PTv C X a ga):PWv C X (.BoolOp op [a] pos) ga:=by
 cases op with
 | And=>exact aCV h
 | Or=>exact aCW h
theorem vZ{σ:L2.St}{H:Hp}{Q:Bool->Hp->Prop}(q:tT C (λρ=>eB (ga ρ) (gb ρ)) σ H Q):qJ (tT C ga) (tT C gb) σ H Q:=by
 obtain ⟨ρ,F,R,w⟩:=q
 try dsimp only at w
 refine ⟨ρ,F,R,?_⟩;cases er:ga ρ with
 | stuck=>rw[er] at w;exact w
 | exc c=>rw[er] at w;exact w
 | ok m d =>
  rw[er] at w;cases d with
  | bl b =>
   intro F' H' st;cases b with
   | true=>rw[if_pos rfl];exact ⟨ρ,F',R.step st,iI.step st w⟩
   | false=>rw[if_neg aP5];exact w F' H' st
  | _=>exact w
theorem tT_or{σ:L2.St}{H:Hp}{Q:Bool->Hp->Prop}(q:tT C (λρ=>orR (ga ρ) (gb ρ)) σ H Q):tOr (tT C ga) (tT C gb) σ H Q:=by
 obtain ⟨ρ,F,R,w⟩:=q
 try dsimp only at w
 refine ⟨ρ,F,R,?_⟩;cases er:ga ρ with
 | stuck=>rw[er] at w;exact w
 | exc c=>rw[er] at w;exact w
 | ok m d =>
  rw[er] at w;cases d with
  | bl b =>
   intro F' H' st;cases b with
   | true=>rw[if_pos rfl];exact w F' H' st
   | false=>rw[if_neg aP5];exact ⟨ρ,F',R.step st,iI.step st w⟩
  | _=>exact w
theorem aF8{aZ:List Expr}(ha:PTv C X a ga)(hb:PWv C X (.BoolOp .And (b::aZ) pos) gb):PWv C X (.BoolOp .And (a::b::aZ) pos) (λρ=>eB (ga ρ) (gb ρ)):=PW.imp (aCX ha hb) λ_ _ _ q=>vZ q
theorem aF9{aZ:List Expr}(ha:PTv C X a ga)(hb:PWv C X (.BoolOp .Or (b::aZ) pos) gb):PWv C X (.BoolOp .Or (a::b::aZ) pos) (λρ=>orR (ga ρ) (gb ρ)):=PW.imp (pw_or ha hb) λ_ _ _ q=>tT_or q
theorem pt_w(h:PWv C X e g):PTv C X e g:=PW.pt h
theorem v5{op}(h:PV C X a ga):PV C X (.BoolOp op [a] pos) ga:=aCZ h
theorem aGA{aZ:List Expr}(ha:PV C X a ga)(hb:PV C X (.BoolOp .And (b::aZ) pos) gb):PV C X (.BoolOp .And (a::b::aZ) pos) (λρ=>eB (ga ρ) (gb ρ)):=by
 refine PE.imp (aC0 ha hb) λσ H Q q=>?_;unfold uT;rw[bA] at q ⊢;obtain ⟨ρ,F,R,w⟩:=q
 try dsimp only at w
 refine ⟨ρ,F,R,?_⟩;cases er:ga ρ with
 | stuck=>rw[er] at w;exact w
 | exc c=>rw[er] at w;exact w
 | ok m d =>
  rw[er] at w;cases d with
  | bl k =>
   intro v F' H' st rp _;cases rp.bl;refine ⟨k,rfl,?_⟩;cases k with
   | true=>rw[if_pos rfl,bA];exact ⟨ρ,F',R.step st,a8.step st w⟩
   | false=>rw[if_neg aP5];exact w (.bl false) F' H' st (bZ _) (by intro z;cases z)
  | _=>exact w.elim
theorem aGB{aZ:List Expr}(ha:PV C X a ga)(hb:PV C X (.BoolOp .Or (b::aZ) pos) gb):PV C X (.BoolOp .Or (a::b::aZ) pos) (λρ=>orR (ga ρ) (gb ρ)):=by
 refine PE.imp (pe_or ha hb) λσ H Q q=>?_;unfold tOrV;rw[bA] at q ⊢;obtain ⟨ρ,F,R,w⟩:=q
 try dsimp only at w
 refine ⟨ρ,F,R,?_⟩;cases er:ga ρ with
 | stuck=>rw[er] at w;exact w
 | exc c=>rw[er] at w;exact w
 | ok m d =>
  rw[er] at w;cases d with
  | bl k =>
   intro v F' H' st rp _;cases rp.bl;refine ⟨k,rfl,?_⟩;cases k with
   | true=>rw[if_pos rfl];exact w (.bl true) F' H' st (bZ _) (by intro z;cases z)
   | false=>rw[if_neg aP5,bA];exact ⟨ρ,F',R.step st,a8.step st w⟩
  | _=>exact w.elim
theorem aGC(ha:PV C X a ga):PV C X (.UnaryOp .Not a pos) (λρ=>lB (ga ρ)):=by
 refine PE.imp (aC1 ha) λσ H Q q=>?_;unfold uU;rw[bA] at q ⊢;obtain ⟨ρ,F,R,w⟩:=q
 try dsimp only at w
 refine ⟨ρ,F,R,?_⟩;cases er:ga ρ with
 | stuck=>rw[er] at w;exact w
 | exc c=>rw[er] at w;exact w
 | ok m d =>
  rw[er] at w;cases d with
  | bl k=>intro v F' H' st rp _;cases rp.bl;exact ⟨k,rfl,w _ F' H' st (bZ _) (by intro z;cases z)⟩
  | _=>exact w.elim
def nM(x:Res):Res:=x.thn λ_ d=>match d with | .int i=>.ok .fz (.int (-i)) | _=>.stuck
theorem aGD(ha:PV C X a ga):PV C X (.UnaryOp .USub a pos) (λρ=>nM (ga ρ)):=by
 refine PE.imp (pe_un aDU ha) λσ H Q q=>?_;unfold tUn;rw[bA] at q ⊢;obtain ⟨ρ,F,R,w⟩:=q
 try dsimp only at w
 refine ⟨ρ,F,R,?_⟩;cases er:ga ρ with
 | stuck=>rw[er] at w;exact w
 | exc c=>rw[er] at w;exact w
 | ok m d =>
  rw[er] at w;cases d with
  | int i=>intro v F' H' st rp _;cases rp.int;exact ⟨i,rfl,w _ F' H' st (cE _) (by intro z;cases z)⟩
  | _=>exact w.elim
def ixD:Md->D->Md->D->Option (Md×D):=λ_ x _ y=>match x,y with
 | .lst ds,.int i=>(atI ds i).map λd=>(.fz,d)
 | .tup ds,.int i=>(atI ds i).map λd=>(.fz,d)
 | .str z,.int i=>(atI z.cps.toList i).map λc=>(.fz,.str ⟨#[c]⟩)
 | _,_=>none
theorem aE.atI{K:Fg}{F:Hp}{ds:List D}{xs:List V}{i:Int}{d:D}(h:aE K F ds xs)(e:atI ds i=some d):∃ x,L2.atI xs i=some x/\aC K F d x:=by
 unfold L2.atI at *;rw[h.length];cases q:ixN ds.length i with
 | none=>rw[q] at e;cases e
 | some j=>rw[q] at e;exact h.get' e
theorem aGE{F H:Hp}{m n k:Md}{x y d:D}{v u:V}{Q:VK}(s:aH F H)(rx:Rp X.K F H m x v)(ry:Rp X.K F H n y u)(e:ixD m x n y=some (k,d))(w:∀ v' F' H',aN F H F' H'->Rp X.K F' H' k d v'->(k=.fr->∀ a,v'=.ref a->H a=none)->Q v' H'):rIx X.K v u H Q:=by
 unfold ixD at e;split at e
 . rename_i ds i;cases ry.int;obtain ⟨p,xs,rfl,hq,r⟩:=rx.seqL s;cases ei:atI ds i with
   | none=>rw[ei] at e;cases e
   | some d'=>rw[ei] at e;cases e;obtain ⟨x',ex,rx'⟩:=r.atI ei;exact .inl ⟨p,xs,i,x',rfl,rfl,hq,ex,w x' F H (.refl s) rx' (by intro z;cases z)⟩
 . rename_i ds i;cases ry.int;obtain ⟨p,xs,rfl,hq,r⟩:=rx.seqT s;cases ei:atI ds i with
   | none=>rw[ei] at e;cases e
   | some d'=>rw[ei] at e;cases e;obtain ⟨x',ex,rx'⟩:=r.atI ei;exact .inr (.inl ⟨p,xs,i,x',rfl,rfl,hq,ex,w x' F H (.refl s) rx' (by intro z;cases z)⟩)
 . rename_i z i;cases ry.int;obtain ⟨rfl,hl,hk⟩:=rx.str;cases ei:atI z.cps.toList i with
   | none=>rw[ei] at e;cases e
   | some c =>
    rw[ei] at e;cases e;refine .inr (.inr ⟨z,i,c,rfl,rfl,hl,ei,w _ F H (.refl s) (eN ⟨?_,?_⟩) (by intro z;cases z)⟩)
    . show 1<=sizeLine;decide
    . obtain ⟨j,_,hj,_⟩:=nG ei;unfold PyData.strOk at hk ⊢;rw[aRO] at hk;have hc:=hk c (by rw[<- aRP];exact aQP hj)
      simpa using hc
 . cases e
theorem pv_ix(ha:PV C X a ga)(hb:PV C X b gb)(hs:nH b:=by intro _ _;rfl):PV C X (.Subscript a b pos) (λρ=>op2 ixD (ga ρ) (gb ρ)):=by exact PE.imp (vK aER ha hb hs) λσ H Q q=>k8 (λF H m x n y v u k d Q s rx ry e w=>aGE s rx ry e w) q
theorem aGF:SlR X (λx lo hi H Q=>∃ z,x=.str z/\z.length<=sizeLine/\Q (.str (Txt.slice z lo hi)) H):=by
 intro aA s σ H x v vl vu lo hi sl Q I rx hs pl pu h;obtain ⟨z,rfl,hz,q⟩:=h;obtain ⟨t,rfl⟩:=rx;refine ⟨"str", _,PySem.F.slot_str_getitem.lookup,typeIs_str _ _ _,?_⟩;have fin:∀ t' k,EP X aA σ Q (.str (Txt.slice z lo hi) t') { s with toks:=k }:=λt' k=>⟨.str (Txt.slice z lo hi),H,I.tok _,⟨_,rfl⟩,q⟩
 cases pl with
 | none =>
  cases pu with
  | none=>exact aRQ (l:=none) (u:=none) (st:=none) hs rfl (aRR ⟨aPN (aRS z _ _) hz,λt' k=>fin t' k⟩)
  | int j tj=>exact aRQ (l:=none) (u:=some (j,tj)) (st:=none) hs rfl (aRR ⟨aPN (aRS z _ _) hz,λt' k=>fin t' k⟩)
 | int i ti =>
  cases pu with
  | none=>exact aRQ (l:=some (i,ti)) (u:=none) (st:=none) hs rfl (aRR ⟨aPN (aRS z _ _) hz,λt' k=>fin t' k⟩)
  | int j tj=>exact aRQ (l:=some (i,ti)) (u:=some (j,tj)) (st:=none) hs rfl (aRR ⟨aPN (aRS z _ _) hz,λt' k=>fin t' k⟩)
theorem aGG{z:Str}{lo hi:Option Int}(h:PyData.strOk z=true):PyData.strOk (Txt.slice z lo hi)=true:=by
 unfold Txt.slice;split
 . exact h
 . unfold PyData.strOk at *;rw[aRO] at h ⊢;intro c hc;rw[<- aRP,List.toList_toArray,aQB] at hc;obtain ⟨j,_,hj⟩:=hc;exact h c (Array.mem_of_getElem? hj)
def POv(C:Cw)(X:Cx):Option Expr->Option (Rho->Res)->Prop
 | none,none=>True
 | some e,some g=>PV C X e g
 | _,_=>False
def v6(C:Cw):Option (Rho->Res)->TO
 | none=>vI
 | some g=>nF (tG C g)
theorem v7{e:Option Expr}{g:Option (Rho->Res)}(h:POv C X e g):PO X e (v6 (C.at X) g):=by
 cases e with
 | none=>cases g with
  | none=>exact aEJ
  | some g=>exact h.elim
 | some e=>cases g with
  | none=>exact h.elim
  | some g=>exact aEK h
def cP(g:Option (Rho->Res))(ρ:Rho)(k:Option Int->Res):Res:=match g with
 | none=>k none
 | some g=>(g ρ).thn λ_ d=>match d with | .int i=>k (some i) | _=>.stuck
theorem jK{F H:Hp}{σ:L2.St}{g:Option (Rho->Res)}{ρ:Rho}{k:Option Int->Res}{Q:VK}{R:Option Int->Hp->Prop}(RS:aW C.K C.F0 C.H0 F H σ ρ)(w:a8 C F H σ (cP g ρ k) Q)(h:∀ i F' H',aN F H F' H'->aW C.K C.F0 C.H0 F' H' σ ρ->a8 C F' H' σ (k i) Q->R i H'):v6 C g σ H R:=by
 cases g with
 | none=>exact h none F H (.refl RS.sub) RS w
 | some g =>
  show nF (tG C g) σ H R;unfold nF;rw[bA];refine ⟨ρ,F,RS,?_⟩;have w:a8 C F H σ ((g ρ).thn λ_ d=>match d with | .int i=>k (some i) | _=>.stuck) Q:=w
  cases er:g ρ with
  | stuck=>rw[er] at w;exact w
  | exc c=>rw[er] at w;exact w
  | ok m d =>
   rw[er] at w;intro v F' H' st rp _;cases d with
   | int i=>cases rp.int;exact ⟨i,rfl,h (some i) F' H' st (RS.step st) (a8.step st w)⟩
   | _=>exact (show False from w).elim
def iJ:Md->D->Md->D->Option (Md×D):=λ_ x _ y=>match x,y with
 | .str z,.int n=>if (decide (1<=n)&&decide (n<=1000000)&&decide (z.length * n.toNat<=sizeLine))=true then some (.fz,.str (Txt.mul z n)) else none
 | _,_=>none
theorem v8{α:Type}(xs:Array α):∀ (k:Nat) (acc:Array α),((List.replicate k xs).foldl (· ++ ·) acc).size=acc.size+k * xs.size
 | 0,acc=>by simp
 | k+1,acc=>by rw[aRT,aRU,v8 xs k,Array.size_append,Nat.succ_mul];omega
theorem v9{α:Type}(p:α->Bool)(xs:Array α)(h:xs.all p=true):∀ (k:Nat) (acc:Array α),acc.all p=true->((List.replicate k xs).foldl (· ++ ·) acc).all p=true
 | 0,acc,q=>q
 | k+1,acc,q=>by rw[aRT,aRU];exact v9 p xs h k _ (by rw[Array.all_append,q,h];rfl)
theorem aGH(z:Str){n:Int}(h:1<=n):(Txt.mul z n).length=z.length * n.toNat:=by
 unfold Txt.mul;rw[if_neg (by omega)]
 split
 . rename_i hc;rcases (aRN _ _).mp hc with hc | hc
   . have:n=1:=by simpa using hc
     subst this;simp
   . have:z.length=0:=by simpa using hc
     rw[this];simp
 . show Array.size (List.foldl (· ++ ·) #[] (List.replicate n.toNat z.cps))=_;rw[v8,Nat.mul_comm];simp[Str.length]
theorem aGI{z:Str}{n:Int}(h:PyData.strOk z=true):PyData.strOk (Txt.mul z n)=true:=by
 unfold Txt.mul;split
 . decide +kernel
 . split
   . exact h
   . unfold PyData.strOk at *;exact v9 _ _ h _ _ (by simp)
theorem aGJ:OpD C X (binaryOp .Mult) iJ:=by
 refine ⟨λx y H Q=>∃ z n,x=.str z/\y=.int n/\MulOk z n/\Q (.str (Txt.mul z n)) H,?_,?_⟩
 . intro aA s σ H x y v u Q I rx ry h;obtain ⟨z,n,rfl,rfl,hm,q⟩:=h;obtain ⟨t,rfl⟩:=rx;obtain ⟨t',rfl⟩:=ry;exact SB.mul hm λt' k=>⟨.str (Txt.mul z n),H,I.tok _,⟨_,rfl⟩,q⟩
 . intro F H m x n y v u k d Q s rx ry e w;unfold iJ at e;split at e
   . rename_i z i;obtain ⟨rfl,hz,hk⟩:=rx.str;cases ry.int;split at e
     . rename_i hc;simp only[aQ8,aRL] at hc;obtain ⟨⟨h1,h2⟩,h3⟩:=hc;cases e;refine ⟨z,i,rfl,rfl,⟨?_,λ_ _=>?_,λ_ _=>?_⟩,w _ F H (.refl s) (eN ⟨by rw[aGH z h1];exact h3,aGI hk⟩) (by intro z;cases z)⟩
       . rw[aRV];exact ⟨aPB (by omega),aPB (by omega)⟩
       . have hs:sizeLine=16777216:=aQD;have:(2 ^ 63-1:Int) / i ≥ (2 ^ 63-1) / 1000000:=by
           apply Int.le_ediv_of_mul_le (by omega)
           have e1:(2 ^ 63-1:Int) / 1000000=9223372036854:=by decide
           rw[e1];have:(9223372036854:Int) * i<=9223372036854 * 1000000:=Int.mul_le_mul_of_nonneg_left h2 (by decide)
           have e2:(9223372036854:Int) * 1000000<=2 ^ 63-1:=by decide
           omega
         have e1:(2 ^ 63-1:Int) / 1000000=9223372036854:=by decide
         omega
       . unfold Builtin.Str.tooLong;exact aPB (by omega)
     . cases e
   . cases e
end
inductive aT where
 | ok (xs:List (Md×D)) | exc (c:Str) | stuck
def RpL(K:Fg)(F H:Hp):List (Md×D)->List V->Prop
 | [],vs=>vs=[]
 | (m,d)::r,vs=>∃ v us,vs=v::us/\Rp K F H m d v/\RpL K F H r us
def aT.thn(r:aT)(k:List (Md×D)->Res):Res:=match r with
 | .ok xs=>k xs
 | .exc c=>.exc c
 | .stuck=>.stuck
@[simp] theorem aT.thn_ok(xs:List (Md×D))(k:List (Md×D)->Res):(aT.ok xs).thn k=k xs:=rfl
@[simp] theorem aT.thn_exc(c:Str)(k:List (Md×D)->Res):(aT.exc c).thn k=.exc c:=rfl
@[simp] theorem aT.thn_stuck(k:List (Md×D)->Res):aT.stuck.thn k=.stuck:=rfl
def lC(C:Cw)(F H:Hp)(σ:L2.St)(r:aT)(Q:List V->Hp->Prop):Prop:=match r with
 | .ok xs=>∀ vs F' H',aN F H F' H'->RpL C.K F' H' xs vs->Q vs H'
 | .exc c=>∀ F' H',aN F H F' H'->C.EE c σ H'
 | .stuck=>False
theorem lC.step{C:Cw}{F H F1 H1:Hp}{σ:L2.St}{r:aT}{Q:List V->Hp->Prop}(st:aN F H F1 H1)(h:lC C F H σ r Q):lC C F1 H1 σ r Q:=by
 cases r with
 | ok m=>exact λv F' H' s2 rp=>h v F' H' (st.trans s2) rp
 | exc c=>exact λF' H' s2=>h F' H' (st.trans s2)
 | stuck=>exact h
def tAv(C:Cw)(g:Rho->aT):TA:=λσ H Q=>∃ ρ F,aW C.K C.F0 C.H0 F H σ ρ/\lC C F H σ (g ρ) Q
def PAv(C:Cw)(X:Cx)(es:List Expr)(g:Rho->aT):Prop:=PA X es (tAv (C.at X) g)
theorem PA.imp{X:Cx}{e:List Expr}{t t':TA}(h:PA X e t)(i:∀ σ H Q,t' σ H Q->t σ H Q):PA X e t':=λp aA s σ H Q I q=>h p aA s σ H Q I (i σ H Q q)
def cC(x:Res)(y:aT):aT:=match x with
 | .ok m d=>(match y with | .ok r=>.ok ((m,d)::r) | .exc c=>.exc c | .stuck=>.stuck)
 | .exc c=>.exc c
 | .stuck=>.stuck
@[simp] theorem jL(m:Md)(d:D)(r:List (Md×D)):cC (.ok m d) (.ok r)=.ok ((m,d)::r):=rfl
section
variable {C:Cw}{X:Cx}{a b c e:Expr}{es:List Expr}{ga gb gc g:Rho->Res}{gs:Rho->aT}{pos p:Pos}{x:Str}
theorem lD:PAv C X [] (λ_=>.ok []):=PA.imp m9 λσ H Q q=>by obtain ⟨ρ,F,R,w⟩:=q;exact w [] F H (.refl R.sub) rfl
theorem iK(ha:PV C X e g)(hr:PAv C X es gs)(hs:starEach (e::es) X.env=(false,eval e X.env)::starEach es X.env:=by rfl):PAv C X (e::es) (λρ=>cC (g ρ) (gs ρ)):=by
 refine PA.imp (kY ha hr hs) λσ H Q q=>?_;unfold m8;obtain ⟨ρ,F,R,w⟩:=q;dsimp only at w;rw[bA];refine ⟨ρ,F,R,?_⟩;cases er:g ρ with
 | stuck=>rw[er] at w;exact w
 | exc c=>rw[er] at w;exact w
 | ok m d =>
  rw[er] at w;intro v F1 H1 s1 r1 _;refine ⟨ρ,F1,R.step s1,?_⟩;have w1:=lC.step s1 w;cases es':gs ρ with
  | stuck=>rw[es'] at w1;exact w1
  | exc c=>rw[es'] at w1;exact w1
  | ok r=>rw[es'] at w1;intro vs F2 H2 s2 r2;exact w1 (v::vs) F2 H2 s2 ⟨v,vs,rfl,r1.step s2,r2⟩
def cQ:List (Md×D)->Option (List D)
 | []=>some []
 | (.fz,d)::r=>(cQ r).map (d :: ·)
 | _::_=>none
theorem RpL.fz{K:Fg}{F H:Hp}:∀ {xs:List (Md×D)} {vs:List V} {ds:List D},RpL K F H xs vs->cQ xs=some ds->aE K F ds vs
 | [],_,_,h,e=>by cases e;rw[show _=[] from h];exact aE.nil
 | (.fz,d)::r,_,_,h,e=>by
  obtain ⟨v,us,rfl,r1,r2⟩:=h;unfold cQ at e;cases q:cQ r with
  | none=>rw[q] at e;cases e
  | some ds'=>rw[q] at e;cases e;exact aE.cons r1 (RpL.fz r2 q)
 | (.fr,d)::r,_,_,h,e=>by cases e
 | (.bo,d)::r,_,_,h,e=>by cases e
def dW(r:aT):Res:=r.thn λxs=>match cQ xs with | some ds=>if ds.length<=sizeLine then .ok .fz (.tup ds) else .stuck | none=>.stuck
def iL(r:aT):Res:=r.thn λxs=>match cQ xs with | some ds=>if ds.length<=sizeLine then .ok .fr (.lst ds) else .stuck | none=>.stuck
theorem aC.tup_of{K:Fg}{F:Hp}{p:Addr}{ds:List D}{xs:List V}(hp:F p=none)(r:aE K F ds xs):aC K (upd F p (.tup xs)) (.tup ds) (.ref p):=by simp only[aC];exact ⟨p,xs,rfl,SqT.of bV,r.mono (λb u q=>by rw[aU (cO q hp)];exact q) _ _⟩
theorem aGK{x1}(h:PAv C X es gs):PV C X (.Tuple es x1 pos) (λρ=>dW (gs ρ)):=by
 refine PE.imp (aD8 h) λσ H Q q=>?_;unfold tTup;rw[bA] at q;obtain ⟨ρ,F,R,w⟩:=q;refine ⟨ρ,F,R,?_⟩;cases er:gs ρ with
 | stuck=>rw[er] at w;exact w
 | exc c=>rw[er] at w;exact w
 | ok xs =>
  rw[er] at w;intro vs F1 H1 s1 r1;have w1:a8 (C.at X) F1 H1 σ (match cQ xs with | some ds=>if ds.length<=sizeLine then .ok .fz (.tup ds) else .stuck | none=>.stuck) Q:=a8.step s1 w
  cases ef:cQ xs with
  | none=>rw[ef] at w1;exact w1.elim
  | some ds =>
   rw[ef] at w1;dsimp only at w1;split at w1
   . rename_i hl;have r2:=r1.fz ef;refine ⟨by rw[r2.length];exact hl,λp hp=>?_⟩
     exact w1 (.ref p) _ _ (aN.laid (.tup vs) s1.sub hp) (aC.tup_of (s1.sub.free hp) r2) (by intro z;cases z)
   . exact w1.elim
theorem aGL(h:PAv C X es gs):PV C X (.List es pos) (λρ=>iL (gs ρ)):=by
 refine PE.imp (aD9 h) λσ H Q q=>?_;unfold tLst;rw[bA] at q;obtain ⟨ρ,F,R,w⟩:=q;refine ⟨ρ,F,R,?_⟩;cases er:gs ρ with
 | stuck=>rw[er] at w;exact w
 | exc c=>rw[er] at w;exact w
 | ok xs =>
  rw[er] at w;intro vs F1 H1 s1 r1;have w1:a8 (C.at X) F1 H1 σ (match cQ xs with | some ds=>if ds.length<=sizeLine then .ok .fr (.lst ds) else .stuck | none=>.stuck) Q:=a8.step s1 w
  cases ef:cQ xs with
  | none=>rw[ef] at w1;exact w1.elim
  | some ds =>
   rw[ef] at w1;dsimp only at w1;split at w1
   . rename_i hl;have r2:=r1.fz ef;refine ⟨by rw[r2.length];exact hl,λp hp=>?_⟩
     refine w1 (.ref p) F1 _ (aN.fresh (.lst vs) s1.sub hp) ⟨p,rfl,s1.sub.free hp,vs,bV,r2⟩ λ_ a ea=>by cases ea;exact hp
   . exact w1.elim
def jM:D->Option Key
 | .int i=>some (.inl i)
 | .str x=>some (.inr x)
 | _=>none
theorem qX{K:Fg}{F H:Hp}{m:Md}{d:D}{k:Key}{v:V}(e:jM d=some k)(r:Rp K F H m d v):v=kV k:=by
 cases d with
 | int i=>cases e;exact r.int
 | str x=>cases e;exact r.str.1
 | _=>cases e
def dQ(X:Cx)(f:Value)(φ:List (Md×D)->Option (Md×D)):Prop :=
 ∃ r:List V->Hp->VK->Prop,gN X f r/\∀ F H xs vs k d Q,aH F H->RpL X.K F H xs vs->φ xs=some (k,d) ->
  (∀ v' F' H',aN F H F' H'->Rp X.K F' H' k d v'->(k=.fr->∀ a,v'=.ref a->H a=none)->Q v' H')->r vs H Q
def eO(φ:List (Md×D)->Option (Md×D))(r:aT):Res:=r.thn λxs=>Res.of (φ xs)
theorem wA{φ:List (Md×D)->Option (Md×D)}{r:List V->Hp->VK->Prop}(h:∀ F H xs vs k d Q,aH F H->RpL C.K F H xs vs->φ xs=some (k,d)->(∀ v' F' H',aN F H F' H'->Rp C.K F' H' k d v'->(k=.fr->∀ a,v'=.ref a->H a=none)->Q v' H')->r vs H Q){σ:L2.St}{H:Hp}{Q:VK}(q:tG C (λρ=>eO φ (gs ρ)) σ H Q):tCB r (tAv C gs) σ H Q:=by
 unfold tCB;rw[bA] at q;obtain ⟨ρ,F,R,w⟩:=q;refine ⟨ρ,F,R,?_⟩;cases er:gs ρ with
 | stuck=>rw[er] at w;exact w
 | exc c=>rw[er] at w;exact w
 | ok xs =>
  rw[er] at w;intro vs F1 H1 s1 r1;have w1:a8 C F1 H1 σ (Res.of (φ xs)) Q:=a8.step s1 w;cases ef:φ xs with
  | none=>rw[ef] at w1;exact w1.elim
  | some kd=>obtain ⟨k,d⟩:=kd;rw[ef] at w1;exact h F1 H1 xs vs k d Q s1.sub r1 ef w1
theorem aGM{id:String}{φ}(o:dQ X (.builtin id) φ)(hg:Gl X x)(hm:X.mg x=none)(hv:bootBuiltins x=some (.builtin id))(ha:PAv C X (e::es) gs)(hn:x ≠ "__name__" := by decide)(hdb:(x==("__debug__" : Str))=false:=by decide)(he:starEach (e::es) X.env=(false,eval e X.env)::starEach es X.env:=by rfl)(hpl:(backTo pos (starEach es X.env)).any (·.1)=false:=by rfl):PV C X (.Call (.Name x p) (e::es) [] pos) (λρ=>eO φ (gs ρ)):=by obtain ⟨r,h1,h2⟩:=o;exact PE.imp (aEB h1 hg hm hv ha hn hdb he hpl) λσ H Q q=>wA h2 q
def fA:List (Md×D)->Option (Md×D)
 | [(_,.str z)]=>some (.fz,.int z.length)
 | [(_,.lst ds)]=>some (.fz,.int ds.length)
 | [(_,.tup ds)]=>some (.fz,.int ds.length)
 | _=>none
theorem RpL.one{K:Fg}{F H:Hp}{m:Md}{d:D}{vs:List V}(h:RpL K F H [(m,d)] vs):∃ v,vs=[v]/\Rp K F H m d v:=by obtain ⟨v,us,rfl,r,e⟩:=h;exact ⟨v,by rw[show us=[] from e],r⟩
theorem RpL.two{K:Fg}{F H:Hp}{m n:Md}{d e:D}{vs:List V}(h:RpL K F H [(m,d),(n,e)] vs):∃ v u,vs=[v,u]/\Rp K F H m d v/\Rp K F H n e u:=by obtain ⟨v,us,rfl,r,v',us',rfl,r',e⟩:=h;exact ⟨v,v',by rw[show us'=[] from e],r,r'⟩
theorem aGN:dQ X (.builtin "len") fA:=by
 refine ⟨_,aD7,λF H xs vs k d Q s rx e w=>?_⟩;unfold fA at e;split at e
 . rename_i m z;cases e;obtain ⟨v,rfl,r⟩:=rx.one;obtain ⟨rfl,hz,_⟩:=r.str;exact ⟨_,z.length,rfl,⟨hz,rfl⟩,w _ F H (.refl s) (cE _) (by intro z;cases z)⟩
 . rename_i m ds;cases e;obtain ⟨v,rfl,r⟩:=rx.one;obtain ⟨a,xs,rfl,q,rl⟩:=r.seqL s;exact ⟨_,xs.length,rfl,.inl ⟨xs,q,rfl⟩,by rw[rl.length];exact w _ F H (.refl s) (cE _) (by intro z;cases z)⟩
 . rename_i m ds;cases e;obtain ⟨v,rfl,r⟩:=rx.one;obtain ⟨a,xs,rfl,q,rl⟩:=r.seqT s;exact ⟨_,xs.length,rfl,.inr ⟨xs,q,rfl⟩,by rw[rl.length];exact w _ F H (.refl s) (cE _) (by intro z;cases z)⟩
 . cases e
def tyN:D->Option String
 | .non=>some "NoneType" | .bl _=>some "bool" | .int _=>some "int" | .str _=>some "str" | .tup _=>some "tuple" | .lst _=>some "list" | .dct _=>some "dict" | _=>none
def lE(t c:String):Option Bool:=if ["int", "bool", "str", "list", "tuple", "dict"].contains c=true then some (t==c||(t == "bool" && c == "int")) else none
def lF:List (Md×D)->Option (Md×D)
 | [(_,d),(_,.ty c)]=>match tyN d with | some t=>(lE t c).map λb=>(.fz,.bl b) | none=>none
 | _=>none
theorem aGO{K:Fg}{d:D}{t c:String}{b:Bool}(ht:tyN d=some t)(e:lE t c=some b):PySem.W.kitOne K (.type t) (.type c)=some b:=by
 unfold lE at e;split at e
 . rename_i hc;simp only[List.contains_cons,List.contains_nil,Bool.or_false,aRN,aRW] at hc;cases e;have ht':t = "NoneType" \/ t = "bool" \/ t = "int" \/ t = "str" \/ t = "tuple" \/ t = "list" \/ t = "dict" := by cases d <;> cases ht <;> simp
   rcases hc with rfl | rfl | rfl | rfl | rfl | rfl <;> rcases ht' with rfl | rfl | rfl | rfl | rfl | rfl | rfl <;> rfl
 . cases e
theorem aGP:dQ X (.builtin "isinstance") lF:=by
 refine ⟨λvs H Q=>∃ (F:Hp) (m:Md) (d:D) (v:V) (t c:String) (b:Bool),aH F H/\Rp X.K F H m d v/\vs=[v,.ty c]/\tyN d=some t/\lE t c=some b/\Q (.bl b) H,?_,?_⟩
 . intro aA s σ H xs us Q I r h;obtain ⟨F,m,d,v,t,c,b,sF,rp,rfl,ht,hb,q⟩:=h;obtain ⟨u,u',rfl,ru,ru'⟩:=vals2 r;cases (show u'=Value.type c from ru')
   have e:=aGO (K:=X.K) ht hb;have fin:∀ tk,EP X aA σ Q (.bool b) { s with toks:=tk }:=λtk=>⟨.bl b,H,I.tok _,rfl,q⟩
   cases d with
   | non=>cases rp.non;cases ht;cases (show u=Value.none from ru);exact aRX PySem.W.kitx_none I.kIn True.intro e (λz=>nomatch z) fin
   | bl y=>cases rp.bl;cases ht;cases (show u=Value.bool y from ru);exact aRX PySem.W.kitx_bool I.kIn True.intro e (λz=>nomatch z) fin
   | int i=>cases rp.int;cases ht;obtain ⟨t,q⟩:=(show ∃ t,u=Value.int i t from ru);cases q;exact aRX PySem.W.kitx_int I.kIn True.intro e (λz=>nomatch z) fin
   | str y=>obtain ⟨rfl,_⟩:=rp.str;cases ht;obtain ⟨t,q⟩:=(show ∃ t,u=Value.str y t from ru);cases q;exact aRX PySem.W.kitx_str I.kIn True.intro e (λz=>nomatch z) fin
   | tup ds =>
    obtain ⟨a,xs,rfl,hq,_⟩:=rp.seqT sF;cases ht;cases (show u=Value.ref a from ru)
    obtain ⟨its,_,⟨o,h1,h2,_⟩,_⟩:=I.tuple hq;exact aRX PySem.W.kitx_tuple I.kIn ⟨o,h1,h2⟩ e (λz=>nomatch z) fin
   | lst ds =>
    obtain ⟨a,xs,rfl,hq,_⟩:=rp.seqL sF;cases ht;cases (show u=Value.ref a from ru)
    obtain ⟨its,_,⟨o,n,h1,h2,_⟩,_⟩:=I.list hq;exact aRX PySem.W.kitx_list I.kIn ⟨o,h1,h2⟩ e (λz=>nomatch z) fin
   | dct ds =>
    obtain ⟨a,xs,rfl,hq,_⟩:=rp.dict sF;cases ht;cases (show u=Value.ref a from ru)
    obtain ⟨_,_,vs,_,p⟩:=(show bW X.prog X.w H s.heap a (.dK xs) from I.hok a _ hq)
    obtain ⟨o,es,ep,h1,h2,_⟩:=p;exact aRX PySem.W.kitx_dict I.kIn ⟨o,h1,h2.1⟩ e (λz=>nomatch z) fin
   | _=>cases ht
 . intro F H xs vs k d Q s rx e w;unfold lF at e;split at e
   . rename_i m d' n c;obtain ⟨v,u,rfl,r1,r2⟩:=rx.two;cases r2.ty;cases et:tyN d' with
     | none=>rw[et] at e;cases e
     | some t =>
      rw[et] at e;dsimp only at e;cases eb:lE t c with
      | none=>rw[eb] at e;cases e
      | some b=>rw[eb] at e;cases e;exact ⟨F,m,d',v,t,c,b,s,r1,rfl,et,eb,w _ F H (.refl s) (bZ _) (by intro z;cases z)⟩
   . cases e
theorem pv_ty{T:String}(hg:Gl X x)(hm:X.mg x=none)(hv:bootBuiltins x=some (.type T))(hn:x ≠ "__name__" := by decide)(hd:(x==("__debug__" : Str))=false:=by decide):PV C X (.Name x pos) (λ_=>.ok .fz (.ty T)) :=
 iH _ (aCU (v:=.ty T) hg hm hv rfl hn hd) λ_ _=>rp_ty T
theorem aGQ{y:Str}{t:Tok}(hg:Gl X x)(hm:X.mg x=some (.str y t))(h:(decide (y.length<=sizeLine)&&PyData.strOk y)=true:=by decide +kernel)(hd:(x==("__debug__" : Str))=false:=by decide):PV C X (.Name x pos) (λ_=>.ok .fz (.str y)) :=
 iH _ (uS (v:=.str y) hg hm ⟨t,rfl⟩ hd) λ_ _=>eN (by rw[aQ8,aRL] at h;exact h)
theorem aGR{y:Int}{t:Tok}(hg:Gl X x)(hm:X.mg x=some (.int y t))(hd:(x==("__debug__" : Str))=false:=by decide):PV C X (.Name x pos) (λ_=>.ok .fz (.int y)) :=
 iH _ (uS (v:=.int y) hg hm ⟨t,rfl⟩ hd) λ_ _=>cE _
def fB:List D->Option (List Bool)
 | []=>some []
 | .bl b::r=>(fB r).map (b :: ·)
 | _=>none
def gR:List (Md×D)->Option (Md×D)
 | [(_,.lst ds)]=>(fB ds).map λbs=>(.fz,.bl (bs.all id))
 | _=>none
theorem wB{K:Fg}{F:Hp}:∀ {ds:List D} {xs:List V} {bs:List Bool},aE K F ds xs->fB ds=some bs->xs=bs.map V.bl
 | [],_,_,h,e=>by cases e;simp only[aE] at h;exact h
 | d::ds,_,_,h,e=>by
  simp only[aE] at h;obtain ⟨y,ys,rfl,r,t⟩:=h;cases d with
  | bl b =>
   unfold fB at e;cases q:fB ds with
   | none=>rw[q] at e;cases e
   | some bs=>rw[q] at e;cases e;simp only[aC] at r;subst r;rw[wB t q];rfl
  | _=>cases e
theorem aGS(bs:List Bool):(List.range bs.length).all (λi=>bs.getD i true)=bs.all id:=by
 rw[aRY,aRZ,aRZ];constructor
 . intro h b hb;obtain ⟨i,hi,e⟩:=List.getElem_of_mem hb;have:=h i (aPM.mpr hi);rw[aR0,aR1 hi] at this;rw[<- e];exact this
 . intro h i hi;have hi:=aPM.mp hi;rw[aR0,aR1 hi];exact h _ (aR2 hi)
theorem aGT{prog:Program}{w:World}{aA:LAO}{σ:L2.St}{H:Hp}{s:Shared}{a:Addr}{bs:List Bool}(hc:X.calm=true)(I:Inv X aA σ H s)(hq:SqL X.K H a (bs.map V.bl)){E:VSP}{Q:VSP}(h:∀ (it:Value) (s2:Shared),(∃ I' fp wr n P St tr,it=.ref I'/\Walks prog w X.A.in1 I' fp wr n P St/\St 0 s2.heap/\TruthOf prog w X.A.in1 P tr/\n=bs.length/\(∀ i,tr i=bs.getD i true)/\∀ h' tk,(∀ b o,b∉wr->s2.heap.get? b=some o->h'.get? b=some o)->∃ s3:Shared,s3={ s2 with heap:=h',toks:=tk }/\Inv X aA σ H s3)->Q it s2):wpAny (model prog w) X.A.in1 (pyIter (.ref a)) Q E s:=by
 obtain ⟨its,rv,p,hz⟩:=I.list hq;have hlen:=rv.length;rw[aQR] at hlen;refine aP7 p.isList (h _ _ ⟨s.heap.objs.size,_,_,_,_,_,λi=>bs.getD i true,rfl,Walks.list (by show X.A.handled=none;exact I.ok.hd hc) s.heap.objs.size a ?_ its.toArray,⟨⟨_,aPF _ rfl,rfl,rfl⟩,?_⟩,?_,?_,λ_=>rfl,?_⟩)
 . obtain ⟨o,n,e,_⟩:=p;exact aPJ (aPG e)
 . obtain ⟨o,n,e,c,d,dd⟩:=p;exact ⟨o,hps e,c,n,dd⟩
 . intro i v s' Q' E' hP hQ;have hv:its[i]? = some v:=by simpa using hP
   have hi:i<bs.length:=by rw[hlen];exact (aPS.mp hv).1
   have hx:(bs.map V.bl)[i]? = some (V.bl bs[i]):=by rw[aQN,aR1 hi];rfl
   obtain ⟨u,hu,ru⟩:=rv.get hx;rw[hv] at hu;cases hu;cases (show v=Value.bool _ from ru)
   have hQ:Q' (bs.getD i true) s':=hQ;rw[aR0,aR1 hi] at hQ;exact aPW hQ
 . rw[aQE,hlen]
 . intro h' tk hk;refine ⟨_,rfl,?_⟩;refine (I.kept (t':=tk) (h':=h') λb o e=>?_)
   refine hk b o (by intro hb; have : b = s.heap.objs.size := by simpa using hb
                     subst this;exact absurd (aPG e) (aPI _)) (hps e)
theorem aGU(hc:X.calm=true):dQ X (.builtin "all") gR:=by
 refine ⟨λvs H Q=>∃ (a:Addr) (bs:List Bool),vs=[.ref a]/\SqL X.K H a (bs.map V.bl)/\Q (.bl (bs.all id)) H,?_,?_⟩
 . intro aA s σ H xs us Q I r h;obtain ⟨a,bs,rfl,hq,q⟩:=h;obtain ⟨u,rfl,ru⟩:=fR r;cases (show u=Value.ref a from ru)
   refine call_all_walk (aGT hc I hq λit s2 hh=>?_);obtain ⟨I',fp,wr,n,P,St,tr,rfl,W,st,T,rfl,htr,fin⟩:=hh;refine ⟨I',fp,wr,_,P,St,tr,rfl,W,st,T,λh' tk hk=>?_⟩;obtain ⟨s3,rfl,I3⟩:=fin h' tk hk;have e:(List.range bs.length).all tr=bs.all id:=by rw[<- aGS];congr 1;funext i;exact htr i
   rw[e];exact ⟨.bl (bs.all id),H,I3,rfl,q⟩
 . intro F H xs vs k d Q s rx e w;unfold gR at e;split at e
   . rename_i m ds;obtain ⟨v,rfl,r⟩:=rx.one;obtain ⟨a,xs,rfl,hq,rl⟩:=r.seqL s;cases eb:fB ds with
     | none=>rw[eb] at e;cases e
     | some bs=>rw[eb] at e;cases e;have:=wB rl eb;subst this;exact ⟨a,bs,rfl,hq,w _ F H (.refl s) (bZ _) (by intro z;cases z)⟩
   . cases e
end
inductive aB where
 | nx (ρ:Rho) | rt (m:Md) (d:D) | bk (ρ:Rho) | ct (ρ:Rho) | exc (c:Str) (ρ:Rho) | stuck
def bU(C:Cw)(Fa:Hp)(r:aB)(E:e7):Prop:=match r with
 | .nx ρ=>∀ σ F H,aH Fa F->aW C.K C.F0 C.H0 F H σ ρ->E.nx σ H
 | .bk ρ=>∀ σ F H,aH Fa F->aW C.K C.F0 C.H0 F H σ ρ->E.bk σ H
 | .ct ρ=>∀ σ F H,aH Fa F->aW C.K C.F0 C.H0 F H σ ρ->E.ct σ H
 | .exc c ρ=>∀ σ F H,aH Fa F->aW C.K C.F0 C.H0 F H σ ρ->C.EE c σ H
 | .rt m d=>∀ v F H,aN C.F0 C.H0 F H->Rp C.K F H m d v->(m=.fr->∀ a,v=.ref a->C.H0 a=none)->E.rt v H
 | .stuck=>False
theorem bU.mono{C:Cw}{F F1:Hp}{r:aB}{E:e7}(s:aH F F1)(w:bU C F r E):bU C F1 r E:=by
 cases r with
 | nx ρ=>exact λσ F' H' z R=>w σ F' H' (s.trans z) R
 | bk ρ=>exact λσ F' H' z R=>w σ F' H' (s.trans z) R
 | ct ρ=>exact λσ F' H' z R=>w σ F' H' (s.trans z) R
 | exc c ρ=>exact λσ F' H' z R=>w σ F' H' (s.trans z) R
 | rt m d=>exact w
 | stuck=>exact w
def tH(C:Cw)(g:Rho->aB):TS:=λE σ H=>∃ ρ F,aW C.K C.F0 C.H0 F H σ ρ/\bU C F (g ρ) E
def PSv(C:Cw)(X:Cx)(st:Stmt)(g:Rho->aB):Prop:=PS X st (tH (C.at X) g)
def PBv(C:Cw)(X:Cx)(st:List Stmt)(g:Rho->aB):Prop:=PSs X st (tH (C.at X) g)
theorem PS.imp{X:Cx}{e:Stmt}{t t':TS}(h:PS X e t)(i:∀ E σ H,t' E σ H->t E σ H):PS X e t':=λaA s σ H E I q=>h aA s σ H E I (i E σ H q)
theorem PSs.imp{X:Cx}{e:List Stmt}{t t':TS}(h:PSs X e t)(i:∀ E σ H,t' E σ H->t E σ H):PSs X e t':=λaA s σ H E I q=>h aA s σ H E I (i E σ H q)
def aB.thn(r:aB)(k:Rho->aB):aB:=match r with
 | .nx ρ=>k ρ
 | r=>r
@[simp] theorem aB.thn_nx(ρ:Rho)(k:Rho->aB):(aB.nx ρ).thn k=k ρ:=rfl
@[simp] theorem aB.thn_rt(m:Md)(d:D)(k:Rho->aB):(aB.rt m d).thn k=.rt m d:=rfl
@[simp] theorem aB.thn_bk(ρ:Rho)(k:Rho->aB):(aB.bk ρ).thn k=.bk ρ:=rfl
@[simp] theorem aB.thn_ct(ρ:Rho)(k:Rho->aB):(aB.ct ρ).thn k=.ct ρ:=rfl
@[simp] theorem aB.thn_exc(c:Str)(ρ:Rho)(k:Rho->aB):(aB.exc c ρ).thn k=.exc c ρ:=rfl
@[simp] theorem aB.thn_stuck(k:Rho->aB):aB.stuck.thn k=.stuck:=rfl
section
variable {C:Cw}{X:Cx}{a b c e:Expr}{es:List Expr}{ga gb gc g:Rho->Res}{gs:Rho->aT}{pos p:Pos}{x:Str}{st:Stmt}{sts:List Stmt}{h1 h2:Rho->aB}
theorem aGV:PBv C X [] (λρ=>.nx ρ):=PSs.imp aC2 λE σ H q=>by obtain ⟨ρ,F,R,w⟩:=q;exact w σ F H (aH.refl _) R
theorem aGW{E:e7}{σ:L2.St}{H:Hp}(q:tH C (λρ=>(h1 ρ).thn h2) E σ H):tSeq (tH C h1) (tH C h2) E σ H:=by
 obtain ⟨ρ,F,R,w⟩:=q;refine ⟨ρ,F,R,?_⟩;dsimp only at w;cases er:h1 ρ with
 | nx ρ'=>rw[er] at w;exact λσ' F' H' z R'=>⟨ρ',F',R',bU.mono z w⟩
 | rt m d=>rw[er] at w;exact w
 | bk ρ'=>rw[er] at w;exact w
 | ct ρ'=>rw[er] at w;exact w
 | exc c ρ'=>rw[er] at w;exact w
 | stuck=>rw[er] at w;exact w
theorem aGX(ha:PSv C X st h1)(hb:PBv C X sts h2):PBv C X (st::sts) (λρ=>(h1 ρ).thn h2):=PSs.imp (aC3 ha hb) λE σ H q=>aGW q
def Res.thS(r:Res)(ρ:Rho)(k:Md->D->aB):aB:=match r with
 | .ok m d=>k m d
 | .exc c=>.exc c ρ
 | .stuck=>.stuck
@[simp] theorem Res.thS_ok(m:Md)(d:D)(ρ:Rho)(k:Md->D->aB):(Res.ok m d).thS ρ k=k m d:=rfl
@[simp] theorem Res.thS_exc(c:Str)(ρ:Rho)(k:Md->D->aB):(Res.exc c).thS ρ k=.exc c ρ:=rfl
@[simp] theorem Res.thS_stuck(ρ:Rho)(k:Md->D->aB):Res.stuck.thS ρ k=.stuck:=rfl
theorem gS{F:Hp}{σ:L2.St}{H:Hp}{ρ:Rho}{k:Md->D->aB}{E:e7}{Q:VK}(R:aW C.K C.F0 C.H0 F H σ ρ)(w:bU C F ((g ρ).thS ρ k) E)(h:∀ m d v F' H',bU C F' (k m d) E->aN F H F' H'->aW C.K C.F0 C.H0 F' H' σ ρ->Rp C.K F' H' m d v->(m=.fr->∀ a,v=.ref a->H a=none)->Q v H'):tG C g σ H Q:=by
 rw[bA];refine ⟨ρ,F,R,?_⟩;cases er:g ρ with
 | stuck=>rw[er] at w;exact w
 | exc c=>rw[er] at w;exact λF' H' s=>w σ F' H' s.fsame (R.step s)
 | ok m d=>rw[er] at w;exact λv F' H' s rp fr=>h m d v F' H' (bU.mono s.fsame w) s (R.step s) rp fr
theorem aGY(he:PV C X e g)(hs:swapsWith e none pos.line X.env=pure false:=by rfl):PSv C X (.Expr e pos) (λρ=>(g ρ).thS ρ λ_ _=>.nx ρ):=PS.imp (qL he hs) λE σ H q=>by obtain ⟨ρ,F,R,w⟩:=q;exact gS R w λm d v F' H' w' s R' rp fr=>w' σ F' H' (aH.refl _) R'
def fC(r:Res)(ρ:Rho):aB:=r.thS ρ λm d=>match m with | .bo=>.stuck | m=>.rt m d
theorem aGZ(he:PV C X e g):PSv C X (.Return (some e) pos) (λρ=>fC (g ρ) ρ):=PS.imp (uV he) λE σ H q=>by
 obtain ⟨ρ,F,R,w⟩:=q;refine gS R w λm d v F' H' w' s R' rp fr=>?_;cases m with
 | bo=>exact (show False from w').elim
 | fz=>exact w' v F' H' R'.st rp (by intro z;cases z)
 | fr=>exact w' v F' H' R'.st rp λ_ a ea=>R.st.same.free (fr rfl a ea)
def fD(ρ:Rho)(i:Nat):aB:=match ρ[i]? with
 | some (some (false,d))=>.rt .fz d
 | some (some (true,d))=>.rt .fr d
 | _=>.stuck
theorem aG0(i:Nat)(h:PE X (.Name x p) (iF i)):PSv C X (.Return (some (.Name x p)) pos) (λρ=>fD ρ i):=PS.imp (uV h) λE σ H q=>by
 obtain ⟨ρ,F,R,w⟩:=q;dsimp only at w;unfold fD at w;cases e:ρ[i]? with
 | none=>rw[e] at w;exact w.elim
 | some o =>
  cases o with
  | none=>rw[e] at w;exact w.elim
  | some q =>
   obtain ⟨m,d⟩:=q;obtain ⟨v,e1,r,hh⟩:=R.slot i m d e;rw[e] at w;cases m with
   | false=>exact ⟨v,e1,w v F H R.st r (by intro z;cases z)⟩
   | true=>exact ⟨v,e1,w v F H R.st r λ_=>hh rfl⟩
def ifS(t:Res)(ρ:Rho)(x y:aB):aB:=t.thS ρ λ_ d=>match d with | .bl true=>x | .bl false=>y | _=>.stuck
theorem aG1{s1 s2:List Stmt}(hc:PTv C X c gc)(ha:PBv C X s1 h1)(hb:PBv C X s2 h2):PSv C X (.If c s1 s2 pos) (λρ=>ifS (gc ρ) ρ (h1 ρ) (h2 ρ)):=by
 refine PS.imp (ps_if hc ha hb) λE σ H q=>?_;obtain ⟨ρ,F,R,w⟩:=q;dsimp only at w;refine ⟨ρ,F,R,?_⟩;cases er:gc ρ with
 | stuck=>rw[er] at w;exact w
 | exc c=>rw[er] at w;exact λF' H' s=>w σ F' H' s.fsame (R.step s)
 | ok m d =>
  rw[er] at w;cases d with
  | bl k =>
   intro F' H' s;cases k with
   | true=>rw[if_pos rfl];exact ⟨ρ,F',R.step s,bU.mono s.fsame w⟩
   | false=>rw[if_neg aP5];exact ⟨ρ,F',R.step s,bU.mono s.fsame w⟩
  | _=>exact w.elim
def eC(ρ:Rho)(i:Nat)(r:Res):aB:=r.thS ρ λm d=>match m with
 | .fz=>.nx (ρ.set i (some (false,d)))
 | .fr=>.nx (ρ.set i (some (true,d)))
 | .bo=>.stuck
theorem aW.set{K:Fg}{F0 H0 F H F' H':Hp}{σ:L2.St}{ρ:Rho}{i:Nat}{m:Bool}{d:D}{v:V}(R0:aW K F0 H0 F H σ ρ)(s:aN F H F' H')(rp:Rp K F' H' (if m then .bo else .fz) d v)(fr:m=true->∀ a,v=.ref a->H a=none):aW K F0 H0 F' H' (σ.set i (some v)) (ρ.set i (some (m,d))):=by
 have R:=R0.step s;refine ⟨R.st,λj m' d' e=>?_,λj k d1 d2 a hjk e1 e2 q1 q2=>?_,by rw[aR3,aR3];exact R.len⟩
 . by_cases hj:j=i
   . subst hj;rw[aR4] at e;by_cases hl:j<ρ.length
     . rw[if_pos rfl,if_pos hl] at e;cases e;refine ⟨v,by rw[aR4,if_pos rfl,if_pos (by rw[R.len];exact hl)],rp,λz a ea=>R0.st.same.free (fr z a ea)⟩
     . rw[if_pos rfl,if_neg hl] at e;cases e
   . rw[aPU (λz=>hj z.symm)] at e ⊢;exact R.slot j m' d' e
 . have old:∀ (l:Nat) (d:D) (b:Addr),l≠i->ρ[l]? = some (some (true,d))->σ[l]? = some (some (.ref b))->H b≠none:=λl d b hl e q=>by obtain ⟨u,q',r,_⟩:=R0.slot l true d e;rw[q] at q';cases q';obtain ⟨b',eb,_,t⟩:=r;cases eb;exact t.there
   by_cases hj:j=i
   . subst hj;rw[aPU hjk] at e2 q2;rw[aR4] at e1 q1;by_cases hl:j<ρ.length
     . rw[if_pos rfl,if_pos hl] at e1;rw[if_pos rfl,if_pos (by rw[R.len];exact hl)] at q1
       cases e1;cases q1;exact old k d2 a (λz=>hjk z.symm) e2 q2 (fr rfl a rfl)
     . rw[if_pos rfl,if_neg hl] at e1;cases e1
   . by_cases hk:k=i
     . subst hk;rw[aPU (λz=>hjk z.symm)] at e1 q1;rw[aR4] at e2 q2;by_cases hl:k<ρ.length
       . rw[if_pos rfl,if_pos hl] at e2;rw[if_pos rfl,if_pos (by rw[R.len];exact hl)] at q2
         cases e2;cases q2;exact old j d1 a hjk e1 q1 (fr rfl a rfl)
       . rw[if_pos rfl,if_neg hl] at e2;cases e2
     . rw[aPU (λz=>hj z.symm)] at e1 q1;rw[aPU (λz=>hk z.symm)] at e2 q2;exact R.apart j k d1 d2 a hjk e1 e2 q1 q2
theorem qY{g:Rho->Res}{i:Nat}{E:e7}{σ:L2.St}{H:Hp}(q:tH (C.at X) (λρ=>eC ρ i (g ρ)) E σ H):kU (tG (C.at X) g) (kT i) E σ H:=by
 obtain ⟨ρ,F,R,w⟩:=q;dsimp only at w;refine gS R w λm d v F' H' w' s R' rp fr=>?_;cases m with
 | bo=>exact (show False from w').elim
 | fz=>exact w' _ F' H' (aH.refl _) (R.set (m:=false) s rp (by intro z;cases z))
 | fr=>exact w' _ F' H' (aH.refl _) (R.set (m:=true) s rp λ_ a ea=>fr rfl a ea)
theorem aG2{i:Nat}{pos':Pos}(hN:X.N.Nodup)(hi:X.N[i]? = some x)(hx:Loc X.env.scope x)(he:PV C X e g)(hs:swapsWith e (some (.Name x pos')) pos.line X.env=pure false:=by rfl)(hf:X.fn x=true\/X.env.scope.names.lookup x=some .local:=by first | exact .inl rfl | exact .inr rfl | assumption):PSv C X (.Assign [.Name x pos'] e pos) (λρ=>eC ρ i (g ρ)):=PS.imp (aC9 hN hi hx he hs hf) λE σ H q=>qY q
end
def Its(x:Str):It:=⟨λi _=>i<x.cps.size,λi H v H'=>H'=H/\∃ c,x.cps[i]? = some c/\v=.str ⟨#[c]⟩,λi _=>x.cps.size<=i⟩
theorem wC{P:Program}{w:World}{K:Fg}{tg:Expr}(it:Addr)(x:Str)(t:Tok)(ty:String)(hty:["enumerate", "zip", "dict_itemiterator", "dict_reverseitemiterator", "odict_iterator", "itertools.zip_longest", "itertools.pairwise"].contains ty=false)(W:∀ A':Around,A'.handled=none->Walks P w A' it [it] [it] x.cps.size (SignAt x) (λi h=>h.IsStrIter it ty x t i))(Sf:∀ (A:Around) (i:Nat) (s:Shared) (Q:VSP) (E:VSP),s.heap.IsStrIter it ty x t i->Q (.ref it) s->wpAny (model P w) A (pyIter (.ref it)) Q E s):gM P w K tg (Its x) [it] it (λi h=>i<=x.cps.size/\h.IsStrIter it ty x t i) where
 mem:=by simp
 obj:=λi h st b hb=>by
  have e:b=it:=by simpa using hb
  subst e;obtain ⟨_,o,e,c,d⟩:=st;exact ⟨o,e,λv z=>by rw[d] at z;cases z⟩
 keep:=λi h h' st k=>⟨st.1,let ⟨o,e,r⟩:=st.2;⟨o,k it (by simp) o e,r⟩⟩
 item:=by
  intro X hP hw hK hc i aA s σ H E I hf st hg;subst hP hw hK;obtain ⟨f0,f1,f2,f3,f4,f5⟩:=hf it (by simp)
  refine (W X.A (I.ok.hd hc)).item i s _ _ hg st.2 λv h' tk hv st' kk=>?_;obtain ⟨c,u,hc',rfl⟩:=hv;have I1:Inv X aA σ H { s with heap:=h',toks:=tk }:=I.turned (λb o hb e=>kk b o (by simpa using hb) e) f0 f1 f3 f4 f5
  obtain ⟨o,e,oc,d⟩:=id st';exact ⟨_,rfl,mZ (s:={ s with heap:=h',toks:=tk }) e oc d hty ⟨.str ⟨#[c]⟩,H,I1,⟨u,rfl⟩,⟨rfl,c,hc',rfl⟩,⟨hg,st'⟩,λb hb=>(hf b hb).1⟩⟩
 done:=by
  intro X hP hw hK hc i aA s σ H E I hf st hg;subst hP hw hK;obtain ⟨f0,f1,f2,f3,f4,f5⟩:=hf it (by simp)
  have e:i=x.cps.size:=Nat.le_antisymm st.1 hg;subst e;exact (W X.A (I.ok.hd hc)).done s _ _ st.2 λh' tk kk=>⟨rfl,I.turned (λb o hb e=>kk b o (by simpa using hb) e) f0 f1 f3 f4 f5⟩
 self:=λA i s Q E st h=>Sf A i s Q E st.2 h
def iStr(te:TE):TI:=λσ H R=>te σ H λx H1=>∃ z,x=.str z/\R (Its z) H1
theorem aG3{X:Cx}{tg l:Expr}{tl:TE}(hl:PE X l tl):PI X tg l (iStr tl):=by
 intro aA s σ H R I h;refine thn (hl aA s σ H _ I h) λv s1 ⟨x,H1,I1,r1,q1⟩=>?_;obtain ⟨z,e,q⟩:=q1;subst e;obtain ⟨t,rfl⟩:=r1;have fin:∀ (ty:String) (o:Obj),o={ cls:=.type ty,data:=.fields #[.str z t,.int ((0:Nat):Int) 0] } -> (∀ b:Addr,b∈[s1.heap.objs.size]->eA X aA H1 b)/\Inv X aA σ H1 { s1 with heap:=s1.heap.push o }/\(s1.heap.push o).IsStrIter s1.heap.objs.size ty z t 0:=λty o eo=>by
  refine ⟨λb hb=>?_,I1.kept (t':=s1.toks) λb o e=>hps e,⟨o,aPF _ (by rw[eo];rfl),by rw[eo],by rw[eo]⟩⟩
  have e:b=s1.heap.objs.size:=by simpa using hb
  subst e;exact I1.fpOk (aP8 _) (I1.hok.fresh (aP8 _))
 cases ha:z.cps.all (· < 128)
 . refine wpAny_pyIter_wide ha ?_;obtain ⟨f1,f2,f3⟩:=fin "str_iterator" _ rfl;exact ⟨s1.heap.objs.size,[s1.heap.objs.size],_,Its z,H1,rfl,f2,wC _ z t "str_iterator" (by decide) (λA' hA=>Walks.strWide hA _ z t) (λA i s Q E st h=>wpAny_pyIter_striter_wide st h),⟨aRK _,f3⟩,f1,q⟩
 . refine wpAny_pyIter_ascii ha ?_;obtain ⟨f1,f2,f3⟩:=fin "str_ascii_iterator" _ rfl;exact ⟨s1.heap.objs.size,[s1.heap.objs.size],_,Its z,H1,rfl,f2,wC _ z t "str_ascii_iterator" (by decide) (λA' hA=>Walks.strAscii hA _ z t) (λA i s Q E st h=>wpAny_pyIter_striter_ascii st h),⟨aRK _,f3⟩,f1,q⟩
theorem PI.imp{X:Cx}{tg e:Expr}{t t':TI}(h:PI X tg e t)(i:∀ σ H R,t' σ H R->t σ H R):PI X tg e t':=λaA s σ H R I q=>h aA s σ H R I (i σ H R q)
theorem PI.or{X:Cx}{tg e:Expr}{t t':TI}(h:PI X tg e t)(h':PI X tg e t'):PI X tg e (λσ H R=>t σ H R\/t' σ H R):=λaA s σ H R I q=>by
 rcases q with q | q
 . exact h aA s σ H R I q
 . exact h' aA s σ H R I q
structure lG(K:Fg)(F:Hp)(J:It)(ds:List D):Prop where
 go:∀ i H,aH F H->i<ds.length->J.go i H
 stop:∀ i H,aH F H->ds.length<=i->J.stop i H
 yld:∀ i Fc H x H',aH F Fc->aH Fc H->i<ds.length->J.yld i H x H'->∃ F' d,ds[i]? = some d/\aN Fc H F' H'/\aC K F' d x
def WantI(C:Cw)(F H:Hp)(σ:L2.St)(r:Res)(R:It->Hp->Prop):Prop:=match r with
 | .ok _ (.lst ds)=>∀ J F' H',aN F H F' H'->lG C.K F' J ds->R J H'
 | .exc c=>∀ F' H',aN F H F' H'->C.EE c σ H'
 | _=>False
def tIv(C:Cw)(g:Rho->Res):TI:=λσ H R=>∃ ρ F,aW C.K C.F0 C.H0 F H σ ρ/\WantI C F H σ (g ρ) R
def PIv(C:Cw)(X:Cx)(tg e:Expr)(g:Rho->Res):Prop:=PI X tg e (tIv (C.at X) g)
def jN(z:Str):List D:=z.cps.toList.map λc=>.str ⟨#[c]⟩
def fU(r:Res):Res:=r.thn λ_ d=>match d with
 | .lst ds=>.ok .fz (.lst ds)
 | .tup ds=>.ok .fz (.lst ds)
 | .str z=>.ok .fz (.lst (jN z))
 | _=>.stuck
section
variable {C:Cw}{X:Cx}{tg e:Expr}{g:Rho->Res}{gs:Rho->aT}{pos p:Pos}
theorem aG4{K:Fg}{F:Hp}{a:Addr}{ds:List D}{xs:List V}(hq:SqT K F a xs)(r:aE K F ds xs):lG K F (Itt K a) ds where
 go:=λi H s hi=>by
  have hl:i<xs.length:=by rw[r.length];exact hi
  exact ⟨xs,xs[i],aH.seqT s hq,by simp[hl]⟩
 stop:=λi H s hi=>⟨xs,aH.seqT s hq,by rw[r.length];exact hi⟩
 yld:=λi Fc H x H' s1 s2 hi y=>by obtain ⟨rfl,y⟩:=y;have hx:=y xs (aH.seqT s2 (aH.seqT s1 hq));obtain ⟨d,e,rd⟩:=r.get hx;exact ⟨Fc,d,e,.refl s2,rd.mono s1 _ _⟩
theorem aG5{K:Fg}{F:Hp}{z:Str}(hk:PyData.strOk z=true):lG K F (Its z) (jN z) where
 go:=λi H s hi=>by simpa[jN,Its] using hi
 stop:=λi H s hi=>by simpa[jN,Its] using hi
 yld:=λi Fc H x H' s1 s2 hi y=>by
  obtain ⟨rfl,c,hc,rfl⟩:=y;refine ⟨Fc,.str ⟨#[c]⟩,by simp[jN,hc],.refl s2,?_⟩
  simp only[aC,true_and];refine ⟨by show 1<=sizeLine;decide,?_⟩
  unfold PyData.strOk at hk ⊢;rw[aRO] at hk;simpa using hk c (Array.mem_of_getElem? hc)
theorem aG6(h:PV C X e g):PIv C X tg e (λρ=>fU (bG (g ρ))):=by
 have h:=gQ h;refine PI.imp (PI.or (aDG h) (PI.or (aDH h) (aG3 h))) λσ H R q=>?_;obtain ⟨ρ,F,RS,w⟩:=q;dsimp only at w;cases er:bG (g ρ) with
 | stuck=>rw[er] at w;exact w.elim
 | exc c=>refine .inl ?_;unfold qM;rw[bA];refine ⟨ρ,F,RS,?_⟩;rw[er] at w ⊢;exact w
 | ok m d =>
  rw[er] at w;have hm:m=.fz:=by
   cases h:g ρ with
   | ok m' d'=>rw[h] at er;cases m' <;> cases er <;> rfl
   | exc c=>rw[h] at er;cases er
   | stuck=>rw[h] at er;cases er
  subst hm;cases d with
  | lst ds =>
   refine .inl ?_; unfold qM; rw [bA]; refine ⟨ρ, F, RS, ?_⟩; rw [er]; intro v F' H' st rp _; have rp : aC X.K F' (.lst ds) v := rp; simp only [aC] at rp; obtain ⟨a, xs, rfl, hq, r⟩ := rp; exact ⟨a, rfl, ⟨xs, st.sub.seq hq⟩, w _ F' H' st ⟨fun i H s hi => by
       have hl:i<xs.length:=by rw[r.length];exact hi
       exact ⟨xs,xs[i],s.seq hq,by simp[hl]⟩,λi H s hi=>⟨xs,s.seq hq,by rw[r.length];exact hi⟩,λi Fc H x H' s1 s2 hi y=>by
       obtain ⟨rfl,y⟩:=y;have hx:=y xs (s2.seq (s1.seq hq));obtain ⟨d,e,rd⟩:=r.get hx;exact ⟨Fc,d,e,.refl s2,rd.mono s1 _ _⟩⟩⟩
  | tup ds=>refine .inr (.inl ?_);unfold iTup;rw[bA];refine ⟨ρ,F,RS,?_⟩;rw[er];intro v F' H' st rp _;have rp:aC X.K F' (.tup ds) v:=rp;simp only[aC] at rp;obtain ⟨a,xs,rfl,hq,r⟩:=rp;exact ⟨a,rfl,⟨xs,aH.seqT st.sub hq⟩,w _ F' H' st (aG4 hq r)⟩
  | str z=>refine .inr (.inr ?_);unfold iStr;rw[bA];refine ⟨ρ,F,RS,?_⟩;rw[er];intro v F' H' st rp _;obtain ⟨rfl,hz,hk⟩:=Rp.str rp;exact ⟨z,rfl,w _ F' H' st (aG5 hk)⟩
  | _=>exact w.elim
def bM(lo hi:Int):List D:=(List.range (hi-lo).toNat).map λi=>.int (lo+(i:Nat))
def iM(r:aT):Res:=r.thn λxs=>match xs with
 | [(_,.int n)]=>if (decide (-(2 ^ 62)<=n)&&decide (n<2 ^ 62))=true then .ok .fz (.lst (bM 0 n)) else .stuck
 | _=>.stuck
def jO(r:aT):Res:=r.thn λxs=>match xs with
 | [(_,.int m),(_,.int n)]=>if (decide (-(2 ^ 62)<=m)&&decide (m<2 ^ 62)&&decide (-(2 ^ 62)<=n)&&decide (n<2 ^ 62))=true then .ok .fz (.lst (bM m n)) else .stuck
 | _=>.stuck
theorem wD{K:Fg}{F:Hp}{lo hi:Int}:lG K F (Itr lo (hi-lo).toNat) (bM lo hi) where
 go:=λi H s h=>by simpa[bM,Itr] using h
 stop:=λi H s h=>by simpa[bM,Itr] using h
 yld:=λi Fc H x H' s1 s2 h y=>by
  obtain ⟨rfl,rfl⟩:=y;have h':i<(hi-lo).toNat:=by simpa[bM] using h
  refine ⟨Fc,.int (lo+i),?_,.refl s2,by simp only[aC]⟩
  simp only[bM,aQN,List.getElem?_range h',aR5]
theorem aG7{a:Expr}(hg:Gl X "range")(hm:X.mg "range" = none)(ha:PAv C X [a] gs)(hs:starEach [a] X.env=[(false,eval a X.env)]:=by rfl):PIv C X tg (.Call (.Name "range" p) [a] [] pos) (λρ=>iM (gs ρ)):=by
 refine PI.imp (aDI hg hm ha hs) λσ H R q=>?_;obtain ⟨ρ,F,RS,w⟩:=q;dsimp only at w;unfold uY;refine ⟨ρ,F,RS,?_⟩;cases er:gs ρ with
 | stuck=>rw[er] at w;exact w
 | exc c=>rw[er] at w;exact w
 | ok xs =>
  rw[er] at w;intro vs F' H' st rp;unfold iM at w;rw[aT.thn_ok] at w;split at w
  . rename_i m n;split at w
    . rename_i hc;rw[aQ8,aRL,aRL] at hc;obtain ⟨v,rfl,r⟩:=rp.one;cases r.int;have:=wD (K:=X.K) (F:=F') (lo:=0) (hi:=n);rw[Int.sub_zero] at this;exact ⟨n,rfl,hc.1,hc.2,w _ F' H' st this⟩
    . exact w.elim
  . exact w.elim
theorem aG8{a b:Expr}(hg:Gl X "range")(hm:X.mg "range" = none)(ha:PAv C X [a,b] gs)(hs:starEach [a,b] X.env=[(false,eval a X.env),(false,eval b X.env)]:=by rfl)(hs2:starEach [b] X.env=[(false,eval b X.env)]:=by rfl):PIv C X tg (.Call (.Name "range" p) [a,b] [] pos) (λρ=>jO (gs ρ)):=by
 refine PI.imp (aDJ hg hm ha hs hs2) λσ H R q=>?_;obtain ⟨ρ,F,RS,w⟩:=q;dsimp only at w;unfold uZ;refine ⟨ρ,F,RS,?_⟩;cases er:gs ρ with
 | stuck=>rw[er] at w;exact w
 | exc c=>rw[er] at w;exact w
 | ok xs =>
  rw[er] at w;intro vs F' H' st rp;unfold jO at w;rw[aT.thn_ok] at w;split at w
  . rename_i m1 m n1 n;split at w
    . rename_i hc;simp only[aQ8,aRL] at hc;obtain ⟨v,u,rfl,r,r'⟩:=rp.two;cases r.int;cases r'.int;exact ⟨m,n,rfl,⟨hc.1.1.1,hc.1.1.2,hc.1.2,hc.2⟩,w _ F' H' st wD⟩
    . exact w.elim
  . exact w.elim
def PGv(C:Cw)(X:Cx)(tg:Expr)(k:D->Rho->Option Rho):Prop:=∃ t:TG,PG X tg t/\∀ F H σ ρ ρ' d v Q,aW X.K C.F0 C.H0 F H σ ρ->aC X.K F d v->k d ρ=some ρ' ->
 (∀ σ' F' H',aH F F'->aW X.K C.F0 C.H0 F' H' σ' ρ'->Q σ' H')->t v σ H Q
def cZ(k:D->Rho->Option Rho)(body:Rho->aB):List D->Rho->aB
 | [],ρ=>.nx ρ
 | d::ds,ρ=>match k d ρ with
  | none=>.stuck
  | some ρ1=>match body ρ1 with
   | .nx ρ2=>cZ k body ds ρ2
   | .ct ρ2=>cZ k body ds ρ2
   | .bk ρ2=>.nx ρ2
   | r=>r
def cJ(r:Res)(ρ:Rho)(k:D->Rho->Option Rho)(body:Rho->aB):aB:=r.thS ρ λ_ d=>match d with | .lst ds=>cZ k body ds ρ | _=>.stuck
theorem aG9{body:List Stmt}{k:D->Rho->Option Rho}{h1:Rho->aB}(hp:PassesOwn (model X.prog X.w) X.A X.env X.xe)(hc:X.calm=true)(hi:PIv C X tg e g)(hg:PGv C X tg k)(hb:PBv C X body h1)(hs:∀ x,foldedSetIterable e X.env x=pure x:=by intro _;rfl):PSv C X (.For tg e body [] pos) (λρ=>cJ (g ρ) ρ k h1):=by
 obtain ⟨t,ht,hk⟩:=hg;refine PS.imp (aDL hp hc hi ht hb hs) λE σ H q=>?_;obtain ⟨ρ,F,RS,w⟩:=q;dsimp only at w;unfold tFor;refine ⟨ρ,F,RS,?_⟩;cases er:g ρ with
 | stuck=>rw[er] at w;exact w
 | exc c=>rw[er] at w;exact λF' H' s=>w σ F' H' s.fsame (RS.step s)
 | ok m d =>
  rw[er] at w;cases d with
  | lst ds =>
   intro J F1 H1 s1 hJ;have w:bU (C.at X) F1 (cZ k h1 ds ρ) E:=bU.mono s1.fsame w;refine ⟨λi m σ' H'=>m=ds.length-i/\i<=ds.length/\∃ ρ' F',aH F1 F'/\aW X.K C.F0 C.H0 F' H' σ' ρ'/\bU (C.at X) F' (cZ k h1 (ds.drop i) ρ') E,⟨ds.length,by simp,aRK _,ρ,F1,aH.refl _,RS.step s1,by simpa using w⟩,?_⟩
   rintro i m σ' H' ⟨rfl,hi,ρ',F',sF,R',w'⟩;by_cases hlt:i<ds.length
   . refine .inr ⟨hJ.go i H' (sF.trans R'.sub) hlt,λσ2 H2=>∃ ρ2 F2,aH F1 F2/\aW X.K C.F0 C.H0 F2 H2 σ2 ρ2/\bU (C.at X) F2 (cZ k h1 (ds.drop (i+1)) ρ2) E,λσ2 H2 ⟨ρ2,F2,a,b,c⟩=>⟨ds.length-(i+1),by omega,rfl,hlt,ρ2,F2,a,b,c⟩,λx H2 y=>?_⟩
     obtain ⟨F2,d,ed,s2,rd⟩:=hJ.yld i F' H' x H2 sF R'.sub hlt y;have hd:ds.drop i=d::ds.drop (i+1):=by rw[aR6 hlt];rw[aR1 hlt] at ed;cases ed;rfl
     rw[hd] at w';unfold cZ at w';cases ek:k d ρ' with
     | none=>rw[ek] at w';exact w'.elim
     | some ρ1 =>
      rw[ek] at w';dsimp only at w';refine hk F2 H2 σ' ρ' ρ1 d x _ (R'.step s2) rd ek λσ3 F3 H3 z3 R3=>?_;have z13:aH F1 F3:=(sF.trans s2.fsame).trans z3;have w3:=bU.mono (s2.fsame.trans z3) w';refine ⟨ρ1,F3,R3,?_⟩;cases eb:h1 ρ1 with
      | nx ρ2=>rw[eb] at w3;exact λσ4 F4 H4 z4 R4=>⟨ρ2,F4,z13.trans z4,R4,bU.mono z4 w3⟩
      | ct ρ2=>rw[eb] at w3;exact λσ4 F4 H4 z4 R4=>⟨ρ2,F4,z13.trans z4,R4,bU.mono z4 w3⟩
      | bk ρ2=>rw[eb] at w3;exact λσ4 F4 H4 z4 R4=>w3 σ4 F4 H4 z4 R4
      | rt m d=>rw[eb] at w3;exact w3
      | exc c ρ2=>rw[eb] at w3;exact w3
      | stuck=>rw[eb] at w3;exact w3
   . have ei:i=ds.length:=by omega
     subst ei;refine .inl ⟨hJ.stop _ H' (sF.trans R'.sub) (aP8 _),?_⟩;rw[aR7] at w';exact w' σ' F' H' (aH.refl _) R'
  | _=>exact w.elim
end
end D3
namespace L2
open PySem PySem.Spec PyProof.Rows
theorem qZ {env : Env} : ∀ (names : List (Str × NameKind)) (acc : List (Str × Addr)), (∀ y ∈ names, y.2 = .free → ∃ c, env.cells.lookup y.1 = some c) → (∀ y c, acc.lookup y = some c → env.cells.lookup y = some c) →
    ∃ cl,(forIn names acc λ(x:Str×NameKind) (cs:List (Str×Addr))=>(if x.2 == .free then (do let c <- cellOf env x.1;pure (ForInStep.yield ((x.1,c)::cs))) else pure (ForInStep.yield cs):Sem (ForInStep (List (Str×Addr)))))=pure cl /\
     (∀ y c,cl.lookup y=some c->env.cells.lookup y=some c)/\(∀ y c,acc.lookup y=some c->cl.lookup y=some c)/\∀ y,(y,NameKind.free)∈names->∃ c,cl.lookup y=some c
 | [],acc,_,ha=>⟨acc,by rw[aR8],ha,λ_ _ h=>h,λ_ h=>by cases h⟩
 | (n,k)::r,acc,h,ha=>by
  rw[aR9];by_cases hk:k=.free
  . subst hk;obtain ⟨c,ec⟩:=h (n,.free) mcs rfl;have hc:cellOf env n=pure c:=by unfold cellOf;rw[ec]
    have e:((if (NameKind.free==NameKind.free)=true then (do let c <- cellOf env n;pure (ForInStep.yield ((n,c)::acc))) else pure (ForInStep.yield acc)):Sem (ForInStep (List (Str×Addr))))=pure (ForInStep.yield ((n,c)::acc)):=by rw[if_pos (by decide),hc,aSA]
    obtain ⟨cl,e1,e2,e3,e4⟩:=qZ (env:=env) r ((n,c)::acc) (λy hy=>h y (mcm hy)) (λy c' q=>by
     rw[aSB] at q;cases hyn:y==n with
     | true=>rw[hyn] at q;cases q;rw[aRW.mp hyn];exact ec
     | false=>rw[hyn] at q;exact ha y c' q)
    refine ⟨cl,?_,e2,λy c' q=>?_,λy hy=>?_⟩
    . dsimp only;rw[e,aSA];exact e1
    . cases hyn:y==n with
      | true=>have:=aRW.mp hyn;subst this;have q':=ha y c' q;rw[ec] at q';cases q';exact e3 y c (by rw[aSB,hyn])
      | false=>exact e3 y c' (by rw[aSB,hyn];exact q)
    . rcases aPP.mp hy with z | z
      . cases z;exact ⟨c,e3 n c (by rw[aSB,aSC])⟩
      . exact e4 y z
  . have e:((if (k==NameKind.free)=true then (do let c <- cellOf env n;pure (ForInStep.yield ((n,c)::acc))) else pure (ForInStep.yield acc)):Sem (ForInStep (List (Str×Addr))))=pure (ForInStep.yield acc):=by rw[if_neg (by simpa using hk)]
    obtain ⟨cl,e1,e2,e3,e4⟩:=qZ (env:=env) r acc (λy hy=>h y (mcm hy)) ha;refine ⟨cl,?_,e2,e3,λy hy=>?_⟩
    . dsimp only;rw[e,aSA];exact e1
    . rcases aPP.mp hy with z | z
      . cases z;exact absurd rfl hk
      . exact e4 y z
theorem aHA{scope:Scope}{env:Env}(h:∀ y∈scope.names,y.2=.free->∃ c,env.cells.lookup y.1=some c):∃ cl,closureFor scope env=pure cl/\(∀ y c,cl.lookup y=some c->env.cells.lookup y=some c)/\∀ y,(y,NameKind.free)∈scope.names->∃ c,cl.lookup y=some c:=by
 obtain ⟨cl,e1,e2,_,e4⟩:=qZ (env:=env) scope.names [] h (λy c q=>by simp at q)
 refine ⟨cl,?_,e2,e4⟩;unfold closureFor;rw[bind_pure];exact e1
theorem aHB{scope:Scope}{env:Env}(cV:∀ y∈scope.names,y.2 ≠ .cell){x:Str}(h:(relabel scope env).names.lookup x=some .cell\/(relabel scope env).names.lookup x=some .free):(x,NameKind.free)∈scope.names:=by
 unfold relabel at h;dsimp only at h;have go:∀ (l:List (Str×NameKind)),(∀ y∈l,y.2 ≠ .cell)->((l.map λ(n,k)=>if (k==NameKind.free&&env.scope.kind == .function&&env.kindOf n==some .cell) then (n,NameKind.cell) else (n,k)).lookup x=some .cell\/(l.map λ(n,k)=>if (k==NameKind.free&&env.scope.kind == .function&&env.kindOf n==some .cell) then (n,NameKind.cell) else (n,k)).lookup x=some .free)->(x,NameKind.free)∈l:=by
  intro l
  induction l with
  | nil=>intro _ h;simp at h
  | cons y l ih =>
   intro hc h;obtain ⟨n,k⟩:=y;rw[aRG] at h;by_cases hx:x=n
   . subst hx;have hk:k=.free:=by
       by_cases hk:k=.free
       . exact hk
       . have e:(k==NameKind.free&&env.scope.kind == .function&&env.kindOf x==some .cell)=false:=by
           have:(k==NameKind.free)=false:=by simpa using hk
           rw[this];rfl
         simp only[e,aSD,aQZ,aSB,aSC] at h;rcases h with h | h
         . cases h;exact absurd rfl (hc _ mcs)
         . cases h;exact absurd rfl hk
     subst hk;exact mcs
   . have hb:(x==n)=false:=by simpa using hx
     have hh:∀ (kk:NameKind) (l':List (Str×NameKind)),((n,kk)::l').lookup x=l'.lookup x:=λkk l'=>by rw[aSB,hb]
     by_cases hcond:(k==NameKind.free&&env.scope.kind == .function&&env.kindOf n==some .cell)=true
     . dsimp only at h;rw[if_pos hcond,hh] at h;exact mcm (ih (λy hy=>hc y (mcm hy)) h)
     dsimp only at h;rw[if_neg hcond,hh] at h;exact mcm (ih (λy hy=>hc y (mcm hy)) h)
 exact go scope.names cV h
def bJ(X:Cx)(scope:Scope)(N:List Str)(cl:List (Str×Addr))(C:Addr)(fp:List Addr)(s3:Shared)(H3:Hp):Cx where
 prog:=X.prog
 w:=X.w
 K:=X.K
 mg:=X.mg
 base:=X.base
 A:=X.A
 N:=N
 s₀:=s3
 H₀:=H3
 env:=compEnvC scope cl C X.env
 outer:=X.stack
 stack:=X.stack
 ex:=fp
 fn:=λ_=>false
 calm:=X.calm
 pn:=[]
 xe:=λ_ _=>False
def dD(X:Cx)(cs:List Expr)(t:TT):Prop :=
 ∀ (aA:LAO) (s:Shared) (σ:St) (H:Hp) (Q:Bool->Hp->Prop),Inv X aA σ H s->t σ H Q ->
  wpAny (model X.prog X.w) X.A (forIn cs true λc r=>if r=true then do let ok <- isTrue c X.env (eval c X.env);pure (ForInStep.yield ok) else pure (ForInStep.yield r)) (TP X aA σ Q) X.xe s
theorem aHC{X:Cx}:dD X [] (λ_ H Q=>Q true H):=λaA s σ H Q I h=>by rw[aR8];exact aP1 ⟨H,I,h⟩
theorem wE{X:Cx}:∀ cs:List Expr,(forIn cs false λc r=>if r=true then do let ok <- isTrue c X.env (eval c X.env);pure (ForInStep.yield ok) else pure (ForInStep.yield r):Sem Bool)=pure false
 | []=>by rw[aR8]
 | c::cs=>by rw[aR9,if_neg aP5,aSA];exact wE cs
theorem aHD{X:Cx}{c:Expr}{cs:List Expr}{t u:TT}(hc:PT X c t)(hr:dD X cs u):dD X (c::cs) (qJ t u):=λaA s σ H Q I h=>by
 rw[aR9,if_pos rfl];refine aPZ (aPZ (thn (hc aA s σ H _ I h) λb s1 ⟨H1,I1,q1⟩=>aP1 ?_));cases b with
 | true=>rw[if_pos rfl] at q1;exact hr aA s1 σ H1 Q I1 q1
 | false=>rw[if_neg aP5] at q1;dsimp only;rw[wE];exact aP1 ⟨H1,I1,q1⟩
section
variable {prog:Program}{w:World}{A:Around}{R:Result->Shared->Prop}{s:Shared}
theorem aHE {elt target aQ : Expr} {ifs : List Expr} {scope : Scope} {pos : Pos} {it acc : Value} {env : Env} (I : Nat → Shared → Prop) (turn : ∀ n s, I n s → wpAny (model prog w) A (pyNext it) (fun r s1 => match r with
      | none=>R (.ok .next) s1
      | some v => wpAny (model prog w) A (letOwnedTupleGo target it v) (fun _ s1' => wpAny (model prog w) A (assign target env v) (fun _ s2 =>
          wpAny (model prog w) A (forIn ifs true λc r=>if r=true then do let ok <- isTrue c env (eval c env);pure (ForInStep.yield ok) else pure (ForInStep.yield r)) (λok s3 =>
           if ok=true then wpAny (model prog w) A (eval elt env) (λx s4 =>
            wpAny (model prog w) A (call (.builtin "list.append") [acc,x]) (λ_ s5=>∃ m,m<n/\I m s5) (λ_ _=>False) s4) (λ_ _=>False) s3
           else ∃ m, m < n ∧ I m s3) (fun _ _ => False) s2) (fun _ _ => False) s1') (fun _ _ => False) s1) (fun _ _ => False) s)
    (n:Nat) (h:I n s) :
    codeAny (model prog w) A (.compLoop (.ListComp elt [⟨target,aQ,ifs,0⟩] scope pos) 0 it acc env) R s:=by
 refine codeAny_loop rfl I (λn s hI=>?_) n h;show wpAny _ A ((compTurn (.ListComp elt [⟨target,aQ,ifs,0⟩] scope pos) 0 it acc env).onRaise (λx=>do noteFrame x env;theTreesLotGoes x)) _ _ s
 refine wpAny_noted ?_;rw[compTurn_list];refine aPZ (aP0 (aPZ (aPV (turn n s hI) (λr s1 h1=>?_) λ_ _ h'=>h'.elim)));cases r with
 | none=>exact aP1 h1
 | some v =>
  refine aPZ (aPV h1 (λ_ s1' h1'=>?_) λ_ _ h'=>h'.elim);refine aPZ (aPV h1' (λ_ s2 h2=>aPZ (aPV h2 (λok s3 h3=>?_) λ_ _ h'=>h'.elim)) λ_ _ h'=>h'.elim);cases ok with
  | false=>exact aP1 ⟨rfl,h3⟩
  | true=>exact aPZ (aPZ (aPV h3 (λx s4 h4=>aPZ (aPV h4 (λ_ s5 h5=>aP1 (aP1 ⟨rfl,h5⟩)) λ_ _ h'=>h'.elim)) λ_ _ h'=>h'.elim))
end
def dR(aG:List Nat)(σ:St):St:=aG.map λi=>(σ[i]?).getD none
def Weak(σ σ':St):Prop:=σ.length=σ'.length/\∀ (j:Nat) v,σ[j]? = some (some v)->σ'[j]? = some (some v)
def lH(aG:List Nat)(k:Nat)(wi:TI)(gt:TG)(tt:TT)(te:TE):TE:=λσ H Q=>wi σ H λJ H1=>∀ D,H1 D=none ->
 ∃ W:Nat->Nat->List V->Hp->Prop,(∃ m,W 0 m [] (upd H1 D (.lst [])))/\∀ i m ys H,W i m ys H->H D=some (.lst ys) /\
  ((J.stop i H/\Q (.ref D) H)\/(J.go i H/\ys.length<sizeLine/\∀ x H',J.yld i H x H'->gt x (dR aG σ++List.replicate k none) H' λσ2 H2=>Weak (dR aG σ++List.replicate k none) σ2/\tt σ2 H2 λb H3 =>
   if b=true then te σ2 H3 λy H4=>H4 D=some (.lst ys)/\∃ m',m'<m/\W (i+1) m' (ys++[y]) (upd H4 D (.lst (ys++[y]))) else ∃ m',m'<m/\W (i+1) m' ys H3))
theorem wF{X:Cx}{elt aQ tg:Expr}{ifs:List Expr}{scope:Scope}{pos:Pos}{aG:List Nat}{aJ tgN:List Str}{wi:TI}{gt:TG}{tt:TT}{te:TE}{use:Option (Value->Sem Unit)}{QQ:VSP}{aA:LAO}{s:Shared}{σ:St}{H:Hp}{Q:VK}(hc:X.calm=true)(hi:PI X tg aQ wi)(cV:∀ y∈scope.names,y.2 ≠ .cell)(dL:scope.kind=.function)(eY:∀ y∈scope.names,y.2=.local->scope.names.lookup y.1=some .local)(dM:∀ y∈scope.names,y.2=.free->X.env.kindOf y.1=some .cell\/X.env.kindOf y.1=some .free)(d9:aJ.map some=aG.map λi=>X.N[i]?)(e6:∀ y∈aJ,(y,NameKind.free)∈scope.names)(eZ:∀ y∈aJ,(relabel scope X.env).names.lookup y=some .cell\/(relabel scope X.env).names.lookup y=some .free)(hg:∀ cl C fp s3 H3,PG (bJ X scope (aJ++tgN) cl C fp s3 H3) tg gt)(hf:∀ cl C fp s3 H3,dD (bJ X scope (aJ++tgN) cl C fp s3 H3) ifs tt)(he:∀ cl C fp s3 H3,PE (bJ X scope (aJ++tgN) cl C fp s3 H3) elt te)(hs:∀ x,foldedSetIterable aQ X.env x=pure x)(I:Inv X aA σ H s)(h:lH aG tgN.length wi gt tt te σ H Q)(hend:∀ (D Z:Addr) (s6:Shared) (H5:Hp),(∃ m,s6.heap.Ns Z m)->(∀ h'',Heap.SameBut Z s6.heap h''->Inv X aA σ H5 { s6 with heap:=h'' })->H5 Z=none->X.s₀.heap.objs.size<=Z->Z≠X.env.locals->(∀ x c,X.env.cells.lookup x=some c->c≠Z)->(∀ p∈X.pn++aA,p.1≠Z)->Q (.ref D) H5->compPost (model X.prog X.w) X.A X.xe use QQ (.ref D) Z (.ok .next) s6):wpAny (model X.prog X.w) X.A (comprehension (.ListComp elt [⟨tg,aQ,ifs,0⟩] scope pos) scope X.env (firstIterPos [⟨tg,aQ,ifs,0⟩] pos) (newList []) (firstAsync [⟨tg,aQ,ifs,0⟩]) (firstIter [⟨tg,aQ,ifs,0⟩] X.env) use) QQ X.xe s:=by
 obtain ⟨cl,hclos,clsub,clhas⟩:=aHA (scope:=scope) (env:=X.env) λy hy hk=>I.ok.has y.1 (dM y hy hk);refine wpAny_comprehension_free (use:=use) rfl hs hclos dL eY (thn (hi aA s σ H _ I h) λv s1 h1=>thn h1 λitv s2 h2=>?_);obtain ⟨it,fp,tn,J,H2,e,I2,T,st2,f2,q⟩:=h2;subst e;refine aP2 ?_;have hn:H2 s2.heap.objs.size=none:=I2.hok.fresh (aP8 _);obtain ⟨W,⟨m0,w0⟩,turn⟩:=q s2.heap.objs.size hn;have I3:Inv X aA σ (upd H2 s2.heap.objs.size (.lst [])) { s2 with heap:=s2.heap.push { cls:=.type "list", dict:=none,data:=.seq ([]:List Value).toArray } } :=
  I2.laid (t':=s2.toks) (λb u e=>hps e) (aP8 _) ⟨aRK _,[],0,.nil,aPF _ rfl⟩
 generalize hs3:({ s2 with heap:=s2.heap.push { cls:=.type "list", dict:=none,data:=.seq ([]:List Value).toArray } }:Shared)=s3 at I3 ⊢
 generalize hH3:upd H2 s2.heap.objs.size (.lst [])=H3 at I3 w0;have fpl:∀ b∈fp,b<s2.heap.objs.size:=λb hb=>by obtain ⟨o,eo,_⟩:=T.obj 0 _ st2 b hb;exact aPG eo
 have sz3:s3.heap.objs.size=s2.heap.objs.size+1:=by rw[<- hs3];exact aSE _ _
 have keep23:∀ b o,s2.heap.get? b=some o->s3.heap.get? b=some o:=λb o e=>by rw[<- hs3];exact hps e
 have hDf:s2.heap.objs.size∉fp:=λhb=>aPI _ (fpl _ hb);refine wpAny_newFunctionEnv cV (by intro y hy;simp at hy) (λh4 hns hsb=>?_) dL
 try dsimp only at hns hsb ⊢
 have keep34:∀ b o,s3.heap.get? b=some o->h4.get? b=some o:=λb o e=>hsb.extBut b o (aPJ (aPG e)) (hps e);have nostk:∀ b∈fp,b∉frs X.stack:=λb hb z=>by
  obtain ⟨_,f1,f2',_⟩:=f2 b hb;rcases aPP.mp (I2.stkSub b z) with q | q
  . exact f1 q
  . exact f2' q
 have okc:(bJ X scope (aJ++tgN) cl s3.heap.objs.size fp s3 H3).Ok :=
  { mod:=I3.ok.mod
    kind:=dL
    glob:=I3.ok.glob
    blt:=I3.ok.blt
    above:=aP8 _
    inj:=λx y c h1 h2=>I3.ok.inj x y c (clsub x c h1) (clsub y c h2)
    has:=λx hx=>clhas x (aHB cV hx)
    cab:=λx c z=>by cases z
    hd:=I3.ok.hd
    frames:=I3.ok.frames
    stk:=.inl rfl
    exf:=λb hb=>⟨aPJ (by show b<s3.heap.objs.size;rw[sz3];exact aSF (fpl b hb)),λx c e=>(f2 b hb).2.2.2.2.1 x c (clsub x c e)⟩
    bs:=I3.bs
    bsz:=aPN I3.ok.bsz I3.sz
    noex:=λb o e hb=>by
     obtain ⟨_,_,_,f3,_⟩:=f2 b hb;rcases f3 with z | z
     . exact I2.ok.noex b o e z
     . exact absurd (aPG (I2.ok.bs b o e).1) (Nat.not_lt.mpr z)
    exfs:=nostk
    funs:=I3.stack
    frf:=I3.stkFree }
 have capLen:aJ.length=aG.length:=by have:=congrArg List.length d9;simpa using this
 generalize hσ0:dR aG σ++List.replicate tgN.length none=σ0 at turn;have Ic:Inv (bJ X scope (aJ++tgN) cl s3.heap.objs.size fp s3 H3) [] σ0 H3 { s3 with heap:=h4,toks:=s3.toks+([]:List (Str×Value)).length }:=by
  refine ⟨okc,rfl,I3.bare,Un.kept keep34,⟨_,hns,λi y v h1 h2 h3=>?_⟩,λx c e=>?_,I3.hok.fresh (aP8 _),λx c e=>I3.freeC x c (clsub x c e),λp hp=>absurd (show p∈([]:LAO) from hp) (by simp),I3.hok.kept keep34,?_⟩
  . by_cases hi:i<aG.length
    . have ey:aJ[i]? = some y:=by have h1:(aJ++tgN)[i]? = some y:=h1;rw[aQM (by rw[capLen];exact hi)] at h1;exact h1
      have hj:X.N[aG[i]]? = some y:=by
       have e1:(aJ.map some)[i]? = (aG.map λi=>X.N[i]?)[i]?:=by rw[d9]
       rw[aQN,aQN,ey,aR1 hi] at e1;simpa using e1.symm
      have ev:σ[aG[i]]? = some (some v):=by
       rw[<- hσ0,aQM (by simpa[dR] using hi)] at h2
       unfold dR at h2;rw[aQN,aR1 hi] at h2;simp only[aR5,Option.some.injEq] at h2;cases z:σ[aG[i]]? with
       | none=>rw[z] at h2;cases h2
       | some o=>rw[z] at h2;exact congrArg some h2
      have hyf:=e6 y (aQP ey);have hkX:=dM _ hyf rfl;obtain ⟨m,_,hl⟩:=I3.loc;obtain ⟨u,ru,lk⟩:=hl aG[i] y v hj ev (by rcases hkX with z | z;exact .inr (.inl z);exact .inr (.inr z))
      refine ⟨u,ru,.inr ⟨eZ y (aQP ey),?_⟩⟩;rcases lk with ⟨hk,_⟩ | ⟨_,c,ec,ic⟩
      . rcases hkX with z | z
        . rw[show X.env.kindOf y=some .cell from z] at hk;cases hk
        . rw[show X.env.kindOf y=some .free from z] at hk;cases hk
      . obtain ⟨c',ec'⟩:=clhas y hyf;have:=clsub y c' ec';rw[ec] at this;cases this;exact ⟨c,ec',ic.keeps keep34⟩
    . rw[<- hσ0,aQK (by simpa[dR] using hi),aQL] at h2
      split at h2 <;> cases h2
  . obtain ⟨v,q⟩:=I3.cell x c (clsub x c e);exact ⟨v,q.keeps keep34⟩
  . rw[<- hσ0];show (dR aG σ++List.replicate tgN.length none).length=(aJ++tgN).length;simp[dR,capLen]
 have fpc:∀ {H':Hp},(∀ b∈fp,H' b=none)->∀ b∈fp,eA (bJ X scope (aJ++tgN) cl s3.heap.objs.size fp s3 H3) [] H' b:=λhn b hb =>
  ⟨hn b hb,(okc.exf b hb).1,nostk b hb,.inl hb,(okc.exf b hb).2,λp hp=>absurd (show p∈([]:LAO) from hp) (by simp)⟩
 have mW:codeAny (model X.prog X.w) X.A (.compLoop (.ListComp elt [⟨tg,aQ,ifs,0⟩] scope pos) 0 (.ref it) (.ref s2.heap.objs.size) (compEnvC scope cl s3.heap.objs.size X.env)) (compPost (model X.prog X.w) X.A X.xe use QQ (.ref s2.heap.objs.size) s3.heap.objs.size) { s3 with heap:=h4,toks:=s3.toks+([]:List (Str×Value)).length }:=by
  refine aHE (λn s'=>∃ i ys H',Inv (bJ X scope (aJ++tgN) cl s3.heap.objs.size fp s3 H3) [] σ0 H' s'/\tn i s'.heap/\(∀ b∈fp,H' b=none)/\W i n ys H') ?_ m0
   ⟨0,[],H3,Ic,T.keep _ _ _ st2 (λb hb o e=>keep34 b o (keep23 b o e)),λb hb=>by rw[<- hH3,aU (by intro z;rw[z] at hb;exact hDf hb)];exact (f2 b hb).1,w0⟩
  rintro n s5 ⟨i,ys,H5,I5,st5,fr5,w5⟩;obtain ⟨hD,hw⟩:=turn i n ys H5 w5;rcases hw with ⟨stop,qq⟩ | ⟨go,hlen,step⟩
  . refine thn (T.done (bJ X scope (aJ++tgN) cl s3.heap.objs.size fp s3 H3) rfl rfl rfl hc i [] s5 σ0 H5 _ I5 (fpc fr5) st5 stop) λr s6 ⟨hr,I6⟩=>?_;subst hr;obtain ⟨m,hm,_⟩:=id I6.loc;refine hend s2.heap.objs.size s3.heap.objs.size s6 H5 ⟨m,hm⟩ (λh'' hsb2=>?_) I6.free I3.sz (λz=>?_) (λx c ec z=>?_) (λp hp z=>?_) qq;rotate_left
    . obtain ⟨m,⟨o,es,ep,ho,_⟩,_⟩:=id I3.loc;rw[<- z] at ho;exact aPI _ (aPG ho)
    . obtain ⟨v,o,ho,_⟩:=I3.cell x c ec;rw[z] at ho;exact aPI _ (aPG ho)
    . have:=(I3.pin p hp).1;rw[z] at this;exact aPI _ (aPG this)
    have u:=I6.base;have neC:∀ b o,s3.heap.get? b=some o->b≠s3.heap.objs.size:=λb o e=>aPJ (aPG e);have un:Un (frs X.stack) fp H3 H5 s3.heap h'':=by
     refine ⟨λb o e n hb hx=>hsb2.extBut b o (neC b o e) (u.keep b o e n hb hx),λb o e n hb hx=>?_,u.free,λb o e hx=>?_,u.tups,u.frzs,u.tbls⟩
     . obtain ⟨sl,q⟩:=u.slot b o e n hb hx;exact ⟨sl,hsb2.extBut b _ (neC b o e) q⟩
     . obtain ⟨o',q⟩:=u.there b o e hx;exact ⟨o',hsb2.extBut b _ (neC b o e) q⟩
    have hok : HOk X.prog X.w H5 h'' := fun a o e => (I6.hok a o e).stay (fun b v hb q => hsb2.extBut b v (by
        intro z;have fr:=I6.free;rcases hb with hb | hb
        . rw[hb] at z;rw[z] at e;rw[show H5 s3.heap.objs.size=none from fr] at e;cases e
        . rw[z,show H5 s3.heap.objs.size=none from fr] at hb;cases hb) q) (λ_ q=>q) λ_ _ q=>q
    have os6:=I6.os;obtain ⟨hh,g6,d6,t6,o6⟩:=s6;obtain rfl:o6=s3.os:=os6;have I8:=I3.call (h':=h'') (g':=g6) (d':=d6) (t':=t6) (ch:=fp) un hok I6.bare λb hb=>by obtain ⟨_,f1,_,f3,f4,f5⟩:=f2 b hb;exact ⟨f3,f1,f4,f5⟩
    exact I8
  . refine thn (T.item (bJ X scope (aJ++tgN) cl s3.heap.objs.size fp s3 H3) rfl rfl rfl hc i [] s5 σ0 H5 _ I5 (fpc fr5) st5 go) λr s6 ⟨u,hr,h6⟩=>?_;subst hr;refine thn h6 λ_ s7 ⟨x,H7,I7,r7,y7,st7,fr7⟩=>?_;have I7':=I7.pinned (fpc fr7) (T.obj _ _ st7);refine thn (hg cl s3.heap.objs.size fp s3 H3 _ s7 σ0 H7 x u _ I7' r7 (step x H7 y7)) λ_ s8 ⟨σ8,H8,I8,wk,q8⟩=>?_;have back:∀ {H':Hp} {s':Shared} {m':Nat} {ys':List V},Inv (bJ X scope (aJ++tgN) cl s3.heap.objs.size fp s3 H3) ([]++kW fp s7.heap) σ8 H' s'->m'<n->W (i+1) m' ys' H' ->
        ∃ m,m<n/\∃ i ys H',Inv (bJ X scope (aJ++tgN) cl s3.heap.objs.size fp s3 H3) [] σ0 H' s'/\tn i s'.heap/\(∀ b∈fp,H' b=none)/\W i m ys H':=λ{H' s' m' ys'} I' hm w'=>by
      have pinned:∀ b∈fp,∀ o,s7.heap.get? b=some o->s'.heap.get? b=some o/\H' b=none:=λb hb o e=>by have:=I'.pin (b,o) (aQC _ (aQC _ (qN hb e)));exact ⟨this.1,this.2.1⟩
      refine ⟨m',hm,i+1,ys',H',I'.unpinned.weak wk.1 wk.2,T.keep _ _ _ st7 λb hb o e=>(pinned b hb o e).1,λb hb=>?_,w'⟩;obtain ⟨o,e,_⟩:=T.obj _ _ st7 b hb;exact (pinned b hb o e).2
    refine thn (hf cl s3.heap.objs.size fp s3 H3 _ s8 σ8 H8 _ I8 q8) λb s9 ⟨H9,I9,q9⟩=>?_;cases b with
    | false=>rw[if_neg aP5] at q9 ⊢;obtain ⟨m',hm,w9⟩:=q9;exact back I9 hm w9
    | true =>
     rw[if_pos rfl] at q9 ⊢;refine thn (he cl s3.heap.objs.size fp s3 H3 _ s9 σ8 H9 _ I9 q9) λy s10 ⟨yv,H10,I10,r10,hD10,m',hm,w10⟩=>?_;refine thn (vN (X:=bJ X scope (aJ++tgN) cl s3.heap.objs.size fp s3 H3) _ s10 σ8 H10 (.ref s2.heap.objs.size) [yv] (.ref s2.heap.objs.size) [y] (λv H'=>v=.non/\H'=upd H10 s2.heap.objs.size (.lst (ys++[yv]))) I10 rfl (.cons r10 .nil)
      ⟨s2.heap.objs.size,ys,yv,rfl,rfl,hD10,hlen,rfl,rfl⟩) λ_ s11 ⟨v,H11,I11,_,_,e11⟩=>?_
     subst e11;exact back I11 hm w10
 exact codeAny_compStart_list mW (T.self _ 0 _ _ _ (T.keep _ _ _ st2 (λb hb o e=>keep34 b o (keep23 b o e))) mW)
theorem aHF{X:Cx}{elt aQ tg:Expr}{ifs:List Expr}{scope:Scope}{pos:Pos}{aG:List Nat}{aJ tgN:List Str}{wi:TI}{gt:TG}{tt:TT}{te:TE}(hc:X.calm=true)(hi:PI X tg aQ wi)(cV:∀ y∈scope.names,y.2 ≠ .cell)(dL:scope.kind=.function)(eY:∀ y∈scope.names,y.2=.local->scope.names.lookup y.1=some .local)(dM:∀ y∈scope.names,y.2=.free->X.env.kindOf y.1=some .cell\/X.env.kindOf y.1=some .free)(d9:aJ.map some=aG.map λi=>X.N[i]?)(e6:∀ y∈aJ,(y,NameKind.free)∈scope.names)(eZ:∀ y∈aJ,(relabel scope X.env).names.lookup y=some .cell\/(relabel scope X.env).names.lookup y=some .free)(hg:∀ cl C fp s3 H3,PG (bJ X scope (aJ++tgN) cl C fp s3 H3) tg gt)(hf:∀ cl C fp s3 H3,dD (bJ X scope (aJ++tgN) cl C fp s3 H3) ifs tt)(he:∀ cl C fp s3 H3,PE (bJ X scope (aJ++tgN) cl C fp s3 H3) elt te)(hs:∀ x,foldedSetIterable aQ X.env x=pure x:=by intro _;rfl):PE X (.ListComp elt [⟨tg,aQ,ifs,0⟩] scope pos) (lH aG tgN.length wi gt tt te):=by intro aA s σ H Q I h;rw[eval_ListComp];exact wF (use:=none) hc hi cV dL eY dM d9 e6 eZ hg hf he hs I h λD Z s6 H5 hm hI _ _ _ _ _ q=>by obtain ⟨m,hm⟩:=hm;exact ⟨m,hm,λh'' hs=>⟨.ref D,H5,hI h'' hs,rfl,q⟩⟩
theorem Inv.dropped{X:Cx}{aA:LAO}{σ:St}{H:Hp}{s:Shared}{h'':Heap}{Z:Addr}(I:Inv X aA σ H s)(hs:Heap.SameBut Z s.heap h'')(hz:H Z=none)(h0:X.s₀.heap.objs.size<=Z)(h1:Z≠X.env.locals)(h2:∀ x c,X.env.cells.lookup x=some c->c≠Z)(h3:∀ p∈X.pn++aA,p.1≠Z):Inv X aA σ H { s with heap:=h'' }:=by
 have un:Un (frs X.stack) [Z] H H s.heap h'':=by
  have k:∀ b o,s.heap.get? b=some o->b∉[Z]->h''.get? b=some o:=λb o e hb=>hs.extBut b o (λz=>hb (by rw[z];exact mcs)) e
  exact ⟨λb o e _ _ hx=>k b o e hx,λb o e _ _ hx=>⟨o.slots,k b o e hx⟩,λ_ _ _ n _=>n,λb o e hx=>⟨o,k b o e hx⟩,λ_ _ q=>q,λ_ _ _ q=>q,λ_ ps q=>⟨#[],by simpa using q⟩⟩
 have hok:HOk X.prog X.w H h'':=λa o e=>(I.hok a o e).stay (λb v hb q=>hs.extBut b v (by
  rintro rfl;rcases hb with hb | hb
  . rw[hb,e] at hz;cases hz
  . rw[hz] at hb;cases hb) q) (λ_ q=>q) λ_ _ q=>q
 obtain ⟨hh,g,d,t,o⟩:=s;exact I.call (g':=g) (d':=d) (t':=t) (ch:=[Z]) un hok I.bare λb hb=>by
  obtain rfl:b=Z:=by simpa using hb
  exact ⟨.inr h0,h1,h2,h3⟩
theorem aHG{i:Nat}{x:Str}{pos' spos:Pos}{X:Cx}{elt aQ tg:Expr}{ifs:List Expr}{scope:Scope}{pos:Pos}{aG:List Nat}{aJ tgN:List Str}{wi:TI}{gt:TG}{tt:TT}{te:TE}(hc:X.calm=true)(hi:PI X tg aQ wi)(cV:∀ y∈scope.names,y.2 ≠ .cell)(dL:scope.kind=.function)(eY:∀ y∈scope.names,y.2=.local->scope.names.lookup y.1=some .local)(dM:∀ y∈scope.names,y.2=.free->X.env.kindOf y.1=some .cell\/X.env.kindOf y.1=some .free)(d9:aJ.map some=aG.map λi=>X.N[i]?)(e6:∀ y∈aJ,(y,NameKind.free)∈scope.names)(eZ:∀ y∈aJ,(relabel scope X.env).names.lookup y=some .cell\/(relabel scope X.env).names.lookup y=some .free)(hg:∀ cl C fp s3 H3,PG (bJ X scope (aJ++tgN) cl C fp s3 H3) tg gt)(hf:∀ cl C fp s3 H3,dD (bJ X scope (aJ++tgN) cl C fp s3 H3) ifs tt)(he:∀ cl C fp s3 H3,PE (bJ X scope (aJ++tgN) cl C fp s3 H3) elt te)(hN:X.N.Nodup)(hx:X.N[i]? = some x)(hk:X.env.scope.names.lookup x=some .local)(hsw:swapsWith (.ListComp elt [⟨tg,aQ,ifs,0⟩] scope pos) (some (.Name x pos')) spos.line X.env=pure true)(hs:∀ x,foldedSetIterable aQ X.env x=pure x:=by intro _;rfl):PS X (.Assign [.Name x pos'] (.ListComp elt [⟨tg,aQ,ifs,0⟩] scope pos) spos) (kU (lH aG tgN.length wi gt tt te) (kT i)):=by
 intro aA s σ H En I h;rw[exec_Assign_Name_used _ _ _ _ hsw];refine aPZ (aP0 (aPZ ?_));show wpAny _ X.A (comprehension (.ListComp elt [⟨tg,aQ,ifs,0⟩] scope pos) scope X.env (firstIterPos [⟨tg,aQ,ifs,0⟩] pos) (newList []) (firstAsync [⟨tg,aQ,ifs,0⟩]) (firstIter [⟨tg,aQ,ifs,0⟩] X.env) (some (assign (.Name x pos') X.env)) >>= _) _ _ s;refine aPZ (wF (use:=some (assign (.Name x pos') X.env)) hc hi cV dL eY dM d9 e6 eZ hg hf he hs I h λD Z s6 H5 hm hI hz h0 h1 h2 h3 q=>?_);obtain ⟨m,hm⟩:=hm;have I6:=hI s6.heap (Heap.SameBut.refl _ _);refine wpAny_assign_Name (uR I6 hN hx (.inl hk) (show aO (.ref D) (.ref D) from rfl) (λs' I' hch=>?_) (.inr hk))
 obtain ⟨a,sb,ha⟩:=hch;have na:Z≠a:=by
  rcases ha with rfl | ha
  . exact h1
  . exact λz=>h2 x a ha z.symm
 exact ⟨m,hm.sameBut sb na,λh'' hs2=>aP1 (aP1 ⟨_,H5,I'.dropped hs2 hz h0 h1 h2 h3,q⟩)⟩
end L2
namespace D3
open PySem PySem.Spec PyProof.Rows L2
def cF(aG:List Nat)(ρ:Rho):Rho:=aG.map λi=>match ρ[i]? with | some (some (false,d))=>some (false,d) | _=>none
def bH(k:D->Rho->Option Rho)(t e:Rho->Res)(ρ0:Rho):List D->Option (List D)
 | []=>some []
 | d::ds=>match k d ρ0 with
  | none=>none
  | some ρ1=>match t ρ1 with
   | .ok _ (.bl true)=>(match bG (e ρ1) with | .ok _ y=>(bH k t e ρ0 ds).map (y :: ·) | _=>none)
   | .ok _ (.bl false)=>bH k t e ρ0 ds
   | _=>none
def bX(src:Res)(ρ:Rho)(aG:List Nat)(n:Nat)(k:D->Rho->Option Rho)(t e:Rho->Res):Res:=src.thn λ_ d=>match d with
 | .lst ds=>if ds.length<sizeLine then (match bH k t e (cF aG ρ++List.replicate n none) ds with | some ys=>.ok .fr (.lst ys) | none=>.stuck) else .stuck
 | _=>.stuck
abbrev Cw.nox(C:Cw):Cw:={ C with EE:=λ_ _ _=>False }
theorem aN.upd{F H F' H':Hp}{x:Addr}{o:HO}(st:aN F H F' H')(hx:H x=none)(hx':F' x=none):aN F H F' (L2.upd H' x o) :=
 ⟨λb u q=>by rw[aU (cO q hx)];exact st.same b u q,st.fsame,λb u q=>by rw[aU (cO q hx')];exact st.sub b u q,st.new⟩
section
variable {C:Cw}{X:Cx}{e:Expr}{g:Rho->Res}{pos p:Pos}
theorem aHH:dD X [] (tT (C.at X) λ_=>.ok .fz (.bl true)):=λaA s σ H Q I h=>by obtain ⟨ρ,F,R,w⟩:=h;exact aHC aA s σ H Q I (w F H (.refl R.sub))
theorem aHI{c:Expr}{cs:List Expr}{ga gb:Rho->Res}(hc:PTv C X c ga)(hr:dD X cs (tT (C.at X) gb)):dD X (c::cs) (tT (C.at X) λρ=>eB (ga ρ) (gb ρ)):=λaA s σ H Q I h =>
 aHD hc hr aA s σ H Q I (vZ h)
theorem aHJ{K:Fg}{F0 H0 F H:Hp}{σ:L2.St}{ρ:Rho}(aG:List Nat)(n:Nat)(R:aW K F0 H0 F H σ ρ):aW K F0 H0 F H (dR aG σ++List.replicate n none) (cF aG ρ++List.replicate n none):=by
 have low:∀ (i:Nat) (m:Bool) (d:D),(cF aG ρ++List.replicate n none)[i]? = some (some (m,d))->m=false/\∃ v,(dR aG σ++List.replicate n none)[i]? = some (some v)/\aC K F d v:=λi m d e=>by
  by_cases hi:i<aG.length
  . rw[aQM (by simpa[cF] using hi)] at e
    rw[aQM (by simpa[dR] using hi)]
    unfold cF at e;unfold dR;rw[aQN,aR1 hi] at e ⊢;simp only[aR5,Option.some.injEq] at e;cases z:ρ[aG[i]]? with
    | none=>rw[z] at e;cases e
    | some o =>
     rw[z] at e;cases o with
     | none=>cases e
     | some q =>
      obtain ⟨b,d'⟩:=q;cases b with
      | true=>cases e
      | false=>cases e;obtain ⟨v,e1,r,_⟩:=R.slot _ _ _ z;exact ⟨rfl,v,by simp[e1],r⟩
  . rw[aQK (by simpa[cF] using hi),aQL] at e
    split at e <;> cases e
 refine ⟨R.st,λi m d e=>?_,λi j d d' a _ e1 _ _ _=>?_,by simp[dR,cF]⟩
 . obtain ⟨rfl,v,e1,r⟩:=low i m d e;exact ⟨v,e1,r,by intro z;cases z⟩
 . have:=(low i true d e1).1;cases this
end
mutual
def aV:D->Option PyData
 | .non=>some .none
 | .bl b=>some (.bool b)
 | .int i=>some (.int i)
 | .str x=>some (.str x)
 | .tup ds=>(cG ds).map .tuple
 | .lst ds=>(cG ds).map .list
 | _=>none
def cG:List D->Option (List PyData)
 | []=>some []
 | d::ds=>match aV d,cG ds with
  | some p,some ps=>some (p::ps)
  | _,_=>none
end
section
variable {X:Cx}{aA:LAO}{σ:L2.St}{F H:Hp}{s:Shared}
mutual
theorem nN(I:Inv X aA σ H s)(sF:aH F H):∀ (d:D) (p:PyData) (v:V) (u:Value),aC X.K F d v->aO v u->aV d=some p->(∃ as,Reads s.heap u p as)/\p.canLay0=true
 | .non,p,v,u,h,r,e=>by simp only[aC] at h;subst h;cases r;simp only[aV] at e;cases e;exact ⟨⟨_,.none⟩,rfl⟩
 | .bl b,p,v,u,h,r,e=>by simp only[aC] at h;subst h;cases r;simp only[aV] at e;cases e;exact ⟨⟨_,.bool b⟩,rfl⟩
 | .int i,p,v,u,h,r,e=>by simp only[aC] at h;subst h;obtain ⟨t,rfl⟩:=r;simp only[aV] at e;cases e;exact ⟨⟨_,.int i t⟩,rfl⟩
 | .str x,p,v,u,h,r,e=>by simp only[aC] at h;obtain ⟨rfl,_,hk⟩:=h;obtain ⟨t,rfl⟩:=r;simp only[aV] at e;cases e;exact ⟨⟨_,.str x t⟩,by simpa only [PyData.canLay0] using hk⟩
 | .tup ds,p,v,u,h,r,e=>by
  simp only[aC] at h;obtain ⟨a,xs,rfl,q,rl⟩:=h;cases r;simp only[aV] at e;cases ep:cG ds with
  | none=>rw[ep] at e;cases e
  | some ps=>rw[ep] at e;cases e;obtain ⟨its,rv,⟨o,h1,h2,n,h3⟩,_⟩:=I.tuple (aH.seqT sF q);obtain ⟨⟨as,ra⟩,hc⟩:=nO I sF ds ps xs its rl rv ep;exact ⟨⟨_,.tuple h1 h2 h3 (by simpa using ra)⟩,by simpa only [PyData.canLay0] using hc⟩
 | .lst ds,p,v,u,h,r,e=>by
  simp only[aC] at h;obtain ⟨a,xs,rfl,q,rl⟩:=h;cases r;simp only[aV] at e;cases ep:cG ds with
  | none=>rw[ep] at e;cases e
  | some ps=>rw[ep] at e;cases e;obtain ⟨its,rv,⟨o,n,h1,h2,_,h3⟩,_⟩:=I.list (sF.seq q);obtain ⟨⟨as,ra⟩,hc⟩:=nO I sF ds ps xs its rl rv ep;exact ⟨⟨_,.list h1 h2 h3 (by simpa using ra)⟩,by simpa only [PyData.canLay0] using hc⟩
 | .dct _,p,v,u,h,r,e=>by simp only[aV] at e;cases e
 | .ty _,p,v,u,h,r,e=>by simp only[aV] at e;cases e
 | .ob _,p,v,u,h,r,e=>by simp only[aV] at e;cases e
 | .ins _ _,p,v,u,h,r,e=>by simp only[aV] at e;cases e
 | .fn _,p,v,u,h,r,e=>by simp only[aV] at e;cases e
 | .exn _,p,v,u,h,r,e=>by simp only[aV] at e;cases e
 | .set _,p,v,u,h,r,e=>by simp only[aV] at e;cases e
theorem nO(I:Inv X aA σ H s)(sF:aH F H):∀ (ds:List D) (ps:List PyData) (xs:List V) (us:List Value),aE X.K F ds xs->aP xs us->cG ds=some ps->(∃ as,ReadsAll s.heap us ps as)/\PyData.canLayAll0 ps=true
 | [],ps,xs,us,h,r,e=>by simp only[aE] at h;subst h;cases r;simp only[cG] at e;cases e;exact ⟨⟨_,.nil⟩,rfl⟩
 | d::ds,ps,xs,us,h,r,e=>by
  simp only[aE] at h;obtain ⟨y,ys,rfl,hd,hl⟩:=h;cases r with
  | cons r1 r2 =>
   simp only[cG] at e;cases e1:aV d with
   | none=>rw[e1] at e;cases e
   | some p =>
    cases e2:cG ds with
    | none=>rw[e1,e2] at e;cases e
    | some ps'=>rw[e1,e2] at e;cases e;obtain ⟨⟨as,ra⟩,hc⟩:=nN I sF d p y _ hd r1 e1;obtain ⟨⟨bs,rb⟩,hc'⟩:=nO I sF ds ps' ys _ hl r2 e2;exact ⟨⟨_,.cons ra rb⟩,by simp only[PyData.canLayAll0,hc,hc',Bool.and_self]⟩
end
theorem wG(I:Inv X aA σ H s)(sF:aH F H){m:Md}{d:D}{p:PyData}{v:V}{u:Value}(h:Rp X.K F H m d v)(r:aO v u)(e:aV d=some p):(∃ as,Reads s.heap u p as)/\p.canLay0=true:=by
 cases m with
 | fz=>exact nN I sF d p v u h r e
 | _ =>
  obtain ⟨a,rfl,n,t⟩:=h;cases d with
  | lst ds =>
   obtain ⟨xs,q,rl⟩:=t;cases r;simp only[aV] at e;cases ep:cG ds with
   | none=>rw[ep] at e;cases e
   | some ps=>rw[ep] at e;cases e;obtain ⟨its,rv,⟨o,n,h1,h2,_,h3⟩,_⟩:=I.list (SqL.of q);obtain ⟨⟨as,ra⟩,hc⟩:=nO I sF ds ps xs its rl rv ep;exact ⟨⟨_,.list h1 h2 h3 (by simpa using ra)⟩,by simpa only [PyData.canLay0] using hc⟩
  | dct ds=>simp only[aV] at e;cases e
  | ins _ _=>simp only[aV] at e;cases e
  | set _=>simp only[aV] at e;cases e
  | _=>exact t.elim
end
def fE(p:PyData):Bool:=decide (p.depth<=50)
def eqF(neg:Bool):Md->D->Md->D->Option (Md×D):=λ_ x _ y=>match aV x,aV y with
 | some p,some q=>if (fE p&&fE q)=true then some (.fz,.bl (if neg then !PyData.eqv p q else PyData.eqv p q)) else none
 | _,_=>none
section
variable {C:Cw}{X:Cx}
theorem wH{f:Value->Value->Sem Value}{neg:Bool}(hu:X.A.units+64<cLine)(rule:∀ (s:Shared) (a b:Value) (da db:PyData) (as bs:List Addr) (Q:VSP),Reads s.heap a da as->Reads s.heap b db bs->da.canLay0=true->db.canLay0=true->X.A.units+min da.depth db.depth<cLine->Q (.bool (if neg then !PyData.eqv da db else PyData.eqv da db)) s->wpAny (model X.prog X.w) X.A (f a b) Q X.xe s):OpD C X f (eqF neg):=by
 refine ⟨λx y H Q=>∃ F m n d e p q,aH F H/\Rp X.K F H m d x/\Rp X.K F H n e y/\aV d=some p/\aV e=some q/\(fE p&&fE q)=true/\Q (.bl (if neg then !PyData.eqv p q else PyData.eqv p q)) H,?_,?_⟩
 . intro aA s σ H x y v u Q I rx ry h;obtain ⟨F,m,n,d,e,p,q,sF,hd,he,ep,eq,hs,hQ⟩:=h;obtain ⟨⟨as,ra⟩,ca⟩:=wG I sF hd rx ep;obtain ⟨⟨bs,rb⟩,cb⟩:=wG I sF he ry eq;rw[aQ8] at hs;have h1:=aRM hs.1;refine rule s v u p q as bs _ ra rb ca cb (by have:=Nat.min_le_left p.depth q.depth;omega) ⟨.bl _,H,I,rfl,hQ⟩
 . intro F H m x n y v u k d Q s rx ry e w;unfold eqF at e;split at e
   . rename_i p q ep eq;split at e
     . rename_i hc;cases e;exact ⟨F,m,n,x,y,p,q,s,rx,ry,ep,eq,hc,w _ F H (.refl s) (bZ _) (by intro z;cases z)⟩
     . cases e
   . cases e
theorem aHK(hu:X.A.units+64<cLine):OpD C X (compareOp .Eq) (eqF false):=wH hu λs a b da db as bs Q ra rb ca cb hd q=>SeqAt.compareEq_reads ra rb ca cb hd q
theorem aHL(hu:X.A.units+64<cLine):OpD C X (compareOp .NotEq) (eqF true):=wH hu λs a b da db as bs Q ra rb ca cb hd q=>SeqAt.compareNe_reads ra rb ca cb hd q
end
section
variable {C:Cw}{X:Cx}{o e:Expr}{es:List Expr}{go:Rho->Res}{gs:Rho->aT}{apos cpos:Pos}{T id:String}{name:Str}
def wI:List D->Option (List Str)
 | []=>some []
 | .str x::r=>(wI r).map (x :: ·)
 | _=>none
def joinD:Md->D->List (Md×D)->Option (Md×D):=λ_ x xs=>match x,xs with
 | .str z,[(_,.lst ds)]=>(match wI ds with
  | some ys=>if (ys.map (·.length)).sum+ys.length * z.length<=sizeLine then some (.fz,.str (Txt.join z ys)) else none
  | none=>none)
 | _,_=>none
end
def spV(K:Fg)(mg:SOV)(n:Nat)(Φ:List D->Res):Sp:=λvs H Q E=>vs.length=n/\∃ F ds,aH F H/\aE K F ds vs/\match Φ ds with
 | .ok m d=>m ≠ .bo/\∀ v F' H',aN F H F' H'->Rp K F' H' m d v->(m=.fr->∀ a,v=.ref a->H a=none)->Q v H'
 | .exc c=>∀ F' H' u,aN F H F' H'->mg c=some u->E u none H'
 | .stuck=>False
structure FnV(P:Program)(w:World)(K:Fg)(mg:SOV)(base:Heap)(CX:CXT)(k:Nat)(x:Str)(n:Nat)(Φ:List D->Res):Prop where
 ex:∃ f fd ps,cW P w K mg base CX k f fd ps (spV K mg n Φ)/\mg x=some (.ref f)/\PySem.W.keepIn K (.ref f)=true/\e8 K fd ps []
def aF(n:Nat)(Φ:List D->Res)(r:aT):Res:=r.thn λxs=>match cQ xs with
 | some ds=>if ds.length=n then (match Φ ds with | .ok .bo _=>.stuck | r=>r) else .stuck
 | none=>.stuck
def XOk(CX:CXT)(C:Cw)(X:Cx):Prop:=∀ (aA:LAO) (σ:L2.St) (H:Hp) (s:Shared) (e:Value) (s':Shared),Inv X aA σ H s->CX X.stack H s (λu _ H'=>∃ c,X.mg c=some u/\C.EE c σ H') e s'->X.xe e s'
section
variable {C:Cw}{X:Cx}{e:Expr}{es:List Expr}{gs:Rho->aT}{p pos:Pos}{x:Str}{k n:Nat}{Φ:List D->Res}{CX:CXT}
theorem wK{f:Addr}{fd:FuncData}{ps:List Str}{aA:LAO}{σ:L2.St}{H:Hp}{s:Shared}{Q:VK}{us:List Value}{vs:List V}{E:XK}(F:cW X.prog X.w X.K X.mg X.base CX k f fd ps (spV X.K X.mg n Φ))(hr:cI k X.A)(hb:e8 X.K fd ps [])(hx:∀ e s',CX X.stack H s E e s'->X.xe e s')(I:Inv X aA σ H s)(r:aP vs us)(h:spV X.K X.mg n Φ vs H Q E):wpAny (model X.prog X.w) X.A (call (.ref f) us) (EP X aA σ Q) X.xe s:=by
 have hl:(us++[]).length=ps.length:=by rw[aQF,<- r.length];exact F.len _ _ _ _ h
 have hb':=hb s us I.kIn hl;rw[aQF] at hb';refine wpAny_call (codeAny_mono (F.run X.A X.stack s H ⟨us,[]⟩ us vs Q E hr I.env0 hb' r h) λr s' hq=>?_);cases r with
 | error e=>exact hx e s' hq
 | ok fl =>
  cases fl with
  | ret u=>exact I.after hq
  | next=>exact False.elim hq
  | brk=>exact False.elim hq
  | cont=>exact False.elim hq
theorem aHM(F:FnV X.prog X.w X.K X.mg X.base CX k x n Φ)(hr:cI k X.A)(hx:XOk CX (C.at X) X)(hg:Gl X x)(ha:PAv C X (e::es) gs)(hdb:(x==("__debug__" : Str))=false:=by decide)(he:starEach (e::es) X.env=(false,eval e X.env)::starEach es X.env:=by rfl)(hpl:(backTo pos (starEach es X.env)).any (·.1)=false:=by rfl):PV C X (.Call (.Name x p) (e::es) [] pos) (λρ=>aF n Φ (gs ρ)):=by
 obtain ⟨f,fd,ps,FF,hm,hk,hb⟩:=F.ex;intro aA s σ H Q I h;rw[bA] at h;obtain ⟨ρ,F,R,w⟩:=h;refine aQS (mY I hg hm ?_ hdb);refine PySem.W.callWith_K (h₀:=X.base) I.ok.mod.kin hk (thn (ha pos aA s σ H (λvs H1=>spV X.K X.mg n Φ vs H1 Q λu _ H'=>∃ c,X.mg c=some u/\C.EE c σ H') I ?_) λus s1 ⟨vs,H1,I1,r,q⟩=>⟨I1.kIn,wK FF hr hb (λe s' hc=>hx aA σ H1 s1 e s' I1 hc) I1 r q⟩) he hpl;refine ⟨ρ,F,R,?_⟩;cases er:gs ρ with
 | stuck=>rw[er] at w;exact w
 | exc c=>rw[er] at w;exact w
 | ok xs =>
  rw[er] at w;intro vs F1 H1 s1 r1;have w1:a8 (C.at X) F1 H1 σ (aF n Φ (.ok xs)) Q:=a8.step s1 w;unfold aF at w1;rw[aT.thn_ok] at w1;cases ef:cQ xs with
  | none=>rw[ef] at w1;exact w1.elim
  | some ds =>
   rw[ef] at w1;dsimp only at w1;split at w1
   . rename_i hn;have rl:=r1.fz ef;refine ⟨by rw[rl.length];exact hn,F1,ds,s1.sub,rl,?_⟩
     cases ep:Φ ds with
     | stuck=>rw[ep] at w1;exact w1
     | exc c=>rw[ep] at w1;exact λF' H' u st hu=>⟨c,hu,w1 F' H' st⟩
     | ok m d =>
      rw[ep] at w1;cases m with
      | bo=>exact w1.elim
      | fz=>exact ⟨by decide,w1⟩
      | fr=>exact ⟨by decide,w1⟩
   . exact w1.elim
end
def endR:aB->Res
 | .nx _=>.ok .fz .non
 | .rt m d=>.ok m d
 | .exc c _=>.exc c
 | _=>.stuck
def fV(n:Nat)(ds:List D):Rho:=ds.map (λd=>some (false,d))++List.replicate (n-ds.length) none
theorem aHN{K:Fg}{F H:Hp}{N:List Str}{ds:List D}{vs:List V}(s:aH F H)(r:aE K F ds vs):aW K F H F H (eK N vs) (fV N.length ds):=by
 have low:∀ (i:Nat) (m:Bool) (d:D),(fV N.length ds)[i]? = some (some (m,d))->m=false/\∃ v,(eK N vs)[i]? = some (some v)/\aC K F d v:=λi m d e=>by
  unfold fV at e;unfold L2.eK;by_cases hi:i<ds.length
  . rw[aQM (by simpa using hi),aQN,aR1 hi] at e
    cases e;obtain ⟨v,ev,rv⟩:=r.get' (aR1 hi);exact ⟨rfl,v,by rw[aQM (by simpa[r.length] using hi),aQN,ev];rfl,rv⟩
  . rw[aQK (by simpa using hi),aQL] at e
    split at e <;> cases e
 refine ⟨.refl s,λi m d e=>?_,λi j d d' a _ e1 _ _ _=>?_,by simp[L2.eK,fV,r.length]⟩
 . obtain ⟨rfl,v,e1,rv⟩:=low i m d e;exact ⟨v,e1,rv,by intro z;cases z⟩
 . have:=(low i true d e1).1;cases this
def nP(ns:List Int):List D:=[.lst (ns.map .int)]
theorem wM{K:Fg}{F:Hp}:∀ ns:List Int,aE K F (ns.map D.int) (ns.map V.int)
 | []=>aE.nil
 | n::ns=>aE.cons (by simp only[aC]) (wM ns)
def noK:Md->D->Md->D->Option (Md×D):=λ_ _ _ _=>none
abbrev fAdd:Md->D->Md->D->Option (Md×D):=orO (fI (λ_ _=>true) λi j=>.int (i+j)) (fS (λi j=>decide (i.length+j.length<=sizeLine)) λi j=>.str (i++j))
abbrev fSub:Md->D->Md->D->Option (Md×D):=fI (λ_ _=>true) λi j=>.int (i-j)
abbrev fMul:Md->D->Md->D->Option (Md×D):=orO (fI (λi j=>(b0 i&&b0 j)||(w64 i||w64 j)) λi j=>.int (i * j)) iJ
abbrev fMod:Md->D->Md->D->Option (Md×D):=fI (λ_ j=>decide (0<j)) λi j=>.int (i % j)
abbrev fDiv:Md->D->Md->D->Option (Md×D):=fI (λ_ j=>decide (0<j)&&b0 j) λi j=>.int (i / j)
abbrev fPow:Md->D->Md->D->Option (Md×D):=fI (λi j=>decide (0<=j)&&decide (j<=1000000)&&decide (i.natAbs<2 ^ 64)) λi j=>.int (i ^ j.toNat)
abbrev fLt:Md->D->Md->D->Option (Md×D):=fI (λ_ _=>true) λi j=>.bl (decide (i<j))
abbrev fLe:Md->D->Md->D->Option (Md×D):=fI (λ_ _=>true) λi j=>.bl (decide (i<=j))
abbrev fGt:Md->D->Md->D->Option (Md×D):=fI (λ_ _=>true) λi j=>.bl (decide (j<i))
abbrev fGe:Md->D->Md->D->Option (Md×D):=fI (λ_ _=>true) λi j=>.bl (decide (j<=i))
abbrev fEq:Md->D->Md->D->Option (Md×D):=orO (eqF false) noK
abbrev fNe:Md->D->Md->D->Option (Md×D):=orO (eqF true) noK
abbrev fIn:Md->D->Md->D->Option (Md×D):=fS (λ_ _=>true) λi j=>.bl (jI i j)
abbrev aHO:Md->D->Md->D->Option (Md×D):=fS (λ_ _=>true) λi j=>.bl (!jI i j)
def IsB(φ:Md->D->Md->D->Option (Md×D)):Prop:=∀ m x n y k d,φ m x n y=some (k,d)->∃ t,k=.fz/\d=.bl t
theorem nQ{c:Int->Int->Bool}{g:Int->Int->Bool}:IsB (fI c λi j=>.bl (g i j)):=λm x n y k d e=>by
 unfold fI at e;split at e
 . split at e
   . cases e;exact ⟨_,rfl,rfl⟩
   . cases e
 . cases e
theorem wN{c:Str->Str->Bool}{g:Str->Str->Bool}:IsB (fS c λi j=>.bl (g i j)):=λm x n y k d e=>by
 unfold fS at e;split at e
 . split at e
   . cases e;exact ⟨_,rfl,rfl⟩
   . cases e
 . cases e
theorem lI{φ ψ}(h:IsB φ)(h':IsB ψ):IsB (orO φ ψ):=λm x n y k d e=>by
 unfold orO at e;cases e1:φ m x n y with
 | none=>rw[e1] at e;exact h' _ _ _ _ _ _ e
 | some p=>rw[e1] at e;cases e;exact h _ _ _ _ _ _ e1
theorem wO{neg:Bool}:IsB (eqF neg):=λm x n y k d e=>by
 unfold eqF at e;split at e
 . split at e
   . cases e;exact ⟨_,rfl,rfl⟩
   . cases e
 . cases e
section
variable {C:Cw}{X:Cx}
theorem rA{f:Value->Value->Sem Value}:OpD C X f noK:=⟨λ_ _ _ _=>False,λ_ _ _ _ _ _ _ _ _ _ _ _ h=>h.elim,λ_ _ _ _ _ _ _ _ _ _ _ _ _ _ e _=>by cases e⟩
theorem o_add:OpD C X (binaryOp .Add) fAdd:=aFQ.or aF2
theorem o_mul:OpD C X (binaryOp .Mult) fMul:=aFT.or aGJ
theorem o_eq(hu:X.A.units+64<cLine):OpD C X (compareOp .Eq) fEq:=(aHK hu).or rA
theorem o_ne(hu:X.A.units+64<cLine):OpD C X (compareOp .NotEq) fNe:=(aHL hu).or rA
def phi(n N:Nat)(g:Rho->aB):List D->Res:=λds=>if ds.length=n then endR (g (fV N ds)) else .stuck
end
def lJ(scope sc:Scope):List (Str×NameKind):=scope.names.map λ(n,k)=>if (k == .free&&sc.kind == .function&&sc.names.lookup n==some .cell) then (n,.cell) else (n,k)
theorem aHP:bootBuiltins "len" = some (.builtin "len"):=by decide +kernel
theorem aHQ:bootBuiltins "isinstance" = some (.builtin "isinstance"):=by decide +kernel
theorem aHR:bootBuiltins "all" = some (.builtin "all"):=by decide +kernel
theorem aHS:bootBuiltins "int" = some (.type "int"):=by decide +kernel
theorem aHT:bootBuiltins "bool" = some (.type "bool"):=by decide +kernel
theorem aHU:bootBuiltins "str" = some (.type "str"):=by decide +kernel
theorem aHV:bootBuiltins "tuple" = some (.type "tuple"):=by decide +kernel
theorem aHW:bootBuiltins "list" = some (.type "list"):=by decide +kernel
theorem wQ:bootBuiltins "dict" = some (.type "dict"):=by decide +kernel
structure CI where
 name:Str
 ups:List Str
 flds:List Str
 meths:List (Str×Str×Nat)
def bP:Expr->Bool | .Starred ..=>false | _=>true
def aHX:Expr->Bool | .Call (.Name x _) [] [] _=>x != "super" | _=>true
theorem bQ{x:Expr}{es:List Expr}{env:Env}(h:bP x=true):starEach (x::es) env=(false,eval x env)::starEach es env:=by cases x <;> first | rfl | cases h
theorem iN(pos:Pos)(env:Env):∀ {es:List Expr},(∀ x∈es,bP x=true)->(backTo pos (starEach es env)).any (·.1)=false
 | [],_=>rfl
 | x::es,h=>by rw[bQ (h x mcs)];show ((false||(backTo pos (starEach es env)).any (·.1))=false);rw[iN pos env λy hy=>h y (mcm hy)];rfl
theorem rB(pos:Pos)(env:Env):∀ {es:List Expr},(∀ x∈es,bP x=true)->(backTo pos (starEach es env)).all (λx=>!x.1)=true
 | [],_=>rfl
 | x::es,h=>by rw[bQ (h x mcs)];show ((true&&(backTo pos (starEach es env)).all (λx=>!x.1))=true);rw[rB pos env λy hy=>h y (mcm hy)];rfl
theorem wR{o:Expr}{n:Str}{env:Env}{w:Sem Value}(h:aHX o=true):attributeBase o n env w=w:=by
 cases o with
 | Call f as ks pos =>
  cases f with
  | Name x p =>
   cases as with
   | nil =>
    cases ks with
    | nil=>show (if x != "super" || n == "__class__" || env.kindOf "super" != some .globalImplicit||env.kindOf "__class__" != some .free then w else _)=w;have:(x != ("super" : Str))=true:=h;rw[if_pos (by rw[this];rfl)]
    | cons _ _=>rfl
   | cons _ _=>rfl
  | _=>rfl
 | _=>rfl
structure MtV(P:Program)(w:World)(K:Fg)(mg:SOV)(base:Heap)(CX:CXT)(k:Nat)(c m:Str)(n:Nat)(Φ:List D->Res):Prop where
 ex:∃ C f fd ps,PySem.W.nsIn K mainGlobals c=some (some (.ref C))/\Cls K C/\qR K C m f/\cW P w K mg base CX k f fd ps (spV K mg n Φ)/\e8 K fd ps []
structure FlV(K:Fg)(c f:Str):Prop where
 ex:∃ C,PySem.W.nsIn K mainGlobals c=some (some (.ref C))/\Cls K C/\qQ K C f
def CI.meth(cl:List CI)(c m:Str):Option (Str×Nat):=match cl.find? (λi=>i.name==c) with
 | some i=>i.meths.lookup m
 | none=>none
section
variable {C:Cw}{X:Cx}{o e:Expr}{es:List Expr}{go:Rho->Res}{gs:Rho->aT}{apos pos:Pos}{m f:Str}{k:Nat}{Φ:Str->List D->Res}{CX:CXT}{cl:List CI}
end
theorem aW.mut{K:Fg}{F0 H0 F H:Hp}{σ:L2.St}{ρ:Rho}{i:Nat}{d d':D}{a:Addr}{o:HO}(R:aW K F0 H0 F H σ ρ)(e:ρ[i]? = some (some (true,d)))(ev:σ[i]? = some (some (.ref a)))(t:Top K F (upd H a o) a d'):aW K F0 H0 F (upd H a o) σ (ρ.set i (some (true,d'))):=by
 obtain ⟨v,ev',rp,hn⟩:=R.slot i true d e;rw[ev] at ev';cases ev';have h0:H0 a=none:=hn rfl a rfl;obtain ⟨a',ea,hf,tt⟩:=rp;cases ea;have hl:i<ρ.length:=(aPS.mp e).1;have st:aN F0 H0 F (upd H a o):=⟨λb u q=>by rw[aU (cO q h0)];exact R.st.same b u q,R.st.fsame,λb u q=>by rw[aU (cO q hf)];exact R.st.sub b u q,R.st.new⟩
 refine ⟨st,λj m d2 e2=>?_,λj l d1 d2 b hjl e1 e2 q1 q2=>?_,by rw[aR3];exact R.len⟩
 . by_cases hj:j=i
   . subst hj;rw[aPT hl] at e2;cases e2;exact ⟨.ref a,ev,⟨a,rfl,hf,t⟩,λ_ b eb=>by cases eb;exact h0⟩
   . rw[aPU (λz=>hj z.symm)] at e2;obtain ⟨u,eu,ru,hu⟩:=R.slot j m d2 e2;refine ⟨u,eu,?_,hu⟩;cases m with
     | false=>exact ru
     | true =>
      obtain ⟨b,eb,hb,tb⟩:=ru;subst eb;have hba:b≠a:=λz=>by subst z;exact R.apart j i d2 d b hj e2 e eu ev
      refine ⟨b,rfl,hb,?_⟩;cases d2 with
      | lst ds=>obtain ⟨xs,q,r⟩:=tb;exact ⟨xs,by rw[aU hba];exact q,r⟩
      | dct ds=>obtain ⟨xs,q,r⟩:=tb;exact ⟨xs,by rw[aU hba];exact q,r⟩
      | ins c fs=>obtain ⟨C,dx,gs,n,q,r⟩:=tb;exact ⟨C,dx,gs,n,by rw[aU hba];exact q,r⟩
      | set ks=>obtain ⟨S,q,r⟩:=tb;exact ⟨S,by rw[aU hba];exact q,r⟩
      | _=>exact tb.elim
 . have back:∀ (l:Nat) (d2:D),(ρ.set i (some (true,d')))[l]? = some (some (true,d2))->∃ d3,ρ[l]? = some (some (true,d3)):=λl d2 q=>by
     by_cases hl':l=i
     . subst hl';exact ⟨d,e⟩
     . rw[aPU (λz=>hl' z.symm)] at q;exact ⟨d2,q⟩
   obtain ⟨d3,q3⟩:=back j d1 e1;obtain ⟨d4,q4⟩:=back l d2 e2;exact R.apart j l d3 d4 b hjl q3 q4 q1 q2
section
variable {C:Cw}{X:Cx}{e:Expr}{g:Rho->Res}{pos p pos':Pos}{f x:Str}{cl:List CI}
end
structure MkV0(K:Fg)(mg:SOV)(c:Str):Prop where
 ex:∃ C,PySem.W.nsIn K mainGlobals c=some (some (.ref C))/\mg c=some (.ref C)/\PySem.W.makesIn K C=true/\PySem.W.findIn K (.ref C) "__init__" = some (some (.builtin "object.__init__"))/\PySem.W.keepIn K (.ref C)=true
def spI(K:Fg)(mg:SOV)(c:Str)(n:Nat)(Φ:List D->Res):Sp:=λvs H Q E=>∃ x us dx C H1 F ds,vs=.ref x::us/\us.length=n/\PySem.W.nsIn K mainGlobals c=some (some (.ref C)) /\
 H=upd (upd H1 dx (.own x)) x (.ins C dx [])/\H1 x=none/\H1 dx=none/\dx≠x/\aH F H1/\aE K F ds us/\match Φ ds with
 | .ok _ d=>∀ F' H',aN F H1 F' H'->Rp K F' H' .fr d (.ref x)->Q .non H'
 | .exc c=>∀ F' H' u,aN F H1 F' H'->mg c=some u->E u none H'
 | .stuck=>False
structure InV(P:Program)(w:World)(K:Fg)(mg:SOV)(base:Heap)(CX:CXT)(k:Nat)(c:Str)(n:Nat)(Φ:List D->Res):Prop where
 ex:∃ C f fd ps,PySem.W.nsIn K mainGlobals c=some (some (.ref C))/\mg c=some (.ref C)/\Mk K C f/\cW P w K mg base CX k f fd ps (spI K mg c n Φ)/\e8 K fd ps []
section
variable {C:Cw}{X:Cx}{e:Expr}{es:List Expr}{gs:Rho->aT}{p pos:Pos}{x c:Str}{k n:Nat}{Φ:List D->Res}{CX:CXT}
end
structure IsV(K:Fg)(mg:SOV)(cl:List CI)(c:Str):Prop where
 ex:∃ C,mg c=some (.ref C)/\(∀ t∈["NoneType", "bool", "int", "str", "tuple", "list", "dict"],PySem.W.kitOne K (.type t) (.ref C)=some false) /\
  ∀ i∈cl,∃ C',PySem.W.nsIn K mainGlobals i.name=some (some (.ref C'))/\Cls K C'/\PySem.W.findIn K (.ref C') "__class__" = some (some (.builtin "object.__class__")) /\
   PySem.W.specialIn K (.builtin "object.__class__") "__get__" = some (some (.builtin "getset_descriptor.__get__"))/\PySem.W.takesIn K (.builtin "object.__class__")=some true/\PySem.W.mroIn K C' (.type "object")=some true /\
   PySem.W.kitOne K (.ref C') (.ref C)=some (i.ups.contains c)
section
variable {C:Cw}{X:Cx}{e:Expr}{g:Rho->Res}{p q pos:Pos}{c:Str}{cl:List CI}
end
section
variable {C:Cw}{X:Cx}{a b c e:Expr}{ga gb gc g:Rho->Res}{gs:Rho->aT}{pos:Pos}
def eP:D->Bool | .non=>true | _=>false
theorem wS{K:Fg}{F H:Hp}{m:Md}{d:D}{v:V}(s:aH F H)(r:Rp K F H m d v):decide (v=.non)=eP d:=by
 cases d with
 | non=>cases r.non;rfl
 | bl _=>cases r.bl;rfl
 | int _=>cases r.int;rfl
 | str _=>cases r.str.1;rfl
 | tup _=>obtain ⟨_,_,rfl,_⟩:=r.seqT s;rfl
 | lst _=>obtain ⟨_,_,rfl,_⟩:=r.seqL s;rfl
 | dct _=>obtain ⟨_,_,rfl,_⟩:=r.dict s;rfl
 | ty _=>cases r.ty;rfl
 | ob _=>cases r.ob;rfl
 | ins _ _=>obtain ⟨_,_,_,_,rfl,_⟩:=r.ins s;rfl
 | fn _ =>
  cases m with
  | fz=>have r:aC K F _ v:=r;simp only[aC] at r;obtain ⟨_,rfl,_⟩:=r;rfl
  | fr=>obtain ⟨_,_,_,q⟩:=r;exact q.elim
  | bo=>obtain ⟨_,_,_,q⟩:=r;exact q.elim
 | exn _ =>
  cases m with
  | fz=>have r:aC K F _ v:=r;simp only[aC] at r;obtain ⟨_,_,rfl,_⟩:=r;rfl
  | fr=>obtain ⟨_,_,_,q⟩:=r;exact q.elim
  | bo=>obtain ⟨_,_,_,q⟩:=r;exact q.elim
 | set _ =>
  cases m with
  | fz=>have r:aC K F _ v:=r;simp only[aC] at r;obtain ⟨_,_,rfl,_⟩:=r;rfl
  | fr=>obtain ⟨_,rfl,_,_⟩:=r;rfl
  | bo=>obtain ⟨_,rfl,_,_⟩:=r;rfl
def fIs(neg:Bool):Md->D->Md->D->Option (Md×D):=λ_ x _ y=>match y with
 | .non=>some (.fz,.bl (if neg then !eP x else eP x))
 | _=>none
theorem aHY:OpD C X (compareOp .Is) (fIs false):=by
 refine ⟨_,aDW,λF H m x n y v u k d Q s rx ry e w=>?_⟩;unfold fIs at e;split at e
 . cases e;cases ry.non;exact ⟨rfl,by rw[wS s rx];exact w _ F H (.refl s) (bZ _) (by intro z;cases z)⟩
 . cases e
theorem aHZ:OpD C X (compareOp .IsNot) (fIs true):=by
 refine ⟨_,aDX,λF H m x n y v u k d Q s rx ry e w=>?_⟩;unfold fIs at e;split at e
 . cases e;cases ry.non;exact ⟨rfl,by rw[wS s rx];exact w _ F H (.refl s) (bZ _) (by intro z;cases z)⟩
 . cases e
theorem wT{neg:Bool}:IsB (fIs neg):=λm x n y k d e=>by
 unfold fIs at e;split at e
 . cases e;exact ⟨_,rfl,rfl⟩
 . cases e
theorem aH0:OpR X (binaryOp .Add) (λx y H Q=>∃ l b xs ys,x=.ref l/\y=.ref b/\SqL X.K H l xs/\SqL X.K H b ys/\xs.length+ys.length<=sizeLine/\∀ p,H p=none->Q (.ref p) (upd H p (.lst (xs++ys)))):=by
 intro aA s σ H x y v u Q I rx ry h;obtain ⟨l,b,xs,ys,rfl,rfl,hl,hb,hz,q⟩:=h;cases rx;cases ry;obtain ⟨its,r1,p1,_⟩:=I.list hl;obtain ⟨its2,r2,p2,_⟩:=I.list hb;obtain ⟨⟨cls,dd,data,sl⟩,n,ho,hc,hd1,hd⟩:=p1;obtain ⟨⟨cls2,dd2,data2,sl2⟩,n2,ho2,hc2,hd2',hd2⟩:=p2;simp only at hc hd hc2 hd2;subst hc hd hc2 hd2;have e:its.toArray++its2.toArray=(its++its2).toArray:=by simp
 have l1:=r1.length;have l2:=r2.length;refine aQT ⟨_,ho,rfl⟩ ⟨_,ho2,rfl⟩ noFill_list_add seq_list_add PySem.F.slot_list_add PySem.F.entry_list_add (PySem.F.args_list_add_2 _ _) (list_addW l b its.toArray its2.toArray n n2 dd dd2 sl sl2 (by simp;omega)) ⟨ho,ho2,?_⟩
 rw[e];refine ⟨.ref s.heap.objs.size,_,I.laid (t':=s.toks) (o:=.lst (xs++ys)) (λb ob q=>hps q) (aP8 _) ?_,rfl,q _ (I.hok.fresh (aP8 _))⟩;exact ⟨by rw[aQQ];exact hz,_,0,r1.append r2,aPF _ rfl⟩
theorem aH1:OpR X (binaryOp .Add) (λx y H Q=>∃ l b xs ys,x=.ref l/\y=.ref b/\SqT X.K H l xs/\SqT X.K H b ys/\xs.length+ys.length<=sizeLine/\(xs=[]->Q (.ref b) H)/\(xs≠[]->ys=[]->Q (.ref l) H)/\(xs≠[]->ys≠[]->∀ p,H p=none->Q (.ref p) (upd H p (.tup (xs++ys))))):=by
 intro aA s σ H x y v u Q I rx ry h;obtain ⟨l,b,xs,ys,rfl,rfl,hl,hb,hz,q0,q1,q2⟩:=h;cases rx;cases ry;obtain ⟨its,r1,p1,_⟩:=I.tuple hl;obtain ⟨its2,r2,p2,_⟩:=I.tuple hb;have n1:=r1.nil_iff;have n2:=r2.nil_iff;have l1:=r1.length;have l2:=r2.length;by_cases hv:its=[]
 . obtain ⟨⟨cls,dd,data,sl⟩,ho,hc,n,hd⟩:=id p1;obtain ⟨⟨cls2,dd2,data2,sl2⟩,ho2,hc2,n2',hd2⟩:=id p2;simp only at hc hd hc2 hd2;subst hc hd hc2 hd2;exact aQT ⟨_,ho,rfl⟩ ⟨_,ho2,rfl⟩ aQU seq_tuple_add aQV aQW (aQX _ _)
     (tuple_addW0 l b its.toArray its2.toArray n n2' dd dd2 sl sl2 (by simp[hv])) ⟨ho,ho2,⟨.ref b,H,I,rfl,q0 (n1.mp hv)⟩⟩
 . refine HT.aED p1 p2 hv (λz=>⟨.ref l,H,I,rfl,q1 (λw=>hv (n1.mpr w)) (n2.mp z)⟩) (λz=>?_) (by omega)
   refine ⟨.ref s.heap.objs.size,_,I.laid (t':=s.toks) (o:=.tup (xs++ys)) (λb ob q=>hps q) (aP8 _) ?_,rfl,q2 (λw=>hv (n1.mpr w)) (λw=>z (n2.mpr w)) _ (I.hok.fresh (aP8 _))⟩;exact ⟨by rw[aQQ];exact hz,_,r1.append r2,fP.new _ _⟩
def nR:Md->D->Md->D->Option (Md×D):=λm x n y=>match x,y with
 | .lst xs,.lst ys=>if xs.length+ys.length<=sizeLine then some (.fr,.lst (xs++ys)) else none
 | .tup xs,.tup ys=>if xs.length+ys.length<=sizeLine then some (.fz,.tup (xs++ys)) else none
 | _,_=>none
theorem aE.nilIff{K:Fg}{F:Hp}{ds:List D}{xs:List V}(h:aE K F ds xs):xs=[]↔ds=[]:=by
 have:=h.length;constructor
 . intro e;subst e;cases ds with | nil=>rfl | cons _ _=>simp at this
 . intro e;subst e;cases xs with | nil=>rfl | cons _ _=>simp at this
theorem aH2:OpD C X (binaryOp .Add) nR:=by
 refine ⟨_,aH0.or aH1,λF H m x n y v u k d Q s rx ry e w=>?_⟩;unfold nR at e;split at e
 . rename_i xs ys;split at e
   . rename_i hz;cases e;obtain ⟨a,us,rfl,q1,r1⟩:=rx.seqL s;obtain ⟨b,vs,rfl,q2,r2⟩:=ry.seqL s;refine .inl ⟨a,b,us,vs,rfl,rfl,q1,q2,by rw[r1.length,r2.length];exact hz,λp hp=>?_⟩
     exact w (.ref p) F _ (aN.fresh _ s hp) ⟨p,rfl,s.free hp,_,bV,r1.append r2⟩ λ_ a ea=>by cases ea;exact hp
   . cases e
 . rename_i xs ys;split at e
   . rename_i hz;cases e;have ex:=rx;have ey:=ry;obtain ⟨a,us,rfl,q1,r1⟩:=rx.seqT s;obtain ⟨b,vs,rfl,q2,r2⟩:=ry.seqT s;have fz:∀ {m:Md} {zs:List D} {c:Addr},Rp X.K F H m (.tup zs) (.ref c)->aC X.K F (.tup zs) (.ref c):=λ{m zs c} h=>by
       cases m with
       | fz=>exact h
       | fr=>obtain ⟨_,_,_,q⟩:=h;exact q.elim
       | bo=>obtain ⟨_,_,_,q⟩:=h;exact q.elim
     refine .inr ⟨a,b,us,vs,rfl,rfl,q1,q2,by rw[r1.length,r2.length];exact hz,λz=>?_,λ_ z=>?_,λ_ _ p hp=>?_⟩
     . have:xs=[]:=r1.nilIff.mp z;subst this;exact w (.ref b) F H (.refl s) (fz ey) (by intro z;cases z)
     . have:ys=[]:=r2.nilIff.mp z;subst this;rw[aQF] at w;exact w (.ref a) F H (.refl s) (fz ex) (by intro z;cases z)
     . exact w (.ref p) _ _ (aN.laid (.tup (us++vs)) s hp) (aC.tup_of (s.free hp) (r1.append r2)) (by intro z;cases z)
   . cases e
 . cases e
def cR:D->Bool | .non | .bl _ | .int _ | .str _=>true | _=>false
def eqD:D->D->Bool
 | .non,.non=>true
 | .bl a,.bl b=>a==b
 | .bl a,.int b=>(if a then 1 else 0)==b
 | .int a,.bl b=>a==(if b then 1 else 0)
 | .int a,.int b=>a==b
 | .str a,.str b=>a==b
 | _,_=>false
def jP(neg:Bool):Md->D->Md->D->Option (Md×D):=λ_ x _ y=>match y with
 | .lst ys=>if (cR x&&ys.all cR)=true then some (.fz,.bl (if neg then !(ys.any λy=>eqD y x) else (ys.any λy=>eqD y x))) else none
 | .tup ys=>if (cR x&&ys.all cR)=true then some (.fz,.bl (if neg then !(ys.any λy=>eqD y x) else (ys.any λy=>eqD y x))) else none
 | _=>none
def vOf:D->V | .non=>.non | .bl b=>.bl b | .int i=>.int i | .str x=>.str x | _=>.non
theorem rC{K:Fg}{F H:Hp}{m:Md}{d:D}{v:V}(h:cR d=true)(r:Rp K F H m d v):v=vOf d:=by
 cases d with
 | non=>exact r.non
 | bl _=>exact r.bl
 | int _=>exact r.int
 | str _=>exact r.str.1
 | _=>cases h
theorem rE{K:Fg}{F:Hp}:∀ {ds:List D} {xs:List V},ds.all cR=true->aE K F ds xs->xs=ds.map vOf
 | [],_,_,r=>by simp only[aE] at r;exact r
 | d::ds,_,h,r=>by simp only[aE] at r;obtain ⟨y,ys,rfl,r1,r2⟩:=r;rw[aRA,aQ8] at h;rw[aRG,rC (H:=F) (m:=.fz) h.1 r1,rE h.2 r2]
theorem rF{d:D}(h:cR d=true):e9 (vOf d)=true:=by cases d <;> first | rfl | cases h
theorem aH3{x y:D}(hx:cR x=true)(hy:cR y=true):eqV (vOf x) (vOf y)=eqD x y:=by cases x <;> cases y <;> first | rfl | (cases hx;done) | (cases hy;done)
theorem rG{x:D}(hx:cR x=true):∀ {ds:List D},ds.all cR=true->inV (vOf x) (ds.map vOf)=ds.any λy=>eqD y x
 | [],_=>rfl
 | d::ds,h=>by rw[aRA,aQ8] at h;show (eqV (vOf d) (vOf x)||inV (vOf x) (ds.map vOf))=(eqD d x||ds.any _);rw[aH3 h.1 hx,rG hx h.2]
theorem rH:∀ {ds:List D},ds.all cR=true->(ds.map vOf).all e9=true
 | [],_=>rfl
 | d::ds,h=>by rw[aRA,aQ8] at h;rw[aRG,aRA,rF h.1,rH h.2];rfl
theorem wU{neg:Bool}{f:Value->Value->Sem Value}(o:OpR X f (rIn X.K neg)):OpD C X f (jP neg):=by
 refine ⟨_,o,λF H m x n y v u k d Q s rx ry e w=>?_⟩;unfold jP at e;split at e
 . rename_i ys;split at e
   . rename_i hf;rw[aQ8] at hf;cases e;obtain ⟨b,vs,rfl,q2,r2⟩:=ry.seqL s;have ev:=rC hf.1 rx;have es:=rE hf.2 r2;subst ev;subst es;exact ⟨b,_,rfl,.inl q2,rF hf.1,rH hf.2,by rw[rG hf.1 hf.2];exact w _ F H (.refl s) (bZ _) (by intro z;cases z)⟩
   . cases e
 . rename_i ys;split at e
   . rename_i hf;rw[aQ8] at hf;cases e;obtain ⟨b,vs,rfl,q2,r2⟩:=ry.seqT s;have ev:=rC hf.1 rx;have es:=rE hf.2 r2;subst ev;subst es;exact ⟨b,_,rfl,.inr q2,rF hf.1,rH hf.2,by rw[rG hf.1 hf.2];exact w _ F H (.refl s) (bZ _) (by intro z;cases z)⟩
   . cases e
 . cases e
theorem wV{neg:Bool}:IsB (jP neg):=λm x n y k d e=>by
 unfold jP at e;split at e
 . split at e
   . cases e;exact ⟨_,rfl,rfl⟩
   . cases e
 . split at e
   . cases e;exact ⟨_,rfl,rfl⟩
   . cases e
 . cases e
def jQ:List (Md×D)->Option (Md×D)
 | [(_,.lst ds)]=>some (.fz,.tup ds)
 | [(.fz,.tup ds)]=>some (.fz,.tup ds)
 | _=>none
def iO:List (Md×D)->Option (Md×D)
 | [(_,.lst ds)]=>some (.fr,.lst ds)
 | [(_,.tup ds)]=>some (.fr,.lst ds)
 | _=>none
def rJ:List (Md×D)->Option (Md×D)
 | [(_,.int i)]=>some (.fz,.int i)
 | [(_,.bl b)]=>some (.fz,.int (if b then 1 else 0))
 | _=>none
def nS(i:Int):Bool:=decide (i.natAbs.log2<1920)
def jR(i:Int):Str:=Str.ofString (toString i)
def lK:List (Md×D)->Option (Md×D)
 | [(_,.int i)]=>if nS i=true then some (.fz,.str (jR i)) else none
 | _=>none
theorem aH4:dQ X (.type "tuple") jQ:=by
 refine ⟨_,aEZ,λF H xs vs k d Q s rx e w=>?_⟩;unfold jQ at e;split at e
 . rename_i m ds;cases e;obtain ⟨v,rfl,r⟩:=rx.one;obtain ⟨a,xs,rfl,q,rl⟩:=r.seqL s;exact ⟨a,xs,rfl,.inl ⟨q,λl hl=>w (.ref l) _ _ (aN.laid (.tup xs) s hl) (aC.tup_of (s.free hl) rl) (by intro z;cases z)⟩⟩
 . rename_i ds;cases e;obtain ⟨v,rfl,r⟩:=rx.one;have r0:=r;obtain ⟨a,xs,rfl,q,rl⟩:=r.seqT s;exact ⟨a,xs,rfl,.inr ⟨q,w (.ref a) F H (.refl s) r0 (by intro z;cases z)⟩⟩
 . cases e
theorem aH5:dQ X (.type "list") iO:=by
 refine ⟨_,aEY,λF H xs vs k d Q s rx e w=>?_⟩;unfold iO at e;split at e
 . rename_i m ds;cases e;obtain ⟨v,rfl,r⟩:=rx.one;obtain ⟨a,xs,rfl,q,rl⟩:=r.seqL s;exact ⟨a,xs,rfl,.inl q,λl hl=>w (.ref l) F _ (aN.fresh _ s hl) ⟨l,rfl,s.free hl,xs,bV,rl⟩ λ_ a ea=>by cases ea;exact hl⟩
 . rename_i m ds;cases e;obtain ⟨v,rfl,r⟩:=rx.one;obtain ⟨a,xs,rfl,q,rl⟩:=r.seqT s;exact ⟨a,xs,rfl,.inr q,λl hl=>w (.ref l) F _ (aN.fresh _ s hl) ⟨l,rfl,s.free hl,xs,bV,rl⟩ λ_ a ea=>by cases ea;exact hl⟩
 . cases e
theorem aH6:dQ X (.type "int") rJ:=by
 refine ⟨_,aD5,λF H xs vs k d Q s rx e w=>?_⟩;unfold rJ at e;split at e
 . cases e;obtain ⟨v,rfl,r⟩:=rx.one;cases r.int;exact .inl ⟨_,rfl,w _ F H (.refl s) (cE _) (by intro z;cases z)⟩
 . cases e;obtain ⟨v,rfl,r⟩:=rx.one;cases r.bl;exact .inr ⟨_,rfl,w _ F H (.refl s) (cE _) (by intro z;cases z)⟩
 . cases e
end
theorem wW(i:Int):PyData.strOk (Str.ofString (toString i))=true:=by
 unfold PyData.strOk;rw[aRO];intro c hc;have hc':c∈(Str.ofString (toString i)).cps.toList:=by rw[aRP];exact hc
 have:¬ (c≠45/\(c<48\/57<c)):=λh=>int_text_free' c h i hc';have hb:c<58:=by omega
 simp;omega
section
variable {X:Cx}
theorem aH7:dQ X (.type "str") lK:=by
 refine ⟨_,aD6,λF H xs vs k d Q s rx e w=>?_⟩;unfold lK at e;split at e
 . rename_i m i;split at e
   . rename_i hs;cases e;obtain ⟨v,rfl,r⟩:=rx.one;cases r.int;have hl:i.natAbs.log2<1920:=aRM hs;have h1:(jR i).length<=1921:=int_text_len_1921 hl;have hz:sizeLine=16777216:=aQD;exact ⟨i,rfl,hl,w _ F H (.refl s) (eN ⟨by omega,wW i⟩) (by intro z;cases z)⟩
   . cases e
 . cases e
end
theorem aH8{C:Cw}{X:Cx}{T:String}{φ}{x:Str}{e:Expr}{es:List Expr}{gs:Rho->aT}{p pos:Pos}(o:dQ X (.type T) φ)(hg:Gl X x)(hm:X.mg x=none)(hv:bootBuiltins x=some (.type T))(ha:PAv C X (e::es) gs)(hn:x ≠ "__name__")(hdb:(x==("__debug__" : Str))=false)(hst:∀ x∈e::es,bP x=true):PV C X (.Call (.Name x p) (e::es) [] pos) (λρ=>eO φ (gs ρ)):=by obtain ⟨r,h1,h2⟩:=o;exact PE.imp (aEC h1 hg hm hv ha hn hdb (bQ (hst e mcs)) (iN _ _ λy hy=>hst y (mcm hy))) λσ H Q q=>wA h2 q
section
variable {prog:Program}{w:World}{A:Around}{E:VSP}{s:Shared}
theorem aH9{l:Addr}{items:Array Value}{Q:List Value->Shared->Prop}(hA:A.handled=none)(ht:s.heap.IsList l items)(h:∀ h',Heap.ExtBut s.heap.objs.size s.heap h'->∀ tk,Q items.toList { s with heap:=h',toks:=tk }):wpAny (model prog w) A (unpackItems (.ref l) items.size none) Q E s:=by
 unfold unpackItems notIterableAtAll;refine aPZ (aPZ (aRJ ht.typeIs PySem.F.slot_list_iter.lookup ?_));refine aP1 ?_;dsimp only;rw[if_neg aP5];refine aPZ (aQ3 (aP7 ht ?_));have hlt:l<s.heap.objs.size:=by obtain ⟨o,e,_⟩:=ht;exact aPG e
 have hne:l≠s.heap.objs.size:=aPJ hlt;have keep:∀ b o,s.heap.get? b=some o->(s.heap.push { cls:=Value.type "list_iterator", data:=Data.fields #[Value.ref l,Value.int 0 0] }).get? b=some o:=λb o q=>hps q;have ht':(s.heap.push { cls:=Value.type "list_iterator", data:=Data.fields #[Value.ref l,Value.int 0 0] }).IsList l items:=by obtain ⟨o,e,c⟩:=ht;exact ⟨o,keep l o e,c⟩
 have hi':(s.heap.push { cls:=Value.type "list_iterator", data:=Data.fields #[Value.ref l,Value.int 0 0] }).IsListIter s.heap.objs.size l 0:=⟨_,aPF _ rfl,rfl,rfl⟩;refine aPZ (aQ3 (PySem.W.kun_draw hne items.size 0 _ _ hi' ht' (by omega) λh' hi hsb=>?_))
 have ei:List.take items.size (List.drop 0 items.toList)=items.toList:=by rw[aSG];exact aSH (by simp)
 rw[ei];rw[if_neg (by simp)]
 have hl2:h'.IsList l items:=by obtain ⟨o,e,c⟩:=ht';exact ⟨o,by rw[hsb.2 l hne];exact e,c⟩
 rw[Nat.zero_add] at hi;refine aPZ (aQ3 ((Walks.list hA s.heap.objs.size l hne items).done _ _ _ ⟨hi,hl2⟩ λh2 tk k2=>?_));rw[if_neg (by simp)]
 refine aP1 (h h2 (λb o hb e=>k2 b o (by simpa using hb) ?_) tk)
 show h'.get? b=some o;rw[hsb.2 b hb];exact keep b o e
theorem aIA{env:Env}{elts:List Expr}{k:Nat}{pos:Pos}{l:Addr}{items:Array Value}{Q:Unit->Shared->Prop}(hA:A.handled=none)(ht:s.heap.IsList l items)(hn:(assignEach elts env).length=items.size)(hst:(assignEach elts env).findIdx? (·.1)=none)(h:∀ h',Heap.ExtBut s.heap.objs.size s.heap h'->∀ tk,wpAny (model prog w) A (assignInOrder ((assignEach elts env).map (·.2)) items.toList) Q E { s with heap:=h',toks:=tk }):wpAny (model prog w) A (assign (.Tuple elts k pos) env (.ref l)) Q E s:=by rw[assign_Tuple];refine aPZ (aP0 ?_);unfold unpack;rw[hst,hn];exact aPZ (aQ3 (aH9 hA ht h))
theorem aIB{t sl:Addr}{items:Array Value}{vl vu:Value}{lo hi:Option Int}{Q:VSP}(ht:IsTup s.heap t items)(hs:s.heap.IsSliceOf sl vl vu .none)(pl:IsPart vl lo)(pu:IsPart vu hi)(h0:HT.sIx items.size 0 lo=0)(h1:HT.sIx items.size items.size hi=items.size)(h:Q (.ref t) s):wpAny (model prog w) A (getItem (.ref t) (.ref sl)) Q E s:=by
 obtain ⟨os,hos,hcs,hds⟩:=id hs;have tS:s.TypeIs (.ref sl) "slice" := ⟨os,hos,hcs⟩;unfold getItem
 try with_reducible refine aQ3 ?_
 first | refine aPZ (aP1 ?_) | skip
 refine aPZ (wpAny_sequenceKey ht.typeIs (by decide) (aPZ (aQ4 (name:=Str.ofString "__getitem__") ht.typeIs aQ5 (aQ6 aQ5 ht.typeIs entry_tuple_getitem ?_ (args_tuple_getitem _ _)))))
 show wpAny _ _ (Builtin.Tuple.tupleItemsOf (.ref t) >>= _) _ _ s;refine aPZ (tupleItemsOf_ ht (aPZ (aQ7 tS ?_)));rw[if_pos (by decide)]
 refine aPZ (HT.vH hs pl pu ?_);have yes:(((HT.sIx items.size 0 lo:Nat):Int)==0&&(1:Int)==1&&(HT.sIx items.size items.size hi-HT.sIx items.size 0 lo)==items.size)=true:=by rw[h0,h1];simp
 show wpAny _ _ (if (((HT.sIx items.size 0 lo:Nat):Int)==0&&(1:Int)==1&&(HT.sIx items.size items.size hi-HT.sIx items.size 0 lo)==items.size)=true then _ else _) _ _ s;rw[if_pos yes];unfold Builtin.Tuple.tupleIsExact;refine aPZ (aPZ (aQ7 ht.typeIs (aP1 ?_)));rw[if_pos (by decide)]
 refine aPZ (aP3 ?_)
 first
  | exact aP1 ⟨_,rfl,aP1 h⟩
  | exact ⟨_,rfl,aP1 h⟩
end
section
variable {X:Cx}{pos:Pos}
def rSlW(K:Fg):V->Option Int->Option Int->Hp->VK->Prop:=λx lo hi H Q=>∃ a xs,x=.ref a/\SqT K H a xs/\(HT.sIx xs.length 0 lo=0/\HT.sIx xs.length xs.length hi=xs.length)/\Q x H
theorem aIC:SlR X (rSlW X.K):=by
 intro aA s σ H x v vl vu lo hi sl Q I rx hs pl pu h;obtain ⟨a,xs,rfl,hx,hw,q⟩:=h;cases rx;obtain ⟨its,r,ht,hz⟩:=I.tuple hx;have hlen:its.toArray.size=xs.length:=by rw[aQE];exact r.length.symm
 exact ⟨"tuple", _,PyProof.Rows.slot_tuple_getitem.lookup,ht.typeIs,aIB ht hs pl pu (by rw[hlen];exact hw.1) (by rw[hlen];exact hw.2) ⟨.ref a,H,I,rfl,q⟩⟩
def gSeq(K:Fg)(n:Nat)(t:TGs):TG:=λv σ H Q=>∃ a xs,v=.ref a/\(SqT K H a xs\/SqL K H a xs)/\xs.length=n/\t xs σ H Q
theorem aID{es:List Expr}{k:Nat}{t:TGs}{n:Nat}(hc:X.calm=true)(h:PGs X es t)(hn:(assignEach es X.env).length=n)(hst:(assignEach es X.env).findIdx? (·.1)=none):PG X (.Tuple es k pos) (gSeq X.K n t):=by
 intro aA s σ H v u Q I r hw;obtain ⟨a,xs,e1,hq,hl,hw⟩:=hw;rcases hq with hq | hq
 . exact aC7 hc h hn hst aA s σ H v u Q I r ⟨a,xs,e1,hq,hl,hw⟩
 . subst e1;cases r;obtain ⟨its,rv,ht,hz⟩:=I.list hq;refine aIA (I.ok.hd hc) ht.isList (by simp[hn,<- hl,rv.length]) hst λh' hx tk=>?_
   have I1:Inv X aA σ H { s with heap:=h',toks:=tk }:=I.kept (t':=tk) λb o e=>hx b o (aPJ (aPG e)) e
   exact h aA _ σ H xs _ Q I1 (by simpa using rv) hw
end
inductive Tg where
 | nm (i:Nat) | tp (ts:List Tg)
mutual
def aI:Tg->D->Rho->Option Rho
 | .nm i,d,ρ=>some (ρ.set i (some (false,d)))
 | .tp ts,d,ρ=>match d with
  | .tup ds=>c7 ts ds ρ
  | .lst ds=>c7 ts ds ρ
  | _=>none
def c7:List Tg->List D->Rho->Option Rho
 | [],ds,ρ=>if ds.isEmpty then some ρ else none
 | t::ts,ds,ρ=>match ds with
  | d::ds=>(match aI t d ρ with | some ρ1=>c7 ts ds ρ1 | none=>none)
  | []=>none
end
mutual
def eQ:Tg->List Nat
 | .nm i=>[i]
 | .tp ts=>nT ts
def nT:List Tg->List Nat
 | []=>[]
 | t::ts=>eQ t++nT ts
end
mutual
def gOf(K:Fg):Tg->TG
 | .nm i=>kT i
 | .tp ts=>gSeq K ts.length (gT K ts)
def gT(K:Fg):List Tg->TGs
 | []=>gNil
 | t::ts=>uW (gOf K t) (gT K ts)
end
def PGw(X:Cx)(tg:Expr)(t:Tg):Prop:=PG X tg (gOf X.K t)
def iP(X:Cx)(tgs:List Expr)(ts:List Tg):Prop:=PGs X tgs (gT X.K ts)
def gU:Expr->Bool | .Starred ..=>false | _=>true
theorem rK{e:Expr}{es:List Expr}{env:Env}(h:gU e=true):assignEach (e::es) env=(false,assign e env)::assignEach es env:=by cases e <;> first | rfl | cases h
theorem rL:∀ {ts:List Tg} {ds:List D} {ρ ρ':Rho},c7 ts ds ρ=some ρ'->ds.length=ts.length
 | [],ds,ρ,ρ',e=>by
  simp only[c7] at e;split at e
  . rename_i h;have:ds=[]:=by simpa using h
    subst this;rfl
  . cases e
 | t::ts,ds,ρ,ρ',e=>by
  simp only[c7] at e;split at e
  . split at e
    . rw[aRF,aRF,rL e]
    . cases e
  . cases e
mutual
theorem nU{K:Fg}{F0 H0:Hp}:∀ (t:Tg) {F H:Hp} {σ:L2.St} {ρ ρ':Rho} {d:D} {v:V} {Q:L2.St->Hp->Prop},aW K F0 H0 F H σ ρ->aC K F d v->aI t d ρ=some ρ'->(∀ σ',aW K F0 H0 F H σ' ρ'->σ'.length=σ.length->(∀ j,j∉eQ t->σ'[j]? = σ[j]?)->Q σ' H)->gOf K t v σ H Q
 | .nm i,F,H,σ,ρ,ρ',d,v,Q,R,r,e,w=>by
  simp only[aI] at e;cases e;simp only[gOf];refine w _ (R.set (m:=false) (.refl R.sub) r (by intro z;cases z)) (by rw[aR3]) λj hj=>?_
  simp only[eQ,aSI] at hj;rw[aPU (λz=>hj z.symm)]
 | .tp ts,F,H,σ,ρ,ρ',d,v,Q,R,r,e,w=>by
  simp only[aI] at e;split at e
  . rename_i ds;simp only[aC] at r;obtain ⟨a,xs,rfl,hq,rl⟩:=r;simp only[gOf];refine ⟨a,xs,rfl,.inl (aH.seqT R.sub hq),by rw[rl.length];exact rL e,rM ts R rl e ?_⟩
    simp only[eQ] at w;exact w
  . rename_i ds;simp only[aC] at r;obtain ⟨a,xs,rfl,hq,rl⟩:=r;simp only[gOf];refine ⟨a,xs,rfl,.inr (R.sub.seq hq),by rw[rl.length];exact rL e,rM ts R rl e ?_⟩
    simp only[eQ] at w;exact w
  . cases e
theorem rM{K:Fg}{F0 H0:Hp}:∀ (ts:List Tg) {F H:Hp} {σ:L2.St} {ρ ρ':Rho} {ds:List D} {vs:List V} {Q:L2.St->Hp->Prop},aW K F0 H0 F H σ ρ->aE K F ds vs->c7 ts ds ρ=some ρ'->(∀ σ',aW K F0 H0 F H σ' ρ'->σ'.length=σ.length->(∀ j,j∉nT ts->σ'[j]? = σ[j]?)->Q σ' H)->gT K ts vs σ H Q
 | [],F,H,σ,ρ,ρ',ds,vs,Q,R,r,e,w=>by
  simp only[c7] at e;split at e
  . cases e;rename_i hd;have:ds=[]:=by simpa using hd
    subst this;simp only[aE] at r;simp only[gT];exact ⟨r,w σ R rfl λ_ _=>rfl⟩
  . cases e
 | t::ts,F,H,σ,ρ,ρ',ds,vs,Q,R,r,e,w=>by
  simp only[c7] at e;split at e
  . rename_i d ds';split at e
    . rename_i ρ1 e1;simp only[aE] at r;obtain ⟨y,ys,rfl,r1,r2⟩:=r;simp only[gT];refine ⟨y,ys,rfl,nU t R r1 e1 λσ1 R1 l1 k1=>rM ts R1 r2 e λσ2 R2 l2 k2=>w σ2 R2 (l2.trans l1) λj hj=>?_⟩;simp only[nT,aPQ,not_or] at hj;rw[k2 j hj.2,k1 j hj.1]
    . cases e
  . cases e
end
section
variable {C:Cw}{X:Cx}{pos:Pos}
theorem aIE{x:Str}{i:Nat}(hN:X.N.Nodup)(hi:X.N[i]? = some x)(hx:L2.Loc X.env.scope x)(hf:X.fn x=true\/X.env.scope.names.lookup x=some .local):PGw X (.Name x pos) (.nm i):=by unfold PGw;simp only[gOf];exact aC4 hN hi hx hf
theorem aIF:iP X [] []:=by unfold iP;simp only[gT];exact aC5
theorem aIG{e:Expr}{es:List Expr}{t:Tg}{ts:List Tg}(h1:PGw X e t)(h2:iP X es ts)(hs:gU e=true):iP X (e::es) (t::ts):=by unfold iP;simp only[gT];exact aC6 h1 h2 (by rw[rK hs];rfl)
theorem aIH{es:List Expr}{env:Env}(hs:∀ e∈es,gU e=true):(assignEach es env).length=es.length/\(assignEach es env).findIdx? (·.1)=none:=by
 induction es with
 | nil=>exact ⟨rfl,rfl⟩
 | cons e es ih =>
  obtain ⟨h1,h2⟩:=ih λx hx=>hs x (mcm hx);rw[rK (hs e mcs)];refine ⟨by rw[aRF,aRF,h1],?_⟩
  rw[List.findIdx?_cons];simp[h2]
theorem aII{es:List Expr}{ts:List Tg}{k:Nat}(hc:X.calm=true)(h:iP X es ts)(hs:∀ e∈es,gU e=true)(hl:es.length=ts.length):PGw X (.Tuple es k pos) (.tp ts):=by have st:=aIH (env:=X.env) hs;unfold PGw;simp only[gOf];exact aID (n:=ts.length) hc h (by rw[st.1,hl]) st.2
theorem aIJ{tg:Expr}{t:Tg}(h:PGw X tg t):PGv C X tg (aI t) :=
 ⟨_,h,λF H σ ρ ρ' d v Q R r e w=>nU t R r e λσ' R' _ _=>w σ' F H (aH.refl _) R'⟩
def fF(t:Tg)(ρ:Rho)(r:Res):aB:=(bG r).thS ρ λm d=>match m with | .fz=>(match aI t d ρ with | some ρ'=>.nx ρ' | none=>.stuck) | _=>.stuck
theorem aIK{tg e:Expr}{t:Tg}{g:Rho->Res}(he:PV C X e g)(hg:PGw X tg t)(hs:swapsWithSole [tg] e pos.line X.env=pure false)(hw:swappedStores [tg] e X.env=pure none)(hst:gU tg=true):PSv C X (.Assign [tg] e pos) (λρ=>fF t ρ (g ρ)):=by
 refine PS.imp (aC8 (gQ he) hg hs hw (by rw[rK hst];rfl)) λEn σ H qq=>?_
 obtain ⟨ρ,F,R,w⟩:=qq;unfold fF at w;refine gS R w λm d v F' H' w' s R' rp fr=>?_;cases m with
 | fr=>exact (show False from w').elim
 | bo=>exact (show False from w').elim
 | fz =>
 cases eg:aI t d ρ with
 | none=>rw[eg] at w';exact (show False from w').elim
 | some ρ'=>rw[eg] at w';have rv:aC X.K F' d v:=rp;exact nU t R' rv eg λσ' R'' _ _=>w' σ' F' H' (aH.refl _) R''
def cK(t:Rho->Res)(b:Rho->aB):Nat->Rho->aB
 | 0,_=>.stuck
 | n+1,ρ=>(t ρ).thS ρ λ_ d=>match d with
  | .bl true=>(match b ρ with
   | .nx ρ'=>cK t b n ρ'
   | .ct ρ'=>cK t b n ρ'
   | .bk ρ'=>.nx ρ'
   | r=>r)
  | .bl false=>.nx ρ
  | _=>.stuck
theorem aIL{c:Expr}{body:List Stmt}{t:Rho->Res}{b:Rho->aB}(n:Nat)(hp:PassesOwn (model X.prog X.w) X.A X.env X.xe)(hc:PTv C X c t)(hb:PBv C X body b):PSv C X (.While c body [] pos) (cK t b n):=by
 refine PS.imp (aDC hp hc hb) λEn σ H q=>?_;obtain ⟨ρ,F,R,w⟩:=q;refine ⟨λm σ H=>∃ ρ F,aW X.K C.F0 C.H0 F H σ ρ/\bU (C.at X) F (cK t b m ρ) En,⟨n,ρ,F,R,w⟩,?_⟩;rintro m σ H ⟨ρ,F,R,w⟩;refine ⟨ρ,F,R,?_⟩;cases m with
 | zero=>exact w.elim
 | succ m =>
  unfold cK at w;cases et:t ρ with
  | stuck=>rw[et] at w;exact w
  | exc c=>rw[et] at w;exact λF' H' s=>w σ F' H' s.fsame (R.step s)
  | ok md d =>
   rw[et] at w;cases d with
   | bl k =>
    intro F' H' s;cases k with
    | false=>rw[if_neg aP5];exact w σ F' H' s.fsame (R.step s)
    | true =>
     rw[if_pos rfl];have w:bU (C.at X) F (match b ρ with | .nx ρ'=>cK t b m ρ' | .ct ρ'=>cK t b m ρ' | .bk ρ'=>.nx ρ' | r=>r) En:=w
     refine ⟨λσ' H'=>∃ ρ F,aW X.K C.F0 C.H0 F H' σ' ρ/\bU (C.at X) F (cK t b m ρ) En,λσ' H' h=>⟨m,Nat.lt_succ_self _,h⟩,ρ,F',R.step s,?_⟩;cases eb:b ρ with
     | nx ρ'=>rw[eb] at w;exact λσ2 F2 H2 z R2=>⟨ρ',F2,R2,bU.mono (s.fsame.trans z) w⟩
     | ct ρ'=>rw[eb] at w;exact λσ2 F2 H2 z R2=>⟨ρ',F2,R2,bU.mono (s.fsame.trans z) w⟩
     | bk ρ'=>rw[eb] at w;exact λσ2 F2 H2 z R2=>w σ2 F2 H2 (s.fsame.trans z) R2
     | rt md d=>rw[eb] at w;exact w
     | exc c ρ'=>rw[eb] at w;exact λσ2 F2 H2 z R2=>w σ2 F2 H2 (s.fsame.trans z) R2
     | stuck=>rw[eb] at w;exact w.elim
   | _=>exact w.elim
def jS(i j:Nat)(ρ:Rho)(r:aT):aB:=match r with
 | .ok [(.fz,d),(.fz,e)]=>.nx ((ρ.set i (some (false,d))).set j (some (false,e)))
 | .exc c=>.exc c ρ
 | _=>.stuck
theorem aIM{i j:Nat}{x y:Str}{a b:Expr}{gs:Rho->aT}{px py pt:Pos}{kt k2 pt2}(hc:X.calm=true)(hN:X.N.Nodup)(hi:X.N[i]? = some x)(hj:X.N[j]? = some y)(hij:i≠j)(hx:X.env.scope.names.lookup x=some .local)(hy:X.env.scope.names.lookup y=some .local)(ha:PAv C X [a,b] gs)(hw:swappedStores [.Tuple [.Name x px,.Name y py] kt pt] (.Tuple [a,b] k2 pt2) X.env=pure (some [x,y])):PSv C X (.Assign [.Tuple [.Name x px,.Name y py] kt pt] (.Tuple [a,b] k2 pt2) pos) (λρ=>jS i j ρ (gs ρ)):=by
 refine PS.imp (aDA hc hN hi hj hij hx hy ha hw) λEn σ H q=>?_;obtain ⟨ρ,F,R,w⟩:=q;dsimp only at w;refine ⟨ρ,F,R,?_⟩;cases er:gs ρ with
 | stuck=>rw[er] at w;exact w
 | exc c=>rw[er] at w;exact λF' H' s=>w σ F' H' s.fsame (R.step s)
 | ok xs =>
  rw[er] at w;unfold jS at w;split at w
  . rename_i d e hxs;cases hxs;intro vs F' H' s rl;obtain ⟨v,u,rfl,r1,r2⟩:=rl.two;refine ⟨v,u,rfl,w _ F' H' s.fsame ?_⟩;have R1:=R.set (i:=i) (m:=false) s r1 (by intro z;cases z)
    exact R1.set (i:=j) (m:=false) (.refl R1.sub) r2 (by intro z;cases z)
  . rename_i hxs;cases hxs
  . exact w.elim
end
section
variable {C:Cw}{X:Cx}{e:Expr}{g:Rho->Res}{pos p:Pos}
theorem wX{t:Tg}{tgN:List Str}{aG:List Nat}{gi gt ge:Rho->Res}(hsl:∀ j∈eQ t,aG.length<=j){σ:L2.St}{H:Hp}{Q:VK}(q:tG (C.at X) (λρ=>bX (gi ρ) ρ aG tgN.length (aI t) gt ge) σ H Q):lH aG tgN.length (tIv (C.at X) gi) (gOf X.K t) (tT (C.nox.at X) gt) (tG (C.nox.at X) λρ=>bG (ge ρ)) σ H Q:=by
 rw[bA] at q;obtain ⟨ρ,F,RS,w⟩:=q;unfold lH;refine ⟨ρ,F,RS,?_⟩;cases er:gi ρ with
 | stuck=>rw[er] at w;exact w
 | exc c=>rw[er] at w;exact w
 | ok m d =>
  rw[er] at w;cases d with
  | lst ds =>
   unfold bX at w;rw[Res.thn_ok] at w;dsimp only at w;split at w
   . rename_i hsz;intro J F1 H1 s1 hJ Da hDa;cases et:bH (aI t) gt ge (cF aG ρ++List.replicate tgN.length none) ds with
     | none=>rw[et] at w;exact w.elim
     | some total =>
      rw[et] at w;have hD0:H Da=none:=s1.same.free hDa;have hF1:F1 Da=none:=s1.sub.free hDa;have R0:=aHJ aG tgN.length RS;refine ⟨λi m ys H'=>m=ds.length-i/\i<=ds.length/\H' Da=some (.lst ys)/\∃ F' zs,aN F H F' H'/\aH F1 F'/\F' Da=none/\aE X.K F' zs ys/\zs.length<=i /\
       ∃ aZ,bH (aI t) gt ge (cF aG ρ++List.replicate tgN.length none) (ds.drop i)=some aZ/\total=zs++aZ,
       ⟨ds.length,by simp,aRK _,bV,F1,[],s1.upd hD0 hF1,aH.refl _,hF1,aE.nil,aP8 _,total,by simpa using et,rfl⟩,?_⟩
      rintro i m ys H' ⟨rfl,hile,hD,F',zs,st,sF,hFD,rz,hzl,aZ,ec,etot⟩;refine ⟨hD,?_⟩;by_cases hlt:i<ds.length
      . refine .inr ⟨hJ.go i H' (sF.trans st.sub) hlt,by rw[rz.length];omega,λv H2 y=>?_⟩
        obtain ⟨F2,d,ed,s2,rd⟩:=hJ.yld i F' H' v H2 sF st.sub hlt y;have hd:ds.drop i=d::ds.drop (i+1):=by rw[aR6 hlt];rw[aR1 hlt] at ed;cases ed;rfl
        rw[hd] at ec;unfold bH at ec;have hD2:H2 Da=some (.lst ys):=s2.same _ _ hD;have hF2:F2 Da=none:=s2.new _ hFD (by rw[hD];exact λz=>nomatch z)
        cases eg:aI t d (cF aG ρ++List.replicate tgN.length none) with
        | none=>rw[eg] at ec;cases ec
        | some ρ1 =>
        rw[eg] at ec;dsimp only at ec;have R2:=(R0.step st).step s2;refine nU t R2 rd eg λσ1 R1 len1 keep1=>?_;refine ⟨⟨len1.symm,λj u ej=>?_⟩,ρ1,F2,R1,?_⟩
        . by_cases hj:j∈eQ t
          . have:=hsl j hj;rw[aQK (by simpa[dR] using this),aQL] at ej
            split at ej <;> cases ej
          . rw[keep1 j hj];exact ej
        cases ett:gt ρ1 with
        | stuck=>rw[ett] at ec;cases ec
        | exc c=>rw[ett] at ec;cases ec
        | ok mt dt =>
         cases dt with
         | bl b =>
          rw[ett] at ec;intro F3 H3 s3;have hD3:H3 Da=some (.lst ys):=s3.same _ _ hD2;have hF3:F3 Da=none:=s3.new _ hF2 (by rw[hD2];exact λz=>nomatch z)
          cases b with
          | false=>rw[if_neg aP5];exact ⟨ds.length-(i+1),by omega,rfl,hlt,hD3,F3,zs,(st.trans s2).trans s3,(sF.trans s2.fsame).trans s3.fsame,hF3,rz.mono (s2.fsame.trans s3.fsame) _ _,Nat.le_succ_of_le hzl,aZ,ec,etot⟩
          | true =>
           rw[if_pos rfl,bA];refine ⟨_,F3,R1.step s3,?_⟩;dsimp only at ec;cases ee:bG (ge ρ1) with
           | stuck=>rw[ee] at ec;cases ec
           | exc c=>rw[ee] at ec;cases ec
           | ok me ye =>
            rw[ee] at ec;dsimp only at ec;have hme:me=.fz:=by
             cases h:ge ρ1 with
             | ok m' d'=>rw[h] at ee;cases m' <;> cases ee <;> rfl
             | exc c=>rw[h] at ee;cases ee
             | stuck=>rw[h] at ee;cases ee
            subst hme;cases er2:bH (aI t) gt ge (cF aG ρ++List.replicate tgN.length none) (ds.drop (i+1)) with
            | none=>rw[er2] at ec;cases ec
            | some rest' =>
             rw[er2] at ec;cases ec;intro u F4 H4 s4 ru _;have hD4:H4 Da=some (.lst ys):=s4.same _ _ hD3;have hF4:F4 Da=none:=s4.new _ hF3 (by rw[hD3];exact λz=>nomatch z)
             refine ⟨hD4,ds.length-(i+1),by omega,rfl,hlt,bV,F4,zs++[ye],(((st.trans s2).trans s3).trans s4).upd hD0 hF4,((sF.trans s2.fsame).trans s3.fsame).trans s4.fsame,hF4,?_,by simp;omega,rest',er2,by rw[etot];simp⟩
             exact aE.append (rz.mono ((s2.fsame.trans s3.fsame).trans s4.fsame) _ _) (aE.cons ru aE.nil)
         | _=>rw[ett] at ec;cases ec
      . have ei:i=ds.length:=by omega
        subst ei;rw[aR7] at ec;cases ec;rw[aQF] at etot;subst etot;exact .inl ⟨hJ.stop _ H' (sF.trans st.sub) (aP8 _),w (.ref Da) F' H' st ⟨Da,rfl,hFD,ys,hD,rz⟩ λ_ a ea=>by cases ea;exact hD0⟩
   . exact w.elim
  | _=>exact w.elim
theorem aIN{aQ elt tg:Expr}{t:Tg}{tgN:List Str}{ifs:List Expr}{scope:Scope}{aG:List Nat}{aJ:List Str}{gi gt ge:Rho->Res}(hc:X.calm=true)(hi:PIv C X tg aQ gi)(cV:∀ y∈scope.names,y.2 ≠ .cell)(dL:scope.kind=.function)(eY:∀ y∈scope.names,y.2=.local->scope.names.lookup y.1=some .local)(dM:∀ y∈scope.names,y.2=.free->X.env.kindOf y.1=some .cell\/X.env.kindOf y.1=some .free)(d9:aJ.map some=aG.map λi=>X.N[i]?)(e6:∀ y∈aJ,(y,NameKind.free)∈scope.names)(eZ:∀ y∈aJ,(relabel scope X.env).names.lookup y=some .cell\/(relabel scope X.env).names.lookup y=some .free)(hsl:∀ j∈eQ t,aG.length<=j)(hg:∀ cl A fp s3 H3,PGw (bJ X scope (aJ++tgN) cl A fp s3 H3) tg t)(hf:∀ cl A fp s3 H3,dD (bJ X scope (aJ++tgN) cl A fp s3 H3) ifs (tT (C.nox.at X) gt))(he:∀ cl A fp s3 H3,PV C.nox (bJ X scope (aJ++tgN) cl A fp s3 H3) elt ge)(hs:∀ x,foldedSetIterable aQ X.env x=pure x:=by intro _;rfl):PV C X (.ListComp elt [⟨tg,aQ,ifs,0⟩] scope pos) (λρ=>bX (gi ρ) ρ aG tgN.length (aI t) gt ge):=by
 have capLen:aJ.length=aG.length:=by simpa using congrArg List.length d9
 refine PE.imp (aHF (aJ:=aJ) (tgN:=tgN) (gt:=gOf X.K t) (tt:=tT (C.nox.at X) gt) (te:=tG (C.nox.at X) λρ=>bG (ge ρ)) hc hi cV dL eY dM d9 e6 eZ
  hg hf (λcl A fp s3 H3=>gQ (he cl A fp s3 H3)) hs) λσ H Q q=>wX hsl q
theorem aIO(fz:Bool){i:Nat}{x:Str}{pos' spos:Pos}{aQ elt tg:Expr}{t:Tg}{tgN:List Str}{ifs:List Expr}{scope:Scope}{aG:List Nat}{aJ:List Str}{gi gt ge:Rho->Res}(hc:X.calm=true)(hi:PIv C X tg aQ gi)(cV:∀ y∈scope.names,y.2 ≠ .cell)(dL:scope.kind=.function)(eY:∀ y∈scope.names,y.2=.local->scope.names.lookup y.1=some .local)(dM:∀ y∈scope.names,y.2=.free->X.env.kindOf y.1=some .cell\/X.env.kindOf y.1=some .free)(d9:aJ.map some=aG.map λi=>X.N[i]?)(e6:∀ y∈aJ,(y,NameKind.free)∈scope.names)(eZ:∀ y∈aJ,(relabel scope X.env).names.lookup y=some .cell\/(relabel scope X.env).names.lookup y=some .free)(hsl:∀ j∈eQ t,aG.length<=j)(hg:∀ cl A fp s3 H3,PGw (bJ X scope (aJ++tgN) cl A fp s3 H3) tg t)(hf:∀ cl A fp s3 H3,dD (bJ X scope (aJ++tgN) cl A fp s3 H3) ifs (tT (C.nox.at X) gt))(he:∀ cl A fp s3 H3,PV C.nox (bJ X scope (aJ++tgN) cl A fp s3 H3) elt ge)(hN:X.N.Nodup)(hx:X.N[i]? = some x)(hk:X.env.scope.names.lookup x=some .local)(hsw:swapsWith (.ListComp elt [⟨tg,aQ,ifs,0⟩] scope pos) (some (.Name x pos')) spos.line X.env=pure true)(hs:∀ x,foldedSetIterable aQ X.env x=pure x:=by intro _;rfl):PSv C X (.Assign [.Name x pos'] (.ListComp elt [⟨tg,aQ,ifs,0⟩] scope pos) spos) (λρ=>eC ρ i (if fz=true then bG (bX (gi ρ) ρ aG tgN.length (aI t) gt ge) else bX (gi ρ) ρ aG tgN.length (aI t) gt ge)):=by
 refine PS.imp (aHG (aJ:=aJ) (tgN:=tgN) (gt:=gOf X.K t) (tt:=tT (C.nox.at X) gt) (te:=tG (C.nox.at X) λρ=>bG (ge ρ)) hc hi cV dL eY dM d9 e6 eZ
  hg hf (λcl A fp s3 H3=>gQ (he cl A fp s3 H3)) hN hx hk hsw hs) λE σ H q=>wX hsl ?_
 cases fz with
 | false=>exact qY q
 | true=>have q:=qY q;unfold kU at q;rw[bA] at q ⊢;obtain ⟨ρ,F,R,w⟩:=q;exact ⟨ρ,F,R,a8.frz w⟩
end
def rN:D->Option Str
 | .str z=>some z
 | .int i=>if nS i=true then some (jR i) else none
 | _=>none
def nV(r:Res):Res:=r.thn λ_ d=>match rN d with | some z=>.ok .fz (.str z) | none=>.stuck
section
variable {C:Cw}{X:Cx}{e:Expr}{g:Rho->Res}{pos p:Pos}
theorem aIP(he:PV C X e g):PV C X (.FormattedValue e (-1) none pos) (λρ=>nV (g ρ)):=by
 intro aA s σ H Q I q;rw[bA] at q;obtain ⟨ρ,F,R,w⟩:=q;refine FormattedValue_plain (thn (he aA s σ H (λv H1=>∃ F1 m d,aN F H F1 H1/\Rp X.K F1 H1 m d v/\g ρ=.ok m d) I ?_) λu s1 ⟨v,H1,I1,rv,F1,m,d,st1,rp,eg⟩=>?_)
 . rw[bA];refine ⟨ρ,F,R,?_⟩;cases er:g ρ with
   | stuck=>rw[er] at w;exact w
   | exc c=>rw[er] at w;exact w
   | ok m d=>exact λv F1 H1 s1 r1 _=>⟨F1,m,d,s1,r1,rfl⟩
 . rw[eg] at w;have w1:a8 (C.at X) F1 H1 σ (match rN d with | some z=>.ok .fz (.str z) | none=>.stuck) Q:=a8.step st1 w
   cases d with
   | str z=>obtain ⟨rfl,hz,hk⟩:=rp.str;obtain ⟨t,rfl⟩:=rv;exact formatField_str (λt' tk=>⟨.str z,H1,I1.tok _,⟨_,rfl⟩,w1 _ F1 H1 (.refl st1.sub) (eN ⟨hz,hk⟩) (by intro z;cases z)⟩) hz
   | int i =>
    cases rp.int;obtain ⟨t,rfl⟩:=rv;unfold rN at w1;dsimp only at w1;split at w1
    . rename_i z hz;split at hz
      . rename_i hs;cases hz;have hl:i.natAbs.log2<1920:=aRM hs;have h1:(jR i).length<=1921:=int_text_len_1921 hl;have hzz:sizeLine=16777216:=aQD;exact formatField_int_small hl ⟨.str (jR i),H1,I1.tok _,⟨_,rfl⟩,w1 _ F1 H1 (.refl st1.sub) (eN ⟨by omega,wW i⟩) (by intro z;cases z)⟩
      . cases hz
    . exact w1.elim
   | _=>exact w1.elim
end
def fW(out:Str):List (Rho->Res)->Rho->Res
 | [],_=>if out.length<=sizeLine then .ok .fz (.str out) else .stuck
 | g::gs,ρ=>(g ρ).thn λ_ d=>match d with
  | .str y=>if (out++y).length<=sizeLine then fW (out++y) gs ρ else .stuck
  | _=>.stuck
inductive PVL(C:Cw)(X:Cx):List Expr->List (Rho->Res)->Prop where
 | nil:PVL C X [] []
 | cons {e:Expr} {g:Rho->Res} {es:List Expr} {gs:List (Rho->Res)} (h:PV C X e g) (r:PVL C X es gs):PVL C X (e::es) (g::gs)
theorem wY{C:Cw}{X:Cx}:∀ {es:List Expr} {gs:List (Rho->Res)},PVL C X es gs->∀ (out:Str) (aA:LAO) (s:Shared) (σ:L2.St) (H F:Hp) (ρ:Rho) (Q:VK),PyData.strOk out=true->Inv X aA σ H s->aW X.K C.F0 C.H0 F H σ ρ->a8 (C.at X) F H σ (fW out gs ρ) Q->wpAny (model X.prog X.w) X.A (joinParts out (evalEach es X.env)) (EP X aA σ Q) X.xe s
 | _,_,.nil,out,aA,s,σ,H,F,ρ,Q,hk,I,R,w=>by
  unfold fW at w;split at w
  . rename_i hl;exact joinParts_nil ⟨.str out,H,I.tok _,⟨_,rfl⟩,w _ F H (.refl R.sub) (eN ⟨hl,hk⟩) (by intro z;cases z)⟩ hl
  . exact w.elim
 | _,_,.cons (e:=e) (g:=g) (gs:=gs) h r,out,aA,s,σ,H,F,ρ,Q,hk,I,R,w=>by
  refine joinParts_cons (thn (h aA s σ H (λv H1=>∃ F1 m d,aN F H F1 H1/\Rp X.K F1 H1 m d v/\g ρ=.ok m d) I ?_) λu s1 ⟨v,H1,I1,rv,F1,m,d,st1,rp,eg⟩=>?_)
  . rw[bA];refine ⟨ρ,F,R,?_⟩;unfold fW at w;cases er:g ρ with
    | stuck=>rw[er] at w;exact w
    | exc c=>rw[er] at w;exact w
    | ok m d=>exact λv F1 H1 s1 r1 _=>⟨F1,m,d,s1,r1,rfl⟩
  . unfold fW at w;rw[eg] at w;cases d with
    | str y =>
     have w1:a8 (C.at X) F1 H1 σ (if (out++y).length<=sizeLine then fW (out++y) gs ρ else .stuck) Q:=a8.step st1 w;split at w1
     . rename_i hl;obtain ⟨rfl,hz,hy⟩:=rp.str;obtain ⟨t,rfl⟩:=rv;exact ⟨hl,wY r (out++y) aA s1 σ H1 F1 ρ Q (vX hk hy) I1 (R.step st1) w1⟩
     . exact w1.elim
    | _=>exact (show False from w).elim
theorem aIQ{C:Cw}{X:Cx}{e1 e2:Expr}{es:List Expr}{gs:List (Rho->Res)}{pos:Pos}(h:PVL C X (e1::e2::es) gs):PV C X (.JoinedStr (e1::e2::es) pos) (fW Str.empty gs):=by intro aA s σ H Q I q;rw[bA] at q;obtain ⟨ρ,F,R,w⟩:=q;exact JoinedStr_many (wY h Str.empty aA s σ H F ρ Q (by decide +kernel) I R w)
section
open PySem.SeqAt
open PySem.AutoSeq1 (wpAny_loadPart')
open PySem.MeetsSeq PySem.MeetsSeq2 PySem.MeetsSeq3
end
section
variable {prog:Program}{w:World}{A:Around}{E:VSP}{s:Shared}
end
section
variable {C:Cw}{X:Cx}
def jT:List (Md×D)->Option (Md×D):=λxs=>match xs with
 | [(_,.str z)]=>if z.length<=640 then (PySem.intText? z).map λn=>(.fz,.int n) else none
 | _=>rJ xs
theorem aIR:dQ X (.type "int") jT:=by
 obtain ⟨r,h1,h2⟩:=aH6 (X:=X);refine ⟨λxs H Q=>r xs H Q\/∃ z n,xs=[.str z]/\z.length<=640/\PySem.intText? z=some n/\Q (.int n) H,?_,λF H xs vs k d Q s rx e w=>?_⟩
 . intro aA s σ H xs us Q I rr h;rcases h with h | ⟨z,n,rfl,hl,hn,q⟩
   . exact h1 aA s σ H xs us Q I rr h
   . obtain ⟨u,rfl,t,rfl⟩:=fR rr;exact PySem.W.KIN.call_text hn hl ⟨.int n,H,I.tok _,⟨_,rfl⟩,q⟩
 . unfold jT at e;split at e
   . rename_i m z;split at e
     . rename_i hl;cases en:PySem.intText? z with
       | none=>rw[en] at e;cases e
       | some n=>rw[en] at e;cases e;obtain ⟨v,rfl,r0⟩:=rx.one;obtain ⟨rfl,_⟩:=r0.str;exact .inr ⟨z,n,rfl,hl,en,w _ F H (.refl s) (cE _) (by intro z;cases z)⟩
     . cases e
   . exact .inl (h2 F H xs vs k d Q s rx e w)
def nW:Md->D->Md->D->Option (Md×D):=λ_ x _ y=>match x,y with
 | .str z,.int n=>if (decide (n<1)&&decide (-1000<=n))=true then some (.fz,.str Str.empty) else none
 | _,_=>none
theorem aIS:OpD C X (binaryOp .Mult) nW:=by
 refine ⟨λx y H Q=>∃ z n,x=.str z/\y=.int n/\n<1 /\ -1000<=n/\Q (.str Str.empty) H,?_,?_⟩
 . intro aA s σ H x y v u Q I rx ry h;obtain ⟨z,n,rfl,rfl,h1,h2,q⟩:=h;obtain ⟨t,rfl⟩:=rx;obtain ⟨t',rfl⟩:=ry;exact PySem.P.mul_str_none h1 (by omega) ⟨.str Str.empty,H,I.tok _,⟨_,rfl⟩,q⟩
 . intro F H m x n y v u k d Q s rx ry e w;unfold nW at e;split at e
   . rename_i z i;obtain ⟨rfl,hz,hk⟩:=rx.str;cases ry.int;split at e
     . rename_i hc;simp only[aQ8,aRL] at hc;cases e;exact ⟨z,i,rfl,rfl,hc.1,hc.2,w _ F H (.refl s) (eN ⟨by decide +kernel,by decide +kernel⟩) (by intro z;cases z)⟩
     . cases e
   . cases e
end
section
open PySem.SeqAt
open PySem.AutoSeq1 (wpAny_loadPart')
open PySem.MeetsSeq PySem.MeetsSeq2 PySem.MeetsSeq3
variable {prog:Program}{w:World}{A:Around}{E:VSP}{s:Shared}
theorem iQ{it t:Addr}{i:Nat}{xs:Array Value}{x:Value}{Q:VSP}(hi:s.heap.IsTupleIter it t i)(ht:IsTup s.heap t xs)(hx:xs[i]? = some x)(q:∀ h',h'.IsTupleIter it t (i+1)->Heap.SameBut it s.heap h'->Q x { s with heap:=h' }):wpAny (model prog w) A (Builtin.SmallTypes.nextOf (.ref it)) Q E s:=by
 have ty:=hi.typeIs;obtain ⟨o,ho,hc,hd⟩:=hi;obtain ⟨p,hp,_,n,hs⟩:=ht
 delta Builtin.SmallTypes.nextOf
 apply aPZ;apply aQ4 (name:=Str.ofString "__next__") ty aSJ;refine aQ6 aSJ ty aSK ?w (aSL _)
 case w =>
  refine aPZ (m:=field (.ref it) 0) (aQ1 ho hd (x:=.ref t) rfl ?_);rw[show (Value.ref t==Value.none)=false from rfl,if_neg aP5]
  refine aPZ (m:=field (.ref it) 1) (aQ1 ho hd (x:=.int i 0) rfl ?_);apply aPZ;apply aSM hp hs;rw[aQY];simp only[hx];apply aPZ;apply wpAny_setField ho hd (by simp)
  refine aP1 ⟨x,rfl,aP1 (q _ ⟨_,Heap.get?_update_self _ ho (Obj.isFreed_of_fields (Obj.data_mapFields hd _)),?_,?_⟩ (Heap.SameBut.update ..))⟩
  . rw[Obj.cls_mapFields,hc]
  . rw[Obj.data_mapFields hd];simp[rawInt]
theorem jU{it t:Addr}{i:Nat}{xs:Array Value}{Q:VSP}(h0:A.handled=none)(hi:s.heap.IsTupleIter it t i)(ht:IsTup s.heap t xs)(hx:xs[i]? = none)(q:∀ h' e,Heap.ExtBut it s.heap h'->(∃ o,h'.get? e=some o/\o.cls=.type "StopIteration")->E (.ref e) { s with heap:=h' }):wpAny (model prog w) A (Builtin.SmallTypes.nextOf (.ref it)) Q E s:=by
 have ty:=hi.typeIs;obtain ⟨o,ho,hc,hd⟩:=hi;obtain ⟨p,hp,_,n,hs⟩:=ht
 delta Builtin.SmallTypes.nextOf
 apply aPZ;apply aQ4 (name:=Str.ofString "__next__") ty aSJ;refine aQ6 aSJ ty aSK ?w (aSL _)
 case w =>
  refine aPZ (m:=field (.ref it) 0) (aQ1 ho hd (x:=.ref t) rfl ?_);rw[show (Value.ref t==Value.none)=false from rfl,if_neg aP5]
  refine aPZ (m:=field (.ref it) 1) (aQ1 ho hd (x:=.int i 0) rfl ?_);apply aPZ;apply aSM hp hs;rw[aQY];simp only[hx];apply aPZ;apply aP3;apply aPZ;apply wpAny_setField ho hd (by simp)
  refine aPZ (m:=newExc (.type "StopIteration") []) ?_;simp only[newExc,newTuple];apply aPZ;refine aP2 ?_ (by size_fits)
  apply aPZ (m:=firstArgMember _ _);refine wpAny_of_eq (a:=.none) ?_ ?_
  . first | rfl | (unfold firstArgMember;rfl)
  refine aP2 (hd:=by size_fits) ?_
  simp only[raiseNew];apply aPZ;apply wpAny_handled
  first | rw[show A.in1.handled=none from h0] | rw[h0]
  refine wpAny_throw ?_;exact q _ _ ((Heap.SameBut.extBut (Heap.SameBut.update ..)).push _ |>.push _) ⟨_,aPF _ rfl,rfl⟩
theorem cL{h h':Heap}{a:Addr}{xs:Array Value}(x:IsTup h a xs)(k:∀ o,h.get? a=some o->h'.get? a=some o):IsTup h' a xs:=by obtain ⟨o,ho,r⟩:=x;exact ⟨o,k o ho,r⟩
theorem aIT{z TI TO i j l m:Addr}{ki kj:Nat}{xs ys:Array Value}{x y a b:Value}{Q:VSP}(D:ZipApart z TI TO i j l m)(hz:IsZip s.heap z TI TO .none)(hI:IsPair s.heap TI (.ref i) (.ref j))(hO:IsPair s.heap TO a b)(hi:s.heap.IsTupleIter i l ki)(hj:s.heap.IsTupleIter j m kj)(hl:IsTup s.heap l xs)(hm:IsTup s.heap m ys)(hx:xs[ki]? = some x)(hy:ys[kj]? = some y)(q:∀ h',IsZip h' z TI TO (rawInt s.heap.objs.size)->IsPair h' TO x y->h'.IsTupleIter i l (ki+1)->h'.IsTupleIter j m (kj+1)->IsPair h' s.heap.objs.size x y->h'.objs.size=s.heap.objs.size+1->(∀ c o,c≠z->c≠TO->c≠i->c≠j->s.heap.get? c=some o->h'.get? c=some o)->Q (.ref s.heap.objs.size) { s with heap:=h' }):wpAny (model prog w) A (Builtin.«zip.__next__» ⟨[.ref z],[]⟩) (λf s'=>∃ v,f=.done (.ret v)/\Q v s') E s:=by
 refine aPZ (m:=field (.ref z) 2) (aQ1 hz rfl (x:=.bool false) rfl ?_);refine aPZ (m:=field (.ref z) 3) (aQ1 hz rfl (x:=.ref TI) rfl ?_);apply aPZ;apply aSM hI rfl;refine aPZ (m:=Builtin.SmallTypes.ownedTupleIsFree (.ref z)) ?_
 delta Builtin.SmallTypes.ownedTupleIsFree
 apply aPZ;refine aQ1 hz rfl (x:=.none) rfl ?_;apply aP1;simp only[aQ0];apply aPZ;apply aP3;apply aPZ;refine aQ1 hz rfl (x:=.ref TO) rfl ?_;apply aPZ;refine aSN hz (by simp) λH1 z1 s1=>?_
 have z1:IsZip H1 z TI TO .ellipsis:=z1;apply aPZ;simp only[List.zipIdx_cons,List.zipIdx_nil,aR9,aR8];apply aPZ;apply aPZ;apply aSO;refine aPZ (m:=Builtin.SmallTypes.nextOf (.ref i)) ?_;refine iQ (hi.extBut s1.extBut D.i1z) (cL hl λo e=>s1.extBut _ o D.l1z e) hx λH2 i2 s2=>?_;apply aP1;have o2:IsPair H2 TO a b:=s2.extBut _ _ D.TOi1 (s1.extBut _ _ D.TOz hO);apply aPZ;apply aSM o2 rfl;apply aPZ;refine aSP o2 λH3 o3 s3=>?_;have o3:IsPair H3 TO x b:=o3;apply aPZ;apply wpAny_letGo;apply aP1;apply aPZ;apply aPZ;apply aSO;refine aPZ (m:=Builtin.SmallTypes.nextOf (.ref j)) ?_;have j3:H3.IsTupleIter j m kj:=((hj.extBut s1.extBut D.i2z).extBut s2.extBut D.i12.symm).extBut s3.extBut D.TOi2.symm;have m3:IsTup H3 m ys:=cL hm λo e=>s3.extBut _ o D.l2TO (s2.extBut _ o D.l2i1 (s1.extBut _ o D.l2z e));refine iQ j3 m3 hy λH4 j4 s4=>?_;apply aP1;have o4:IsPair H4 TO x b:=s4.extBut _ _ D.TOi2 o3;apply aPZ;apply aSM o4 rfl;apply aPZ;refine aSP o4 λH5 o5 s5=>?_;have o5:IsPair H5 TO x y:=o5;apply aPZ;apply wpAny_letGo;refine aP1 (aP1 ?_);apply aPZ;apply aSM o5 rfl;apply aPZ;refine wpAny_newTuple ?_;have sz:H5.objs.size=s.heap.objs.size:=by rw[s5.1,s4.1,s3.1,s2.1,s1.1]
 have z5:IsZip H5 z TI TO .ellipsis:=s5.extBut _ _ D.TOz.symm (s4.extBut _ _ D.i2z.symm (s3.extBut _ _ D.TOz.symm (s2.extBut _ _ D.i1z.symm z1)));have k5:∀ c o,c≠z->c≠TO->c≠i->c≠j->s.heap.get? c=some o->H5.get? c=some o:=λc o c1 c2 c3 c4 e =>
  s5.extBut _ _ c2 (s4.extBut _ _ c4 (s3.extBut _ _ c2 (s2.extBut _ _ c3 (s1.extBut _ _ c1 e))))
 have i5:H5.IsTupleIter i l (ki+1):=((i2.extBut s3.extBut D.TOi1.symm).extBut s4.extBut D.i12).extBut s5.extBut D.TOi1.symm;have j5:H5.IsTupleIter j m (kj+1):=j4.extBut s5.extBut D.TOi2.symm;have zl:z<H5.objs.size:=aPG z5;refine aPZ (m:=Builtin.SmallTypes.ownedTupleHandOut (.ref z) (.ref H5.objs.size)) ?_
 delta Builtin.SmallTypes.ownedTupleHandOut
 have z6:IsZip (H5.push { cls:=.type "tuple", data:=.seq #[x,y] }) z TI TO .ellipsis:=hps z5;apply aPZ;refine aSN z6 (by simp) λH7 z7 s7=>?_
 have z7:IsZip H7 z TI TO (rawInt H5.objs.size):=z7;refine aSN z7 (by simp) λH8 z8 s8=>?_
 have z8:IsZip H8 z TI TO (rawInt H5.objs.size):=z8;have up:∀ c o,c≠z->H5.get? c=some o->H8.get? c=some o:=λc o c1 e=>s8.extBut _ _ c1 (s7.extBut _ _ c1 (hps e));have t8:IsPair H8 H5.objs.size x y:=s8.extBut _ _ (aP6 zl) (s7.extBut _ _ (aP6 zl) (aPF _ rfl));have n8:H8.objs.size=H5.objs.size+1:=by rw[s8.1,s7.1,aSE]
 rw[sz] at z8 t8 n8;apply aP1;refine ⟨_,rfl,?_⟩;show Q (.ref H5.objs.size) _;rw[sz];exact q H8 z8 (up _ _ D.TOz o5) (i5.at λo e=>up _ o D.i1z e) (j5.at λo e=>up _ o D.i2z e) t8 n8 λc o c1 c2 c3 c4 e=>up c o c1 (k5 c o c1 c2 c3 c4 e)
theorem aIU{z TI TO i j l m:Addr}{ki kj:Nat}{xs ys:Array Value}{a b:Value}{Q:Fin->Shared->Prop}(h0:A.handled=none)(D:ZipApart z TI TO i j l m)(hz:IsZip s.heap z TI TO .none)(hI:IsPair s.heap TI (.ref i) (.ref j))(hO:IsPair s.heap TO a b)(hi:s.heap.IsTupleIter i l ki)(hj:s.heap.IsTupleIter j m kj)(hl:IsTup s.heap l xs)(hm:IsTup s.heap m ys)(hn:xs[ki]? = none\/ys[kj]? = none)(q:∀ h' e,(∀ c o,c≠z->c≠TO->c≠i->c≠j->s.heap.get? c=some o->h'.get? c=some o)->(∃ o,h'.get? e=some o/\o.cls=.type "StopIteration")->E (.ref e) { s with heap:=h' }):wpAny (model prog w) A (Builtin.«zip.__next__» ⟨[.ref z],[]⟩) Q E s:=by
 refine aPZ (m:=field (.ref z) 2) (aQ1 hz rfl (x:=.bool false) rfl ?_);refine aPZ (m:=field (.ref z) 3) (aQ1 hz rfl (x:=.ref TI) rfl ?_);apply aPZ;apply aSM hI rfl;refine aPZ (m:=Builtin.SmallTypes.ownedTupleIsFree (.ref z)) ?_
 delta Builtin.SmallTypes.ownedTupleIsFree
 apply aPZ;refine aQ1 hz rfl (x:=.none) rfl ?_;apply aP1;simp only[aQ0];apply aPZ;apply aP3;apply aPZ;refine aQ1 hz rfl (x:=.ref TO) rfl ?_;apply aPZ;refine aSN hz (by simp) λH1 z1 s1=>?_
 have z1:IsZip H1 z TI TO .ellipsis:=z1;apply aPZ;simp only[List.zipIdx_cons,List.zipIdx_nil,aR9,aR8];apply aPZ;apply aPZ;apply aSO;refine aPZ (m:=Builtin.SmallTypes.nextOf (.ref i)) ?_;have i1:=hi.extBut s1.extBut D.i1z;have l1:IsTup H1 l xs:=cL hl λo e=>s1.extBut _ o D.l1z e;cases hx:xs[ki]? with
 | none =>
  refine jU h0 i1 l1 hx λH2 e s2 he=>?_;obtain ⟨oe,g,c⟩:=he;have z2:IsZip H2 z TI TO .ellipsis:=s2 _ _ D.i1z.symm z1;have ez:e≠z:=by rintro rfl;rw[z2] at g;cases g;simp at c
  refine aSN z2 (by simp) λH3 _ s3=>?_
  exact q H3 e (λc o c1 _ c3 _ x=>s3.extBut _ _ c1 (s2 _ _ c3 (s1.extBut _ _ c1 x))) ⟨oe,s3.extBut _ _ ez g,c⟩
 | some x =>
  have hy:ys[kj]? = none:=by
   rcases hn with h | h
   . rw[hx] at h;cases h
   . exact h
  refine iQ i1 l1 hx λH2 i2 s2=>?_;apply aP1;have o2:IsPair H2 TO a b:=s2.extBut _ _ D.TOi1 (s1.extBut _ _ D.TOz hO);apply aPZ;apply aSM o2 rfl;apply aPZ;refine aSP o2 λH3 o3 s3=>?_;apply aPZ;apply wpAny_letGo;apply aP1;apply aPZ;apply aPZ;apply aSO;refine aPZ (m:=Builtin.SmallTypes.nextOf (.ref j)) ?_;have j3:H3.IsTupleIter j m kj:=((hj.extBut s1.extBut D.i2z).extBut s2.extBut D.i12.symm).extBut s3.extBut D.TOi2.symm;have m3:IsTup H3 m ys:=cL hm λo e=>s3.extBut _ o D.l2TO (s2.extBut _ o D.l2i1 (s1.extBut _ o D.l2z e));refine jU h0 j3 m3 hy λH4 e s4 he=>?_;obtain ⟨oe,g,c⟩:=he;have z4:IsZip H4 z TI TO .ellipsis:=s4 _ _ D.i2z.symm (s3.extBut _ _ D.TOz.symm (s2.extBut _ _ D.i1z.symm z1));have ez:e≠z:=by rintro rfl;rw[z4] at g;cases g;simp at c
  refine aSN z4 (by simp) λH5 _ s5=>?_
  exact q H5 e (λc o c1 c2 c3 c4 x=>s5.extBut _ _ c1 (s4 _ _ c4 (s3.extBut _ _ c2 (s2.extBut _ _ c3 (s1.extBut _ _ c1 x))))) ⟨oe,s5.extBut _ _ ez g,c⟩
theorem aIV{z TI TO i j l m:Addr}{ki kj:Nat}{xs ys:Array Value}{x y a b:Value}{Q:Option Value->Shared->Prop}(D:ZipApart z TI TO i j l m)(hz:IsZip s.heap z TI TO .none)(hI:IsPair s.heap TI (.ref i) (.ref j))(hO:IsPair s.heap TO a b)(hi:s.heap.IsTupleIter i l ki)(hj:s.heap.IsTupleIter j m kj)(hl:IsTup s.heap l xs)(hm:IsTup s.heap m ys)(hx:xs[ki]? = some x)(hy:ys[kj]? = some y)(q:∀ h',IsZip h' z TI TO (rawInt s.heap.objs.size)->IsPair h' TO x y->h'.IsTupleIter i l (ki+1)->h'.IsTupleIter j m (kj+1)->IsPair h' s.heap.objs.size x y->h'.objs.size=s.heap.objs.size+1->(∀ c o,c≠z->c≠TO->c≠i->c≠j->s.heap.get? c=some o->h'.get? c=some o)->Q (some (.ref s.heap.objs.size)) { s with heap:=h' }):wpAny (model prog w) A (pyNext (.ref z)) Q E s:=by
 have ty:s.TypeIs (.ref z) "zip" := ⟨_,hz,rfl⟩
 delta pyNext
 apply aPZ;apply aSQ;apply aQ4 (name:=Str.ofString "__next__") ty aSR;refine aQ6 aSR ty aSS ?w (aST _)
 case w=>exact aIT D hz hI hO hi hj hl hm hx hy λh' a1 a2 a3 a4 a5 a6 a7=>aP1 (q h' a1 a2 a3 a4 a5 a6 a7)
theorem aIW{z TI TO i j l m:Addr}{ki kj:Nat}{xs ys:Array Value}{a b:Value}{Q:Option Value->Shared->Prop}(h0:A.handled=none)(D:ZipApart z TI TO i j l m)(hz:IsZip s.heap z TI TO .none)(hI:IsPair s.heap TI (.ref i) (.ref j))(hO:IsPair s.heap TO a b)(hi:s.heap.IsTupleIter i l ki)(hj:s.heap.IsTupleIter j m kj)(hl:IsTup s.heap l xs)(hm:IsTup s.heap m ys)(hn:xs[ki]? = none\/ys[kj]? = none)(q:∀ h',(∀ c o,c≠z->c≠TO->c≠i->c≠j->s.heap.get? c=some o->h'.get? c=some o)->Q none { s with heap:=h' }):wpAny (model prog w) A (pyNext (.ref z)) Q E s:=by
 have ty:s.TypeIs (.ref z) "zip" := ⟨_,hz,rfl⟩
 delta pyNext
 apply aPZ;apply aSQ;apply aQ4 (name:=Str.ofString "__next__") ty aSR;refine aQ6 aSR ty aSS ?w (aST _)
 case w=>refine aIU h0 D hz hI hO hi hj hl hm hn λh' e k he=>?_;obtain ⟨o,g,c⟩:=he;apply aPZ;refine aSU (T := "StopIteration") (b:=true) ⟨o,g,c⟩ isSubtype_stop ?_;exact aP1 (q _ k)
def tIt(l:Addr):Obj:={ cls:=.type "tuple_iterator", data:=.fields #[.ref l,.int 0 0] }
def zp2(h:Heap)(l m:Addr):Heap:=(h.push (tIt l)).push (tIt m)
def zp3(h:Heap)(l m:Addr):Heap:=(zp2 h l m).push { cls:=.type "tuple", data:=.seq #[.ref h.objs.size,.ref (h.push (tIt l)).objs.size] }
def zp4(h:Heap)(l m:Addr):Heap:=(zp3 h l m).push { cls:=.type "tuple", data:=.seq #[.none,.none] }
def zp5(h:Heap)(l m:Addr):Heap:=(zp4 h l m).push { cls:=.type "zip", data:=.fields #[.none,.bool false,.bool false,.ref (zp2 h l m).objs.size,.ref (zp3 h l m).objs.size] }
theorem zs2(h:Heap)(l m:Addr):(zp2 h l m).objs.size=h.objs.size+2:=by unfold zp2;rw[aSE,aSE]
theorem zs3(h:Heap)(l m:Addr):(zp3 h l m).objs.size=h.objs.size+3:=by unfold zp3;rw[aSE,zs2]
theorem zs4(h:Heap)(l m:Addr):(zp4 h l m).objs.size=h.objs.size+4:=by unfold zp4;rw[aSE,zs3]
theorem zs5(h:Heap)(l m:Addr):(zp5 h l m).objs.size=h.objs.size+5:=by unfold zp5;rw[aSE,zs4]
theorem aIX(l m:Addr)(xs ys:Array Value):Meets (Builtin.«zip.__new__» ⟨[.type "zip", .ref l,.ref m],[]⟩) (λ_ R s=>s.heap.IsTuple l xs/\s.heap.IsTuple m ys/\R (.ok (.ret (.ref (zp4 s.heap l m).objs.size))) { s with heap:=zp5 s.heap l m }) :=
 .of_wp λprog w A R s h=>by
  obtain ⟨hp,g,d,tk,os⟩:=s;obtain ⟨hl,hm,h⟩:=h;have f:=sub_zip;have e1:Heap.IsTuple (Shared.heap ⟨hp,g,d,tk,os⟩) l xs:=hl;have e2:Heap.IsTuple (Shared.heap ⟨hp.push { cls:=.type "tuple_iterator", data:=.fields #[.ref l,.int 0 0] },g,d,tk,os⟩) m ys:=Heap.IsTuple.push hm _
  wp_walk using aP9 e1,aP9 e2
  exact ⟨_,rfl,h⟩
theorem aIY{l m:Addr}{xs ys:Array Value}{Q:VSP}(hl:s.heap.IsTuple l xs)(hm:s.heap.IsTuple m ys)(q:∀ h',IsZip h' (s.heap.objs.size+4) (s.heap.objs.size+2) (s.heap.objs.size+3) .none->IsPair h' (s.heap.objs.size+2) (.ref s.heap.objs.size) (.ref (s.heap.objs.size+1))->IsPair h' (s.heap.objs.size+3) .none .none->h'.IsTupleIter s.heap.objs.size l 0->h'.IsTupleIter (s.heap.objs.size+1) m 0->h'.objs.size=s.heap.objs.size+5->(∀ c o,s.heap.get? c=some o->h'.get? c=some o)->Q (.ref (s.heap.objs.size+4)) { s with heap:=h' }):wpAny (model prog w) A (call (.type "zip") [.ref l,.ref m]) Q E s:=by
 have p4:∀ {c:Addr} {o:Obj},(zp4 s.heap l m).get? c=some o->(zp5 s.heap l m).get? c=some o:=λe=>hps e;have p3:∀ {c:Addr} {o:Obj},(zp3 s.heap l m).get? c=some o->(zp5 s.heap l m).get? c=some o:=λe=>p4 (hps e);have p2:∀ {c:Addr} {o:Obj},(zp2 s.heap l m).get? c=some o->(zp5 s.heap l m).get? c=some o:=λe=>p3 (hps e);have p1:∀ {c:Addr} {o:Obj},(s.heap.push (tIt l)).get? c=some o->(zp5 s.heap l m).get? c=some o:=λe=>p2 (hps e);have w1:(s.heap.push (tIt l)).objs.size=s.heap.objs.size+1:=aSE ..;have g5:(zp5 s.heap l m).get? (zp4 s.heap l m).objs.size=some _:=aPF _ rfl;have g4:(zp5 s.heap l m).get? (zp3 s.heap l m).objs.size=some _:=p4 (aPF _ rfl);have g3:(zp5 s.heap l m).get? (zp2 s.heap l m).objs.size=some _:=p3 (aPF _ rfl);have g2:(zp5 s.heap l m).get? (s.heap.push (tIt l)).objs.size=some (tIt m):=p2 (aPF _ rfl);have g1:(zp5 s.heap l m).get? s.heap.objs.size=some (tIt l):=p1 (aPF _ rfl);refine callType_new F.called_zip (by decide) (F.typeCall_zip_2 _ _) (F.newCall_zip_2 _ _) (λobj=>F.args_object_init_3 obj _ _) F.entry_zip_new (aIX l m xs ys) ⟨hl,hm,?_⟩
 show _/\_;rw[zs2,zs3,zs4] at g5;rw[w1,zs2] at g3;rw[zs3] at g4;rw[w1] at g2;rw[zs4];refine ⟨⟨_,g5,rfl⟩,q _ g5 g3 g4 ⟨_,g1,rfl,rfl⟩ ⟨_,g2,rfl,rfl⟩ (zs5 ..) λc o x=>p1 (hps x)⟩
end
section
variable {X:Cx}{aA:LAO}{σ:L2.St}{H:Hp}{s:Shared}{h':Heap}
theorem aIZ{t':Nat}{its:List Addr}{n:Addr}{xs:List V}(I:Inv X aA σ H s)(k:∀ b o,b∉its->s.heap.get? b=some o->h'.get? b=some o)(hf:∀ b∈its,eA X aA H b)(hn:s.heap.objs.size<=n)(new:∃ us,aP xs us/\fP h' n us.toArray)(hz:xs.length<=sizeLine):Inv X aA σ (upd H n (.tup xs)) { s with heap:=h',toks:=t' }:=by
 have fr:H n=none:=I.hok.fresh hn;have lt:∀ {b o},s.heap.get? b=some o->b≠n:=λe z=>absurd (aPG e) (by rw[z];exact Nat.not_lt.mpr hn)
 have nb:∀ {b u},H b=some u->b≠n:=λe z=>by rw[z,fr] at e;cases e
 have ni:∀ {b u},H b=some u->b∉its:=λe z=>by rw[(hf _ z).1] at e;cases e
 refine I.call (g':=s.gens) (d':=s.drawn) (ch:=its) ⟨λb o e _ _ hx=>k b o hx e,λb o e _ _ hx=>⟨o.slots,k b o hx e⟩,λb o e h0 _=>by rw[aU (lt e)];exact h0,λb o e hx=>⟨o,k b o hx e⟩,
  λb u e=>by rw[aU (nb e)];exact e,λb u v e=>by rw[aU (nb e)];exact e,λb u e=>⟨#[],by rw[aU (nb e),e];simp⟩⟩ (λb u e=>?_) I.bare λb hb=>?_
 . by_cases hb:b=n
   . subst hb;rw[bV] at e;cases e;exact ⟨hz,new⟩
   . rw[aU hb] at e;refine (I.hok b u e).stay (λc v hc q=>k c v ?_ q) (λc q=>?_) λc v q=>?_
     . rcases hc with z | z
       . rw[z];exact ni e
       . exact ni z
     . rw[aU (nb q)];exact q
     . rw[aU (nb q)];exact q
 . obtain ⟨f0,f1,f2,f3,f4,f5⟩:=hf b hb;exact ⟨f3,f1,f4,f5⟩
theorem aI0{t':Nat}{its:List Addr}(I:Inv X aA σ H s)(k:∀ b o,b∉its->s.heap.get? b=some o->h'.get? b=some o)(hf:∀ b∈its,eA X aA H b):Inv X aA σ H { s with heap:=h',toks:=t' }:=by
 have ni:∀ {b u},H b=some u->b∉its:=λe z=>by rw[(hf _ z).1] at e;cases e
 refine I.call (g':=s.gens) (d':=s.drawn) (ch:=its) ⟨λb o e _ _ hx=>k b o hx e,λb o e _ _ hx=>⟨o.slots,k b o hx e⟩,λb o e h0 _=>h0,λb o e hx=>⟨o,k b o hx e⟩,
  λb u e=>e,λb u v e=>e,λb u e=>⟨#[],by rw[e];simp⟩⟩ (λb u e=>?_) I.bare λb hb=>?_
 . refine (I.hok b u e).stay (λc v hc q=>k c v ?_ q) (λ_ q=>q) λ_ _ q=>q;rcases hc with z | z
   . rw[z];exact ni e
   . exact ni z
 . obtain ⟨f0,f1,f2,f3,f4,f5⟩:=hf b hb;exact ⟨f3,f1,f4,f5⟩
end
section
variable {C:Cw}{X:Cx}{tg e:Expr}{g:Rho->Res}{gs:Rho->aT}{pos p:Pos}
theorem aI1(n l m:Nat)(hl:l<n)(hm:m<n):ZipApart (n+4) (n+2) (n+3) n (n+1) l m:=by constructor <;> (refine λ(q:@Eq Nat _ _)=>?_;omega)
theorem aI2:bootBuiltins ("zip" : Str)=some (.type "zip"):=by first | rfl | decide +kernel | kernel_rfl
end
open PySem.AutoSeq1 (wpAny_loadPart')
theorem aI3{prog:Program}{w:World}{A:Around}(hh:A.handled=none)(it t:Addr)(hne:t≠it)(items:Array Value):Draws prog w A it [it,t] items.size (λi v=>items[i]? = some v) (λi h=>h.IsTupleIter it t i/\IsTup h t items) where
 live:=λ_ _ st=>let ⟨o,ho,_⟩:=st.1;⟨o,ho⟩
 frame:=λ_ _ _ st hk=>⟨st.1.at λo e=>hk it (by simp) o e,cL st.2 λo e=>hk t (by simp) o e⟩
 item:=λi s Q E hi st hQ=>by
  refine iQ st.1 st.2 (x:=items[i]) (by simp[hi]) λh' hit' hs'=>?_
  exact hQ _ h' s.toks (by simp[hi]) ⟨hit',cL st.2 λo e=>hs'.extBut _ o hne e⟩ hs'
 done:=λs Q E st hE=>jU hh st.1 st.2 (by simp) hE
theorem aI4(l:Addr)(items:Array Value):Meets (Builtin.«enumerate.__new__» ⟨[.type "enumerate", .ref l],[]⟩) (λ_ R s=>s.heap.IsTuple l items/\R (.ok (.ret (.ref (s.heap.push { cls:=.type "tuple_iterator", data:=.fields #[.ref l,.int 0 0] }).objs.size))) { s with heap:=(s.heap.push { cls:=.type "tuple_iterator", data:=.fields #[.ref l,.int 0 0] }).push { cls:=.type "enumerate", data:=.fields #[.none,.bool false,.ref s.heap.objs.size,rawInt 0,.none,.none] } }) :=
 .of_wp λprog w A R s h=>by
  obtain ⟨hp,g,d,tk,os⟩:=s;obtain ⟨hL,h⟩:=h;have hsub:=sub_enumerate;have hL:Heap.IsTuple (Shared.heap ⟨hp,g,d,tk,os⟩) l items:=hL;obtain ⟨o,ho,hc,n,hd⟩:=id hL
  wp_walk using wpAny_loadPart' ho
  refine wpAny_stack_any λst=>aP1 ?_;split
  . rename_i c _ _ _ _ _;cases (c==Value.type "enumerate")
    . wp_walk using wpAny_loadPart' ho,aP9 hL
      exact ⟨_,rfl,h⟩
    . wp_walk using wpAny_loadPart' ho,aP9 hL
      exact ⟨_,rfl,h⟩
  . wp_walk using wpAny_loadPart' ho,aP9 hL
    exact ⟨_,rfl,h⟩
section
variable {prog:Program}{w:World}{A:Around}{E:VSP}{s:Shared}
theorem aI5{a:Addr}{us:Array Value}{Q:VSP}(ha:s.heap.IsTuple a us)(q:∀ g,IsEnum g (s.heap.objs.size+1) s.heap.objs.size 0 .none->g.IsTupleIter s.heap.objs.size a 0->(∀ c u,s.heap.get? c=some u->g.get? c=some u)->Q (.ref (s.heap.objs.size+1)) { s with heap:=g }):wpAny (model prog w) A (call (.type "enumerate") [.ref a]) Q E s:=by
 let i0:Obj:={ cls:=.type "tuple_iterator", data:=.fields #[.ref a,.int 0 0] }
 let e0:Obj:={ cls:=.type "enumerate", data:=.fields #[.none,.bool false,.ref s.heap.objs.size,rawInt 0,.none,.none] }
 have z1:(s.heap.push i0).objs.size=s.heap.objs.size+1:=aSE ..;have g1:((s.heap.push i0).push e0).get? (s.heap.objs.size+1)=some e0:=by rw[<- z1];exact aPF _ rfl
 have g0:((s.heap.push i0).push e0).get? s.heap.objs.size=some i0:=hps (aPF _ rfl);have up:∀ c u,s.heap.get? c=some u->((s.heap.push i0).push e0).get? c=some u:=λc u z=>hps (hps z);have fin:(∃ o,((s.heap.push i0).push e0).get? (s.heap.objs.size+1)=some o/\o.cls=.type "enumerate")/\Q (.ref (s.heap.objs.size+1)) { s with heap:=(s.heap.push i0).push e0 }:=⟨⟨e0,g1,rfl⟩,q _ g1 ⟨i0,g0,rfl,rfl⟩ up⟩
 rw[<- z1] at fin;exact callType_new F.called_enumerate (by decide) (F.typeCall_enumerate_1 _) (F.newCall_enumerate_1 _) (λo=>F.args_object_init_2 o _) F.entry_enumerate_new (aI4 a us) ⟨ha,fin⟩
end
def Ite(Sq:Hp->List V->Prop):It :=
 ⟨fun i H => ∃ xs x, Sq H xs ∧ xs[i]? = some x,
  λi H v H'=>∃ p x,v=.ref p/\H p=none/\H'=upd H p (.tup [.int i,x])/\∀ xs,Sq H xs->xs[i]? = some x,
  λi H=>∃ xs,Sq H xs/\xs.length<=i⟩
section
variable {P:Program}{w:World}{K:Fg}{elts:List Expr}{cx:Nat}{pos:Pos}
theorem wZ{Sq:Hp->List V->Prop}(e it l:Addr)(hei:e≠it)(hel:e≠l)(hli:l≠it)(It':Nat->Heap->Prop)(At:Heap->Array Value->Prop)(live:∀ i h,It' i h->∃ o,h.get? it=some o/\∀ v,o.data ≠ .cell v)(keep:∀ i h h',It' i h->(∀ o,h.get? it=some o->h'.get? it=some o)->It' i h')(dr:∀ A:Around,A.handled=none->∀ items:Array Value,Draws P w A it [it,l] items.size (λi v=>items[i]? = some v) (λi h=>It' i h/\At h items))(dn:∀ (A:Around) (s:Shared) (items:Array Value) (k:Nat) (Q E:VSP),A.handled=none->It' k s.heap->At s.heap items->items[k]? = none->(∀ h' x,Heap.ExtBut it s.heap h'->(∃ o,h'.get? x=some o/\o.cls=.type "StopIteration")->E (.ref x) { s with heap:=h' })->wpAny (model P w) A (Builtin.SmallTypes.nextOf (.ref it)) Q E s)(cH:∀ (X:Cx) (aA:LAO) (s:Shared) (σ:L2.St) (H:Hp) (xs:List V),X.prog=P->X.w=w->X.K=K->Inv X aA σ H s->Sq H xs->∃ us,aP xs us/\At s.heap us.toArray)(inj:∀ (X:Cx) (aA:LAO) (s:Shared) (σ:L2.St) (H:Hp) (xs ys:List V),X.prog=P->X.w=w->X.K=K->Inv X aA σ H s->Sq H xs->Sq H ys->ys=xs):gM P w K (.Tuple elts cx pos) (Ite Sq) [e,it] e (λk h=>(∃ old,IsEnum h e it k old)/\It' k h) where
 mem:=by simp
 obj:=λk h st b hb=>by
  obtain ⟨⟨old,he⟩,hi⟩:=st;simp only[aPP,aSV,aSW] at hb;rcases hb with rfl | rfl
  . exact ⟨_,he,λv e=>by cases e⟩
  . obtain ⟨o,e,d⟩:=live k h hi;exact ⟨o,e,d⟩
 keep:=λk h h' st q=>by obtain ⟨⟨old,he⟩,hi⟩:=st;exact ⟨⟨old,q e (by simp) _ he⟩,keep k h h' hi λo e=>q it (by simp) o e⟩
 item:=by
  intro X hP hw hK hc k aA s σ H E I hf st hg;obtain ⟨⟨old,he⟩,hi⟩:=st;obtain ⟨xs,x,ql,hx⟩:=hg;obtain ⟨us,r1,p1⟩:=cH X aA s σ H xs hP hw hK I ql;obtain ⟨u,hu,ru⟩:=r1.get hx;have hlt:k<us.toArray.size:=by rw[aQE];exact (aPS.mp hu).1
  refine wpAny_pyNext_enum_itemD (dr X.A.in1 (I.ok.hd hc) us.toArray) he ⟨hi,p1⟩ hlt hei (by simp[hei,hel]) λx' h' tk hx' a1 a2 a3 a4 a5=>?_
  have:x'=u:=by rw[List.getElem?_toArray] at hx';rw[hu] at hx';exact (aPE hx').symm
  subst this;refine ⟨_,rfl,wpAny_letOwnedTupleGo_enum (s:={ s with heap:=h',toks:=tk+1 }) a1 λh2 b1 b2=>?_⟩
  have en:s.heap.objs.size≠e:=λq=>absurd (aPG he) (by rw[<- q];exact aPI _)
  have up:∀ b o,b∉[e,it]->s.heap.get? b=some o->h2.get? b=some o:=λb o hb z=>by simp only[aPP,aSV,aSW,not_or] at hb;exact b2.extBut _ _ hb.1 (a5 b o hb.1 hb.2 z)
  have I2:=aIZ (t':=tk+1) (xs:=[.int k,x]) I up hf (aP8 _) ⟨[.int k tk,x'],.cons ⟨tk,rfl⟩ (.cons ru .nil),⟨_,b2.extBut _ _ en a3,rfl,rfl,_,rfl⟩⟩ (show 2<=sizeLine by decide +kernel)
  refine ⟨.ref s.heap.objs.size,_,I2,rfl,⟨_,x,rfl,I.hok.fresh (aP8 _),rfl,λzs q=>by rw[inj X aA s σ H xs zs hP hw hK I ql q];exact hx⟩,?_,λb hb=>?_⟩
  . have ek:((k:Int)+1)=((k+1:Nat):Int):=by omega
    rw[ek] at b1;exact ⟨⟨x',b1⟩,keep _ _ _ a2.1 λo z=>b2.extBut _ o hei.symm z⟩
  . have hb0:=hb;obtain ⟨o,z⟩:∃ o,s.heap.get? b=some o:=by
      simp only[aPP,aSV,aSW] at hb;rcases hb with rfl | rfl
      . exact ⟨_,he⟩
      . obtain ⟨o,z,_⟩:=live _ _ hi;exact ⟨o,z⟩
    rw[aU λq=>absurd (aPG z) (by rw[q];exact aPI _)]
    exact (hf b hb0).1
 done:=by
  intro X hP hw hK hc k aA s σ H E I hf st hg;obtain ⟨⟨old,he⟩,hi⟩:=st;obtain ⟨xs,ql,hn⟩:=hg;obtain ⟨us,r1,p1⟩:=cH X aA s σ H xs hP hw hK I ql;have e1:=r1.length;have te:s.TypeIs (.ref e) "enumerate" := ⟨_,he,rfl⟩
  delta pyNext
  apply aPZ;apply aSQ;apply aQ4 (name:=Str.ofString "__next__") te F.slot_enumerate_next;refine aQ6 F.slot_enumerate_next te F.entry_enumerate_next ?nx (F.args_enumerate_next_1 _);refine aPZ (m:=field (.ref e) 2) (aQ1 he rfl (x:=.ref it) rfl ?_);refine aPZ (dn X.A.in1 s us.toArray k _ _ (I.ok.hd hc) hi p1 (by simp;omega) λh' x he' hx'=>?_)
  obtain ⟨o,ho,hc'⟩:=hx';refine aPZ (aSU (T := "StopIteration") (b:=true) ⟨o,ho,hc'⟩ isSubtype_stop ?_);refine aP1 ⟨rfl,aI0 (t':=s.toks) I (λb o hb z=>he' b o (by
   simp only[aPP,aSV,aSW,not_or] at hb;exact hb.2) z) hf⟩
 self:=λ_ _ _ _ _ st h=>by obtain ⟨⟨old,he⟩,_⟩:=st;exact aSX he h
theorem aI6(e it l:Addr)(hei:e≠it)(hel:e≠l)(hli:l≠it):gM P w K (.Tuple elts cx pos) (Ite λH=>SqL K H l) [e,it] e (λk h=>(∃ old,IsEnum h e it k old)/\h.IsListIter it l k) :=
 wZ e it l hei hel hli (fun k h => h.IsListIter it l k) (fun h xs => h.IsList l xs) (fun i h st => by
     obtain ⟨o,e,_,d⟩:=st;exact ⟨o,e,λv q=>by rw[d] at q;cases q⟩) (λi h h' st k=>st.at k) (λA hA items=>Draws.list hA it l hli items)
  (λA s items k Q E hA st ha hx q=>wpAny_nextOf_list_end hA st ha hx q)
  (λX aA s σ H xs hP hw hK I q=>by
   subst hK;obtain ⟨us,r,p,_⟩:=I.list q;exact ⟨us,r,p.isList⟩)
  (λX aA s σ H xs ys hP hw hK I q q'=>by subst hK;exact I.list_inj q' q)
theorem aI7(e it l:Addr)(hei:e≠it)(hel:e≠l)(hli:l≠it):gM P w K (.Tuple elts cx pos) (Ite λH=>SqT K H l) [e,it] e (λk h=>(∃ old,IsEnum h e it k old)/\h.IsTupleIter it l k) :=
 wZ e it l hei hel hli (fun k h => h.IsTupleIter it l k) (fun h xs => IsTup h l xs) (fun i h st => by
     obtain ⟨o,e,_,d⟩:=st;exact ⟨o,e,λv q=>by rw[d] at q;cases q⟩) (λi h h' st k=>st.at k) (λA hA items=>aI3 hA it l hli items)
  (λA s items k Q E hA st ha hx q=>jU hA st ha hx q)
  (λX aA s σ H xs hP hw hK I q=>by
   subst hK;obtain ⟨us,r,p,_⟩:=I.tuple q;exact ⟨us,r,p⟩)
  (λX aA s σ H xs ys hP hw hK I q q'=>by subst hK;exact I.tuple_inj q' q)
end
section
variable {C:Cw}{X:Cx}{tg e:Expr}{g:Rho->Res}{gs:Rho->aT}{pos p:Pos}
theorem aI8:bootBuiltins ("enumerate" : Str)=some (.type "enumerate"):=by first | rfl | decide +kernel | kernel_rfl
def w6(K:Fg)(ta:TA):TI:=λσ H R=>ta σ H λvs H1=>∃ a xs,vs=[.ref a]/\((SqL K H1 a xs/\R (Ite λH=>SqL K H a) H1)\/(SqT K H1 a xs/\R (Ite λH=>SqT K H a) H1))
theorem aI9{a:Expr}{ta:TA}{elts:List Expr}{cx}{pp:Pos}(hg:Gl X "enumerate")(hm:X.mg "enumerate" = none)(ha:PA X [a] ta)(hs:starEach [a] X.env=[(false,eval a X.env)]:=by rfl):PI X (.Tuple elts cx pp) (.Call (.Name "enumerate" p) [a] [] pos) (w6 X.K ta):=by
 intro aA s σ H R I h;refine Call_ (gK I hg hm aI8 (aQA (thn (ha pos aA s σ H _ I h) λus s1 q1=>?_) (by rw[hs];rfl) (by rfl)))
 obtain ⟨vs,H1,I1,r1,l,xs,rfl,q⟩:=q1;cases r1 with
 | cons r rr =>
  cases rr;cases r;have fb:∀ b:Addr,s1.heap.objs.size<=b->eA X aA H1 b:=λb hb=>I1.fpOk hb (I1.hok.fresh hb);have fin:∀ b:Addr,b∈[s1.heap.objs.size+1,s1.heap.objs.size]->eA X aA H1 b:=λb hb=>by
   simp only[aPP,aSV,aSW] at hb;rcases hb with rfl | rfl
   . exact fb _ (Nat.le_succ _)
   . exact fb _ (aP8 _)
  rcases q with ⟨ql,q⟩ | ⟨ql,q⟩
  . obtain ⟨ls,_,p1,_⟩:=I1.list ql;have ll:l<s1.heap.objs.size:=by obtain ⟨o,n,e,_⟩:=id p1;exact aPG e
    refine call_enumerate_list p1.isList λh' a1 a2 a3 a4=>aSX (s:={ s1 with heap:=h' }) a1 ?_
    exact ⟨_,[s1.heap.objs.size+1,s1.heap.objs.size],_,_,H1,rfl,I1.kept (t':=s1.toks) a4,aI6 _ _ l (Nat.succ_ne_self _) (aP6 (aSF ll)) (aPJ ll),⟨⟨_,a1⟩,a2⟩,fin,q⟩
  . obtain ⟨ls,_,p1,_⟩:=I1.tuple ql;have ll:l<s1.heap.objs.size:=by obtain ⟨o,e,_⟩:=id p1;exact aPG e
    refine aI5 (show s1.heap.IsTuple l ls.toArray from p1) λh' a1 a2 a4=>aSX (s:={ s1 with heap:=h' }) a1 ?_
    exact ⟨_,[s1.heap.objs.size+1,s1.heap.objs.size],_,_,H1,rfl,I1.kept (t':=s1.toks) a4,aI7 _ _ l (Nat.succ_ne_self _) (aP6 (aSF ll)) (aPJ ll),⟨⟨_,a1⟩,a2⟩,fin,q⟩
def c8:Nat->List D->List D
 | _,[]=>[]
 | i,d::ds=>.tup [.int i,d]::c8 (i+1) ds
theorem nX:∀ {ds:List D} {i:Nat},(c8 i ds).length=ds.length
 | [],_=>rfl
 | d::ds,i=>by simp only[c8,aRF,nX]
theorem w8:∀ {ds:List D} {j i:Nat} {d:D},ds[i]? = some d->(c8 j ds)[i]? = some (.tup [.int ((j+i:Nat):Int),d])
 | [],_,_,_,h=>by simp at h
 | x::ds,j,0,d,h=>by simp at h;subst h;rfl
 | x::ds,j,i+1,d,h=>by
  have:=w8 (ds:=ds) (j:=j+1) (i:=i) (by simpa using h)
  have e:j+1+i=j+(i+1):=by omega
  rw[e] at this;simpa[c8] using this
theorem xC{K:Fg}{F:Hp}{Sq:Hp->List V->Prop}{ds:List D}{xs:List V}(qa:∀ H,aH F H->Sq H xs)(ra:aE K F ds xs):lG K F (Ite Sq) (c8 0 ds) where
 go:=λi H s hi=>by
  rw[nX] at hi;have h1:i<xs.length:=by rw[ra.length];omega
  exact ⟨xs,xs[i],qa H s,by simp[h1]⟩
 stop:=λi H s hi=>by rw[nX] at hi;exact ⟨xs,qa H s,by rw[ra.length];omega⟩
 yld:=λi Fc H x H' s1 s2 hi y=>by rw[nX] at hi;obtain ⟨p,u,rfl,hp,rfl,hx⟩:=y;have ex:=hx xs (qa H (s1.trans s2));obtain ⟨u',e1,r1⟩:=ra.get' (aR1 hi);rw[ex] at e1;cases e1;refine ⟨_,_,w8 (aR1 hi),aN.laid (.tup [.int i,u]) s2 hp,?_⟩;refine aC.tup_of (s2.free hp) ?_;simp only[aE];exact ⟨.int i,[u],rfl,by simp only[aC,Nat.zero_add],u,[],rfl,r1.mono s1 _ _,rfl⟩
def gW(r:aT):Res:=r.thn λxs=>match xs with
 | [(.fz,.lst ds)]=>.ok .fz (.lst (c8 0 ds))
 | [(.fz,.tup ds)]=>.ok .fz (.lst (c8 0 ds))
 | _=>.stuck
theorem aJA{a:Expr}{elts:List Expr}{cx}{pp:Pos}(hg:Gl X "enumerate")(hm:X.mg "enumerate" = none)(ha:PAv C X [a] gs)(hs:starEach [a] X.env=[(false,eval a X.env)]:=by rfl):PIv C X (.Tuple elts cx pp) (.Call (.Name "enumerate" p) [a] [] pos) (λρ=>gW (gs ρ)):=by
 refine PI.imp (aI9 hg hm ha hs) λσ H R q=>?_;obtain ⟨ρ,F,RS,w⟩:=q;dsimp only at w;unfold w6;refine ⟨ρ,F,RS,?_⟩;cases er:gs ρ with
 | stuck=>rw[er] at w;exact w
 | exc c=>rw[er] at w;exact w
 | ok xs =>
  rw[er] at w;intro vs F' H' st rp;unfold gW at w;rw[aT.thn_ok] at w;split at w
  . rename_i ds;obtain ⟨v,rfl,r⟩:=rp.one;have r:aC X.K F' (.lst ds) v:=r;simp only[aC] at r;obtain ⟨a1,x1,rfl,q1,l1⟩:=r;exact ⟨a1,x1,rfl,.inl ⟨st.sub.seq q1,w _ F' H' st (xC (λH s=>s.seq q1) l1)⟩⟩
  . rename_i ds;obtain ⟨v,rfl,r⟩:=rp.one;have r:aC X.K F' (.tup ds) v:=r;simp only[aC] at r;obtain ⟨a1,x1,rfl,q1,l1⟩:=r;exact ⟨a1,x1,rfl,.inr ⟨aH.seqT st.sub q1,w _ F' H' st (xC (λH s=>aH.seqT s q1) l1)⟩⟩
  . exact w.elim
end
end D3
namespace D3
open PySem PySem.Spec PySem.Calls PyProof.Rows L2 PySem.W
section
variable {prog:Program}{w:World}{A:Around}{E:VSP}{s:Shared}{K:Fg}{x D:Addr}{ox:Obj}{od:Option Obj}
def XAt(h:Heap)(x:Addr)(ox:Obj)(D:Addr):Prop:=h.get? x=some ox/\ox.cls=.ref D
structure XCls(K:Fg)(D:Addr):Prop where
 ga:PySem.W.findIn K (.ref D) "__getattribute__" = some (some (.builtin "BaseException.__getattribute__"))
 gn:PySem.W.findIn K (.ref D) "__getattr__" = some none
 ca:PySem.W.findIn K (.ref D) "__class__" = some (some (.builtin "object.__class__"))
 bx:PySem.W.mroIn K D (.type "BaseException")=some true
 ob:PySem.W.mroIn K D (.type "object")=some true
 hn:PySem.W.specialIn K (.builtin "object.__class__") "__get__" = some (some (.builtin "getset_descriptor.__get__"))
 tk:PySem.W.takesIn K (.builtin "object.__class__")=some true
end
end D3
namespace D3
open PySem PySem.Spec PySem.Calls PyProof.Rows L2
structure Fly(P:Program)(w:World)(outer:List Env)(H:Hp)(s:Shared)(H1:Hp)(B hp:Heap):Prop where
 un:Un (frs outer) [] H H1 s.heap hp
 ok:HOk P w H1 hp
 kb:∀ b o,hp.get? b=some o->s.heap.get? b≠none->b∉frs outer->B.get? b=some o
 kh:∀ b u,H1 b=some u->∃ o,hp.get? b=some o/\B.get? b=some o
 fr:∀ b∈frs outer,H b=none/\∃ o,s.heap.get? b=some o/\∀ vs,o.data ≠ .fields vs
section
variable {P:Program}{w:World}{outer:List Env}{H H1:Hp}{s:Shared}{B hp h':Heap}
theorem fX{b:Addr}:b∉([]:List Addr):=by simp
theorem Fly.slots(f:Fly P w outer H s H1 B hp)(up:hp.UpToSlots h'){b:Addr}(hb:b∈frs outer):∃ o sl sl',s.heap.get? b=some o/\hp.get? b=some { o with slots:=sl }/\h'.get? b=some { o with slots:=sl' }:=by obtain ⟨hn,o,e,nf⟩:=f.fr b hb;obtain ⟨sl,e1⟩:=f.un.slot b o e hn hb fX;obtain ⟨sl',e2⟩:=up b _ e1 nf;exact ⟨o,sl,sl',e,e1,e2⟩
theorem Fly.on(f:Fly P w outer H s H1 B hp)(st:B.StaysIn h')(up:hp.UpToSlots h'):Fly P w outer H s H1 B h' where
 un:={
  keep:=λb o e n hb _=>st b o (f.kb b o (f.un.keep b o e n hb fX) (by rw[e];exact λz=>nomatch z) hb)
  slot:=λb o e n hb _=>by obtain ⟨o',sl,sl',e0,_,e2⟩:=f.slots up hb;rw[e] at e0;cases e0;exact ⟨sl',e2⟩
  free:=f.un.free
  there:=λb o e _=>by
   by_cases hb:b∈frs outer
   . obtain ⟨o',sl,sl',e0,_,e2⟩:=f.slots up hb;exact ⟨_,e2⟩
   . obtain ⟨o',e1⟩:=f.un.there b o e fX;exact ⟨o',st b o' (f.kb b o' e1 (by rw[e];exact λz=>nomatch z) hb)⟩
  tups:=f.un.tups
  frzs:=f.un.frzs
  tbls:=f.un.tbls }
 ok := fun a o e => (f.ok a o e).stay (fun b u hb q => by
     have:∃ u',H1 b=some u':=by
      rcases hb with rfl | hb
      . exact ⟨o,e⟩
      . exact ⟨_,hb⟩
     obtain ⟨u',eu⟩:=this;obtain ⟨o',e1,e2⟩:=f.kh b u' eu;rw[q] at e1;cases e1;exact st b u e2) (λ_ q=>q) λ_ _ q=>q
 kb:=λb o e ns hb=>by
  cases e0:s.heap.get? b with
  | none=>exact absurd e0 ns
  | some o0=>obtain ⟨o',e1⟩:=f.un.there b o0 e0 fX;have e2:=f.kb b o' e1 ns hb;have e3:=st b o' e2;rw[e] at e3;cases e3;exact e2
 kh:=λb u e=>by obtain ⟨o,_,e2⟩:=f.kh b u e;exact ⟨o,st b o e2,e2⟩
 fr:=f.fr
end
def CX1(P:Program)(w:World):CXT:=λouter H s E ev s'=>∃ (e C:Addr) (a0:Value) (H1:Hp) (B:Heap),
 ev=.ref e/\s'.os=s.os/\AllBare s'.gens/\Heap.FlyingW B outer e (.ref C) a0 s'.heap/\Fly P w outer H s H1 B s'.heap/\E (.ref C) none H1
section
variable {X:Cx}{aA:LAO}{σ:L2.St}{H H1:Hp}{s s':Shared}{B hp:Heap}{E:XK}
theorem aJB(I:Inv X aA σ H s):∀ b∈frs X.stack,H b=none/\∃ o,s.heap.get? b=some o/\∀ vs,o.data ≠ .fields vs:=λb hb =>
 ⟨I.stkFree b hb,(I.stack.mem hb).2⟩
theorem Fly.inv(I:Inv X aA σ H s)(f:Fly X.prog X.w X.stack H s H1 B s'.heap)(ho:s'.os=s.os)(hg:AllBare s'.gens):Inv X aA σ H1 s' :=
 Inv.call' (ch:=[]) I ho f.un f.ok hg (λb z=>absurd z fX)
theorem Fly.out(I:Inv X aA σ H s)(f:Fly X.prog X.w X.stack H s H1 B s'.heap)(ho:s'.os=s.os)(hg:AllBare s'.gens)(hx:X.ex=[])(hs:X.stack=X.env::X.outer)(hf:X.env.frame=some X.env.locals){h':Heap}(st:B.StaysIn h')(up:s'.heap.UpToSlots h'):Fly X.prog X.w X.outer X.H₀ X.s₀ H1 B h':=by
 have I1:=f.inv I ho hg;have f1:=f.on st up;have ub:=I1.base;rw[hx] at ub;have old:∀ b o,X.s₀.heap.get? b=some o->∃ o',s.heap.get? b=some o':=λb o e=>I.base.there b o e (by rw[hx];exact fX)
 have nl:∀ b o,X.s₀.heap.get? b=some o->b≠X.env.locals:=λb o e z=>absurd (aPG e) (by rw[z];exact Nat.not_lt.mpr I.ok.above)
 have sub:∀ b,b∉frs X.outer->b≠X.env.locals->b∉frs X.stack:=λb h1 h2 z=>by
  rcases aPP.mp (I.stkSub b z) with q | q
  . exact h2 q
  . exact h1 q
 have sup:∀ b,b∈frs X.outer->b∈frs X.stack:=λb hb=>by rw[hs];unfold frs;rw[aPO,hf];exact mcm hb
 refine ⟨⟨λb o e n hb _=>?_,λb o e n hb _=>?_,ub.free,λb o e _=>?_,ub.tups,ub.frzs,ub.tbls⟩,f1.ok,λb o e ns hb=>?_,f1.kh,λb hb=>?_⟩
 . have e1:=ub.keep b o e n hb fX;obtain ⟨o',e0⟩:=old b o e;exact st b o (f.kb b o e1 (by rw[e0];exact λz=>nomatch z) (sub b hb (nl b o e)))
 . obtain ⟨sl,e1⟩:=ub.slot b o e n hb fX;obtain ⟨o',sl1,sl2,e0,e1',e2⟩:=f.slots up (sup b hb);have q:=aPE (e1.symm.trans e1');refine ⟨sl2,?_⟩;rw[e2];obtain ⟨c1,d1,t1,l1⟩:=o;obtain ⟨c2,d2,t2,l2⟩:=o';simp only[Obj.mk.injEq] at q;obtain ⟨rfl,rfl,rfl,_⟩:=q;rfl
 . obtain ⟨o',e0⟩:=old b o e;exact f1.un.there b o' e0 fX
 . cases e0:X.s₀.heap.get? b with
   | none=>exact absurd e0 ns
   | some o0=>obtain ⟨o',e1⟩:=old b o0 e0;exact f1.kb b o e (by rw[e1];exact λz=>nomatch z) (sub b hb (nl b o0 e0))
 . exact ⟨I.ok.frf b hb,(I.ok.funs.mem hb).2⟩
def lL(h:Heap)(l:List Env):Heap:=PySem.W.hideAll h (frs l)
theorem Fly.raise(I:Inv X aA σ H s)(hx:X.ex=[])(hs:X.stack=X.env::X.outer)(hf:X.env.frame=some X.env.locals){h':Heap}(st:(lL s.heap X.stack).StaysIn h')(up:s.heap.UpToSlots h'):Fly X.prog X.w X.outer X.H₀ X.s₀ H (lL s.heap X.stack) h':=by
 have f:Fly X.prog X.w X.stack H s H (lL s.heap X.stack) s.heap :=
  ⟨Un.refl,I.hok,λb o e _ hb=>aPK _ e hb,λb u e=>by
   have hn:b∉frs X.stack:=λz=>by rw[I.stkFree b z] at e;cases e
   have:∃ o,s.heap.get? b=some o:=by
    have:=I.hok b u e;cases u with
    | lst xs=>obtain ⟨_,_,_,_,e⟩:=this;exact ⟨_,e⟩
    | tup xs=>obtain ⟨_,_,_,o,e,_⟩:=this;exact ⟨_,e⟩
    | dK kvs=>obtain ⟨_,_,_,_,o,_,_,e,_⟩:=this;exact ⟨_,e⟩
    | dT kvs=>obtain ⟨_,_,_,_,o,_,_,e,_⟩:=this;exact ⟨_,e⟩
    | set S n=>obtain ⟨o,_,_,_,e,_⟩:=this;exact ⟨_,e⟩
    | ins C dx fs=>obtain ⟨_,_,_,e,_⟩:=this;exact ⟨_,e⟩
    | own y=>obtain ⟨_,e⟩:=this;exact ⟨_,e⟩
    | xd fs=>obtain ⟨_,⟨_,_,_,e,_⟩,_⟩:=this;exact ⟨_,e⟩
    | rng lo hi=>obtain ⟨_,_,_,e⟩:=this;exact ⟨_,e⟩
    | frz ob u=>obtain ⟨e,_⟩:=this;exact ⟨_,e⟩
    | tbl ps=>exact ⟨_,this⟩
    | met f y=>exact ⟨_,this⟩
    | ext φ=>obtain ⟨_,⟨_,e⟩,_⟩:=this;exact ⟨_,e⟩
   obtain ⟨o,eo⟩:=this;exact ⟨o,eo,aPK _ eo hn⟩,aJB I⟩
 exact f.out I rfl I.bare hx hs hf st up
end
def rO:List Value:=[.type "ValueError", .type "Exception", .type "BaseException", .type "object"]
def lM(K:Fg)(C:Addr):Prop:=PySem.W.excIn K C rO "ValueError.__new__" = true
def rP(C:Cw)(X:Cx):Prop:=∀ (aA:LAO) (σ:L2.St) (H:Hp) (s:Shared) (c:Str) (Cc:Addr) (vs:List Value) (h':Heap) (e:Addr),Inv X aA σ H s->X.mg c=some (.ref Cc)->C.EE c σ H ->
 Heap.MadeExcOf s.heap h' e (.ref Cc) vs->X.xe (.ref e) { s with heap:=h' }
def rzR(c:Str)(ρ:Rho):aT->aB
 | .ok xs=>if xs.length<=sizeLine then .exc c ρ else .stuck
 | .exc c'=>.exc c' ρ
 | .stuck=>.stuck
theorem aJC{K:Fg}{C:Addr}(q:lM K C):∃ bm N nm qn bs hd sn sub ab col dd k0 k1 k2 k3 k5,∀ h:Heap,K.In h->h.get? C=some (excClassObj nm qn C N bs bm hd sn sub ab col dd k0 k1 k2 k3 k5 "ValueError.__new__")/\h.Ns N (h.nsMap N)/\h.nsMap N "__init__" = none/\OwnTail h rO bm:=by
 unfold lM PySem.W.excIn at q;split at q
 . rename_i dd cd sl ho;split at q
   . rename_i C' bm k0 k1 k2 k3 n k5 hm hs;rw[aQ8,aQ8,aQ8,aQ8,aQ8] at q;obtain ⟨⟨⟨⟨⟨q1,q2⟩,q3⟩,q4⟩,q5⟩,q6⟩:=q;obtain ⟨nm,bs,mro,ns,qn,hd,sn,sub,ab,col,del⟩:=cd;have e1:C'=C:=aRW.mp q1;have e2:n = "ValueError.__new__" := aRW.mp q2;have e3:del=false:=by simpa using q3
     have e4:sl = #[k0,k1,k2,k3,some (.builtin n),k5]:=Array.ext' hs;have e5:mro=.ref C'::bm:=hm;subst e1 e2 e3 e4 e5;refine ⟨bm,ns,nm,qn,bs,hd,sn,sub,ab,col,dd,k0,k1,k2,k3,k5,λh X=>⟨X _ _ ho,.of_isNs (PySem.W.isNs_of_in X q5),PySem.W.nsMap_none_of_in X q5 (aRW.mp q6),PySem.W.tail_of_in X q4⟩⟩
   . cases q
 . cases q
theorem xD{K:Fg}{F H:Hp}:∀ {xs:List (Md×D)} {vs:List V},RpL K F H xs vs->vs.length=xs.length
 | [],_,h=>by rw[show _=[] from h];rfl
 | _::_,_,h=>by obtain ⟨v,us,rfl,_,r⟩:=h;rw[aRF,aRF,xD r]
section
variable {C:Cw}{X:Cx}{e:Expr}{es:List Expr}{gs:Rho->aT}{x:Str}{np cpos pos:Pos}
theorem aJD{Cc:Addr}(hm:X.mg x=some (.ref Cc))(Z:lM X.K Cc)(hh:X.A.handled=none)(hr:rP C X)(hg:Gl X x)(ha:PAv C X (e::es) gs)(hd:(x==("__debug__" : Str))=false)(hst:∀ y∈e::es,bP y=true):PSv C X (.Raise (some (.Call (.Name x np) (e::es) [] cpos)) none pos) (λρ=>rzR x ρ (gs ρ)):=by
 intro aA s σ H En I q;obtain ⟨ρ,F,R,w⟩:=q;obtain ⟨bm,N,nm,qn,bs,hdc,sn,sub,ab,col,dd,k0,k1,k2,k3,k5,hobj⟩:=aJC Z;have vb:=_root_.PySem.F.excBase_ValueError;have B0:=hobj X.base I.mod.kin;have st:=bQ (es:=es) (env:=X.env) (hst e mcs);refine wpAny_Raise_call_subU (C:=Cc) (nm:=nm) (q:=qn) (N:=N) (bs:=bs) (bm:=bm) (hdct:=hdc) (sn:=sn) (sub:=sub) (ab:=ab) (col:=col) (dd:=dd) (k0:=k0) (k1:=k1) (k2:=k2) (k3:=k3) (k5:=k5)
  vb vb.hasB vb (mN:=X.base.nsMap N) (B0.2.2.2.hasType vb.hasBase) hh (iN _ _ hst) B0.2.2.1 (mY I hg hm ⟨rfl,?_⟩ hd)
 rw[st];refine Calls.evalArgs_plain ?_;have main:=ha cpos aA s σ H (λvs H1=>vs.length<=sizeLine/\C.EE x σ H1) I ?_
 . rw[st] at main;refine aPV main (λus s2 h2=>?_) λ_ _ z=>z;obtain ⟨vs,H1,I1,r1,hl,he⟩:=h2;have B1:=hobj s2.heap I1.kIn;exact ⟨rfl,by rw[<- r1.length];exact hl,B1.1,B0.2.1.keeps I1.bk,B1.2.2.2,λh' ex made=>hr aA σ H1 s2 x Cc us h' ex I1 hm he made⟩
 . refine ⟨ρ,F,R,?_⟩;dsimp only at w;cases er:gs ρ with
   | stuck=>rw[er] at w;exact w
   | exc c=>rw[er] at w;exact λF' H' st=>w σ F' H' st.fsame (R.step st)
   | ok xs =>
    rw[er] at w;intro vs F' H' st rp;have w:bU (C.at X) F (if xs.length<=sizeLine then .exc x ρ else .stuck) En:=w;split at w
    . rename_i hl;exact ⟨by rw[xD rp];exact hl,w σ F' H' st.fsame (R.step st)⟩
    . exact w.elim
structure FnCx(X:Cx):Prop where
 hx:X.ex=[]
 hs:X.stack=X.env::X.outer
 hf:X.env.frame=some X.env.locals
end
section
variable {P:Program}{w:World}{K:Fg}{mg:SOV}{base:Heap}{N:List Str}{aS:Str}{scope:Scope}{f:Addr}{cdv:Value}{A:Around}{outer:List Env}{s:Shared}{H:Hp}{E:XK}
theorem fnCx:FnCx (dP (CX1 P w) P w K mg base N aS scope f cdv A outer s H E):=⟨rfl,rfl,rfl⟩
def nY(mg:SOV)(E:XK):XE:=λc _ H'=>∀ u,mg c=some u->E u none H'
theorem aJE{C:Cw}(hE:C.EE=nY mg E):XOk (CX1 P w) C (dP (CX1 P w) P w K mg base N aS scope f cdv A outer s H E):=by intro aA σ H1 s1 ev s' I h;obtain ⟨e,Cc,a0,H2,B,rfl,ho,hg,fl,fy,c,hm,he⟩:=h;rw[hE] at he;have I0:=I.ok.frames;refine wpAny_leaves_onW I0 rfl fl λh' fl' up=>?_;exact ⟨e,Cc,a0,H2,B,rfl,ho.trans I.os,hg,fl',fy.out I ho hg rfl rfl rfl fl'.1 up,he _ hm⟩
theorem aJF{C:Cw}(hE:C.EE=nY mg E):rP C (dP (CX1 P w) P w K mg base N aS scope f cdv A outer s H E):=by
 intro aA σ H1 s1 c Cc vs h1 e I hm he made;rw[hE] at he;have I0:=I.ok.frames;have hin:∀ env∈(dP (CX1 P w) P w K mg base N aS scope f cdv A outer s H E).stack,∀ a,env.frame=some a->a∈frs (dP (CX1 P w) P w K mg base N aS scope f cdv A outer s H E).stack:=λenv he a ha=>aQB.mpr ⟨env,he,ha⟩;have FF:s1.heap.FunFrames (lL s1.heap (dP (CX1 P w) P w K mg base N aS scope f cdv A outer s H E).stack) _:=PySem.W.funFrames_hide I.stack hin;have st0:(lL s1.heap (dP (CX1 P w) P w K mg base N aS scope f cdv A outer s H E).stack).StaysIn s1.heap:=λb o q=>PySem.W.of_hideAll _ q;refine wpAny_leaves_madeW (s:={ s1 with heap:=h1 }) I0 rfl st0 FF made λh' t fl _ _ up=>?_
 have up0:s1.heap.UpToSlots h':=(Heap.UpToSlots.of_keeps made.keeps).trans up;exact ⟨e,Cc,.ref t,H1,_,rfl,I.os,I.bare,fl,Fly.raise I rfl rfl rfl fl.1 up0,he _ hm⟩
end
structure HX where
 cls:Str
 slot:Option Nat
 g:Rho->aB
def rQ(K:Fg)(mg:SOV)(xt:Str->Str->Option Bool):Prop:=∀ c x b,xt c x=some b->∃ C C2,PySem.W.nsIn K mainGlobals c=some (some (.ref C))/\mg c=some (.ref C)/\mg x=some (.ref C2) /\
 PySem.W.mroIn K C2 (.type "BaseException")=some true/\PySem.W.typeIn K (.ref C2)=some (.type "type")/\PySem.W.mroIn K C (.ref C2)=some b
section
variable {X:Cx}{aA:LAO}{σ:L2.St}{H:Hp}{s:Shared}{e:Addr}
end
section
variable {C:Cw}{X:Cx}{aA:LAO}{σ:L2.St}{H H1:Hp}{s s0:Shared}{e Cc:Addr}{a0:Value}{B:Heap}
end
section
variable {C:Cw}{X:Cx}{aA:LAO}{σ:L2.St}{H:Hp}{s:Shared}{D:e7}{hs:List ExceptHandler}{hx:List HX}{xt:Str->Str->Option Bool}
end
def nZ(mg:SOV)(n:Str)(cv:V):Prop:=(∃ C,mg n=some (.ref C)/\cv=.ref C)\/(mg n=none/\n ≠ "__name__" /\ ∃ T,bootBuiltins n=some (.type T)/\cv=.ty T)
def xE:V->Value | .ref a=>.ref a | .ty T=>.type T | _=>.none
def rR(K:Fg)(mg:SOV)(xis:Str->Str->Option Bool):Prop:=∀ c n b,xis c n=some b->∃ C cv,PySem.W.nsIn K mainGlobals c=some (some (.ref C))/\XCls K C/\nZ mg n cv/\PySem.W.kitOne K (.ref C) (xE cv)=some b
section
variable {C:Cw}{X:Cx}{e:Expr}{g:Rho->Res}{p q pos tp:Pos}{n:Str}{xis:Str->Str->Option Bool}
end
theorem aJG{P:Program}{w:World}{K:Fg}{mg:SOV}{base:Heap}{x aS:Str}{st:Stmt}{f:Addr}{fd:FuncData}{N ps:List Str}{k:Nat}{g:Rho->aB}(F:Fun K x aS st f fd)(S:nD N ps (eL st))(hbody:∀ (C:Cw) (cdv:Value) (A:Around) (outer:List Env) (s:Shared) (H:Hp) (E:XK),C.EE=nY mg E->cI k (A.deeper (envOfC aS (eL st) s.heap.objs.size f cdv))->PBv C (dP (CX1 P w) P w K mg base N aS (eL st) f cdv A outer s H E) (jG st) g):cW P w K mg base (CX1 P w) (k+1) f fd ps (spV K mg ps.length (phi ps.length N.length g)):=by
 obtain ⟨oc,od,kV,doc,pm,an,cdv,ct,osl,rfl,lk,hcd⟩:=F.ex;refine fn_of lk hcd S (λvs H Q E h=>h.1) λA outer s H vs Q E hr h=>?_;obtain ⟨hl,F0,ds,sF,rl,h⟩:=h;have hl':ds.length=ps.length:=by rw[<- rl.length];exact hl
 let C:Cw:=⟨K,F0,H,nY mg E⟩
 refine ⟨_,hbody C cdv A outer s H E rfl hr,fV N.length ds,F0,aHN sF rl,?_⟩;unfold phi at h;rw[if_pos hl'] at h;cases er:g (fV N.length ds) with
 | nx ρ=>rw[er] at h;exact λσ' F' H' _ R=>h.2 .non F' H' R.st vV (by intro z;cases z)
 | rt m d=>rw[er] at h;exact λv F' H' s rp fr=>h.2 v F' H' s rp fr
 | bk ρ=>rw[er] at h;exact h.elim
 | ct ρ=>rw[er] at h;exact h.elim
 | exc c ρ=>rw[er] at h;exact λσ' F' H' _ R u hu=>h F' H' u R.st hu
 | stuck=>rw[er] at h;exact h.elim
def gX(ρ:Rho)(i:Nat)(r:Res):aB:=match ρ[i]? with
 | some (some (true,.lst ds))=>(bG r).thS ρ λm d=>match m with | .fz=>if ds.length<sizeLine then .nx (ρ.set i (some (true,.lst (ds++[d])))) else .stuck | _=>.stuck
 | _=>.stuck
section
variable {C:Cw}{X:Cx}{e:Expr}{g:Rho->Res}{x:Str}{p ap cp pos:Pos}
theorem aJH(i:Nat)(hv:PE X (.Name x p) (iF i))(he:PV C X e g)(hs:bP e=true)(hline:ap.endLine=cp.line):PSv C X (.Expr (.Call (.Attribute (.Name x p) "append" ap) [e] [] cp) pos) (λρ=>gX ρ i (g ρ)):=by
 have h1 := vM (X := X) (o := .Name x p) (e := e) (es := []) (apos := ap) (cpos := cp) PySem.F.plainAttrs_list PySem.F.slot_list_append PySem.F.type_list_append vN hv (kY (gQ he) m9 (bQ hs)) (wR rfl) (by
     rw[rB _ _ (λy hy=>by simp only[aPP,aSV,aSW] at hy;subst hy;exact hs)];rfl) (aRW.mpr hline) (bQ hs) rfl
 refine PS.imp (qL h1) λE σ H q=>?_;obtain ⟨ρ,F,R,w⟩:=q;dsimp only at w;unfold qK tBM;cases e0:ρ[i]? with
 | none=>unfold gX at w;rw[e0] at w;exact w.elim
 | some o =>
  cases o with
  | none=>unfold gX at w;rw[e0] at w;exact w.elim
  | some bd =>
   obtain ⟨b,d0⟩:=bd;cases b with
   | false=>unfold gX at w;rw[e0] at w;exact w.elim
   | true =>
    cases d0 with
    | lst ds =>
     unfold gX at w;rw[e0] at w;dsimp only at w;obtain ⟨v0,ev0,rp0,hn0⟩:=R.slot i true _ e0;obtain ⟨a,ea,hfa,xs,hh,rl⟩:=rp0;subst ea;refine ⟨.ref a,ev0,.inl ⟨rfl,xs,SqL.of hh⟩,?_⟩;unfold m8;refine gS R w λm d v F' H' w' s R' rp fr=>?_;cases m with
     | fr=>exact (show False from w').elim
     | bo=>exact (show False from w').elim
     | fz =>
     dsimp only at w';split at w'
     . rename_i hl;have hh':H' a=some (.lst xs):=s.same _ _ hh;refine ⟨a,xs,v,rfl,rfl,hh',by rw[rl.length];exact hl,?_⟩
       exact w' σ F' _ (aH.refl _) (R'.mut e0 ev0 ⟨_,bV,aE.append (rl.mono s.fsame _ _) (aE.cons rp aE.nil)⟩)
     . exact w'.elim
    | _=>unfold gX at w;rw[e0] at w;exact w.elim
end
end D3
namespace D3
open PySem PySem.Spec PyProof.Rows L2
section
variable {prog:Program}{w:World}{A:Around}{R:Result->Shared->Prop}{J:Addr}{fp wr:List Addr}{n:Nat}{P:Nat->Value->Prop}{St:Nat->Heap->Prop}{ns:List Int}{S:Addr}
end
section
variable {prog:Program}{w:World}{A:Around}{E:VSP}{s:Shared}
end
section
variable {C:Cw}{X:Cx}{e:Expr}{g:Rho->Res}{p q kp pos:Pos}{j}
end
theorem aE.drop{K:Fg}{F:Hp}:∀ (n:Nat) {ds:List D} {xs:List V},aE K F ds xs->aE K F (ds.drop n) (xs.drop n)
 | 0,_,_,h=>h
 | n+1,[],xs,h=>by simp only[aE] at h;subst h;simp[aE]
 | n+1,d::ds,xs,h=>by simp only[aE] at h;obtain ⟨v,vs,rfl,_,t⟩:=h;exact aE.drop n t
theorem aE.take{K:Fg}{F:Hp}:∀ (n:Nat) {ds:List D} {xs:List V},aE K F ds xs->aE K F (ds.take n) (xs.take n)
 | 0,_,_,_=>by simp[aE]
 | n+1,[],xs,h=>by simp only[aE] at h;subst h;simp[aE]
 | n+1,d::ds,xs,h=>by simp only[aE] at h;obtain ⟨v,vs,rfl,r,t⟩:=h;simp only[List.take_succ_cons,aE];exact ⟨v,_,rfl,r,aE.take n t⟩
def c9(xs:List D)(lo hi:Option Int):List D:=(xs.drop (HT.sIx xs.length 0 lo)).take (HT.sIx xs.length xs.length hi-HT.sIx xs.length 0 lo)
theorem aE.cut{K:Fg}{F:Hp}{ds:List D}{xs:List V}(h:aE K F ds xs)(lo hi:Option Int):aE K F (c9 ds lo hi) (fT xs lo hi):=by unfold c9 fT;rw[h.length];exact (h.drop _).take _
def lO(n:Nat)(lo hi:Option Int):Bool:=HT.sIx n 0 lo==0&&HT.sIx n n hi==n
def slP(x:Res)(lo hi:Option (Rho->Res))(ρ:Rho):Res:=x.thn λm d=>match d with
 | .str z=>cP lo ρ λl=>cP hi ρ λh=>.ok .fz (.str (Txt.slice z l h))
 | .lst ds=>cP lo ρ λl=>cP hi ρ λh=>.ok .fr (.lst (c9 ds l h))
 | .tup ds=>cP lo ρ λl=>cP hi ρ λh=>if (lO ds.length l h&&m != .fz)=true then .stuck else .ok .fz (.tup (c9 ds l h))
 | _=>.stuck
section
variable {C:Cw}{X:Cx}{a:Expr}{ga:Rho->Res}{pos:Pos}
theorem aJI{lo hi:Option Expr}{gl gh:Option (Rho->Res)}{p2:Pos}(ha:PV C X a ga)(hl:POv C X lo gl)(hh:POv C X hi gh):PV C X (.Subscript a (.Slice lo hi none p2) pos) (λρ=>slP (ga ρ) gl gh ρ):=by
 refine PE.imp (aEL (aGF.or (aEU.or (aEM.or aIC))) ha (v7 hl) (v7 hh)) λσ H Q q=>?_;unfold tSl;rw[bA] at q ⊢;obtain ⟨ρ,F,R,w⟩:=q
 try dsimp only at w
 refine ⟨ρ,F,R,?_⟩;cases er:ga ρ with
 | stuck=>rw[er] at w;exact w
 | exc c=>rw[er] at w;exact w
 | ok m d =>
  rw[er] at w;intro v F1 H1 s1 rp _;cases d with
  | str z=>obtain ⟨rfl,hz,hk⟩:=rp.str;have w1:a8 (C.at X) F1 H1 σ (cP gl ρ λl=>cP gh ρ λh=>.ok .fz (.str (Txt.slice z l h))) Q:=a8.step s1 w;refine jK (R.step s1) w1 λl F2 H2 s2 R2 w2=>jK R2 w2 λh F3 H3 s3 R3 w3=>.inl ?_;exact ⟨z,rfl,hz,w3 _ F3 H3 (.refl R3.sub) (eN ⟨aPN (aRS z _ _) hz,aGG hk⟩) (by intro z;cases z)⟩
  | lst ds=>have w1:a8 (C.at X) F1 H1 σ (cP gl ρ λl=>cP gh ρ λh=>.ok .fr (.lst (c9 ds l h))) Q:=a8.step s1 w;refine jK (R.step s1) w1 λl F2 H2 s2 R2 w2=>jK R2 w2 λh F3 H3 s3 R3 w3=>.inr (.inl ?_);obtain ⟨p,xs,rfl,hq,rl⟩:=((rp.step s2).step s3).seqL R3.sub;exact ⟨p,xs,rfl,hq,λp' hp'=>w3 (.ref p') F3 _ (aN.fresh _ R3.sub hp') ⟨p',rfl,R3.sub.free hp',_,bV,rl.cut l h⟩ λ_ a ea=>by cases ea;exact hp'⟩
  | tup ds =>
   have w1:a8 (C.at X) F1 H1 σ (cP gl ρ λl=>cP gh ρ λh=>if (lO ds.length l h&&m != .fz)=true then .stuck else .ok .fz (.tup (c9 ds l h))) Q:=a8.step s1 w;refine jK (R.step s1) w1 λl F2 H2 s2 R2 w2=>jK R2 w2 λh F3 H3 s3 R3 w3=>.inr (.inr ?_);obtain ⟨p,xs,rfl,hq,rl⟩:=((rp.step s2).step s3).seqT R3.sub;have lw:lO ds.length l h=true↔HT.sIx xs.length 0 l=0/\HT.sIx xs.length xs.length h=xs.length:=by rw[rl.length];unfold lO;simp
   cases hw:lO ds.length l h with
   | true =>
    cases m with
    | fz =>
     rw[hw,if_neg (by decide)] at w3
     have e:=lw.mp hw;have ec:c9 ds l h=ds:=by unfold c9;rw[<- rl.length,e.1,e.2,rl.length,aSG,Nat.sub_zero];exact aSY
     rw[ec] at w3;exact .inr ⟨p,xs,rfl,hq,e,w3 (.ref p) F3 H3 (.refl R3.sub) ((rp.step s2).step s3) (by intro z;cases z)⟩
    | fr=>rw[hw,if_pos (by decide)] at w3;exact w3.elim
    | bo=>rw[hw,if_pos (by decide)] at w3;exact w3.elim
   | false =>
    rw[hw,if_neg (by simp)] at w3
    refine .inl ⟨p,xs,rfl,hq,λz=>?_,λp' hp'=>w3 (.ref p') _ _ (aN.laid (.tup (fT xs l h)) R3.sub hp') (aC.tup_of (R3.sub.free hp') (rl.cut l h)) (by intro z;cases z)⟩
    rw[lw.mpr z] at hw;cases hw
  | _=>exact (show False from w).elim
end
section
variable {C:Cw}{X:Cx}{pos:Pos}
theorem aJJ:PV C X (.Dict [] [] pos) (λ_=>.ok .fr (.dct [])):=by refine PE.imp aFD λσ H Q q=>?_;rw[bA] at q;obtain ⟨ρ,F,R,w⟩:=q;intro p hp;exact w (.ref p) F _ (aN.fresh _ R.sub hp) ⟨p,rfl,R.sub.free hp,[],bV,by simp[aM]⟩ λ_ a ea=>by cases ea;exact hp
end
def bC(kvs:List (Key×D))(k:Key):Option D:=(kvs.find? λkv=>decide (kv.1=k)).map (·.2)
theorem aM.val{K:Fg}{F:Hp}:∀ {kvs:List (Key×D)} {xs:List (Key×V)} (k:Key),aM K F kvs xs->match bC kvs k with | some d=>∃ v,cX xs k=some v/\aC K F d v | none=>cX xs k=none
 | [],xs,k,h=>by simp only[aM] at h;subst h;rfl
 | (k',d)::kvs,xs,k,h=>by
  simp only[aM] at h;obtain ⟨y,ys,rfl,r,t⟩:=h;by_cases e:k'=k
  . have e1:bC ((k',d)::kvs) k=some d:=by simp[bC,aRD,e]
    rw[e1];exact ⟨y,nI e,r⟩
  . have e1:bC ((k',d)::kvs) k=bC kvs k:=by simp[bC,aRD,e]
    rw[e1,nJ (p:=(k',y)) e];exact aM.val k t
section
variable {X:Cx}
def rIxK:R2:=λx y H Q=>∃ a v,x=.ref a/\gO H a y (some v)/\Q v H
theorem aJK(hu:X.A.units+1<cLine):IxR X rIxK:=by
 intro value slice aA s σ H x y v u Q I rx ry h hsub;obtain ⟨a,w',rfl,g,q⟩:=h;cases (show v=Value.ref a from rx)
 have hT:s.TypeIs (.ref a) "dict" := aE9 I g;unfold subscriptTail;refine aPZ ?_;rw[getitemInPython_of_ne hT.not_modules];refine aPZ (aRJ hT PySem.F.slot_dict_getitem.lookup ?_);have fin:wpAny (model X.prog X.w) X.A (subscripted slice false (.ref a) u) (λr s3=>wpAny (model X.prog X.w) X.A (letTemporaryGo value (.ref a) r >>= λ_=>pure r) (EP X aA σ Q) X.xe s3) X.xe s:=by rw[hsub];exact wpAny_operating (aE5 hu I g ry λz s3 I3 rz=>aPZ (wpAny_letTemporaryGo (aP1 ⟨w',H,I3,rz,q⟩)))
 first
  | exact aP1 (aPZ fin)
  | exact aPZ (aP1 (aPZ fin))
  | exact aPZ fin
end
def ixK:Md->D->Md->D->Option (Md×D):=λ_ x _ y=>match x,jM y with
 | .dct kvs,some k=>(bC kvs k).map λd=>(.fz,d)
 | _,_=>none
theorem rS{K:Fg}{F H:Hp}{m n:Md}{kvs:List (Key×D)}{y:D}{k:Key}{v u:V}(s:aH F H)(rx:Rp K F H m (.dct kvs) v)(ry:Rp K F H n y u)(ek:jM y=some k):∃ a xs,v=.ref a/\H a=some (.dK xs)/\aM K F kvs xs/\gO H a u (cX xs k):=by obtain ⟨a,xs,rfl,hh,rk⟩:=rx.dict s;exact ⟨a,xs,rfl,hh,rk,.inl ⟨xs,k,.inl hh,qX ek ry,rfl⟩⟩
section
variable {C:Cw}{X:Cx}{a b:Expr}{ga gb:Rho->Res}{pos:Pos}
def inK(neg:Bool):Md->D->Md->D->Option (Md×D):=λ_ x _ y=>match jM x,y with
 | some k,.dct kvs=>some (.fz,.bl (if neg then !(bC kvs k).isSome else (bC kvs k).isSome))
 | _,_=>none
theorem xF{K:Fg}{F:Hp}{kvs:List (Key×D)}{xs:List (Key×V)}(k:Key)(h:aM K F kvs xs):(cX xs k).isSome=(bC kvs k).isSome:=by
 have:=aM.val k h;cases e:bC kvs k with
 | none=>rw[e] at this;have this:cX xs k=none:=this;rw[this];rfl
 | some d=>rw[e] at this;obtain ⟨v,ev,_⟩:=this;rw[ev];rfl
theorem xG(hu:X.A.units+1<cLine):OpD C X (compareOp .In) (inK false):=by
 refine ⟨λx y H Q=>∃ a o,y=.ref a/\gO H a x o/\Q (.bl o.isSome) H,?_,?_⟩
 . intro aA s σ H x y v u Q I rx ry h;obtain ⟨a,o,rfl,g,q⟩:=h;cases (show u=Value.ref a from ry)
   exact d_in hu I g rx λs3 I3=>⟨.bl o.isSome,H,I3,rfl,q⟩
 . intro F H m x n y v u k d Q s rx ry e w;unfold inK at e;split at e
   . rename_i ky kvs ek;cases e;obtain ⟨p,xs,rfl,hh,rk,g⟩:=rS s ry rx ek;exact ⟨p,_,rfl,g,by rw[xF ky rk];exact w _ F H (.refl s) (bZ _) (by intro z;cases z)⟩
   . cases e
theorem xH(hu:X.A.units+1<cLine):OpD C X (compareOp .NotIn) (inK true):=by
 refine ⟨λx y H Q=>∃ a o,y=.ref a/\gO H a x o/\Q (.bl (!o.isSome)) H,?_,?_⟩
 . intro aA s σ H x y v u Q I rx ry h;obtain ⟨a,o,rfl,g,q⟩:=h;cases (show u=Value.ref a from ry)
   exact aE6 hu I g rx λs3 I3=>⟨.bl (!o.isSome),H,I3,rfl,q⟩
 . intro F H m x n y v u k d Q s rx ry e w;unfold inK at e;split at e
   . rename_i ky kvs ek;cases e;obtain ⟨p,xs,rfl,hh,rk,g⟩:=rS s ry rx ek;exact ⟨p,_,rfl,g,by rw[xF ky rk];exact w _ F H (.refl s) (bZ _) (by intro z;cases z)⟩
   . cases e
def lP:List (Md×D)->Option (Md×D)
 | [(_,.dct kvs)]=>some (.fr,.dct kvs)
 | _=>none
theorem aJL:dQ X (.type "dict") lP:=by
 refine ⟨λvs H Q=>∃ a xs,vs=[.ref a]/\H a=some (.dK xs)/\∀ p,H p=none->Q (.ref p) (upd H p (.dK xs)),?_,?_⟩
 . intro aA s σ H vs us Q I r h;obtain ⟨a,xs,rfl,hh,q⟩:=h;obtain ⟨u,rfl,ru⟩:=fR r;cases (show u=Value.ref a from ru)
   exact aFE I (.inl hh) λp s' hp I'=>⟨.ref p,_,I',rfl,q p hp⟩
 . intro F H xs vs k d Q s rx e w;unfold lP at e;split at e
   . rename_i m kvs;cases e;obtain ⟨v,rfl,r⟩:=rx.one;obtain ⟨a,ys,rfl,hh,rk⟩:=r.dict s;exact ⟨a,ys,rfl,hh,λp hp=>w (.ref p) F _ (aN.fresh _ s hp) ⟨p,rfl,s.free hp,ys,bV,rk⟩ λ_ b eb=>by cases eb;exact hp⟩
   . cases e
end
def eD(kvs:List (Key×D))(k:Key)(d:D):List (Key×D):=if (kvs.any λkv=>decide (kv.1=k))=true then kvs.map (λkv=>if kv.1=k then (kv.1,d) else kv) else kvs++[(k,d)]
theorem aM.keys{K:Fg}{F:Hp}:∀ {kvs:List (Key×D)} {xs:List (Key×V)},aM K F kvs xs->xs.map (·.1)=kvs.map (·.1)
 | [],xs,h=>by simp only[aM] at h;subst h;rfl
 | (k,d)::kvs,xs,h=>by simp only[aM] at h;obtain ⟨y,ys,rfl,_,t⟩:=h;simp[aM.keys t]
theorem aM.snoc{K:Fg}{F:Hp}{k:Key}{d:D}{v:V}(r:aC K F d v):∀ {kvs:List (Key×D)} {xs:List (Key×V)},aM K F kvs xs->aM K F (kvs++[(k,d)]) (xs++[(k,v)])
 | [],xs,h=>by simp only[aM] at h;subst h;simp only[aSZ,aM];exact ⟨v,[],rfl,r,rfl⟩
 | (k',d')::kvs,xs,h=>by simp only[aM] at h;obtain ⟨y,ys,rfl,r',t⟩:=h;simp only[List.cons_append,aM];exact ⟨y,_,rfl,r',aM.snoc r t⟩
theorem aM.repl{K:Fg}{F:Hp}{k:Key}{d:D}{v:V}(r:aC K F d v):∀ {kvs:List (Key×D)} {xs:List (Key×V)},aM K F kvs xs->aM K F (kvs.map λkv=>if kv.1=k then (kv.1,d) else kv) (xs.map λkv=>if kv.1=k then (kv.1,v) else kv)
 | [],xs,h=>by simp only[aM] at h;subst h;simp[aM]
 | (k',d')::kvs,xs,h=>by
  simp only[aM] at h;obtain ⟨y,ys,rfl,r',t⟩:=h;have ih:=aM.repl (k:=k) r t;by_cases e:k'=k
  . simp only[aRG,e,aQ0,aM];exact ⟨v,_,rfl,r,ih⟩
  . simp only[aRG,e,aQZ,aM];exact ⟨y,_,rfl,r',ih⟩
theorem aM.put{K:Fg}{F:Hp}{k:Key}{d:D}{v:V}{kvs:List (Key×D)}{xs:List (Key×V)}(h:aM K F kvs xs)(r:aC K F d v):aM K F (eD kvs k d) (cY xs k v):=by
 have e:(xs.any λkv=>decide (kv.1=k))=(kvs.any λkv=>decide (kv.1=k)):=by
  have:=h.keys;have a1:∀ {β:Type} (l:List (Key×β)),(l.any λkv=>decide (kv.1=k))=(l.map (·.1)).any (λx=>decide (x=k)):=λl=>by rw[List.any_map];rfl
  rw[a1,a1,this]
 unfold eD cY;rw[e];split
 . exact aM.repl r h
 . exact aM.snoc r h
theorem aM.len{K:Fg}{F:Hp}{kvs:List (Key×D)}{xs:List (Key×V)}(h:aM K F kvs xs):xs.length=kvs.length:=by have:=congrArg List.length h.keys;simpa using this
def fY(ρ:Rho)(i:Nat)(rk rv:Res):aB:=match ρ[i]? with
 | some (some (true,.dct kvs))=>(bG rv).thS ρ λm d=>match m with
  | .fz=>rk.thS ρ λ_ kd=>(match jM kd with
   | some k=>if kvs.length<sizeLine then .nx (ρ.set i (some (true,.dct (eD kvs k d)))) else .stuck
   | none=>.stuck)
  | _=>.stuck
 | _=>.stuck
section
variable {C:Cw}{X:Cx}{e ke:Expr}{g gk:Rho->Res}{x:Str}{p sp pos:Pos}
theorem aJM(i:Nat)(hu:X.A.units+1<cLine)(hv:PE X (.Name x p) (iF i))(hk:PV C X ke gk)(he:PV C X e g)(hsw:swapsWith e (some (.Subscript (.Name x p) ke sp)) pos.line X.env=pure false):PSv C X (.Assign [.Subscript (.Name x p) ke sp] e pos) (λρ=>fY ρ i (gk ρ) (g ρ)):=by
 refine PS.imp (aFA hu hv hk (gQ he) hsw) λE σ H q=>?_;obtain ⟨ρ,F,R,w⟩:=q;dsimp only at w;unfold vS;cases e0:ρ[i]? with
 | none=>unfold fY at w;rw[e0] at w;exact w.elim
 | some o =>
  cases o with
  | none=>unfold fY at w;rw[e0] at w;exact w.elim
  | some bd =>
   obtain ⟨b,d0⟩:=bd;cases b with
   | false=>unfold fY at w;rw[e0] at w;exact w.elim
   | true =>
    cases d0 with
    | dct kvs =>
     unfold fY at w;rw[e0] at w;dsimp only at w;obtain ⟨v0,ev0,rp0,hn0⟩:=R.slot i true _ e0;obtain ⟨a,ea,hfa,xs,hh,rk⟩:=rp0;subst ea;refine gS R w λm d v F' H' w' s R' rp fr=>?_;cases m with
     | fr=>exact (show False from w').elim
     | bo=>exact (show False from w').elim
     | fz =>
     dsimp only at w';refine ⟨.ref a,ev0,?_⟩;refine gS R' w' λm2 kd u F2 H2 w2 s2 R2 rp2 _=>?_;cases ek:jM kd with
     | none=>rw[ek] at w2;exact w2.elim
     | some k =>
      rw[ek] at w2;dsimp only at w2;split at w2
      . rename_i hl;have hh2:H2 a=some (.dK xs):=s2.same _ _ (s.same _ _ hh);refine ⟨a,_,rfl,.inl ⟨xs,k,hh2,qX ek rp2,by rw[rk.len];exact hl,rfl⟩,?_⟩
        exact w2 σ F2 _ (aH.refl _) (R2.mut e0 ev0 ⟨_,bV,aM.put (rk.mono (s.fsame.trans s2.fsame) _ _) (aC.mono s2.fsame _ _ rp)⟩)
      . exact w2.elim
    | _=>unfold fY at w;rw[e0] at w;exact w.elim
end
section
variable {C:Cw}{X:Cx}{a b:Expr}{ga gb:Rho->Res}{pos:Pos}
theorem aJN(hu:X.A.units+1<cLine)(ha:PV C X a ga)(hb:PV C X b gb)(hs:nH b):PV C X (.Subscript a b pos) (λρ=>op2 ixK (ga ρ) (gb ρ)):=by
 refine PE.imp (vK (aJK hu) ha hb hs) λσ H Q q=>k8 (λF H m x n y v u k d Q s rx ry e w=>?_) q;unfold ixK at e;split at e
 . rename_i kvs ky ek;obtain ⟨p,xs,rfl,hh,rk,g⟩:=rS s rx ry ek;cases eg:bC kvs ky with
   | none=>rw[eg] at e;cases e
   | some d'=>rw[eg] at e;cases e;have:=aM.val ky rk;rw[eg] at this;obtain ⟨v',ev,rv⟩:=this;rw[ev] at g;exact ⟨p,v',rfl,g,w v' F H (.refl s) rv (by intro z;cases z)⟩
 . cases e
theorem aJO{neg:Bool}{op:CmpOp}(ho:op=if neg then .NotIn else .In)(hu:X.A.units+1<cLine)(ha:PV C X a ga)(hb:PV C X b gb)(hm:behindInMarks op b=false):PV C X (.Compare a [op] [b] pos) (λρ=>op2 (inK neg) (ga ρ) (gb ρ)):=by
 cases neg with
 | false=>subst ho;exact k9 (xG hu) ha hb hm
 | true=>subst ho;exact k9 (xH hu) ha hb hm
end
end D3
namespace D3
open PySem PySem.Spec PyProof.Rows L2 PySem.SeqAt PySem.MeetsSeq
section
variable {X:Cx}{o e:Expr}{apos cpos:Pos}{td ty:TE}
end
section
variable {C:Cw}{X:Cx}{o e:Expr}{apos cpos:Pos}{go g:Rho->Res}
end
end D3
namespace D3
open PySem PySem.Spec PyProof.Rows L2
def eE(kb:List (Key×D)):List (Key×D)->Option Bool
 | []=>some true
 | (k,d)::r=>match bC kb k with
  | none=>some false
  | some e=>(match aV d,aV e with
   | some p,some q=>if (fE p&&fE q)=true then (eE kb r).map λb=>PyData.eqv p q&&b else none
   | _,_=>none)
def eqN(neg:Bool):Md->D->Md->D->Option (Md×D):=λ_ x _ y=>match x,y with
 | .dct ka,.dct kb=>(eE kb ka).map λr=>(.fz,.bl (if neg then !(ka.length==kb.length&&r) else (ka.length==kb.length&&r)))
 | _,_=>none
section
variable {C:Cw}{X:Cx}
theorem xI{aA:LAO}{σ:L2.St}{F H:Hp}{s:Shared}(hu:X.A.units+64<cLine)(I:L2.Inv X aA σ H s)(sF:aH F H){kb:List (Key×D)}{ys:List (Key×V)}{vb:List (Key×Value)}(rb:aM X.K F kb ys)(kvb:KV ys vb):∀ {ka:List (Key×D)} {xs:List (Key×V)} {va:List (Key×Value)} {r:Bool},aM X.K F ka xs->KV xs va->eE kb ka=some r->PySem.W.KeqHits X.A.in1 s vb va r
 | [],xs,va,r,h,kv,e=>by simp only[aM] at h;subst h;cases kv;cases e;exact .nil
 | (k,d)::ka,xs,va,r,h,kv,e=>by
  simp only[aM] at h;obtain ⟨y,xs',rfl,ry,t⟩:=h;cases kv with
  | cons h1 t1 =>
   rename_i q1 va';obtain ⟨k1,u1⟩:=q1;obtain ⟨e1,r1⟩:=h1;dsimp only at e1 r1;subst e1;unfold eE at e;have hv:=aM.val k rb;have hr:=kvb.val k;cases eg:bC kb k with
   | none=>rw[eg] at e hv;cases e;have hv:cX ys k=none:=hv;rw[hv] at hr;exact .miss (dN.none_of hr)
   | some ee =>
    rw[eg] at e hv;obtain ⟨v2,ev2,rv2⟩:=hv;rw[ev2] at hr;obtain ⟨u2,eu2,ru2⟩:=dN.some_of hr;dsimp only at e;split at e
    . rename_i p q ep eq;split at e
      . rename_i hs;cases eh:eE kb ka with
        | none=>rw[eh] at e;cases e
        | some b=>rw[eh] at e;cases e;rw[aQ8] at hs;have hs1:=aRM hs.1;obtain ⟨⟨as,ra⟩,ca⟩:=nN I sF d p y u1 ry r1 ep;obtain ⟨⟨bs,rb'⟩,cb⟩:=nN I sF ee q v2 u2 rv2 ru2 eq;exact .hit eu2 (SeqAt.eqAt_reads p q X.A.in1 s u1 u2 as bs ra rb' ca cb (by show X.A.units+1+min p.depth q.depth<cLine;have:=Nat.min_le_left p.depth q.depth;omega)) (xI hu I sF rb kvb t t1 eh)
      . cases e
    . cases e
theorem xJ{f:Value->Value->Sem Value}{neg:Bool}(hu:X.A.units+64<cLine)(rule:∀ (s:Shared) (a b:Addr) (ka kb:List (Key×Value)) (r:Bool) (Q:VSP),(a==sysModules)=false->(b==sysModules)=false->s.heap.DictOf (bT X.prog X.w) a ka->s.heap.DictOf (bT X.prog X.w) b kb->(ka.length=kb.length->PySem.W.KeqHits X.A.in1 s kb ka r)->Q (.bool (if neg then !(ka.length==kb.length&&r) else (ka.length==kb.length&&r))) s->wpAny (model X.prog X.w) X.A (f (.ref a) (.ref b)) Q X.xe s):OpD C X f (eqN neg):=by
 refine ⟨λx y H Q=>∃ F m n ka kb r,aH F H/\Rp X.K F H m (.dct ka) x/\Rp X.K F H n (.dct kb) y/\eE kb ka=some r/\Q (.bl (if neg then !(ka.length==kb.length&&r) else (ka.length==kb.length&&r))) H,?_,?_⟩
 . intro aA s σ H x y v u Q I rx ry h;obtain ⟨F,m,n,ka,kb,r,sF,hd,he,eh,hQ⟩:=h;obtain ⟨a,xs,rfl,ha,ra⟩:=hd.dict sF;obtain ⟨b,ys,rfl,hb,rb⟩:=he.dict sF;cases rx;cases ry;obtain ⟨_,sa,va,rva,da⟩:=qT I.hok ha;obtain ⟨_,sb,vb,rvb,db⟩:=qT I.hok hb;have la:va.length=ka.length:=by rw[<- ra.len];exact (aPD rva).symm
   have lb:vb.length=kb.length:=by rw[<- rb.len];exact (aPD rvb).symm
   refine rule s a b va vb r _ sa sb da db (λ_=>xI hu I sF rb rvb ra rva eh) ⟨.bl _,H,I,rfl,?_⟩;rw[la,lb];exact hQ
 . intro F H m x n y v u k d Q s rx ry e w;unfold eqN at e;split at e
   . rename_i ka kb;cases eh:eE kb ka with
     | none=>rw[eh] at e;cases e
     | some r=>rw[eh] at e;cases e;exact ⟨F,m,n,ka,kb,r,s,rx,ry,eh,w _ F H (.refl s) (bZ _) (by intro z;cases z)⟩
   . cases e
theorem xK(hu:X.A.units+64<cLine):OpD C X (compareOp .Eq) (eqN false):=xJ hu λs a b ka kb r Q sa sb da db hits q=>PySem.W.keq_eq sa sb da db (by omega) hits q
theorem xL(hu:X.A.units+64<cLine):OpD C X (compareOp .NotEq) (eqN true):=xJ hu λs a b ka kb r Q sa sb da db hits q=>PySem.W.keq_ne sa sb da db (by omega) hits q
end
def iR(w:World)(K:Fg):List (Str×Str)->List DictEntry->Prop
 | [],es=>es=[]
 | (z,f)::r,es=>∃ t a es',es=⟨PyData.keyHash w.params z,.str z t,.ref a⟩::es'/\PySem.W.nsIn K mainGlobals f=some (some (.ref a))/\iR w K r es'
structure gY(w:World)(K:Fg)(mg:SOV)(x:Str)(tb:List (Str×Str)):Prop where
 ex:∃ a ob es ep,mg x=some (.ref a)/\K.lookup a=some ob/\ob.ExactDict/\ob.data=.dict es ep/\iR w K tb es.toList
 nd:(tb.map (·.1)).Nodup
theorem iR.pairs{P:Program}{w:World}{K:Fg}:∀ {tb:List (Str×Str)} {es:List DictEntry},iR w K tb es->∃ kvs:List (Key×Value),Pairs (bT P w) es kvs/\kvs.map (·.1)=tb.map (λp=>.inr p.1)/\(∀ e∈es,∃ k,(bT P w).is k e.key=true/\e.hash=(bT P w).hash k)/\∀ z f,tb.lookup z=some f->∃ a,valueAt kvs (.inr z)=some (.ref a)/\PySem.W.nsIn K mainGlobals f=some (some (.ref a))
 | [],es,h=>by
  have h:es=[]:=h;subst h;refine ⟨[],.nil,rfl,λe h=>?_,λz f h=>?_⟩
  . cases h
  . cases h
 | (z,f)::r,es,h=>by
  obtain ⟨t,a,es',rfl,hn,hr⟩:=h;obtain ⟨kvs,p1,p2,p3,p4⟩:=iR.pairs (P:=P) hr;have hi:(bT P w).is (.inr z) (.str z t)=true:=by show Value.isStrOf z (.str z t)=true;simp[Value.isStrOf]
  refine ⟨(.inr z,.ref a)::kvs,.cons hi rfl p1,by simp[p2],λe he=>?_,λz' f' hz=>?_⟩
  . rcases aPP.mp he with rfl | he
    . exact ⟨.inr z,hi,rfl⟩
    . exact p3 e he
  . rw[aSB] at hz;unfold valueAt;by_cases e:z'=z
    . subst e;rw[aSC] at hz;cases hz;exact ⟨a,by simp[aRD],hn⟩
    . have:(z'==z)=false:=aPC.mpr e;rw[this] at hz;obtain ⟨a',q1,q2⟩:=p4 z' f' hz;refine ⟨a',?_,q2⟩;unfold valueAt at q1;simp[aRD];simpa[Ne.symm e] using q1
abbrev Tbl:=List (Str×Str)
abbrev Fns:=List Str
def jV(tb:List (Str×Str))(r:Res):Res:=r.thn λ_ d=>match d with
 | .str z=>(match tb.lookup z with | some f=>.ok .fz (.fn f) | none=>.stuck)
 | _=>.stuck
def lQ(Φ:Str->List D->Res)(fs:List Str)(n:Nat)(r:Res)(as:aT):Res:=match r with
 | .ok .fz (.fn f)=>if fs.contains f=true then aF n (Φ f) as else .stuck
 | _=>.stuck
section
variable {C:Cw}{X:Cx}{e b:Expr}{es:List Expr}{gs:Rho->aT}{gb:Rho->Res}{p pos:Pos}{x:Str}{k n:Nat}{tb:List (Str×Str)}
theorem aJP(T:gY X.w X.K X.mg x tb)(hg:Gl X x)(hb:PV C X b gb)(hs:qV b)(hd:(x==("__debug__" : Str))=false):PV C X (.Subscript (.Name x p) b pos) (λρ=>jV tb (gb ρ)):=by
 obtain ⟨a,ob,es,ep,hm,hk,xd,hdt,te⟩:=T.ex;intro aA s σ H Q I h;rw[bA] at h;obtain ⟨ρ,F,R,w⟩:=h;have hb':=hb aA s σ H (λy H2=>∃ z f,y=.str z/\tb.lookup z=some f/\∀ fa,PySem.W.nsIn X.K mainGlobals f=some (some (.ref fa))->Q (.ref fa) H2) I (by
  rw[bA];refine ⟨ρ,F,R,?_⟩;cases er:gb ρ with
  | stuck=>rw[er] at w;exact w
  | exc c=>rw[er] at w;exact w
  | ok m d =>
   rw[er] at w;intro v F1 H1 s1 r1 _;have w1:a8 (C.at X) F1 H1 σ (jV tb (.ok m d)) Q:=a8.step s1 w;unfold jV at w1;rw[Res.thn_ok] at w1;cases d with
   | str z =>
    dsimp only at w1;cases el:tb.lookup z with
    | none=>rw[el] at w1;exact w1.elim
    | some f =>
     rw[el] at w1;refine ⟨z,f,?_,el,λfa hf=>w1 (.ref fa) F1 H1 (.refl s1.sub) (by show aC _ _ _ _;simp only[aC];exact ⟨fa,rfl,hf⟩) (by intro z;cases z)⟩
     exact (qX (k:=.inr z) rfl r1)
   | _=>exact w1.elim)
 refine aE8 PySem.F.slot_dict_getitem.lookup hs (mY I hg hm (thn hb' λiv s2 ⟨y,H2,I2,ry,z,f,ey,el,q⟩=>?_) hd);subst ey;obtain ⟨kvs,p1,p2,p3,p4⟩:=iR.pairs (P:=X.prog) te;have hh:s2.heap.get? a=some ob:=I2.kIn a ob hk
 have dd:s2.heap.DictOf (bT X.prog X.w) a kvs:=⟨ob,es,ep,hh,xd,hdt,λe he=>p3 e (by simpa using he),p1,by
  rw[p2];have:=T.nd;unfold List.Nodup at this ⊢;rw[List.pairwise_map] at this ⊢;exact this.imp λh z=>h (Sum.inr.inj z)⟩
 obtain ⟨fa,v1,v2⟩:=p4 z f el;exact ⟨dd.typeIs,wpAny_getItem_of (iG (k:=.inr z) ry) dd.mapOf v1 ⟨.ref fa,H2,I2.tok _,rfl,q fa v2⟩⟩
theorem aJQ{i:Nat}{fs:List Str}{Φ:Str->List D->Res}{CX:CXT}(F:∀ f,fs.contains f=true->FnV X.prog X.w X.K X.mg X.base CX k f n (Φ f))(hr:cI k X.A)(hx:XOk CX (C.at X) X)(hv:PE X (.Name x p) (iF i))(ha:PAv C X (e::es) gs)(he:starEach (e::es) X.env=(false,eval e X.env)::starEach es X.env)(hpl:(backTo pos (starEach es X.env)).any (·.1)=false):PV C X (.Call (.Name x p) (e::es) [] pos) (λρ=>lQ Φ fs n (dC ρ i) (gs ρ)):=by
 intro aA s σ H Q I h;rw[bA] at h;obtain ⟨ρ,G,R,w⟩:=h;unfold lQ at w;split at w;rotate_left
 . exact w.elim
 rename_i f eg;split at w;rotate_left
 . exact w.elim
 rename_i hf;obtain ⟨fa,fd,ps,FF,hm,hk,hb⟩:=(F f hf).ex;have sl:ρ[i]? = some (some (false,.fn f)):=by
  unfold dC at eg;split at eg
  . rename_i d q;cases eg;exact q
  . cases eg
  . cases eg
 obtain ⟨v,ev,rv,_⟩:=R.slot i false (.fn f) sl;have rv:aC X.K G (.fn f) v:=rv;simp only[aC] at rv;obtain ⟨a,rfl,na⟩:=rv;have ea:a=fa:=by have:=aS0 I.ok.mod.kin I.ok.mod.glob na;rw[hm] at this;cases this;rfl
 subst ea;refine aQS (thn (hv aA s σ H (λv' H'=>v'=.ref a/\H'=H) I ⟨.ref a,ev,rfl,rfl⟩) λu s0 ⟨v',H0,I0,ru,e1,e2⟩=>?_);subst e1 e2;obtain rfl:u=Value.ref a:=ru;refine PySem.W.callWith_K (h₀:=X.base) I0.ok.mod.kin hk (thn (ha pos aA s0 σ H0 (λvs H1=>spV X.K X.mg n (Φ f) vs H1 Q λu _ H'=>∃ c,X.mg c=some u/\C.EE c σ H') I0 ?_) λus s1 ⟨vs,H1,I1,r,q⟩=>⟨I1.kIn,wK FF hr hb (λe s' hc=>hx aA σ H1 s1 e s' I1 hc) I1 r q⟩) he hpl;refine ⟨ρ,G,R,?_⟩;cases er:gs ρ with
 | stuck=>rw[er] at w;exact w
 | exc c=>rw[er] at w;exact w
 | ok xs =>
  rw[er] at w;intro vs F1 H1 s1 r1;have w1:a8 (C.at X) F1 H1 σ (aF n (Φ f) (.ok xs)) Q:=a8.step s1 w;unfold aF at w1;rw[aT.thn_ok] at w1;cases ef:cQ xs with
  | none=>rw[ef] at w1;exact w1.elim
  | some ds =>
   rw[ef] at w1;dsimp only at w1;split at w1
   . rename_i hn;have rl:=r1.fz ef;refine ⟨by rw[rl.length];exact hn,F1,ds,s1.sub,rl,?_⟩
     cases ep:Φ f ds with
     | stuck=>rw[ep] at w1;exact w1
     | exc c=>rw[ep] at w1;exact λF' H' u st hu=>⟨c,hu,w1 F' H' st⟩
     | ok m d =>
      rw[ep] at w1;cases m with
      | bo=>exact w1.elim
      | fz=>exact ⟨by decide,w1⟩
      | fr=>exact ⟨by decide,w1⟩
   . exact w1.elim
end
section
variable {X:Cx}
end
theorem aW.frz{K:Fg}{F0 H0 F H:Hp}{σ:L2.St}{ρ:Rho}(R:aW K F0 H0 F H σ ρ){i:Nat}{d:D}(e:ρ[i]? = some (some (true,d))):∃ F',aH F F'/\aW K F0 H0 F' H σ (ρ.set i (some (false,d))):=by
 obtain ⟨v,ev,rp,hn⟩:=R.slot i true d e;obtain ⟨x,rfl,nx,t⟩:=rp;obtain ⟨o,ho,r⟩:=t.freeze nx;have sm:aH F (upd F x o):=λb u q=>by rw[aU (cO q nx)];exact q
 have hi:i<ρ.length:=(aPS.mp e).1;refine ⟨upd F x o,sm,R.st.freeze (hn rfl x rfl) nx ho,λj m d' ej=>?_,λj k d1 d2 a hjk e1 e2 q1 q2=>?_,by rw[aR3];exact R.len⟩
 . by_cases hj:j=i
   . subst hj;rw[aPT hi] at ej;cases ej;exact ⟨.ref x,ev,r,by intro z;cases z⟩
   . rw[aPU (λz=>hj z.symm)] at ej;obtain ⟨v',ev',rp',hn'⟩:=R.slot j m d' ej;refine ⟨v',ev',?_,hn'⟩;cases m with
     | false=>exact aC.mono sm _ _ rp'
     | true =>
      obtain ⟨a,rfl,na,t'⟩:=rp';have ax:a≠x:=λz=>by subst z;exact R.apart j i d' d a hj ej e ev' ev
      refine ⟨a,rfl,by rw[aU ax];exact na,?_⟩
      cases d' with
      | lst ds=>obtain ⟨xs,q,rr⟩:=t';exact ⟨xs,q,rr.mono sm _ _⟩
      | dct ds=>obtain ⟨xs,q,rr⟩:=t';exact ⟨xs,q,rr.mono sm _ _⟩
      | ins c fs=>obtain ⟨C,dx,gs,n,q,rr⟩:=t';exact ⟨C,dx,gs,n,q,rr.mono sm _ _⟩
      | set ks=>obtain ⟨S,q,rr⟩:=t';exact ⟨S,q,rr⟩
      | _=>exact t'.elim
 . have own:∀ {j:Nat} {d1:D},(ρ.set i (some (false,d)))[j]? = some (some (true,d1))->ρ[j]? = some (some (true,d1)):=λ{j d1} z=>by
     by_cases hj:j=i
     . subst hj;rw[aPT hi] at z;cases z
     . rw[aPU (λy=>hj y.symm)] at z;exact z
   exact R.apart j k d1 d2 a hjk (own e1) (own e2) q1 q2
def lR(ρ:Rho)(i:Nat):aB:=match ρ[i]? with
 | some (some (true,d))=>.nx (ρ.set i (some (false,d)))
 | _=>.stuck
theorem aJR{C:Cw}{X:Cx}{sts:List Stmt}{i:Nat}{g:Rho->aB}(h:PBv C X sts g):PBv C X sts (λρ=>(lR ρ i).thn g):=by
 refine PSs.imp h λE σ H q=>?_;obtain ⟨ρ,F,R,w⟩:=q;dsimp only at w;unfold lR at w;split at w
 . rename_i d e;obtain ⟨F',sm,R'⟩:=R.frz e;exact ⟨_,F',R',bU.mono sm w⟩
 . exact w.elim
def Ent(w:World):List Str->List (Int×Value)->Prop
 | [],l=>l=[]
 | x::xs,l=>∃ t r,l=(hashStr w x,.str x t)::r/\Ent w xs r
def rT(w:World):Bool:=w.params.followText "set-order"
def SetX(w:World)(h:Heap)(a:Addr)(xs:List Str):Prop:=∃ o es ep t,h.get? a=some o/\o.ExactSet/\o.data=.set es ep t/\Ent w xs es.toList/\xs.Nodup/\xs.length<scanBound/\t.fits es.size=true/\t.led = !rT w/\(xs=[]\/t.plain=false)
section
variable {prog:Program}{w:World}{A:Around}{E:VSP}{s:Shared}
end
section
variable {prog:Program}{w:World}{A:Around}{E:VSP}{s:Shared}
end
section
variable {prog:Program}{w:World}{A:Around}{E:VSP}{s:Shared}
end
def Small(m:Nat):Prop:=m=7\/m=15\/m=31
section
variable {m:Nat}{ow:Array (Option Nat)}
end
def SetM(w:World)(h:Heap)(a:Addr)(xs:List Str):Prop:=∃ o es ep t,h.get? a=some o/\o.ExactSet/\o.data=.set es ep t/\Ent w xs es.toList/\xs.Nodup/\xs.length<scanBound/\t.fits es.size=true/\t.led = !rT w/\(xs=[]\/t.plain=false)/\Small t.mask/\t.dummies = #[]
section
variable {prog:Program}{w:World}{A:Around}{E:VSP}{s:Shared}
def Wide(h:Heap)(a:Addr)(n:Nat):Prop:=∀ o es ep t,h.get? a=some o->o.data=.set es ep t->n<=t.mask
end
section
variable {prog:Program}{w:World}{A:Around}{E:VSP}{s:Shared}
end
section
variable {prog:Program}{w:World}{A:Around}{E:VSP}{s:Shared}{I a:Addr}{i n ep:Nat}{o:Obj}{es:Array (Int×Value)}{t:SetTable}
end
section
variable {prog:Program}{w:World}{A:Around}{E:VSP}{s:Shared}
variable {I a:Addr}{ep:Nat}{o:Obj}{es:Array (Int×Value)}{t:SetTable}
end
section
variable {prog:Program}{w:World}{A:Around}{E:VSP}{s:Shared}{a:Addr}{xs:List Str}
end
def sx(w:World)(l:Addr)(ys:List Str):HO:=.ext λh=>SetX w h l ys
section
variable {X:Cx}
end
def txD:List D->Option (List Str)
 | []=>some []
 | .str x::ds=>(txD ds).map (x :: ·)
 | _::_=>none
theorem xM{K:Fg}{F:Hp}:∀ {ds:List D} {xs:List V} {ns:List Str},txD ds=some ns->aE K F ds xs->xs=ns.map V.str/\∀ x∈ns,x.length<=sizeLine/\PyData.strOk x=true
 | [],xs,ns,e,r=>by cases e;simp only[aE] at r;subst r;exact ⟨rfl,λx hx=>by cases hx⟩
 | d::ds,xs,ns,e,r=>by
  cases d with
  | str x =>
   simp only[txD] at e;cases q:txD ds with
   | none=>rw[q] at e;cases e
   | some ms=>rw[q] at e;cases e;simp only[aE] at r;obtain ⟨v,vs,rfl,rv,rr⟩:=r;obtain ⟨rfl,h2⟩:=xM q rr;simp only[aC] at rv;obtain ⟨rfl,h1⟩:=rv;exact ⟨rfl,λy hy=>(aPP.mp hy).elim (λe=>by subst e;exact h1) (h2 y)⟩
  | _=>cases e
section
variable {C:Cw}{X:Cx}{ga gb:Rho->Res}{ea eb:Expr}
end
section
variable {C:Cw}{X:Cx}{ga gb:Rho->Res}{ea eb:Expr}{p p1 p2 q q1 q2 pos:Pos}
end
section
variable {prog:Program}{w:World}{A:Around}{E:VSP}{s:Shared}{I l:Addr}{items:Array Value}
end
section
variable {C:Cw}{X:Cx}{ga:Rho->Res}{ea:Expr}{p p1 q1 pos:Pos}
end
section
variable {prog:Program}{w:World}{A:Around}{R:Result->Shared->Prop}{s:Shared}{b:Bool}{elt tg aQ tg2 uP:Expr}{ifs:List Expr}{scope:Scope}{pos:Pos}{it acc:Value}{env:Env}
end
def AllF(ρ:Rho):Prop:=∀ (i:Nat) (m:Bool) (d:D),ρ[i]? = some (some (m,d))->m=false
def AR(K:Fg)(w:World)(b:Bool)(Da:Addr)(F:Hp)(zs:List D)(o:HO):Prop:=match b with
 | true=>∃ ys,o=.lst ys/\aE K F zs ys
 | false=>∃ (ns ys:List Str),zs=ns.map .str/\o=sx w Da ys/\ys.Nodup/\ys.length<=ns.length/\(∀ x,x∈ys↔x∈ns)/\∀ x∈ns,x.length<=sizeLine/\PyData.strOk x=true
section
variable {C:Cw}{X:Cx}
end
section
variable {C:Cw}{X:Cx}{elt aQ tg uP tg2:Expr}{ifs:List Expr}{scope:Scope}{pos:Pos}{aG:List Nat}{aJ tgN:List Str}{gi gt gi2 ge:Rho->Res}
variable (hc : X.calm = true) (hi : PIv C X tg aQ gi) (cV : ∀ y ∈ scope.names, y.2 ≠ .cell) (dL : scope.kind = .function) (eY : ∀ y ∈ scope.names, y.2 = .local → scope.names.lookup y.1 = some .local)
    (dM:∀ y∈scope.names,y.2=.free->X.env.kindOf y.1=some .cell\/X.env.kindOf y.1=some .free)
    (d9:aJ.map some=aG.map λi=>X.N[i]?) (e6:∀ y∈aJ,(y,NameKind.free)∈scope.names)
    (eZ:∀ y∈aJ,(relabel scope X.env).names.lookup y=some .cell\/(relabel scope X.env).names.lookup y=some .free)
    (hn:tgN.length=2)
    (hg:∀ cl A fp s3 H3,PGw (bJ X scope (aJ++tgN) cl A fp s3 H3) tg (.nm aG.length)) (hf:∀ cl A fp s3 H3,dD (bJ X scope (aJ++tgN) cl A fp s3 H3) ifs (tT (C.nox.at X) gt))
    (hi2:∀ cl A fp s3 H3,PIv C.nox (bJ X scope (aJ++tgN) cl A fp s3 H3) tg2 uP gi2) (hg2:∀ cl A fp s3 H3,PGw (bJ X scope (aJ++tgN) cl A fp s3 H3) tg2 (.nm (aG.length+1)))
    (he:∀ cl A fp s3 H3,PV C.nox (bJ X scope (aJ++tgN) cl A fp s3 H3) elt ge)
    (hs:∀ x,foldedSetIterable aQ X.env x=pure x) (hs2:∀ env x,foldedSetIterable uP env x=pure x)
include hc hi cV dL eY dM d9 e6 eZ hn hg hf hi2 hg2 he hs hs2
end
end D3
namespace D3
open PySem PySem.Spec PyProof.Rows L2 PySem.W
structure StrO(n:Nat)(lt:Nat->Nat->Bool):Prop where
 tr:∀ {i j k},lt i j=true->lt j k=true->lt i k=true
 asy:∀ {i j},lt i j=true->lt j i=false
 tot:∀ {i j},i<n->j<n->i≠j->lt i j=true\/lt j i=true
section
variable {n:Nat}{lt:Nat->Nat->Bool}{cmp:Nat->Nat->(Bool->Shared->Prop)->Shared->Prop}{J:Shared->Prop}
def Upto(lt:Nat->Nat->Bool)(p:Array Nat)(b:Nat):Prop:=∀ i j,i<j->j<b->lt (p.getD i 0) (p.getD j 0)=true
def Dnto(lt:Nat->Nat->Bool)(p:Array Nat)(b:Nat):Prop:=∀ i j,i<j->j<b->lt (p.getD j 0) (p.getD i 0)=true
end
section
variable {prog:Program}{w:World}{A:Around}{E:VSP}{s:Shared}
end
section
variable {prog:Program}{w:World}{A:Around}{E:VSP}{s:Shared}
end
section
variable {X:Cx}
end
end D3
namespace D3
open PySem PySem.Spec PyProof.Rows L2 PySem.SeqAt PySem.MeetsSeq
abbrev xN:Md->D->Md->D->Option (Md×D):=fI (λ_ _=>true) λi j=>.int (Builtin.bitAnd i j)
abbrev fBor:Md->D->Md->D->Option (Md×D):=fI (λ_ _=>true) λi j=>.int (Builtin.bitOr i j)
abbrev fShl:Md->D->Md->D->Option (Md×D):=fI (λi j=>decide (0<=j)&&decide (j<=1000000)&&decide (i.natAbs<2 ^ 64)) λi j=>.int (i * 2 ^ j.toNat)
abbrev fShr:Md->D->Md->D->Option (Md×D):=fI (λ_ j=>decide (0<=j)) λi j=>.int (i / 2 ^ j.toNat)
section
variable {C:Cw}{X:Cx}
theorem aJS:OpD C X (binaryOp .BitAnd) xN:=gP aDT λ_ _ i j=>cE _
theorem aJT:OpD C X (binaryOp .BitOr) fBor:=gP op_or λ_ _ i j=>cE _
theorem aJU:OpD C X (binaryOp .LShift) fShl:=jH aDR (λi j h=>by
 simp only[aQ8,aRL] at h;exact ⟨h.1.1,h.1.2,h.2⟩) λ_ _ i j=>cE _
theorem aJV:OpD C X (binaryOp .RShift) fShr:=jH aDS (λi j h=>aRM h) λ_ _ i j=>cE _
end
section
variable {X:Cx}{o e:Expr}{apos cpos:Pos}{td ty:TE}
end
section
variable {C:Cw}{X:Cx}{o e:Expr}{apos cpos:Pos}{go g:Rho->Res}
end
end D3
namespace D3
open PySem PySem.Spec PyProof.Rows L2
section
variable {C:Cw}{X:Cx}{pos:Pos}{scope:Scope}{aG:List Nat}{aJ:List Str}{x d m:Str}{p0 p1 p2 p3 p4 p5 p6 p7 p8 p9:Pos}{i j jd jm k0:Nat}
end
end D3
namespace L2
open PySem PySem.Spec PyProof.Rows D3
end L2
namespace D3
open PySem PySem.Spec PyProof.Rows L2
section
variable {C:Cw}{X:Cx}{pos:Pos}
end
abbrev Rise(xs:Array Nat):Prop:=xs.toList.Pairwise (· < ·)
def PlOk(t:SetTable):Prop:=t.plain=false\/(t.dummies = #[]/\Rise t.place)
def EntI(w:World):List Int->List (Int×Value)->Prop
 | [],l=>l=[]
 | x::xs,l=>∃ t r,l=(hashInt x,.int x t)::r/\EntI w xs r
def SetI(w:World)(h:Heap)(a:Addr)(xs:List Int):Prop:=∃ o es ep t,h.get? a=some o/\o.ExactSet/\o.data=.set es ep t/\EntI w xs es.toList/\xs.Nodup/\xs.length<scanBound/\t.fits es.size=true/\t.led = !rT w/\PlOk t
section
variable {prog:Program}{w:World}{A:Around}{E:VSP}{s:Shared}
end
section
variable {prog:Program}{w:World}{A:Around}{E:VSP}{s:Shared}
end
section
variable {prog:Program}{w:World}{A:Around}{E:VSP}{s:Shared}
end
section
variable {prog:Program}{w:World}{A:Around}{E:VSP}{s:Shared}
variable {I a:Addr}{ep:Nat}{o:Obj}{es:Array (Int×Value)}{t:SetTable}
end
section
variable {prog:Program}{w:World}{A:Around}{E:VSP}{s:Shared}{a:Addr}{xs:List Int}
end
section
variable {X:Cx}
end
section
variable {C:Cw}{X:Cx}{ga:Rho->Res}{ea:Expr}{p p1 q1 pos:Pos}
end
section
variable {C:Cw}{X:Cx}{e:Expr}{es:List Expr}{gs:Rho->aT}{p pos:Pos}{x:Str}{k n:Nat}{Φ:List D->Res}{CX:CXT}
end
def gZ(ρ:Rho)(i:Nat)(r:Res):aB:=match ρ[i]? with
 | some (some (true,.lst ds))=>r.thS ρ λm d=>match m,d with
  | .fr,.lst es=>if ds.length+es.length<=sizeLine then .nx (ρ.set i (some (true,.lst (ds++es)))) else .stuck
  | _,_=>.stuck
 | _=>.stuck
section
variable {C:Cw}{X:Cx}{e ke:Expr}{g gk:Rho->Res}{x:Str}{p ap cp sp pos:Pos}
theorem aJW(i:Nat)(hv:PE X (.Name x p) (iF i))(he:PV C X e g)(hs:bP e=true)(hline:ap.endLine=cp.line):PSv C X (.Expr (.Call (.Attribute (.Name x p) "extend" ap) [e] [] cp) pos) (λρ=>gZ ρ i (g ρ)):=by
 have h1 := vM (X := X) (o := .Name x p) (e := e) (es := []) (apos := ap) (cpos := cp) PySem.F.plainAttrs_list PySem.F.slot_list_extend PySem.F.type_list_extend aE4 hv (kY he m9 (bQ hs)) (wR rfl) (by
     rw[rB _ _ (λy hy=>by simp only[aPP,aSV,aSW] at hy;subst hy;exact hs)];rfl) (aRW.mpr hline) (bQ hs) rfl
 refine PS.imp (qL h1) λE σ H q=>?_;obtain ⟨ρ,F,R,w⟩:=q;dsimp only at w;unfold qK tBM;cases e0:ρ[i]? with
 | none=>unfold gZ at w;rw[e0] at w;exact w.elim
 | some o =>
  cases o with
  | none=>unfold gZ at w;rw[e0] at w;exact w.elim
  | some bd =>
   obtain ⟨b,d0⟩:=bd;cases b with
   | false=>unfold gZ at w;rw[e0] at w;exact w.elim
   | true =>
    cases d0 with
    | lst ds =>
     unfold gZ at w;rw[e0] at w;dsimp only at w;obtain ⟨v0,ev0,rp0,hn0⟩:=R.slot i true _ e0;obtain ⟨a,ea,hfa,xs,hh,rl⟩:=rp0;subst ea;refine ⟨.ref a,ev0,.inl ⟨rfl,xs,SqL.of hh⟩,?_⟩;unfold m8;refine gS R w λm d v F' H' w' s R' rp fr=>?_;cases m with
     | fz=>cases d <;> exact (show False from w').elim
     | bo=>cases d <;> exact (show False from w').elim
     | fr =>
     cases d with
     | lst es =>
      dsimp only at w';split at w'
      . rename_i hl;have hh':H' a=some (.lst xs):=s.same _ _ hh;obtain ⟨b,eb,hfb,zs,hb,rz⟩:=rp;subst eb;refine ⟨a,b,xs,zs,rfl,rfl,hh',hb,by rw[rl.length,rz.length];exact hl,?_⟩
        exact w' σ F' _ (aH.refl _) (R'.mut e0 ev0 ⟨_,bV,aE.append (rl.mono s.fsame _ _) rz⟩)
      . exact w'.elim
     | _=>exact (show False from w').elim
    | _=>unfold gZ at w;rw[e0] at w;exact w.elim
end
abbrev fZ(h:Heap)(z TI TO t:Addr)(b:Bool):Prop :=
 h.get? z=some { cls:=.type "zip", dict:=none,data:=.fields #[rawInt t,.bool b,.bool false,.ref TI,.ref TO],slots:=#[] }
section
open PySem.SeqAt
open PySem.AutoSeq1 (wpAny_loadPart')
open PySem.MeetsSeq PySem.MeetsSeq2 PySem.MeetsSeq3
variable {prog:Program}{w:World}{A:Around}{E:VSP}{s:Shared}
theorem xO{z TI TO t:Addr}{b:Bool}{x0 y0:Value}{Q:Bool->Shared->Prop}(hz:fZ s.heap z TI TO t b)(ht:IsPair s.heap t x0 y0)(q:∀ h',fZ h' z TI TO t true->Heap.SameBut z s.heap h'->Q false { s with heap:=h' }):wpAny (model prog w) A (Builtin.SmallTypes.ownedTupleIsFree (.ref z)) Q E s:=by
 delta Builtin.SmallTypes.ownedTupleIsFree
 refine aPZ (aQ1 hz rfl (x:=rawInt t) rfl ?_);show wpAny _ _ (loadIfAlive _ >>= _) _ _ _;rw[show ((t:Int)).toNat=t from aQY t]
 refine aPZ (PySem.W.kdx_alive ht ?_);rw[show (some ({ cls:=.type "tuple", data:=.seq #[x0,y0] }:Obj)).isNone=false from rfl,if_neg aP5]
 refine aPZ (m:=field (.ref z) 1) (aQ1 hz rfl (x:=.bool b) rfl ?_);cases b with
 | true =>
  rw[show ((Value.bool true != Value.bool true))=false from rfl,if_neg aP5]
  exact aP1 (q s.heap hz (Heap.SameBut.refl ..))
 | false =>
  rw[show ((Value.bool false != Value.bool true))=true from rfl,if_pos rfl]
  refine aPZ (aSN hz (by simp) λH1 z1 s1=>?_)
  exact aP1 (q H1 z1 s1)
theorem aJX{z TI TO t i j l m:Addr}{b:Bool}{ki kj:Nat}{xs ys:Array Value}{x y x0 y0:Value}{Q:VSP}(D:ZipApart z TI TO i j l m)(tz:t≠z)(ti:t≠i)(tj:t≠j)(hz:fZ s.heap z TI TO t b)(ht:IsPair s.heap t x0 y0)(hI:IsPair s.heap TI (.ref i) (.ref j))(hi:s.heap.IsTupleIter i l ki)(hj:s.heap.IsTupleIter j m kj)(hl:IsTup s.heap l xs)(hm:IsTup s.heap m ys)(hx:xs[ki]? = some x)(hy:ys[kj]? = some y)(q:∀ h',fZ h' z TI TO t true->h'.IsTupleIter i l (ki+1)->h'.IsTupleIter j m (kj+1)->IsPair h' s.heap.objs.size x y->h'.objs.size=s.heap.objs.size+1->(∀ c o,c≠z->c≠i->c≠j->s.heap.get? c=some o->h'.get? c=some o)->Q (.ref s.heap.objs.size) { s with heap:=h' }):wpAny (model prog w) A (Builtin.«zip.__next__» ⟨[.ref z],[]⟩) (λf s'=>∃ v,f=.done (.ret v)/\Q v s') E s:=by
 refine aPZ (m:=field (.ref z) 2) (aQ1 hz rfl (x:=.bool false) rfl ?_);refine aPZ (m:=field (.ref z) 3) (aQ1 hz rfl (x:=.ref TI) rfl ?_);apply aPZ;apply aSM hI rfl;refine aPZ (m:=Builtin.SmallTypes.ownedTupleIsFree (.ref z)) (xO hz ht λH1 z1 s1=>?_);simp only[aQZ,aSD];apply aPZ;simp only[<- Array.forIn_toList,aR9,aR8];apply aPZ;apply aPZ;apply aQ3;refine aPZ (m:=Builtin.SmallTypes.nextOf (.ref i)) ?_;refine iQ (hi.extBut s1.extBut D.i1z) (cL hl λo e=>s1.extBut _ o D.l1z e) hx λH2 i2 s2=>?_;apply aP1;apply aP1;apply aPZ;apply aPZ;apply aQ3;refine aPZ (m:=Builtin.SmallTypes.nextOf (.ref j)) ?_;have j2:H2.IsTupleIter j m kj:=(hj.extBut s1.extBut D.i2z).extBut s2.extBut D.i12.symm;have m2:IsTup H2 m ys:=cL hm λo e=>s2.extBut _ o D.l2i1 (s1.extBut _ o D.l2z e);refine iQ j2 m2 hy λH3 j3 s3=>?_;apply aP1;apply aP1;apply aP1;have sz:H3.objs.size=s.heap.objs.size:=by rw[s3.1,s2.1,s1.1]
 apply aPZ;refine wpAny_newTuple (hsz:=by show 2<=sizeLine;rw[aQD];decide) ?_
 refine aP1 ⟨_,rfl,?_⟩;show Q (.ref H3.objs.size) _;rw[sz];have up:∀ c o,c≠z->c≠i->c≠j->s.heap.get? c=some o->(H3.push { cls:=.type "tuple", data:=.seq #[x,y] }).get? c=some o:=λc o c1 c3 c4 e =>
  hps (s3.extBut _ _ c4 (s2.extBut _ _ c3 (s1.extBut _ _ c1 e)))
 refine q _ (hps (s3.extBut _ _ D.i2z.symm (s2.extBut _ _ D.i1z.symm z1))) ?_ ?_ ?_ ?_ up
 . exact (i2.extBut s3.extBut D.i12).at λo e=>hps e
 . exact j3.at λo e=>hps e
 . rw[<- sz];exact aPF _ rfl
 . rw[aSE,sz]
theorem aJY{z TI TO t i j l m:Addr}{b:Bool}{ki kj:Nat}{xs ys:Array Value}{x0 y0:Value}{Q:Fin->Shared->Prop}(h0:A.handled=none)(D:ZipApart z TI TO i j l m)(tz:t≠z)(ti:t≠i)(tj:t≠j)(hz:fZ s.heap z TI TO t b)(ht:IsPair s.heap t x0 y0)(hI:IsPair s.heap TI (.ref i) (.ref j))(hi:s.heap.IsTupleIter i l ki)(hj:s.heap.IsTupleIter j m kj)(hl:IsTup s.heap l xs)(hm:IsTup s.heap m ys)(hn:xs[ki]? = none\/ys[kj]? = none)(q:∀ h' e,(∀ c o,c≠z->c≠i->c≠j->s.heap.get? c=some o->h'.get? c=some o)->(∃ o,h'.get? e=some o/\o.cls=.type "StopIteration")->E (.ref e) { s with heap:=h' }):wpAny (model prog w) A (Builtin.«zip.__next__» ⟨[.ref z],[]⟩) Q E s:=by
 refine aPZ (m:=field (.ref z) 2) (aQ1 hz rfl (x:=.bool false) rfl ?_);refine aPZ (m:=field (.ref z) 3) (aQ1 hz rfl (x:=.ref TI) rfl ?_);apply aPZ;apply aSM hI rfl;refine aPZ (m:=Builtin.SmallTypes.ownedTupleIsFree (.ref z)) (xO hz ht λH1 z1 s1=>?_);simp only[aQZ,aSD];apply aPZ;simp only[<- Array.forIn_toList,aR9,aR8];apply aPZ;apply aPZ;apply aQ3;refine aPZ (m:=Builtin.SmallTypes.nextOf (.ref i)) ?_;have i1:=hi.extBut s1.extBut D.i1z;have l1:IsTup H1 l xs:=cL hl λo e=>s1.extBut _ o D.l1z e;cases ex:xs[ki]? with
 | none=>refine jU h0 i1 l1 ex λH2 e s2 he=>?_;exact q H2 e (λc o c1 c3 c4 z=>s2 _ _ c3 (s1.extBut _ _ c1 z)) he
 | some x =>
  have ey:ys[kj]? = none:=hn.resolve_left (by rw[ex];exact λz=>nomatch z)
  refine iQ i1 l1 ex λH2 i2 s2=>?_;apply aP1;apply aP1;apply aPZ;apply aPZ;apply aQ3;refine aPZ (m:=Builtin.SmallTypes.nextOf (.ref j)) ?_;have j2:H2.IsTupleIter j m kj:=(hj.extBut s1.extBut D.i2z).extBut s2.extBut D.i12.symm;have m2:IsTup H2 m ys:=cL hm λo e=>s2.extBut _ o D.l2i1 (s1.extBut _ o D.l2z e);refine jU h0 j2 m2 ey λH3 e s3 he=>?_;exact q H3 e (λc o c1 c3 c4 z=>s3 _ _ c4 (s2.extBut _ _ c3 (s1.extBut _ _ c1 z))) he
theorem aJZ{z TI TO t i j l m:Addr}{b:Bool}{ki kj:Nat}{xs ys:Array Value}{x y x0 y0:Value}{Q:Option Value->Shared->Prop}(D:ZipApart z TI TO i j l m)(tz:t≠z)(ti:t≠i)(tj:t≠j)(hz:fZ s.heap z TI TO t b)(ht:IsPair s.heap t x0 y0)(hI:IsPair s.heap TI (.ref i) (.ref j))(hi:s.heap.IsTupleIter i l ki)(hj:s.heap.IsTupleIter j m kj)(hl:IsTup s.heap l xs)(hm:IsTup s.heap m ys)(hx:xs[ki]? = some x)(hy:ys[kj]? = some y)(q:∀ h',fZ h' z TI TO t true->h'.IsTupleIter i l (ki+1)->h'.IsTupleIter j m (kj+1)->IsPair h' s.heap.objs.size x y->h'.objs.size=s.heap.objs.size+1->(∀ c o,c≠z->c≠i->c≠j->s.heap.get? c=some o->h'.get? c=some o)->Q (some (.ref s.heap.objs.size)) { s with heap:=h' }):wpAny (model prog w) A (pyNext (.ref z)) Q E s:=by
 have ty:s.TypeIs (.ref z) "zip" := ⟨_,hz,rfl⟩
 delta pyNext
 apply aPZ;apply aSQ;apply aQ4 (name:=Str.ofString "__next__") ty aSR;refine aQ6 aSR ty aSS ?w (aST _)
 case w=>exact aJX D tz ti tj hz ht hI hi hj hl hm hx hy λh' a1 a3 a4 a5 a6 a7=>aP1 (q h' a1 a3 a4 a5 a6 a7)
theorem aJ0{z TI TO t i j l m:Addr}{b:Bool}{ki kj:Nat}{xs ys:Array Value}{x0 y0:Value}{Q:Option Value->Shared->Prop}(h0:A.handled=none)(D:ZipApart z TI TO i j l m)(tz:t≠z)(ti:t≠i)(tj:t≠j)(hz:fZ s.heap z TI TO t b)(ht:IsPair s.heap t x0 y0)(hI:IsPair s.heap TI (.ref i) (.ref j))(hi:s.heap.IsTupleIter i l ki)(hj:s.heap.IsTupleIter j m kj)(hl:IsTup s.heap l xs)(hm:IsTup s.heap m ys)(hn:xs[ki]? = none\/ys[kj]? = none)(q:∀ h',(∀ c o,c≠z->c≠i->c≠j->s.heap.get? c=some o->h'.get? c=some o)->Q none { s with heap:=h' }):wpAny (model prog w) A (pyNext (.ref z)) Q E s:=by
 have ty:s.TypeIs (.ref z) "zip" := ⟨_,hz,rfl⟩
 delta pyNext
 apply aPZ;apply aSQ;apply aQ4 (name:=Str.ofString "__next__") ty aSR;refine aQ6 aSR ty aSS ?w (aST _)
 case w=>refine aJY h0 D tz ti tj hz ht hI hi hj hl hm hn λh' e k he=>?_;obtain ⟨o,g,c⟩:=he;apply aPZ;refine aSU (T := "StopIteration") (b:=true) ⟨o,g,c⟩ isSubtype_stop ?_;exact aP1 (q _ k)
end
theorem aJ1:typeLookup (.type "zip") "__getattr__" = pure none:=by rw[typeLookup_type,builtinLookup_eq_fast];kernel_rfl
theorem aJ2:typeLookup (.type "zip") "keys" = pure none:=by rw[typeLookup_type,builtinLookup_eq_fast];kernel_rfl
theorem aJ3:entryFor table "zip.__getattribute__" = some Builtin.«object.__getattribute__» :=
 entryFor_alias (id' := "object.__getattribute__") (by kernel_rfl) (by decide +kernel) (by decide +kernel) (by kernel_rfl)
theorem aJ4(a:Addr)(fs:Array Value)(u:Tok):Meets (Builtin.«object.__getattribute__» ⟨[.ref a,.str "keys" u],[]⟩) (λA R s=>s.heap.get? a=some { cls:=.type "zip", dict:=none,data:=.fields fs,slots:=#[] }/\raisesAttr (.ref a) "keys" A R s) :=
 Meets.of_wp λprog w A R s hs=>by
  obtain ⟨hp,g,d,tk,os⟩:=s;obtain ⟨hx,hs⟩:=hs;have hT:(⟨hp,g,d,tk,os⟩:Shared).TypeIs (.ref a) "zip" := ⟨_,hx,rfl⟩;have hmiss:=aJ2;have hname:(["__module__", "__name__", "__qualname__", "__doc__", "__annotations__"]:List Str).contains "keys" = false:=by decide +kernel
  unfold Builtin.«object.__getattribute__»
  repeat (any_goals (first | assumption | wp_step))
  exact wpAny_raiseAttrError hs.1 hs.2 (attrMsg_fits (by decide +kernel) (by size_fits))
section
variable {prog:Program}{w:World}{A:Around}{E:VSP}{s:Shared}
theorem aJ5{a:Addr}{fs:Array Value}{Q:Option Value->Shared->Prop}(hx:s.heap.get? a=some { cls:=.type "zip", dict:=none,data:=.fields fs,slots:=#[] })(hA:A.handled=none)(q:∀ h' tk,(∀ b o,s.heap.get? b=some o->h'.get? b=some o)->Q none { s with heap:=h',toks:=tk }):wpAny (model prog w) A (getAttr? (.ref a) "keys") Q E s:=by
 obtain ⟨hp,g,d,tk,os⟩:=s;have hT:∀ tk',(⟨hp,g,d,tk',os⟩:Shared).TypeIs (.ref a) "zip" := λ_=>⟨_,hx,rfl⟩;have f1:=sub_AttributeError;have f3:=F.slot_zip_getattribute.lookup;have f4:=F.slot_zip_getattribute.bind (.ref a);have f5:=aJ1;unfold getAttr? getAttrBy? getAttrBy
 repeat (any_goals (first | assumption | exact hT _ | ((with_reducible show wpAny _ _ (call (Value.builtin "zip.__getattribute__") _ _) _ _ _);refine call_meets F.slot_zip_getattribute (hT _) aJ3 (F.args_zip_getattribute_2 _ _) (aJ4 a fs _) ⟨hx,hA,λh' tk' e hx'=>?_⟩) | wp_step))
 obtain ⟨t',u',he⟩:=hx'.there;show wpAny _ _ (getattributeRaised _ _ _ _ _ _ _) _ _ _;unfold getattributeRaised
 repeat (any_goals (first | assumption | wp_step))
 exact q _ _ hx'.keeps
end
theorem rV:entryFor table "dict.update.loop" = some Builtin.«dict.update.loop»:=entryFor_of_tree (by kernel_rfl)
theorem jW:plainId "dict.update.loop" = true:=by decide +kernel
def jX{K:Type}[DecidableEq K](ks:Nat->K)(vs:Nat->Value):Nat->Nat->List (K×Value)->List (K×Value)
 | 0,_,kvs=>kvs
 | n+1,k,kvs=>jX ks vs n (k+1) (stored kvs (ks k) (vs k))
section
variable {prog:Program}{w:World}{K:Type}[DecidableEq K]{knd:KeyKind prog w K}{A:Around}{E:VSP}{s:Shared}
theorem xP{kvs:List (K×Value)}{k:K}{v:Value}:(stored kvs k v).length<=kvs.length+1:=by unfold stored;split <;> simp
theorem xQ {d p : Addr} {x y : Value} {k : K} {kvs : List (K × Value)} {Q : Unit → Shared → Prop} (hp : IsPair s.heap p x y) (hk : knd.is k x = true) (hd : s.heap.DictOf knd d kvs) (hz : kvs.length ≤ sizeLine) (q : ∀ h', h'.DictOf knd d (stored kvs k y) → Heap.SameBut d s.heap h' → Q () { s with heap := h', toks := s.toks + 1 }) (i : Int) :
    wpAny (model prog w) A (holding [.ref p] (do
     let pair <- (Builtin.Dict.pairItems (.ref p)).tryCatch λe=>do
      if !(<- isInstance e (.type "TypeError")) then throw e
      rule "dict.update.element-no-sequence"
      raiseError "TypeError" s!"cannot convert dictionary update sequence element #{i} to a sequence"
     match pair with
     | [k,v]=>holding [k,v] (dictSet d k v)
     | l =>
      rule "dict.update.element-length"
      raiseError "ValueError" s!"dictionary update sequence element #{i} has length {l.length}; 2 is required")) Q E s:=by
 refine aQ3 (aPZ ?_);refine wpAny_tryCatch ?_;unfold Builtin.Dict.pairItems;refine aPZ (aQ7 ⟨_,hp,rfl⟩ ?_);rw[if_pos (by decide)]
 refine aPZ (aSM hp rfl (aP1 ?_));exact aQ3 (wpAny_dictSet_pairs hk hd q hz)
theorem loopU{R:Result->Shared->Prop}{z TI TO t i j l m d:Addr}{xs ys:Array Value}{x0 y0:Value}{ks:Nat->K}{vs:Nat->Value}{n0:Nat}(h0:A.handled=none)(D:ZipApart z TI TO i j l m)(tz:t≠z)(ti:t≠i)(tj:t≠j)(dz:d≠z)(di:d≠i)(dj:d≠j)(dI:d≠TI)(dl:d≠l)(dm:d≠m)(dt:d≠t)(zTI:TI≠i)(zTJ:TI≠j)(hn:n0=min xs.size ys.size)(hk:∀ q x,xs[q]? = some x->knd.is (ks q) x=true)(hv:∀ q y,ys[q]? = some y->vs q=y):∀ (n k:Nat) (s:Shared) (b:Bool) (c:Int) (kvs:List (K×Value)),n+k=n0->fZ s.heap z TI TO t b->IsPair s.heap t x0 y0->IsPair s.heap TI (.ref i) (.ref j)->s.heap.IsTupleIter i l k->s.heap.IsTupleIter j m k->IsTup s.heap l xs->IsTup s.heap m ys->s.heap.DictOf knd d kvs->kvs.length+n<=sizeLine->(∀ h' tk,(∀ b o,b≠z->b≠i->b≠j->b≠d->s.heap.get? b=some o->h'.get? b=some o)->h'.DictOf knd d (jX ks vs n k kvs)->R (.ok (.ret .none)) { s with heap:=h',toks:=tk })->codeAny (model prog w) A (.builtin "dict.update.loop" ⟨[.ref d,.ref z,rawInt c,.none],[]⟩) R s:=by
 intro n
 induction n with
 | zero =>
  intro k s b c kvs hnk hz ht hI hi hj hl hm hd hsz hR;refine aS1 rV ?_;rw[aS2 jW _];show wpAny _ A.in1 (pyNext (.ref z) >>= _) _ _ s;have he:xs[k]? = none\/ys[k]? = none:=by rw[aS3,aS3];omega
  refine aPZ (aJ0 (A:=A.in1) h0 D tz ti tj hz ht hI hi hj hl hm he λh' kp=>?_);have hd':h'.DictOf knd d kvs:=let ⟨o,es,ep,ho,r⟩:=hd;⟨o,es,ep,kp d o dz di dj ho,r⟩
  refine aPZ (m:=Builtin.Dict.addKeywords d []) (aP1 ?_);exact aP1 (hR h' s.toks (λb o b1 b2 b3 _ e=>kp b o b1 b2 b3 e) hd')
 | succ n ih =>
  intro k s b c kvs hnk hz ht hI hi hj hl hm hd hsz hR;have hkx:k<xs.size:=by omega
  have hky:k<ys.size:=by omega
  refine aS1 rV ?_;rw[aS2 jW _];show wpAny _ A.in1 (pyNext (.ref z) >>= _) _ _ s;refine aPZ (aJZ (A:=A.in1) D tz ti tj hz ht hI hi hj hl hm (aS4 hkx) (aS4 hky) λh1 z1 i1 j1 p1 sz1 kp1=>?_);have hd1:h1.DictOf knd d kvs:=let ⟨o,es,ep,ho,r⟩:=hd;⟨o,es,ep,kp1 d o dz di dj ho,r⟩
  have ld:d<s.heap.objs.size:=let ⟨o,es,ep,ho,r⟩:=hd;aPG ho
  refine aPZ (xQ (s:={ s with heap:=h1 }) (knd:=knd) p1 (hk k _ (aS4 hkx)) hd1 (by omega) (λh2 hd2 sb=>?_) c)
  have up:∀ b o,b≠z->b≠i->b≠j->b≠d->s.heap.get? b=some o->h2.get? b=some o:=λb o b1 b2 b3 b4 e=>sb.extBut b o b4 (kp1 b o b1 b2 b3 e);have keepL:l≠z/\l≠i/\l≠j:=⟨D.l1z,D.l1i1,D.l1i2⟩;have keepM:m≠z/\m≠i/\m≠j:=⟨D.l2z,D.l2i1,D.l2i2⟩
  refine aP1 ⟨plainId_quiet jW _,ih (k+1) _ true (c+1) _ (by omega) (sb.extBut z _ dz.symm z1) (up t _ tz ti tj dt.symm ht) (up TI _ D.TIz zTI zTJ dI.symm hI) (i1.at λo e=>sb.extBut i o di.symm e) (j1.at λo e=>sb.extBut j o dj.symm e)
   (cL hl λo e=>up l o keepL.1 keepL.2.1 keepL.2.2 dl.symm e) (cL hm λo e=>up m o keepM.1 keepM.2.1 keepM.2.2 dm.symm e) hd2 (by have:=xP (kvs:=kvs) (k:=ks k) (v:=ys[k]);omega) λh' tk kp hd'=>?_⟩
  refine hR h' tk (λb o b1 b2 b3 b4 e=>kp b o b1 b2 b3 b4 (up b o b1 b2 b3 b4 e)) ?_;have ev:vs k=ys[k]:=hv k _ (aS4 hky);rw[<- ev] at hd';exact hd'
theorem loop0{R:Result->Shared->Prop}{z TI TO i j l m d:Addr}{xs ys:Array Value}{a b:Value}{ks:Nat->K}{vs:Nat->Value}{c:Int}{kvs:List (K×Value)}(h0:A.handled=none)(D:ZipApart z TI TO i j l m)(dz:d≠z)(di:d≠i)(dj:d≠j)(dI:d≠TI)(dO:d≠TO)(dl:d≠l)(dm:d≠m)(hk:∀ q x,xs[q]? = some x->knd.is (ks q) x=true)(hv:∀ q y,ys[q]? = some y->vs q=y)(hz:IsZip s.heap z TI TO .none)(hI:IsPair s.heap TI (.ref i) (.ref j))(hO:IsPair s.heap TO a b)(hi:s.heap.IsTupleIter i l 0)(hj:s.heap.IsTupleIter j m 0)(hl:IsTup s.heap l xs)(hm:IsTup s.heap m ys)(hd:s.heap.DictOf knd d kvs)(hsz:kvs.length+min xs.size ys.size<=sizeLine)(hR:∀ h' tk,(∀ b o,b≠z->b≠TO->b≠i->b≠j->b≠d->s.heap.get? b=some o->h'.get? b=some o)->h'.DictOf knd d (jX ks vs (min xs.size ys.size) 0 kvs)->R (.ok (.ret .none)) { s with heap:=h',toks:=tk }):codeAny (model prog w) A (.builtin "dict.update.loop" ⟨[.ref d,.ref z,rawInt c,.none],[]⟩) R s:=by
 refine aS1 rV ?_;rw[aS2 jW _];show wpAny _ A.in1 (pyNext (.ref z) >>= _) _ _ s;by_cases he:xs[0]? = none\/ys[0]? = none
 . have e0:min xs.size ys.size=0:=by rw[aS3,aS3] at he;omega
   refine aPZ (aIW (A:=A.in1) h0 D hz hI hO hi hj hl hm he λh' kp=>?_);have hd':h'.DictOf knd d kvs:=let ⟨o,es,ep,ho,r⟩:=hd;⟨o,es,ep,kp d o dz dO di dj ho,r⟩
   refine aPZ (m:=Builtin.Dict.addKeywords d []) (aP1 ?_);rw[e0] at hR;exact aP1 (hR h' s.toks (λb o b1 b2 b3 b4 _ e=>kp b o b1 b2 b3 b4 e) hd')
 . rw[not_or,aS3,aS3] at he;have hkx:0<xs.size:=by omega
   have hky:0<ys.size:=by omega
   obtain ⟨n,hn⟩:∃ n,min xs.size ys.size=n+1:=⟨min xs.size ys.size-1,by omega⟩
   refine aPZ (aIV (A:=A.in1) D hz hI hO hi hj hl hm (aS4 hkx) (aS4 hky) λh1 z1 o1 i1 j1 p1 sz1 kp1=>?_);have hd1:h1.DictOf knd d kvs:=let ⟨o,es,ep,ho,r⟩:=hd;⟨o,es,ep,kp1 d o dz dO di dj ho,r⟩
   have lt:∀ {b:Addr} {o:Obj},s.heap.get? b=some o->s.heap.objs.size≠b:=λe=>aP6 (aPG e);have lz:=lt hz;have li:s.heap.objs.size≠i:=let ⟨o,ho,_⟩:=hi;lt ho
   have lj:s.heap.objs.size≠j:=let ⟨o,ho,_⟩:=hj;lt ho
   have ld:s.heap.objs.size≠d:=let ⟨o,es,ep,ho,r⟩:=hd;lt ho
   refine aPZ (xQ (s:={ s with heap:=h1 }) (knd:=knd) p1 (hk 0 _ (aS4 hkx)) hd1 (by omega) (λh2 hd2 sb=>?_) c)
   have up:∀ b o,b≠z->b≠TO->b≠i->b≠j->b≠d->s.heap.get? b=some o->h2.get? b=some o:=λb o b1 b2 b3 b4 b5 e=>sb.extBut b o b5 (kp1 b o b1 b2 b3 b4 e);refine aP1 ⟨plainId_quiet jW _,loopU (t:=s.heap.objs.size) (x0:=xs[0]) (y0:=ys[0]) (n0:=n+1) (ks:=ks) (vs:=vs) h0 D lz li lj dz di dj dI dl dm ld.symm D.TIi1 D.TIi2 hn.symm hk hv n 1 _ false (c+1) _ rfl (sb.extBut z _ dz.symm z1) (sb.extBut _ _ ld p1)
    (up TI _ D.TIz D.TITO D.TIi1 D.TIi2 dI.symm hI) (i1.at λo e=>sb.extBut i o di.symm e) (j1.at λo e=>sb.extBut j o dj.symm e)
    (cL hl λo e=>up l o D.l1z D.l1TO D.l1i1 D.l1i2 dl.symm e) (cL hm λo e=>up m o D.l2z D.l2TO D.l2i1 D.l2i2 dm.symm e) hd2 (by have:=xP (kvs:=kvs) (k:=ks 0) (v:=ys[0]);omega) λh' tk kp hd'=>?_⟩
   refine hR h' tk (λb o b1 b2 b3 b4 b5 e=>kp b o b1 b3 b4 b5 (up b o b1 b2 b3 b4 b5 e)) ?_;have ev:vs 0=ys[0]:=hv 0 _ (aS4 hky);rw[<- ev] at hd';rw[hn];exact hd'
theorem aJ6{z TI TO i j l m:Addr}{xs ys:Array Value}{a b:Value}{ks:Nat->K}{vs:Nat->Value}{Q:VSP}(h0:A.handled=none)(D:ZipApart z TI TO i j l m)(hz:IsZip s.heap z TI TO .none)(hI:IsPair s.heap TI (.ref i) (.ref j))(hO:IsPair s.heap TO a b)(hi:s.heap.IsTupleIter i l 0)(hj:s.heap.IsTupleIter j m 0)(hl:IsTup s.heap l xs)(hm:IsTup s.heap m ys)(hk:∀ q x,xs[q]? = some x->knd.is (ks q) x=true)(hv:∀ q y,ys[q]? = some y->vs q=y)(hsz:xs.size<=sizeLine)(q:∀ h' tk,(∀ b o,b≠z->b≠TO->b≠i->b≠j->s.heap.get? b=some o->h'.get? b=some o)->h'.DictOf knd s.heap.objs.size (jX ks vs (min xs.size ys.size) 0 [])->Q (.ref s.heap.objs.size) { s with heap:=h',toks:=tk }):wpAny (model prog w) A (call (.type "dict") [.ref z]) Q E s:=by
 refine callType_codes (Q₁:=λobj s₁=>obj=.ref s.heap.objs.size/\s₁={ s with heap:=s.heap.push { cls:=.type "dict", data:=.dict #[] } }) F.kt_called_dict (F.kt_typeCall_dict_1 _) F.entry_dict_init (kt_code_dict_new _ ⟨rfl,rfl⟩) ?_
 rintro obj s₁ ⟨rfl,rfl⟩;have hnew:(s.heap.push { cls:=.type "dict", data:=.dict #[] }).DictOf knd s.heap.objs.size []:=Heap.DictOf.new s.heap;refine ⟨hnew.typeIs,F.args_dict_init_2 _ _,?_⟩;unfold Builtin.«dict.__init__»;refine aPZ ?_;unfold Builtin.Dict.selfAndRest;refine aPZ (wpAny_notOrdered_dict hnew.typeIs ?_);show wpAny _ _ (pure (s.heap.objs.size,[Value.ref z])) _ _ _;refine aP1 ?_;show wpAny _ _ (Builtin.Dict.updateFrom "dict.__init__" s.heap.objs.size (.ref z) [] .none) _ _ _;unfold Builtin.Dict.updateFrom;have hz1:IsZip (s.heap.push { cls:=.type "dict", data:=.dict #[] }) z TI TO .none:=hps hz;refine aPZ (aQ7 ⟨_,hz1,rfl⟩ ?_);rw[if_pos (by decide)]
 refine aPZ (aJ5 (A:=A.in1.in1) (s:={ s with heap:=s.heap.push { cls:=.type "dict", data:=.dict #[] } }) hz1 h0 λh1 tk1 kp1=>?_)
 rw[if_pos (show (none:Option Value).isNone=true from rfl)]
 refine aPZ (aP3 (aPZ (wpAny_pyIter_zip (kp1 _ _ hz1) (aP1 ⟨plainId_quiet jW _,?_⟩))));have up:∀ b o,s.heap.get? b=some o->h1.get? b=some o:=λb o e=>kp1 b o (hps e);have lt:∀ {b:Addr} {o:Obj},s.heap.get? b=some o->s.heap.objs.size≠b:=λe=>aP6 (aPG e);have hd1:h1.DictOf knd s.heap.objs.size []:=let ⟨o,es,ep,ho,r⟩:=hnew;⟨o,es,ep,kp1 _ o ho,r⟩
 refine loop0 (knd:=knd) (A:=A.in1) (s:={ s with heap:=h1,toks:=tk1 }) (ks:=ks) (vs:=vs) h0 D (lt hz) (let ⟨o,ho,_⟩:=hi;lt ho) (let ⟨o,ho,_⟩:=hj;lt ho) (lt hI) (lt hO) (let ⟨o,ho,_⟩:=hl;lt ho) (let ⟨o,ho,_⟩:=hm;lt ho) hk hv
  (up _ _ hz) (up _ _ hI) (up _ _ hO) (hi.at λo e=>up _ o e) (hj.at λo e=>up _ o e) (cL hl λo e=>up _ o e) (cL hm λo e=>up _ o e) hd1 (by simp;omega) λh' tk kp hd'=>?_
 exact ⟨rfl,q h' tk (λb o b1 b2 b3 b4 e=>kp b o b1 b2 b3 b4 (aPJ (aPG e)) (up b o e)) hd'⟩
end
def cS:List Str->List D->List (Key×D)->List (Key×D)
 | x::ns,d::ds,acc=>cS ns ds (eD acc (.inr x) d)
 | _,_,acc=>acc
def dE:List Str->List V->List (Key×V)->List (Key×V)
 | x::ns,v::vs,acc=>dE ns vs (cY acc (.inr x) v)
 | _,_,acc=>acc
def jY:List Str->List Value->List (Key×Value)->List (Key×Value)
 | x::ns,u::us,kvs=>jY ns us (stored kvs (.inr x) u)
 | _,_,kvs=>kvs
theorem xR{K:Fg}{F:Hp}:∀ {ns:List Str} {ds:List D} {vs:List V} {acc:List (Key×D)} {acc':List (Key×V)},aE K F ds vs->aM K F acc acc'->aM K F (cS ns ds acc) (dE ns vs acc')
 | [],ds,vs,acc,acc',h,r=>by unfold cS dE;exact r
 | x::ns,[],vs,acc,acc',h,r=>by simp only[aE] at h;subst h;unfold cS dE;exact r
 | x::ns,d::ds,vs,acc,acc',h,r=>by simp only[aE] at h;obtain ⟨y,ys,rfl,q,t⟩:=h;show aM K F (cS ns ds (eD acc (.inr x) d)) (dE ns ys (cY acc' (.inr x) y));exact xR t (aM.put r q)
theorem xS:∀ {ns:List Str} {vs:List V} {us:List Value} {acc:List (Key×V)} {acc':List (Key×Value)},aP vs us->KV acc acc'->KV (dE ns vs acc) (jY ns us acc')
 | [],vs,us,acc,acc',h,r=>by unfold dE jY;exact r
 | x::ns,_,_,acc,acc',.nil,r=>by unfold dE jY;exact r
 | x::ns,_,_,acc,acc',.cons h t,r=>xS (ns:=ns) t (KV.put r (.inr x) h)
theorem xT:∀ {ns:List Str} {vs:List V} {acc:List (Key×V)},(dE ns vs acc).length<=acc.length+ns.length
 | [],vs,acc=>by unfold dE;simp
 | x::ns,[],acc=>by unfold dE;simp
 | x::ns,v::vs,acc=>by have h1:=xT (ns:=ns) (vs:=vs) (acc:=cY acc (.inr x) v);have h2:=qS acc (.inr x) v;show (dE ns vs (cY acc (.inr x) v)).length<=_;rw[aRF];omega
theorem xU(ns:List Str)(us:List Value):∀ (n k:Nat) (kvs:List (Key×Value)),n+k=min ns.length us.length->jX (λq=>(.inr (ns.getD q Str.empty):Key)) (λq=>us.getD q .none) n k kvs=jY (ns.drop k) (us.drop k) kvs
 | 0,k,kvs,h=>by
  have:ns.drop k=[]\/us.drop k=[]:=by rw[List.drop_eq_nil_iff,List.drop_eq_nil_iff];omega
  show kvs=_;rcases this with e | e
  . rw[e];rfl
  . rw[e];cases ns.drop k <;> rfl
 | n+1,k,kvs,h=>by
  have h1:k<ns.length:=by omega
  have h2:k<us.length:=by omega
  rw[aR6 h1,aR6 h2];have ih:=xU ns us n (k+1) (stored kvs (.inr ns[k]) us[k]) (by omega)
  have e1:ns.getD k Str.empty=ns[k]:=by rw[aR0,aR1 h1];rfl
  have e2:us.getD k .none=us[k]:=by rw[aR0,aR1 h2];rfl
  show jX _ _ n (k+1) (stored kvs (.inr (ns.getD k Str.empty)) (us.getD k .none))=_;rw[e1,e2];exact ih
def iS(ra rb:Res):Res:=ra.thn λ_ d=>rb.thn λ_ e=>match d,e with
 | .tup ds,.tup es=>(match txD ds with
  | some ns=>.ok .fr (.dct (cS ns es []))
  | none=>.stuck)
 | _,_=>.stuck
theorem xV:∀ {vs:List V} {us:List Value} {q:Nat} {u:Value},aP vs us->us[q]? = some u->∃ v,vs[q]? = some v/\L2.aO v u
 | _,_,q,u,.nil,e=>by simp at e
 | _,_,0,u,.cons h t,e=>by cases e;exact ⟨_,rfl,h⟩
 | _,_,q+1,u,.cons h t,e=>xV (q:=q) t e
section
variable {C:Cw}{X:Cx}{ga gb:Rho->Res}{ea eb:Expr}{p p1 q1 pos:Pos}
theorem aJ7(hc:X.calm=true)(gd:Gl X "dict")(nd:X.mg "dict" = none)(gz:Gl X "zip")(nz:X.mg "zip" = none)(ha:PV C X ea ga)(hb:PV C X eb gb)(sa:bP ea=true)(sb:bP eb=true):PV C X (.Call (.Name "dict" p) [.Call (.Name "zip" p1) [ea,eb] [] q1] [] pos) (λρ=>iS (ga ρ) (gb ρ)):=by
 intro aA s σ H Q I h;refine aQS (gK I gd nd wQ ?_ (by decide) (by decide))
 refine aQA ?_ rfl rfl;show wpAny _ _ (spliced ((false,eval (.Call (.Name "zip" p1) [ea,eb] [] q1) X.env)::backTo pos (starEach [] X.env))) _ _ s;refine Calls.spliced_cons (aQS (gK I gz nz aI2 ?_ (by decide) (by decide)))
 refine aQA (thn ((kY ha (kY hb m9 (bQ sb)) (bQ sa)) q1 aA s σ H (λvs H1=>∃ (a b:Addr) (ns:List Str) (ys:List V),vs=[.ref a,.ref b]/\SqT X.K H1 a (ns.map V.str)/\SqT X.K H1 b ys/\∀ l,H1 l=none->Q (.ref l) (upd H1 l (.dK (dE ns ys [])))) I ?_) λus s1 ⟨vs,H1,I1,r1,a,b,ns,ys,ev,hqa,hqb,w⟩=>?_) (bQ sa) (iN _ _ λy hy=>by simp only[aPP,aSV,aSW] at hy;subst hy;exact sb)
 . show tG (C.at X) ga σ H λv H1=>tG (C.at X) gb σ H1 λu H2=>∃ (a b:Addr) (ns:List Str) (ys:List V),[v,u]=[V.ref a,V.ref b]/\SqT X.K H2 a (ns.map V.str)/\SqT X.K H2 b ys/\∀ l,H2 l=none->Q (.ref l) (upd H2 l (.dK (dE ns ys [])));rw[bA] at h ⊢;obtain ⟨ρ,F,R,w⟩:=h;refine ⟨ρ,F,R,?_⟩;cases e1:ga ρ with
   | stuck=>simp only[iS,e1,Res.thn_stuck] at w;exact w
   | exc c=>simp only[iS,e1,Res.thn_exc] at w;exact w
   | ok m d =>
    simp only[iS,e1,Res.thn_ok] at w;intro v F1 H1 s1 r1 _;rw[bA];refine ⟨ρ,F1,R.step s1,?_⟩;cases e2:gb ρ with
    | stuck=>simp only[e2,Res.thn_stuck] at w;exact w.elim
    | exc c=>simp only[e2,Res.thn_exc] at w;exact a8.step s1 w
    | ok n e =>
     simp only[e2,Res.thn_ok] at w;intro u F2 H2 s2 r2 _;cases d with
     | tup ds =>
      cases e with
      | tup es =>
       dsimp only at w;cases t1:txD ds with
       | none=>rw[t1] at w;exact w.elim
       | some ns =>
        rw[t1] at w;obtain ⟨a,xs,rfl,qa,ra⟩:=(r1.step s2).seqT s2.sub;obtain ⟨b,ys,rfl,qb,rb⟩:=r2.seqT s2.sub;obtain ⟨rfl,_⟩:=xM t1 ra;have s12:=s1.trans s2;refine ⟨a,b,ns,ys,rfl,qa,qb,λl hl=>w (.ref l) F2 _ (s12.trans (aN.fresh _ s2.sub hl)) ⟨l,rfl,s2.sub.free hl,_,bV,xR rb (by simp only[aM])⟩ λ_ a' ea'=>?_⟩
        cases ea';cases q:H l with
        | none=>rfl
        | some o=>rw[s12.same _ _ q] at hl;cases hl
      | _=>exact w.elim
     | _=>exact w.elim
 . subst ev;cases r1 with
   | cons ra rr =>
    cases rr with
    | cons rb rr =>
     cases rr;cases ra;cases rb;obtain ⟨ls,rva,pa,hza⟩:=I1.tuple hqa;obtain ⟨ms,rvb,pb,hzb⟩:=I1.tuple hqb;have la:a<s1.heap.objs.size:=by obtain ⟨o,e,_⟩:=id pa;exact aPG e
     have lb:b<s1.heap.objs.size:=by obtain ⟨o,e,_⟩:=id pb;exact aPG e
     have D:=aI1 s1.heap.objs.size a b la lb;refine aIY (show s1.heap.IsTuple a ls.toArray from pa) (show s1.heap.IsTuple b ms.toArray from pb) λh' a1 a2 a3 a4 a5 a6 a7=>Calls.spliced_nil ?_
     have hl:IsTup h' a ls.toArray:=cL pa λo e=>a7 _ o e;have hm:IsTup h' b ms.toArray:=cL pb λo e=>a7 _ o e;have len:ls.length=ns.length:=by have:=rva.length;rw[aQR] at this;exact this.symm
     refine aJ6 (s:={ s1 with heap:=h' }) (knd:=bT X.prog X.w) (ks:=λq=>(.inr (ns.getD q Str.empty):Key)) (vs:=λq=>ms.getD q .none) (I1.ok.hd hc) D a1 a2 a3 a4 a5 hl hm (λq x hx=>?_) (λq y hy=>?_) ?_ λh2 tk kp dd=>?_
     . have hx:ls[q]? = some x:=by simpa using hx
       obtain ⟨v,ev,rv⟩:=xV rva hx;rw[aQN] at ev;cases en:ns[q]? with
       | none=>rw[en] at ev;cases ev
       | some y=>rw[en] at ev;cases ev;rw[aR0,en];exact iG (k:=.inr y) rv
     . have hy:ms[q]? = some y:=by simpa using hy
       show ms.getD q .none=y;rw[aR0,hy];rfl
     . rw[aQE,len];rw[aQR] at hza;exact hza
     . have e0:min ls.toArray.size ms.toArray.size=min ns.length ms.length:=by rw[aQE,aQE,len]
       have dd:h2.DictOf (bT X.prog X.w) h'.objs.size (jY ns ms []):=by
        have:=xU ns ms (min ns.length ms.length) 0 [] (by omega)
        rw[aSG,aSG] at this;rw[e0,this] at dd;exact dd
       have kk:∀ c o,s1.heap.get? c=some o->h2.get? c=some o:=λc o e=>by have lc:=aPG e;have far:∀ k:Nat,c≠s1.heap.objs.size+k:=λk=>aPJ (aPH lc (aS5 _ k));exact kp c o (far 4) (far 3) (far 0) (far 1) (a7 c o e)
       have nl:s1.heap.objs.size<=h'.objs.size:=by rw[a6];omega
       have zlen:(dE ns ys []).length<=sizeLine:=by have:=xT (ns:=ns) (vs:=ys) (acc:=[]);rw[aQR] at hza;simp at this;omega
       refine ⟨.ref h'.objs.size,_,I1.laid (t':=tk) kk nl (qU zlen (aPC.mpr (Ne.symm (aPJ (aPH I1.big nl)))) (xS rvb .nil) dd),rfl,w _ (I1.hok.fresh nl)⟩
end
end D3
set_option genSizeOfSpec false
set_option genInjectivity false
namespace D3
open PySem PySem.Spec PyProof.Rows L2
inductive KC where | s (y:Str) | i (n:Int) | t (tb:List (Str×Str))
 deriving DecidableEq
def KC.d:KC->D | .s y=>.str y | .i n=>.int n | .t _=>.non
inductive GV where | con (c:KC) | fn (n:Nat) | no | cls
 deriving DecidableEq
inductive Bn where | len | isinstance | all
 deriving DecidableEq
def Bn.name:Bn->Str
 | .len => "len" | .isinstance => "isinstance" | .all => "all"
def Bn.f:Bn->List (Md×D)->Option (Md×D)
 | .len=>fA | .isinstance=>lF | .all=>gR
def Bn.id:Bn->String
 | .len => "len" | .isinstance => "isinstance" | .all => "all"
inductive Ty where | int | bool | str | tuple | list | dict
 deriving DecidableEq
def Ty.f:Ty->List (Md×D)->Option (Md×D)
 | .tuple=>jQ | .list=>iO | .int=>jT | .str=>lK | .dict=>lP | _=>λ_=>none
def Ty.id:Ty->String
 | .int => "int" | .bool => "bool" | .str => "str" | .tuple => "tuple" | .list => "list" | .dict => "dict"
structure WD where
 Φ:Str->List D->Res
 I:Str->Option (List D->Res)
 cl:List CI
 xt:List ((Str×Str)×Bool)
 xi:List ((Str×Str)×Bool)
def WD.xf(W:WD):Str->Str->Option Bool:=λc x=>W.xt.lookup (c,x)
def WD.xg(W:WD):Str->Str->Option Bool:=λc x=>W.xi.lookup (c,x)
inductive E where
 | var (i:Nat) | non | bl (b:Bool) | int (i:Int) | str (x:Str)
 | glob (x:Str) (c:KC) | ty (t:Ty)
 | bin (op:Operator) (a b:E) | cmp (op:CmpOp) (a b:E)
 | andL (es:List E) | orL (es:List E) | not (a:E) | neg (a:E) | tru (a:E) | frz (a:E)
 | ix (a b:E) | slice (a:E) (lo hi:Option E)
 | tup (es:List E) | lst (es:List E)
 | call (f:Str) (n:Nat) (es:List E) | bcall (b:Bn) (es:List E)
 | items (a:E) | rng1 (a:E) | rng2 (a b:E) | enum1 (a:E)
 | comp (elt it:E) (ts:List E) (aG:List Nat) (t:Tg) (n:Nat) | fmt (a:E) | fstr (es:List E)
 | tcall (t:Ty) (es:List E)
 | deed (x:Str) (tb:Tbl) (a:E) | callv (i:Nat) (fs:Fns) (n:Nat) (es:List E) | dzip (a b:E)
 | dnew | dix (a b:E) | din (neg:Bool) (a b:E) | deq (neg:Bool) (a b:E)
def noF:Md->D->Md->D->Option (Md×D):=λ_ _ _ _=>none
def aX:Operator->Md->D->Md->D->Option (Md×D)
 | .Add=>orO fAdd nR | .Sub=>fSub | .Mult=>orO fMul nW | .Mod=>fMod | .FloorDiv=>fDiv | .Pow=>fPow | .BitAnd=>xN | .BitOr=>fBor | .LShift=>fShl | .RShift=>fShr | _=>noF
def bB:CmpOp->Md->D->Md->D->Option (Md×D)
 | .Lt=>orO fLt noK | .LtE=>fLe | .Gt=>fGt | .GtE=>fGe | .Eq=>fEq | .NotEq=>fNe | .In=>orO fIn (jP false) | .NotIn=>orO aHO (jP true) | .Is=>fIs false | .IsNot=>fIs true
mutual
def evE(W:WD):E->Rho->Res
 | .var i,ρ=>dC ρ i
 | .non,_=>.ok .fz .non
 | .bl b,_=>.ok .fz (.bl b)
 | .int i,_=>.ok .fz (.int i)
 | .str x,_=>.ok .fz (.str x)
 | .glob _ c,_=>.ok .fz c.d
 | .ty t,_=>.ok .fz (.ty t.id)
 | .bin op a b,ρ=>op2 (aX op) (evE W a ρ) (evE W b ρ)
 | .cmp op a b,ρ=>op2 (bB op) (evE W a ρ) (evE W b ρ)
 | .andL es,ρ=>evA W es ρ
 | .orL es,ρ=>dA W es ρ
 | .not a,ρ=>lB (evE W a ρ)
 | .neg a,ρ=>nM (evE W a ρ)
 | .tru a,ρ=>jJ (evE W a ρ)
 | .frz a,ρ=>bG (evE W a ρ)
 | .ix a b,ρ=>op2 ixD (evE W a ρ) (evE W b ρ)
 | .slice a lo hi,ρ=>slP (evE W a ρ) (evO W lo) (evO W hi) ρ
 | .tup es,ρ=>dW (bR W es ρ)
 | .lst es,ρ=>iL (bR W es ρ)
 | .call f n es,ρ=>aF n (W.Φ f) (bR W es ρ)
 | .bcall b es,ρ=>eO b.f (bR W es ρ)
 | .items a,ρ=>fU (bG (evE W a ρ))
 | .rng1 a,ρ=>iM (cC (evE W a ρ) (.ok []))
 | .rng2 a b,ρ=>jO (cC (evE W a ρ) (cC (evE W b ρ) (.ok [])))
 | .enum1 a,ρ=>gW (cC (bG (evE W a ρ)) (.ok []))
 | .comp elt it ts aG t n,ρ=>bX (evE W it ρ) ρ aG n (aI t) (λρ=>evF W ts ρ) (λρ=>evE W elt ρ)
 | .fmt a,ρ=>nV (evE W a ρ)
 | .fstr es,ρ=>fW Str.empty (evL W es) ρ
 | .tcall t es,ρ=>eO t.f (bR W es ρ)
 | .dnew,_=>.ok .fr (.dct [])
 | .deed _ tb a,ρ=>jV tb (evE W a ρ)
 | .callv i fs n es,ρ=>lQ W.Φ fs n (dC ρ i) (bR W es ρ)
 | .dzip a b,ρ=>iS (evE W a ρ) (evE W b ρ)
 | .dix a b,ρ=>op2 ixK (evE W a ρ) (evE W b ρ)
 | .deq neg a b,ρ=>op2 (eqN neg) (evE W a ρ) (evE W b ρ)
 | .din neg a b,ρ=>op2 (inK neg) (evE W a ρ) (evE W b ρ)
def bR(W:WD):List E->Rho->aT
 | [],_=>.ok []
 | e::es,ρ=>cC (evE W e ρ) (bR W es ρ)
def evA(W:WD):List E->Rho->Res
 | [],_=>.stuck
 | [e],ρ=>evE W e ρ
 | e::es,ρ=>eB (evE W e ρ) (evA W es ρ)
def dA(W:WD):List E->Rho->Res
 | [],_=>.stuck
 | [e],ρ=>evE W e ρ
 | e::es,ρ=>orR (evE W e ρ) (dA W es ρ)
def evF(W:WD):List E->Rho->Res
 | [],_=>.ok .fz (.bl true)
 | e::es,ρ=>eB (evE W e ρ) (evF W es ρ)
def evL(W:WD):List E->List (Rho->Res)
 | []=>[]
 | e::es=>evE W e::evL W es
def evO(W:WD):Option E->Option (Rho->Res)
 | none=>none
 | some e=>some (evE W e)
end
structure MG where
 G:List (Str×GV)
 mk0:List Str
 mki:List (Str×Str×Nat)
 iso:List Str
 xcs:List Str
 xns:List Str
structure MC where
 N:List Str
 sc:Scope
 g:MG
 fn:Bool
 calm:Bool
 rz:Bool
def MC.kind(m:MC)(x:Str):Option NameKind:=m.sc.names.lookup x
def MC.vis(m:MC)(x:Str):Bool:=(m.kind x==some .local||m.kind x==some .cell||m.kind x==some .free)&&x != "__debug__" && x != "__classdict__"
def MC.glob(m:MC)(x:Str)(v:GV):Bool:=m.kind x==some .globalImplicit&&m.g.G.lookup x==some v&&x != "__debug__" && x != "__name__"
def MC.gk(m:MC)(x:Str):Bool:=m.kind x==some .globalImplicit&&x != "__debug__"
def strK(x:Str):Bool:=decide (x.length<=sizeLine)&&PyData.strOk x
def lS:Expr->Bool | .Slice ..=>false | _=>true
def aJ8:Expr->Bool | .Tuple ..=>true | _=>false
def eR:Expr->Bool | .Set ..=>false | _=>true
def xW:Expr->Bool | .UnaryOp .Not _ _=>false | .BoolOp ..=>false | .IfExp ..=>false | .Compare ..=>false | _=>true
def MC.sub(m:MC)(scope:Scope)(aJ tgN:List Str):MC:={ m with N:=aJ++tgN,sc:={ scope with names:=lJ scope m.sc },fn:=false,rz:=false }
def MC.loc(m:MC)(i:Nat)(x:Str):Bool:=m.N[i]?==some x&&(m.kind x==some .local||(m.fn&&m.kind x==some .cell))
mutual
def mG(m:MC):Tg->Expr->Bool
 | .nm i,e=>match e with | .Name x _=>m.loc i x | _=>false
 | .tp ts,e=>match e with | .Tuple es _ _=>m.calm&&es.all gU&&mGs m ts es | _=>false
def mGs(m:MC):List Tg->List Expr->Bool
 | [],es=>es.isEmpty
 | t::ts,l=>match l with | e::es=>mG m t e&&mGs m ts es | _=>false
end
def eS:Nat->Expr->List Str
 | _,.Name x _=>[x]
 | n+1,.Tuple es _ _=>es.flatMap (eS n)
 | _,_=>[]
def n9(scope sc:Scope)(N:List Str)(aG:List Nat)(aJ tgN:List Str):Bool :=
 scope.names.all (λy=>y.2 != .cell)&&scope.kind == .function&&scope.names.all (λy=>y.2 != .local||scope.names.lookup y.1==some .local) &&
 scope.names.all (λy=>y.2 != .free||sc.names.lookup y.1==some .cell||sc.names.lookup y.1==some .free)&&(aJ.map some==aG.map λi=>N[i]?)&&aJ.all (λy=>scope.names.contains (y,.free)) &&
 aJ.all (λy=>(lJ scope sc).lookup y==some .cell||(lJ scope sc).lookup y==some .free)&&decide (aJ++tgN).Nodup
def strK':KC->Bool | .s y=>strK y | .i _=>true | .t _=>false
structure SX(k:Nat)(W:WD)(m:MC)(C:Cw)(X:Cx):Prop where
 hN:X.N=m.N
 hs:X.env.scope=m.sc
 cm:m.calm=true->X.calm=true
 rm:m.calm=true->cI k X.A
 un:X.A.units+64<cLine
 xo:m.calm=true->XOk (CX1 X.prog X.w) (C.at X) X
 xt:rQ X.K X.mg W.xf
 xi:rR X.K X.mg W.xg
 xc:∀ c,c∈m.g.xcs->∃ Cc,X.mg c=some (.ref Cc)/\lM X.K Cc
 xn:∀ n,n∈m.g.xns->∃ cv,nZ X.mg n cv
 con:∀ x c,m.g.G.lookup x=some (.con c)->match c with | .s y=>∃ t,X.mg x=some (.str y t) | .i n=>∃ t,X.mg x=some (.int n t) | .t tb=>gY X.w X.K X.mg x tb
 no:∀ x,m.g.G.lookup x=some .no->X.mg x=none
 mk0:∀ c,c∈m.g.mk0->MkV0 X.K X.mg c
 mki:∀ c key n,(c,key,n)∈m.g.mki->∀ Φ,W.I key=some Φ->∃ j,j+1<=k/\InV X.prog X.w X.K X.mg X.base (CX1 X.prog X.w) j c n Φ
 iso:∀ c,c∈m.g.iso->IsV X.K X.mg W.cl c
 fl:∀ i f,i∈W.cl->f∈i.flds->FlV X.K i.name f
 mt:∀ c m key n,CI.meth W.cl c m=some (key,n)->MtV X.prog X.w X.K X.mg X.base (CX1 X.prog X.w) k c m n (W.Φ key)
 fn:∀ x n,m.g.G.lookup x=some (.fn n)->FnV X.prog X.w X.K X.mg X.base (CX1 X.prog X.w) k x n (W.Φ x)
 fnn:m.fn=true->∀ x,X.fn x=true
section
variable {k:Nat}{W:WD}{m:MC}{C:Cw}{X:Cx}{x y:Expr}
theorem SX.gl(S:SX k W m C X){z:Str}{v:GV}(h:m.glob z v=true):Gl X z/\m.g.G.lookup z=some v/\(z==("__debug__" : Str))=false/\z ≠ "__name__" := by
 unfold MC.glob MC.kind at h;simp only[aQ8,aRW,aS6] at h;obtain ⟨⟨⟨h1,h2⟩,h3⟩,h4⟩:=h;refine ⟨?_,h2,by simpa using h3,h4⟩
 show X.env.scope.names.lookup z=_;rw[S.hs];exact h1
theorem SX.gk(S:SX k W m C X){z:Str}(h:m.gk z=true):Gl X z/\(z==("__debug__" : Str))=false:=by
 unfold MC.gk MC.kind at h;simp only[aQ8,aRW,aS6] at h;refine ⟨?_,by simpa using h.2⟩
 show X.env.scope.names.lookup z=_;rw[S.hs];exact h.1
theorem SX.vis(S:SX k W m C X){z:Str}(h:m.vis z=true):Vis X.env.scope z/\(z==("__debug__" : Str))=false/\(z==("__classdict__" : Str))=false:=by
 unfold MC.vis MC.kind at h;simp only[aQ8,aRN,aRW,aS6] at h;obtain ⟨⟨h1,h2⟩,h3⟩:=h;refine ⟨?_,by simpa using h2,by simpa using h3⟩
 unfold Vis;rw[S.hs];rcases h1 with (h1 | h1) | h1
 . exact .inl h1
 . exact .inr (.inl h1)
 . exact .inr (.inr h1)
theorem aJ9(b:Bn):bootBuiltins b.name=some (.builtin b.id):=by
 cases b
 . exact aHP
 . exact aHQ
 . exact aHR
theorem aKA(b:Bn){c:Bool}(hc:c=true->X.calm=true)(h:(c||b == .len||b == .isinstance)=true):dQ X (.builtin b.id) b.f:=by
 have hc:(b == .len||b == .isinstance)=false->X.calm=true:=λz=>hc (by cases c with | true=>rfl | false=>rw[Bool.false_or] at h;rw[h] at z;cases z)
 cases b
 . exact aGN
 . exact aGP
 . exact aGU (hc rfl)
theorem aKB{f:Value}:dQ X f (λ_=>none):=⟨λ_ _ _=>False,λ_ _ _ _ _ _ _ _ _ h=>h.elim,λ_ _ _ _ _ _ _ _ _ e _=>by cases e⟩
theorem aKC(t:Ty):dQ X (.type t.id) t.f:=by
 cases t
 . exact aIR
 . exact aKB
 . exact aH7
 . exact aH4
 . exact aH5
 . exact aJL
theorem xX(t:Ty):bootBuiltins (t.id:Str)=some (.type t.id):=by
 cases t
 . exact aHS
 . exact aHT
 . exact aHU
 . exact aHV
 . exact aHW
 . exact wQ
theorem aKD(op:Operator):(∃ φ,aX op=φ/\OpD C X (binaryOp op) φ)\/aX op=noF:=by
 cases op
 case Add=>exact .inl ⟨_,rfl,o_add.or aH2⟩
 case Sub=>exact .inl ⟨_,rfl,aFR⟩
 case Mult=>exact .inl ⟨_,rfl,o_mul.or aIS⟩
 case Mod=>exact .inl ⟨_,rfl,aFU⟩
 case FloorDiv=>exact .inl ⟨_,rfl,aFW⟩
 case Pow=>exact .inl ⟨_,rfl,aFX⟩
 case BitAnd=>exact .inl ⟨_,rfl,aJS⟩
 case BitOr=>exact .inl ⟨_,rfl,aJT⟩
 case LShift=>exact .inl ⟨_,rfl,aJU⟩
 case RShift=>exact .inl ⟨_,rfl,aJV⟩
 all_goals exact .inr rfl
theorem xY{neg:Bool}:IsB (inK neg):=λm x n y k d e=>by
 unfold inK at e;split at e
 . cases e;exact ⟨_,rfl,rfl⟩
 . cases e
theorem xZ{neg:Bool}:IsB (eqN neg):=λm x n y k d e=>by
 unfold eqN at e;split at e
 . rename_i ka kb;cases eh:eE kb ka with
   | none=>rw[eh] at e;cases e
   | some r=>rw[eh] at e;cases e;exact ⟨_,rfl,rfl⟩
 . cases e
theorem rW:IsB noK:=λ_ _ _ _ _ _ z=>by cases z
theorem aKE(op:CmpOp)(hu:X.A.units+64<cLine):(OpD C X (compareOp op) (bB op)/\IsB (bB op))\/bB op=noF:=by
 cases op
 case Lt=>exact .inl ⟨aFY.or rA,lI nQ rW⟩
 case LtE=>exact .inl ⟨aFZ,nQ⟩
 case Gt=>exact .inl ⟨aF0,nQ⟩
 case GtE=>exact .inl ⟨aF1,nQ⟩
 case Eq=>exact .inl ⟨o_eq hu,lI wO rW⟩
 case NotEq=>exact .inl ⟨o_ne hu,lI wO rW⟩
 case In=>exact .inl ⟨aF3.or (wU aEW),lI wN wV⟩
 case NotIn=>exact .inl ⟨aF4.or (wU aEX),lI wN wV⟩
 case Is=>exact .inl ⟨aHY,wT⟩
 case IsNot=>exact .inl ⟨aHZ,wT⟩
theorem yA{f:Value->Value->Sem Value}:OpD C X f noF:=⟨λ_ _ _ _=>False,λ_ _ _ _ _ _ _ _ _ _ _ _ h=>h.elim,λ_ _ _ _ _ _ _ _ _ _ _ _ _ _ e _=>by cases e⟩
theorem aKF(op:Operator):OpD C X (binaryOp op) (aX op):=by
 rcases aKD (C:=C) (X:=X) op with ⟨φ,e,h⟩ | e
 . rw[e];exact h
 . rw[e];exact yA
theorem rX(op:CmpOp)(hu:X.A.units+64<cLine):OpD C X (compareOp op) (bB op)/\IsB (bB op):=by
 rcases aKE (C:=C) op hu with h | e
 . exact h
 . rw[e];exact ⟨yA,λ_ _ _ _ _ _ z=>by cases z⟩
theorem f6(op:CmpOp){e:Expr}(h:eR e=true):behindInMarks op e=false:=by cases e <;> first | rfl | cases h
theorem rY{e:Expr}{env:Env}(h:eR e=true):∀ v,foldedSetIterable e env v=pure v:=by intro v;cases e <;> first | rfl | cases h
theorem yB{e:Expr}(h:lS e=true):nH e:=by intro o i;cases e <;> first | rfl | cases h
theorem noSl{e:Expr}(h:lS e=true):qV e:=by intro o i;cases e <;> first | rfl | cases h
theorem aKG{e:Expr}{env:Env}(h:xW e=true):∀ whole,isTrue e env whole=(do let v <- whole;standAt e.pos;holding [v] (truthy v)):=by
 intro whole;cases e
 case UnaryOp op _ _=>cases op <;> first | rfl | cases h
 all_goals first | rfl | cases h
theorem SX.sub(S:SX k W m C X){scope:Scope}{aJ tgN:List Str}(cl:List (Str×Addr))(A:Addr)(fp:List Addr)(s3:Shared)(H3:Hp):SX k W (m.sub scope aJ tgN) C.nox (bJ X scope (aJ++tgN) cl A fp s3 H3):=by
 refine ⟨rfl,?_,S.cm,S.rm,S.un,λ_ aA σ H s e s' I h=>?_,S.xt,S.xi,S.xc,S.xn,S.con,S.no,S.mk0,S.mki,S.iso,S.fl,S.mt,S.fn,λz=>by cases z⟩
 rotate_left
 . obtain ⟨_,_,_,_,_,_,_,_,_,_,_,_,z⟩:=h;exact z.elim
 show (compEnvC scope cl A X.env).scope=_;unfold MC.sub;rw[<- S.hs];rfl
theorem SX.loc(S:SX k W m C X){i:Nat}{z:Str}(h:m.loc i z=true):X.N[i]? = some z/\L2.Loc X.env.scope z/\(X.fn z=true\/X.env.scope.names.lookup z=some .local):=by
 unfold MC.loc MC.kind at h;simp only[aQ8,aRN,aRW] at h;refine ⟨by rw[S.hN];exact h.1,?_,?_⟩
 . unfold L2.Loc;rw[S.hs];rcases h.2 with q | q
   . exact .inl q
   . exact .inr q.2
 . rw[S.hs];rcases h.2 with q | q
   . exact .inr q
   . exact .inl (S.fnn q.1 z)
mutual
theorem sG(S:SX k W m C X)(hN:m.N.Nodup):∀ (t:Tg) {e:Expr},mG m t e=true->PGw X e t
 | .nm i,e,h=>by
  simp only[mG] at h;split at h
  . obtain ⟨a,b,c⟩:=S.loc h;exact aIE (by rw[S.hN];exact hN) a b c
  . cases h
 | .tp ts,e,h=>by
  simp only[mG] at h;split at h
  . rw[aQ8,aQ8,aRZ] at h;obtain ⟨p,l⟩:=sGs S hN ts h.2 h.1.2;exact aII (S.cm h.1.1) p h.1.2 l
  . cases h
theorem sGs(S:SX k W m C X)(hN:m.N.Nodup):∀ (ts:List Tg) {es:List Expr},mGs m ts es=true->(∀ e∈es,gU e=true)->iP X es ts/\es.length=ts.length
 | [],[],h,_=>⟨aIF,rfl⟩
 | [],_::_,h,_=>by simp[mGs] at h
 | t::ts,[],h,_=>by simp[mGs] at h
 | t::ts,e::es,h,hs=>by simp only[mGs,aQ8] at h;obtain ⟨p,l⟩:=sGs S hN ts h.2 λx hx=>hs x (mcm hx);exact ⟨aIG (sG S hN t h.1) p (hs e mcs),by rw[aRF,aRF,l]⟩
end
end
abbrev PE(m:MC)(f:E)(e:Expr):Prop:=∀ {k:Nat} {W:WD} {C:Cw} {X:Cx},SX k W m C X->PV C X e (evE W f)
abbrev PTE(m:MC)(f:E)(e:Expr):Prop:=∀ {k:Nat} {W:WD} {C:Cw} {X:Cx},SX k W m C X->PTv C X e (evE W f)
abbrev PIE(m:MC)(tg:Expr)(f:E)(e:Expr):Prop:=∀ {k:Nat} {W:WD} {C:Cw} {X:Cx},SX k W m C X->PIv C X tg e (evE W f)
inductive dB(m:MC):List E->List Expr->Prop
 | nil:dB m [] []
 | cons {f fs x xs}:bP x=true->PE m f x->dB m fs xs->dB m (f::fs) (x::xs)
inductive eF(m:MC):List E->List Expr->Prop
 | nil:eF m [] []
 | cons {f fs x xs}:PTE m f x->eF m fs xs->eF m (f::fs) (x::xs)
abbrev CkE(m:MC)(f:E)(e:Expr):Type:=Option (PLift (PE m f e))
abbrev CkT(m:MC)(f:E)(e:Expr):Type:=Option (PLift (PTE m f e))
abbrev CkI(m:MC)(tg:Expr)(f:E)(e:Expr):Type:=Option (PLift (PIE m tg f e))
abbrev dX(m:MC)(f:List E)(e:List Expr):Type:=Option (PLift (dB m f e))
abbrev CkF(m:MC)(f:List E)(e:List Expr):Type:=Option (PLift (eF m f e))
abbrev CkO(m:MC)(f:Option E)(e:Option Expr):Type:=Option (PLift (∀ {k:Nat} {W:WD} {C:Cw} {X:Cx},SX k W m C X->POv C X e (evO W f)))
theorem got{P:Prop}:∀ {o:Option (PLift P)},o.isSome=true->P
 | some p,_=>p.down
 | none,h=>nomatch h
section
variable {k:Nat}{W:WD}{m:MC}{C:Cw}{X:Cx}
theorem dB.star:∀ {fs:List E} {es:List Expr},dB m fs es->∀ x∈es,bP x=true
 | _,_,.nil=>λx hx=>by cases hx
 | _,_,.cons s _ q=>λx hx=>by
  rcases aPP.mp hx with rfl | hx
  . exact s
  . exact q.star x hx
theorem dB.es(S:SX k W m C X):∀ {fs:List E} {es:List Expr},dB m fs es->PAv C X es (bR W fs)
 | _,_,.nil=>by simp only[bR];exact lD
 | _,_,.cons s p q=>by simp only[bR];exact iK (p S) (q.es S) (bQ s)
theorem dB.l(S:SX k W m C X):∀ {fs:List E} {es:List Expr},dB m fs es->PVL C X es (evL W fs)
 | _,_,.nil=>by simp only[evL];exact .nil
 | _,_,.cons s p q=>by simp only[evL];exact .cons (p S) (q.l S)
theorem dB.a{pos:Pos}(S:SX k W m C X):∀ {fs:List E} {es:List Expr},dB m fs es->PV C X (.BoolOp .And es pos) (evA W fs)
 | _,_,.nil=>λaA s σ H Q I q=>by rw[bA] at q;obtain ⟨ρ,F,R,w⟩:=q;exact w.elim
 | _,_,.cons s p .nil=>by simp only[evA];exact v5 (p S)
 | _,_,.cons s p (.cons s' p' q)=>by simp only[evA];exact aGA (p S) (dB.a S (.cons s' p' q))
theorem dB.o{pos:Pos}(S:SX k W m C X):∀ {fs:List E} {es:List Expr},dB m fs es->PV C X (.BoolOp .Or es pos) (dA W fs)
 | _,_,.nil=>λaA s σ H Q I q=>by rw[bA] at q;obtain ⟨ρ,F,R,w⟩:=q;exact w.elim
 | _,_,.cons s p .nil=>by simp only[dA];exact v5 (p S)
 | _,_,.cons s p (.cons s' p' q)=>by simp only[dA];exact aGB (p S) (dB.o S (.cons s' p' q))
theorem eF.a{pos:Pos}(S:SX k W m C X):∀ {fs:List E} {es:List Expr},eF m fs es->PWv C X (.BoolOp .And es pos) (evA W fs)
 | _,_,.nil=>λwhole aA s σ H Q I q=>by obtain ⟨ρ,F,R,w⟩:=q;exact w.elim
 | _,_,.cons p .nil=>by simp only[evA];exact vY (p S)
 | _,_,.cons p (.cons p' q)=>by simp only[evA];exact aF8 (p S) (eF.a S (.cons p' q))
theorem eF.o{pos:Pos}(S:SX k W m C X):∀ {fs:List E} {es:List Expr},eF m fs es->PWv C X (.BoolOp .Or es pos) (dA W fs)
 | _,_,.nil=>λwhole aA s σ H Q I q=>by obtain ⟨ρ,F,R,w⟩:=q;exact w.elim
 | _,_,.cons p .nil=>by simp only[dA];exact vY (p S)
 | _,_,.cons p (.cons p' q)=>by simp only[dA];exact aF9 (p S) (eF.o S (.cons p' q))
theorem eF.f(S:SX k W m C X):∀ {fs:List E} {es:List Expr},eF m fs es->dD X es (tT (C.at X) (evF W fs))
 | _,_,.nil=>by
  have:evF W []=λ_=>.ok .fz (.bl true):=by funext ρ;simp only[evF]
  rw[this];exact aHH
 | f::fs,_,.cons p q=>by
  have:evF W (f::fs)=λρ=>eB (evE W f ρ) (evF W fs ρ):=by funext ρ;simp only[evF]
  rw[this];exact aHI (p S) (q.f S)
section
variable {fs:List E}{es:List Expr}{r:dX m fs es}{t:CkF m fs es}{pos:Pos}
theorem gSt(h:r.isSome=true):∀ x∈es,bP x=true:=(got h).star
theorem gEs(h:r.isSome=true)(S:SX k W m C X):PAv C X es (bR W fs):=(got h).es S
theorem gL(h:r.isSome=true)(S:SX k W m C X):PVL C X es (evL W fs):=(got h).l S
theorem gA(h:r.isSome=true)(S:SX k W m C X):PV C X (.BoolOp .And es pos) (evA W fs):=(got h).a S
theorem gOr(h:r.isSome=true)(S:SX k W m C X):PV C X (.BoolOp .Or es pos) (dA W fs):=(got h).o S
theorem gWA(h:t.isSome=true)(S:SX k W m C X):PWv C X (.BoolOp .And es pos) (evA W fs):=(got h).a S
theorem gWO(h:t.isSome=true)(S:SX k W m C X):PWv C X (.BoolOp .Or es pos) (dA W fs):=(got h).o S
theorem gF(h:t.isSome=true)(S:SX k W m C X):dD X es (tT (C.at X) (evF W fs)):=(got h).f S
end
end
noncomputable def aKH{m:MC}{a e}(r1:CkE m a e):CkE m (.frz a) e:=if h:r1.isSome=true then some ⟨λS=>gQ (got h S)⟩ else none
noncomputable def aKI {m : MC} {a e} (r1 : CkE m a e) : CkT m (.tru a) e := if h : (xW e && r1.isSome) = true then some ⟨fun {k} {W} {C} {X} S => by
    simp only[aQ8] at h;exact aF6 (got h.2 S) (aKG h.1)⟩ else none
noncomputable def aKJ{m:MC}{tg a e}(r1:CkE m a e):CkI m tg (.items a) e:=if h:r1.isSome=true then some ⟨λS=>aG6 (got h S)⟩ else none
noncomputable def aKK {m : MC} {i} {x} {p1} : CkE m (.var i) (.Name x p1) := if h : (m.N[i]? == some x && m.vis x) = true then some ⟨fun {k} {W} {C} {X} S => by
    simp only[aQ8,aRW] at h;obtain ⟨h1,h2,h3⟩:=S.vis h.2
    exact aFM i (jE (by rw[S.hN];exact h.1) h1 h2 h3)⟩ else none
noncomputable def aKL {m : MC} {y} {c} {x} {p1} : CkE m (.glob y c) (.Name x p1) := if h : (x == y && m.glob x (.con c) && strK' c) = true then some ⟨fun {k} {W} {C} {X} S => by
    simp only[aQ8,aRW] at h;obtain ⟨⟨rfl,h1⟩,h2⟩:=h;obtain ⟨g,l,hd,hn⟩:=S.gl h1;have:=S.con _ _ l;cases c with
    | s y=>obtain ⟨t,ht⟩:=this;exact aGQ g ht h2 hd
    | i n=>obtain ⟨t,ht⟩:=this;exact aGR g ht hd
    | t tb=>cases h2⟩ else none
noncomputable def kE_ty {m : MC} {t} {x} {p1} : CkE m (.ty t) (.Name x p1) := if h : (x == (t.id : Str) && m.glob x .no) = true then some ⟨fun {k} {W} {C} {X} S => by
    simp only[aQ8,aRW] at h;obtain ⟨rfl,h1⟩:=h;obtain ⟨g,l,hd,hn⟩:=S.gl h1;exact pv_ty g (S.no _ l) (xX t) hn hd⟩ else none
noncomputable def aKM {m : MC} {p0} {p1} : CkE m (.non) (.Constant .none p0 p1) := if h : (true) = true then some ⟨fun {k} {W} {C} {X} S => by
    exact aFO⟩ else none
noncomputable def kE_bl {m : MC} {c} {b} {p1} {p2} : CkE m (.bl c) (.Constant (.bool b) p1 p2) := if h : (b == c) = true then some ⟨fun {k} {W} {C} {X} S => by
    simp only[aRW] at h;subst h;exact pv_bl⟩ else none
noncomputable def aKN {m : MC} {c} {b} {p1} {p2} : CkE m (.int c) (.Constant (.int b) p1 p2) := if h : (b == c) = true then some ⟨fun {k} {W} {C} {X} S => by
    simp only[aRW] at h;subst h;exact aFN⟩ else none
noncomputable def aKO {m : MC} {c} {b} {p1} {p2} : CkE m (.str c) (.Constant (.str b) p1 p2) := if h : (b == c && strK b) = true then some ⟨fun {k} {W} {C} {X} S => by
    simp only[aQ8,aRW] at h;obtain ⟨rfl,h⟩:=h;exact aFP h⟩ else none
noncomputable def aKP {m : MC} {op} {a} {b} {x} {o} {y} {p3} (r1 : CkE m a x) (r2 : CkE m b y) : CkE m (.bin op a b) (.BinOp x o y p3) := if h : (o == op && (r1.isSome && r2.isSome)) = true then some ⟨fun {k} {W} {C} {X} S => by
    simp only[aQ8,aRW] at h;obtain ⟨rfl,h1,h2⟩:=h;exact pv_op (aKF _) (got h1 S) (got h2 S)⟩ else none
noncomputable def aKQ {m : MC} {op} {a} {b} {x} {o} {y} {p3} (r1 : CkE m a x) (r2 : CkE m b y) : CkE m (.cmp op a b) (.Compare x [o] [y] p3) := if h : (o == op && eR y && (r1.isSome && r2.isSome)) = true then some ⟨fun {k} {W} {C} {X} S => by
    simp only[aQ8,aRW] at h;obtain ⟨⟨rfl,hs⟩,h1,h2⟩:=h;exact k9 (rX _ S.un).1 (got h1 S) (got h2 S) (f6 _ hs)⟩ else none
noncomputable def aKR {m : MC} {es} {xs} {p1} (r1 : dX m es xs) : CkE m (.andL es) (.BoolOp .And xs p1) := if h : (r1.isSome) = true then some ⟨fun {k} {W} {C} {X} S => by
    exact gA h S⟩ else none
noncomputable def aKS {m : MC} {es} {xs} {p1} (r1 : dX m es xs) : CkE m (.orL es) (.BoolOp .Or xs p1) := if h : (r1.isSome) = true then some ⟨fun {k} {W} {C} {X} S => by
    exact gOr h S⟩ else none
noncomputable def aKT {m : MC} {a} {x} {p1} (r1 : CkE m a x) : CkE m (.not a) (.UnaryOp .Not x p1) := if h : (r1.isSome) = true then some ⟨fun {k} {W} {C} {X} S => by
    exact aGC (got h S)⟩ else none
noncomputable def aKU {m : MC} {a} {x} {p1} (r1 : CkE m a x) : CkE m (.neg a) (.UnaryOp .USub x p1) := if h : (r1.isSome) = true then some ⟨fun {k} {W} {C} {X} S => by
    exact aGD (got h S)⟩ else none
noncomputable def aKV {m : MC} {a} {l} {u} {x} {lo} {hi} {p3} {p4} (r1 : CkE m a x) (r2 : CkO m l lo) (r3 : CkO m u hi) : CkE m (.slice a l u) (.Subscript x (.Slice lo hi none p3) p4) := if h : (r1.isSome && (r2.isSome && r3.isSome)) = true then some ⟨fun {k} {W} {C} {X} S => by
    simp only[aQ8] at h;obtain ⟨h0,h1,h2⟩:=h;exact aJI (got h0 S) (got h1 S) (got h2 S)⟩ else none
noncomputable def kE_ix {m : MC} {a} {b} {x} {y} {p2} (r1 : CkE m a x) (r2 : CkE m b y) : CkE m (.ix a b) (.Subscript x y p2) := if h : (lS y && (r1.isSome && r2.isSome)) = true then some ⟨fun {k} {W} {C} {X} S => by
    simp only[aQ8] at h;obtain ⟨h0,h1,h2⟩:=h;exact pv_ix (got h1 S) (got h2 S) (yB h0)⟩ else none
noncomputable def aKW {m : MC} {es} {es0} {p1} {p2} (r1 : dX m es es0) : CkE m (.tup es) (.Tuple es0 p1 p2) := if h : (r1.isSome) = true then some ⟨fun {k} {W} {C} {X} S => by
    exact aGK (gEs h S)⟩ else none
noncomputable def aKX {m : MC} {es} {es0} {p1} (r1 : dX m es es0) : CkE m (.lst es) (.List es0 p1) := if h : (r1.isSome) = true then some ⟨fun {k} {W} {C} {X} S => by
    exact aGL (gEs h S)⟩ else none
noncomputable def aKY {m : MC} {g} {n} {es} {f} {p} {x} {xs} {cp} (r1 : dX m es (x :: xs)) : CkE m (.call g n es) (.Call (.Name f p) (x :: xs) [] cp) := if h : (m.calm && f == g && m.glob f (.fn n) && r1.isSome) = true then some ⟨fun {k} {W} {C} {X} S => by
    simp only[aQ8,aRW] at h;obtain ⟨⟨⟨hq,rfl⟩,h1⟩,h2⟩:=h;obtain ⟨gl,l,hd,hn⟩:=S.gl h1;have st:=gSt h2;exact aHM (S.fn _ _ l) (S.rm hq) (S.xo hq) gl (gEs h2 S) hd (bQ (st x mcs)) (iN _ _ λy hy=>st y (mcm hy))⟩ else none
noncomputable def aKZ {m : MC} {a b} {f} {p1} {g} {p3} {x} {y} {p5} {p6} (r1 : CkE m a x) (r2 : CkE m b y) : CkE m (.dzip a b) (.Call (.Name f p1) [.Call (.Name g p3) [x, y] [] p5] [] p6) := if h : (m.calm && f == "dict" && g == "zip" && m.glob f .no && m.glob g .no && bP x && bP y && (r1.isSome && r2.isSome)) = true then some ⟨fun {k} {W} {C} {X} S => by
    simp only[aQ8,aRW] at h;obtain ⟨⟨⟨⟨⟨⟨⟨hq,rfl⟩,rfl⟩,h1⟩,h2⟩,s1⟩,s2⟩,h3,h4⟩:=h;obtain ⟨gl,l,_,_⟩:=S.gl h1;obtain ⟨gl',l',_,_⟩:=S.gl h2;exact aJ7 (S.cm hq) gl (S.no _ l) gl' (S.no _ l') (got h3 S) (got h4 S) s1 s2⟩ else none
noncomputable def aK0 {m : MC} {b} {es} {f} {p} {x} {xs} {cp} (r1 : dX m es (x :: xs)) : CkE m (.bcall b es) (.Call (.Name f p) (x :: xs) [] cp) := if h : ((m.calm || b == .len || b == .isinstance) && f == b.name && m.glob f .no && r1.isSome) = true then some ⟨fun {k} {W} {C} {X} S => by
    rw[aQ8,aQ8,aQ8] at h;obtain ⟨⟨⟨hq,hz⟩,h1⟩,h2⟩:=h;cases (aRW.mp hz);obtain ⟨gl,l,hd,hn⟩:=S.gl h1;have st:=gSt h2;exact aGM (aKA b S.cm hq) gl (S.no _ l) (aJ9 b) (gEs h2 S) hn hd (bQ (st x mcs)) (iN _ _ λy hy=>st y (mcm hy))⟩ else none
noncomputable def aK1 {m : MC} {t} {es} {f} {p1} {x} {xs} {p4} (r1 : dX m es (x :: xs)) : CkE m (.tcall t es) (.Call (.Name f p1) (x :: xs) [] p4) := if h : (f == (t.id : Str) && m.glob f .no && r1.isSome) = true then some ⟨fun {k} {W} {C} {X} S => by
    simp only[aQ8,aRW] at h;obtain ⟨⟨rfl,h1⟩,h2⟩:=h;obtain ⟨gl,l,hd,hn⟩:=S.gl h1;exact aH8 (aKC t) gl (S.no _ l) (xX t) (gEs h2 S) hn hd (gSt h2)⟩ else none
noncomputable def aK2 {m : MC} {p0} : CkE m (.dnew) (.Dict [] [] p0) := if h : (true) = true then some ⟨fun {k} {W} {C} {X} S => by
    exact aJJ⟩ else none
noncomputable def aK3 {m : MC} {y} {tb} {a} {x} {p1} {b} {p3} (r1 : CkE m a b) : CkE m (.deed y tb a) (.Subscript (.Name x p1) b p3) := if h : (x == y && m.glob x (.con (.t tb)) && lS b && r1.isSome) = true then some ⟨fun {k} {W} {C} {X} S => by
    simp only[aQ8,aRW] at h;obtain ⟨⟨⟨rfl,h1⟩,h2⟩,h3⟩:=h;obtain ⟨gl,l,hd,hn⟩:=S.gl h1;exact aJP (S.con _ _ l) gl (got h3 S) (noSl h2) hd⟩ else none
noncomputable def aK4 {m : MC} {i} {fs} {n} {es} {f} {p} {x} {xs} {cp} (r1 : dX m es (x :: xs)) : CkE m (.callv i fs n es) (.Call (.Name f p) (x :: xs) [] cp) := if h : (m.calm && m.N[i]? == some f && m.vis f && fs.all (fun g => m.g.G.lookup g == some (.fn n)) && r1.isSome) = true then some ⟨fun {k} {W} {C} {X} S => by
    simp only[aQ8,aRW,aRZ] at h;obtain ⟨⟨⟨⟨hq,h1⟩,h2⟩,h3⟩,h4⟩:=h;obtain ⟨v1,v2,v3⟩:=S.vis h2;have st:=gSt h4
    exact aJQ (λg hg=>S.fn g n (h3 g (aS7.mp hg))) (S.rm hq) (S.xo hq) (jE (by rw[S.hN];exact h1) v1 v2 v3) (gEs h4 S) (bQ (st x mcs)) (iN _ _ λy hy=>st y (mcm hy))⟩ else none
noncomputable def aK5 {m : MC} {neg} {a} {b} {x} {o} {y} {p3} (r1 : CkE m a x) (r2 : CkE m b y) : CkE m (.deq neg a b) (.Compare x [o] [y] p3) := if h : (o == (if neg then .NotEq else .Eq) && eR y && (r1.isSome && r2.isSome)) = true then some ⟨fun {k} {W} {C} {X} S => by
    simp only[aQ8,aRW] at h;obtain ⟨⟨ho,hs⟩,h1,h2⟩:=h;cases neg with
    | false=>cases (show _=CmpOp.Eq from ho);exact k9 (xK S.un) (got h1 S) (got h2 S) (f6 _ hs)
    | true=>cases (show _=CmpOp.NotEq from ho);exact k9 (xL S.un) (got h1 S) (got h2 S) (f6 _ hs)⟩ else none
noncomputable def aK6 {m : MC} {a} {b} {x} {y} {p2} (r1 : CkE m a x) (r2 : CkE m b y) : CkE m (.dix a b) (.Subscript x y p2) := if h : (lS y && (r1.isSome && r2.isSome)) = true then some ⟨fun {k} {W} {C} {X} S => by
    simp only[aQ8] at h;obtain ⟨h0,h1,h2⟩:=h
    exact aJN (aS8 (aS9 (by decide:1<=64) _) S.un) (got h1 S) (got h2 S) (yB h0)⟩ else none
noncomputable def aK7 {m : MC} {neg} {a} {b} {x} {o} {y} {p3} (r1 : CkE m a x) (r2 : CkE m b y) : CkE m (.din neg a b) (.Compare x [o] [y] p3) := if h : (o == (if neg then .NotIn else .In) && eR y && (r1.isSome && r2.isSome)) = true then some ⟨fun {k} {W} {C} {X} S => by
    simp only[aQ8,aRW] at h;obtain ⟨⟨ho,hs⟩,h1,h2⟩:=h
    exact aJO ho (aS8 (aS9 (by decide:1<=64) _) S.un) (got h1 S) (got h2 S) (f6 _ hs)⟩ else none
noncomputable def aK8 {m : MC} {el} {it} {ts} {aG} {t} {n} {elt} {tg} {aQ} {ifs} {scope} {cp} (r1 : CkI m tg it aQ) (r2 : CkE (m.sub scope (aG.filterMap fun i => m.N[i]?) (eS 4 tg)) el elt) (r3 : CkF (m.sub scope (aG.filterMap fun i => m.N[i]?) (eS 4 tg)) ts ifs) : CkE m (.comp el it ts aG t n) (.ListComp elt [⟨tg, aQ, ifs, 0⟩] scope cp) := if h : (m.calm && n9 scope m.sc m.N aG (aG.filterMap fun i => m.N[i]?) (eS 4 tg) && eR aQ && decide ((eS 4 tg).length = n) && (eQ t).all (fun j => decide (aG.length ≤ j)) && mG (m.sub scope (aG.filterMap fun i => m.N[i]?) (eS 4 tg)) t tg && (r1.isSome && (r2.isSome && r3.isSome))) = true then some ⟨fun {k} {W} {C} {X} S => by
    simp only[aQ8,aRL,aRZ] at h;obtain ⟨⟨⟨⟨⟨⟨hq,ho⟩,hn⟩,hl⟩,hs⟩,hg⟩,h1,h2,h3⟩:=h;unfold n9 at ho;simp only[aQ8,aRZ,aRN,aS6,aRW,aRL,aS7] at ho;obtain ⟨⟨⟨⟨⟨⟨⟨g1,g2⟩,g3⟩,g4⟩,g5⟩,g6⟩,g7⟩,g8⟩:=ho;have er:(relabel scope X.env).names=lJ scope m.sc:=by rw[<- S.hs];rfl
    have := aIN (pos := cp) (tgN := eS 4 tg) (t := t) (S.cm hq) (got h1 S) g1 g2 (fun y hy e => (g3 y hy).resolve_left fun z => z e) (fun y hy e => by
        have:=g4 y hy;show X.env.scope.names.lookup y.1=_\/X.env.scope.names.lookup y.1=_;rw[S.hs];rcases this with (z | z) | z
        . exact absurd e z
        . exact .inl z
        . exact .inr z) (by rw[S.hN];exact g5) g6 (λy hy=>by rw[er];exact g7 y hy) (λj hj=>hs j hj) (λcl A fp s3 H3=>sG (S.sub cl A fp s3 H3) g8 t hg)
        (λcl A fp s3 H3=>gF h3 (S.sub cl A fp s3 H3)) (λcl A fp s3 H3=>got h2 (S.sub cl A fp s3 H3)) (rY hn)
    rw[hl] at this;exact this⟩ else none
noncomputable def aK9 {m : MC} {a} {x} {k} {p2} (r1 : CkE m a x) : CkE m (.fmt a) (.FormattedValue x k none p2) := if h : (k == -1 && r1.isSome) = true then some ⟨fun {k} {W} {C} {X} S => by
    simp only[aQ8,aRW] at h;obtain ⟨rfl,h⟩:=h;exact aIP (got h S)⟩ else none
noncomputable def aLA {m : MC} {es} {x} {y} {xs} {p3} (r1 : dX m es (x :: y :: xs)) : CkE m (.fstr es) (.JoinedStr (x :: y :: xs) p3) := if h : (r1.isSome) = true then some ⟨fun {k} {W} {C} {X} S => by
    exact aIQ (gL h S)⟩ else none
noncomputable def aLB {m : MC} {neg} {a} {b} {x} {o} {y} {p3} (r1 : CkE m a x) (r2 : CkE m b y) : CkT m (.deq neg a b) (.Compare x [o] [y] p3) := if h : (o == (if neg then .NotEq else .Eq) && eR y && (r1.isSome && r2.isSome)) = true then some ⟨fun {k} {W} {C} {X} S => by
    simp only[aQ8,aRW] at h;obtain ⟨⟨ho,hs⟩,h1,h2⟩:=h;cases neg with
    | false=>cases (show _=CmpOp.Eq from ho);exact lA (xK S.un) xZ (got h1 S) (got h2 S) (f6 _ hs)
    | true=>cases (show _=CmpOp.NotEq from ho);exact lA (xL S.un) xZ (got h1 S) (got h2 S) (f6 _ hs)⟩ else none
noncomputable def aLC {m : MC} {neg} {a} {b} {x} {o} {y} {p3} (r1 : CkE m a x) (r2 : CkE m b y) : CkT m (.din neg a b) (.Compare x [o] [y] p3) := if h : (o == (if neg then .NotIn else .In) && eR y && (r1.isSome && r2.isSome)) = true then some ⟨fun {k} {W} {C} {X} S => by
    simp only[aQ8,aRW] at h;obtain ⟨⟨ho,hs⟩,h1,h2⟩:=h;have hu:X.A.units+1<cLine:=aS8 (aS9 (by decide:1<=64) _) S.un
    cases neg with
    | false=>cases (show _=CmpOp.In from ho);exact lA (xG hu) xY (got h1 S) (got h2 S) (f6 _ hs)
    | true=>cases (show _=CmpOp.NotIn from ho);exact lA (xH hu) xY (got h1 S) (got h2 S) (f6 _ hs)⟩ else none
noncomputable def aLD {m : MC} {op} {a} {b} {x} {o} {y} {p3} (r1 : CkE m a x) (r2 : CkE m b y) : CkT m (.cmp op a b) (.Compare x [o] [y] p3) := if h : (o == op && eR y && (r1.isSome && r2.isSome)) = true then some ⟨fun {k} {W} {C} {X} S => by
    simp only[aQ8,aRW] at h;obtain ⟨⟨rfl,hs⟩,h1,h2⟩:=h;exact lA (rX _ S.un).1 (rX (C:=C) _ S.un).2 (got h1 S) (got h2 S) (f6 _ hs)⟩ else none
noncomputable def aLE {m : MC} {es} {xs} {p1} (r1 : CkF m es xs) : CkT m (.andL es) (.BoolOp .And xs p1) := if h : (r1.isSome) = true then some ⟨fun {k} {W} {C} {X} S => by
    exact pt_w (gWA h S)⟩ else none
noncomputable def aLF {m : MC} {es} {xs} {p1} (r1 : CkF m es xs) : CkT m (.orL es) (.BoolOp .Or xs p1) := if h : (r1.isSome) = true then some ⟨fun {k} {W} {C} {X} S => by
    exact pt_w (gWO h S)⟩ else none
noncomputable def aLG {m : MC} {a} {x} {p1} (r1 : CkT m a x) : CkT m (.not a) (.UnaryOp .Not x p1) := if h : (r1.isSome) = true then some ⟨fun {k} {W} {C} {X} S => by
    exact aF7 (got h S)⟩ else none
noncomputable def aLH {m : MC} {tg0} {a} {f} {p1} {x} {p3} (r1 : CkE m a x) : CkI m tg0 (.rng1 a) (.Call (.Name f p1) [x] [] p3) := if h : (f == "range" && m.glob f .no && bP x && r1.isSome) = true then some ⟨fun {k} {W} {C} {X} S => by
    simp only[aQ8,aRW] at h;obtain ⟨⟨⟨rfl,h1⟩,h2⟩,h3⟩:=h;obtain ⟨gl,l,hd,hn⟩:=S.gl h1;exact aG7 gl (S.no _ l) (iK (got h3 S) lD (bQ h2)) (bQ h2)⟩ else none
noncomputable def aLI {m : MC} {tg0} {a} {b} {f} {p1} {x} {y} {p4} (r1 : CkE m a x) (r2 : CkE m b y) : CkI m tg0 (.rng2 a b) (.Call (.Name f p1) [x, y] [] p4) := if h : (f == "range" && m.glob f .no && bP x && bP y && (r1.isSome && r2.isSome)) = true then some ⟨fun {k} {W} {C} {X} S => by
    simp only[aQ8,aRW] at h;obtain ⟨⟨⟨⟨rfl,h1⟩,h2⟩,h2'⟩,h3,h4⟩:=h;obtain ⟨gl,l,hd,hn⟩:=S.gl h1
    exact aG8 gl (S.no _ l) (iK (got h3 S) (iK (got h4 S) lD (bQ h2')) (bQ h2)) (by rw[bQ h2,bQ h2'];rfl) (bQ h2')⟩ else none
noncomputable def aLJ {m : MC} {tg0} {a} {f} {p1} {x} {p3} (r1 : CkE m a x) : CkI m tg0 (.enum1 a) (.Call (.Name f p1) [x] [] p3) := if h : (f == "enumerate" && aJ8 tg0 && m.glob f .no && bP x && r1.isSome) = true then some ⟨fun {k} {W} {C} {X} S => by
    simp only[aQ8,aRW] at h;obtain ⟨⟨⟨⟨rfl,ht⟩,h1⟩,h2⟩,h3⟩:=h;obtain ⟨gl,l,hd,hn⟩:=S.gl h1;cases tg0 <;> first
     | (cases ht;done)
     | exact aJA gl (S.no _ l) (iK (gQ (got h3 S)) lD (bQ h2)) (bQ h2)⟩ else none
noncomputable def kEs {m : MC} {f fs x xs} (r1 : CkE m f x) (r2 : dX m fs xs) : dX m (f :: fs) (x :: xs) := if h : (bP x && r1.isSome && r2.isSome) = true then some ⟨by
    simp only[aQ8] at h;exact .cons h.1.1 (@got _ r1 h.1.2) (got h.2)⟩ else none
noncomputable def kO{m:MC}{f x}(r1:CkE m f x):CkO m (some f) (some x):=if h:r1.isSome=true then some ⟨λS=>by simp only[evO];exact got h S⟩ else none
noncomputable def kF {m : MC} {f fs x xs} (r1 : CkT m f x) (r2 : CkF m fs xs) : CkF m (f :: fs) (x :: xs) := if h : (r1.isSome && r2.isSome) = true then some ⟨by
    simp only[aQ8] at h;exact .cons (@got _ r1 h.1) (got h.2)⟩ else none
set_option maxHeartbeats 4000000 in
mutual
noncomputable def ckE:(m:MC)->(f:E)->(e:Expr)->CkE m f e
 | m,.frz a,e=>aKH (ckE m a e)
 | m,.var i,e=>match e with | .Name x p1=>aKK | _=>none
 | m,.glob y c,e=>match e with | .Name x p1=>aKL | _=>none
 | m,.ty t,e=>match e with | .Name x p1=>kE_ty | _=>none
 | m,.non,e=>match e with | .Constant .none p0 p1=>aKM | _=>none
 | m,.bl c,e=>match e with | .Constant (.bool b) p1 p2=>kE_bl | _=>none
 | m,.int c,e=>match e with | .Constant (.int b) p1 p2=>aKN | _=>none
 | m,.str c,e=>match e with | .Constant (.str b) p1 p2=>aKO | _=>none
 | m,.bin op a b,e=>match e with | .BinOp x o y p3=>aKP (ckE m a x) (ckE m b y) | _=>none
 | m,.cmp op a b,e=>match e with | .Compare x [o] [y] p3=>aKQ (ckE m a x) (ckE m b y) | _=>none
 | m,.andL es,e=>match e with | .BoolOp .And xs p1=>aKR (eT m es xs) | _=>none
 | m,.orL es,e=>match e with | .BoolOp .Or xs p1=>aKS (eT m es xs) | _=>none
 | m,.not a,e=>match e with | .UnaryOp .Not x p1=>aKT (ckE m a x) | _=>none
 | m,.neg a,e=>match e with | .UnaryOp .USub x p1=>aKU (ckE m a x) | _=>none
 | m,.slice a l u,e=>match e with | .Subscript x (.Slice lo hi none p3) p4=>aKV (ckE m a x) (ckO m l lo) (ckO m u hi) | _=>none
 | m,.ix a b,e=>match e with | .Subscript x y p2=>kE_ix (ckE m a x) (ckE m b y) | _=>none
 | m,.tup es,e=>match e with | .Tuple es0 p1 p2=>aKW (eT m es es0) | _=>none
 | m,.lst es,e=>match e with | .List es0 p1=>aKX (eT m es es0) | _=>none
 | m,.call g n es,e=>match e with | .Call (.Name f p) (x::xs) [] cp=>aKY (eT m es (x::xs)) | _=>none
 | m,.bcall b es,e=>match e with | .Call (.Name f p) (x::xs) [] cp=>aK0 (eT m es (x::xs)) | _=>none
 | m,.tcall t es,e=>match e with | .Call (.Name f p1) (x::xs) [] p4=>aK1 (eT m es (x::xs)) | _=>none
 | m,.dnew,e=>match e with | .Dict [] [] p0=>aK2 | _=>none
 | m,.deed y tb a,e=>match e with | .Subscript (.Name x p1) b p3=>aK3 (ckE m a b) | _=>none
 | m,.dzip a b,e=>match e with | .Call (.Name f p1) [.Call (.Name g p3) [x,y] [] p5] [] p6=>aKZ (ckE m a x) (ckE m b y) | _=>none
 | m,.callv i fs n es,e=>match e with | .Call (.Name f p) (x::xs) [] cp=>aK4 (eT m es (x::xs)) | _=>none
 | m,.deq neg a b,e=>match e with | .Compare x [o] [y] p3=>aK5 (ckE m a x) (ckE m b y) | _=>none
 | m,.dix a b,e=>match e with | .Subscript x y p2=>aK6 (ckE m a x) (ckE m b y) | _=>none
 | m,.din neg a b,e=>match e with | .Compare x [o] [y] p3=>aK7 (ckE m a x) (ckE m b y) | _=>none
 | m,.comp el it ts aG t n,e=>match e with | .ListComp elt [⟨tg,aQ,ifs,0⟩] scope cp=>aK8 (ckI m tg it aQ) (ckE (m.sub scope (aG.filterMap λi=>m.N[i]?) (eS 4 tg)) el elt) (ckF (m.sub scope (aG.filterMap λi=>m.N[i]?) (eS 4 tg)) ts ifs) | _=>none
 | m,.fmt a,e=>match e with | .FormattedValue x k none p2=>aK9 (ckE m a x) | _=>none
 | m,.fstr es,e=>match e with | .JoinedStr (x::y::xs) p3=>aLA (eT m es (x::y::xs)) | _=>none
 | _,.tru _,_=>none
 | _,.items _,_=>none
 | _,.rng1 _,_=>none
 | _,.rng2 _ _,_=>none
 | _,.enum1 _,_=>none
noncomputable def ckT:(m:MC)->(f:E)->(e:Expr)->CkT m f e
 | m,.tru a,e=>aKI (ckE m a e)
 | m,.deq neg a b,e=>match e with | .Compare x [o] [y] p3=>aLB (ckE m a x) (ckE m b y) | _=>none
 | m,.din neg a b,e=>match e with | .Compare x [o] [y] p3=>aLC (ckE m a x) (ckE m b y) | _=>none
 | m,.cmp op a b,e=>match e with | .Compare x [o] [y] p3=>aLD (ckE m a x) (ckE m b y) | _=>none
 | m,.andL es,e=>match e with | .BoolOp .And xs p1=>aLE (ckF m es xs) | _=>none
 | m,.orL es,e=>match e with | .BoolOp .Or xs p1=>aLF (ckF m es xs) | _=>none
 | m,.not a,e=>match e with | .UnaryOp .Not x p1=>aLG (ckT m a x) | _=>none
 | _,_,_=>none
noncomputable def ckI:(m:MC)->(tg:Expr)->(f:E)->(e:Expr)->CkI m tg f e
 | m,tg,.items a,e=>aKJ (ckE m a e)
 | m,tg0,.rng1 a,e=>match e with | .Call (.Name f p1) [x] [] p3=>aLH (ckE m a x) | _=>none
 | m,tg0,.rng2 a b,e=>match e with | .Call (.Name f p1) [x,y] [] p4=>aLI (ckE m a x) (ckE m b y) | _=>none
 | m,tg0,.enum1 a,e=>match e with | .Call (.Name f p1) [x] [] p3=>aLJ (ckE m a x) | _=>none
 | _,_,_,_=>none
noncomputable def eT:(m:MC)->(fs:List E)->(es:List Expr)->dX m fs es
 | m,[],es=>match es with | []=>some ⟨.nil⟩ | _=>none
 | m,f::fs,l=>match l with | x::xs=>kEs (ckE m f x) (eT m fs xs) | _=>none
noncomputable def ckO:(m:MC)->(f:Option E)->(e:Option Expr)->CkO m f e
 | m,none,e=>match e with | none=>some ⟨λ_=>True.intro⟩ | _=>none
 | m,some f,l=>match l with | some x=>kO (ckE m f x) | _=>none
noncomputable def ckF:(m:MC)->(fs:List E)->(es:List Expr)->CkF m fs es
 | m,[],es=>match es with | []=>some ⟨.nil⟩ | _=>none
 | m,f::fs,l=>match l with | x::xs=>kF (ckT m f x) (ckF m fs xs) | _=>none
end
noncomputable def mE(m:MC)(f:E)(e:Expr):Bool:=(ckE m f e).isSome
noncomputable def mT(m:MC)(f:E)(e:Expr):Bool:=(ckT m f e).isSome
noncomputable def mI(m:MC)(tg:Expr)(f:E)(e:Expr):Bool:=(ckI m tg f e).isSome
noncomputable def mEs(m:MC)(f:List E)(e:List Expr):Bool:=(eT m f e).isSome
noncomputable def mF(m:MC)(f:List E)(e:List Expr):Bool:=(ckF m f e).isSome
theorem aLK{m:MC}{fs:List E}{es:List Expr}(h:mEs m fs es=true):∀ x∈es,bP x=true:=gSt h
section
variable {k:Nat}{W:WD}
theorem sE(f:E){m:MC}{C:Cw}{X:Cx}{e:Expr}(S:SX k W m C X)(h:mE m f e=true):PV C X e (evE W f):=got h S
theorem sT(f:E){m:MC}{C:Cw}{X:Cx}{e:Expr}(S:SX k W m C X)(h:mT m f e=true):PTv C X e (evE W f):=got h S
theorem sI(f:E){m:MC}{C:Cw}{X:Cx}{tg e:Expr}(S:SX k W m C X)(h:mI m tg f e=true):PIv C X tg e (evE W f):=got h S
theorem sEs(fs:List E){m:MC}{C:Cw}{X:Cx}{es:List Expr}(S:SX k W m C X)(h:mEs m fs es=true):PAv C X es (bR W fs):=gEs h S
theorem sF(fs:List E){m:MC}{C:Cw}{X:Cx}{es:List Expr}(S:SX k W m C X)(h:mF m fs es=true):dD X es (tT (C.at X) (evF W fs)):=gF h S
end
end D3
set_option genSizeOfSpec false
set_option genInjectivity false
namespace D3
open PySem PySem.Spec PyProof.Rows L2
inductive S where
 | ret (e:E) | retV (i:Nat) | set (i:Nat) (e:E) | ite (c:E) (a b:List S) | for (it:E) (t:Tg) (body:List S)
 | expr (e:E) | asg (t:Tg) (e:E) | whl (n:Nat) (c:E) (body:List S) | par (i j:Nat) (a b:E)
 | rz (c:Str) (es:List E) | app (i:Nat) (e:E) | extn (i:Nat) (e:E) | setC (i:Nat) (fz:Bool) (e:E) | dput (i:Nat) (k e:E) | frzV (i:Nat)
mutual
noncomputable def evS(W:WD):S->Rho->aB
 | .ret e,ρ=>fC (evE W e ρ) ρ
 | .retV i,ρ=>fD ρ i
 | .set i e,ρ=>eC ρ i (evE W e ρ)
 | .ite c a b,ρ=>ifS (evE W c ρ) ρ (evB W a ρ) (evB W b ρ)
 | .for it t body,ρ=>cJ (evE W it ρ) ρ (aI t) (evB W body)
 | .asg t e,ρ=>fF t ρ (evE W e ρ)
 | .whl n c body,ρ=>cK (evE W c) (evB W body) n ρ
 | .par i j a b,ρ=>jS i j ρ (cC (evE W a ρ) (cC (evE W b ρ) (.ok [])))
 | .expr e,ρ=>(evE W e ρ).thS ρ λ_ _=>.nx ρ
 | .rz c es,ρ=>rzR c ρ (bR W es ρ)
 | .app i e,ρ=>gX ρ i (evE W e ρ)
 | .extn i e,ρ=>gZ ρ i (evE W e ρ)
 | .frzV i,ρ=>lR ρ i
 | .dput i k e,ρ=>fY ρ i (evE W k ρ) (evE W e ρ)
 | .setC i fz e,ρ=>eC ρ i (if fz=true then bG (evE W e ρ) else evE W e ρ)
noncomputable def evB(W:WD):List S->Rho->aB
 | [],ρ=>.nx ρ
 | s::r,ρ=>(evS W s ρ).thn (evB W r)
end
noncomputable def jZ:Expr->Bool | .ListComp ..=>false | .SetComp ..=>false | .DictComp ..=>false | _=>true
noncomputable def mC(m:MC)(elt:Expr)(scope:Scope):E->List Comprehension->Bool
 | .comp el it ts aG t n,gens=>match gens with
  | [⟨tg,aQ,ifs,0⟩] =>
   let aJ:=aG.filterMap λi=>m.N[i]?
   let tgN:=eS 4 tg
   m.calm&&n9 scope m.sc m.N aG aJ tgN&&eR aQ&&decide (tgN.length=n)&&(eQ t).all (λj=>decide (aG.length<=j))&&mG (m.sub scope aJ tgN) t tg&&(mI m tg it aQ&&(mE (m.sub scope aJ tgN) el elt&&mF (m.sub scope aJ tgN) ts ifs))
  | _=>false
 | _,_=>false
noncomputable def yC:Expr->Bool | .Tuple ..=>false | _=>true
noncomputable def rZ(m:MC)(x y:Str)(px py:Pos)(a b:Expr):Bool:=m.calm&&m.kind x==some .local&&m.kind y==some .local&&px.line==py.line&&x != y&&bP a&&bP b&&!(foldedForSure 8 a&&foldedForSure 8 b)&&!(constantsAlone 8 a&&constantsAlone 8 b)&&m.sc.kind == .function
theorem oA{e:Expr}{t:Option Expr}{n:Nat}{env:Env}(h:jZ e=true):swapsWith e t n env=pure false:=by cases e <;> first | rfl | cases h
theorem aLL{m:MC}{e:Expr}{x:Str}{p:Pos}{n:Nat}{env:Env}(hs:env.scope=m.sc)(h:(jZ e||m.kind x==some .cell)=true):swapsWith e (some (.Name x p)) n env=pure false:=by
 rw[aRN,aRW] at h;rcases h with h | h
 . exact oA h
 . have hk:env.kindOf x=some .cell:=by show env.scope.names.lookup x=_;rw[hs];exact h
   unfold swapsWith;have kc:(NameKind.cell==NameKind.local)=false:=by decide
   cases e <;> first | rfl | (simp[hk,kc])
theorem aLM{t:Expr}{e:Expr}{env:Env}(h:yC e=true):swappedStores [t] e env=pure none:=by
 unfold swappedStores;split
 . rename_i q;split at q
   . cases h
   . cases h
   . cases q
 . rfl
theorem aLN{k:Nat}{W:WD}{m:MC}{C:Cw}{X:Cx}(S:SX k W m C X){x y:Str}{px py:Pos}{a b:Expr}(h:rZ m x y px py a b=true):m.calm=true/\X.env.scope.names.lookup x=some .local/\X.env.scope.names.lookup y=some .local/\(∀ kt pt k2 pt2,swappedStores [.Tuple [.Name x px,.Name y py] kt pt] (.Tuple [a,b] k2 pt2) X.env=pure (some [x,y]))/\bP a=true/\bP b=true:=by
 unfold rZ MC.kind at h;simp only[aQ8,aRW,aS6,aTA] at h;obtain ⟨⟨⟨⟨⟨⟨⟨⟨⟨h0,h1⟩,h2⟩,h3⟩,h4⟩,h5⟩,h6⟩,h7⟩,h8⟩,h9⟩:=h;have k1:X.env.scope.names.lookup x=some .local:=by rw[S.hs];exact h1
 have k2:X.env.scope.names.lookup y=some .local:=by rw[S.hs];exact h2
 refine ⟨h0,k1,k2,λkt pt k2' pt2=>?_,h5,h6⟩;have bk:X.env.blockKind=.function:=by unfold Env.blockKind;rw[S.hs,h9];rfl
 have kx:X.env.kindOf x=some .local:=k1;have ky:X.env.kindOf y=some .local:=k2;unfold swappedStores;simp[bk,kx,ky,h3,h7,h8,Expr.pos];rw[if_neg (by
  intro z;rcases z with z | z
  . cases a <;> first | (cases h5;done) | (cases z;done)
  . cases b <;> first | (cases h6;done) | (cases z;done))]
 have hd:[x,y].eraseDups.length=2:=by have hb:(y==x)=false:=aPC.mpr λz=>h4 z.symm;simp[List.eraseDups_cons,hb]
 rw[if_pos hd]
section
variable {k:Nat}{W:WD}{m:MC}{C:Cw}{X:Cx}
structure SB(k:Nat)(W:WD)(m:MC)(C:Cw)(X:Cx):Prop extends SX k W m C X where
 nd:m.N.Nodup
 hp:PassesOwn (model X.prog X.w) X.A X.env X.xe
 ro:m.rz=true->rP (C.at X) X/\FnCx X
end
theorem aLO{k:Nat}{W:WD}{m:MC}{C:Cw}{X:Cx}(S:SB k W m C X)(fz:Bool){i:Nat}{el it:E}{ts:List E}{aG:List Nat}{t:Tg}{n:Nat}{x:Str}{px cp sp:Pos}{elt:Expr}{gens:List Comprehension}{scope:Scope}(h1:m.N[i]? = some x)(h2:m.kind x=some .local)(h3:m.sc.kind=.function)(h4:px.line=cp.line)(h5:(scope.names.any λy=>y.1==x&&(y.2 == .local||y.2 == .cell))=false)(h:mC m elt scope (.comp el it ts aG t n) gens=true):PSv C X (.Assign [.Name x px] (.ListComp elt gens scope cp) sp) (λρ=>eC ρ i (if fz=true then bG (evE W (.comp el it ts aG t n) ρ) else evE W (.comp el it ts aG t n) ρ)):=by
 have hk:X.env.scope.names.lookup x=some .local:=by rw[S.hs];exact h2
 conv at h=>lhs;whnf
 split at h
 . rename_i tg aQ ifs;simp only[aQ8,aRL,aRZ] at h;obtain ⟨⟨⟨⟨⟨⟨hq,ho⟩,hn⟩,hl⟩,hs⟩,hg⟩,k1,k2,k3⟩:=h;unfold n9 at ho;simp only[aQ8,aRZ,aRN,aS6,aRW,aRL,aS7] at ho;obtain ⟨⟨⟨⟨⟨⟨⟨g1,g2⟩,g3⟩,g4⟩,g5⟩,g6⟩,g7⟩,g8⟩:=ho;have er:(relabel scope X.env).names=lJ scope m.sc:=by rw[<- S.hs];rfl
   have bk:X.env.blockKind=.function:=by unfold Env.blockKind;rw[S.hs,h3];rfl
   have hsw:swapsWith (.ListComp elt [⟨tg,aQ,ifs,0⟩] scope cp) (some (.Name x px)) sp.line X.env=pure true:=by
    have kx:X.env.kindOf x=some .local:=hk;unfold swapsWith;have k1:(ScopeKind.function==ScopeKind.function)=true:=by decide
    have k2:(some NameKind.local==some NameKind.local)=true:=by decide
    simp only[bk,kx,Expr.pos,h4,h5,k1,k2,aSC];rfl
   have := aIO fz (pos := cp) (pos' := px) (spos := sp) (i := i) (x := x) (tgN := eS 4 tg) (t := t) (S.cm hq) (sI it S.toSX k1) g1 g2 (fun y hy e => (g3 y hy).resolve_left fun z => z e) (fun y hy e => by
       have:=g4 y hy;show X.env.scope.names.lookup y.1=_\/X.env.scope.names.lookup y.1=_;rw[S.hs];rcases this with (z | z) | z
       . exact absurd e z
       . exact .inl z
       . exact .inr z) (by rw[S.hN];exact g5) g6 (λy hy=>by rw[er];exact g7 y hy) (λj hj=>hs j hj) (λcl A fp s3 H3=>sG (S.toSX.sub cl A fp s3 H3) g8 t hg)
       (λcl A fp s3 H3=>sF ts (S.toSX.sub cl A fp s3 H3) k3) (λcl A fp s3 H3=>sE el (S.toSX.sub cl A fp s3 H3) k2) (by rw[S.hN];exact S.nd) (by rw[S.hN];exact h1) hk hsw (rY hn)
   rw[hl] at this;exact this
 . cases h
abbrev CkS(m:MC)(f:D3.S)(st:Stmt):Type:=Option (PLift (∀ {k:Nat} {W:WD} {C:Cw} {X:Cx},SB k W m C X->PSv C X st (evS W f)))
abbrev CkB(m:MC)(f:List D3.S)(sts:List Stmt):Type:=Option (PLift (∀ {k:Nat} {W:WD} {C:Cw} {X:Cx},SB k W m C X->PBv C X sts (evB W f)))
noncomputable def aLP {m : MC} {f} {e} {p1} : CkS m (.ret f) (.Return (some e) p1) := if h : (mE m f e) = true then some ⟨fun {k} {W} {C} {X} S => by
    exact aGZ (sE f S.toSX h)⟩ else none
noncomputable def aLQ {m : MC} {i} {x} {p1} {p2} : CkS m (.retV i) (.Return (some (.Name x p1)) p2) := if h : (m.N[i]? == some x && m.vis x) = true then some ⟨fun {k} {W} {C} {X} S => by
    simp only[aQ8,aRW] at h;obtain ⟨h1,h2,h3⟩:=S.toSX.vis h.2
    exact aG0 i (jE (by rw[S.hN];exact h.1) h1 h2 h3)⟩ else none
noncomputable def aLR {m : MC} {i} {f} {x} {p1} {e} {p3} : CkS m (.set i f) (.Assign [.Name x p1] e p3) := if h : (m.loc i x && (jZ e || m.kind x == some .cell) && mE m f e) = true then some ⟨fun {k} {W} {C} {X} S => by
    simp only[aQ8] at h;obtain ⟨⟨h1,h2⟩,h3⟩:=h;obtain ⟨b,c,d⟩:=S.toSX.loc h1
    exact aG2 (by rw[S.hN];exact S.nd) b c (sE f S.toSX h3) (aLL S.hs h2) d⟩ else none
noncomputable def aLS {m : MC} {i} {f} {g} {x} {p1} {k} {p3} {e} {p5} : CkS m (.dput i f g) (.Assign [.Subscript (.Name x p1) k p3] e p5) := if h : (m.N[i]? == some x && m.vis x && jZ e && mE m f k && mE m g e) = true then some ⟨fun {k} {W} {C} {X} S => by
    simp only[aQ8,aRW] at h;obtain ⟨⟨⟨⟨h1,h2⟩,h3⟩,h4⟩,h5⟩:=h;obtain ⟨v1,v2,v3⟩:=S.toSX.vis h2
    exact aJM i (aS8 (aS9 (by decide:1<=64) _) S.un) (jE (by rw[S.hN];exact h1) v1 v2 v3) (sE f S.toSX h4) (sE g S.toSX h5) (oA h3)⟩ else none
noncomputable def aLT {m : MC} {i} {fz} {f} {x} {px} {elt} {gens} {scope} {cp} {p6} : CkS m (.setC i fz f) (.Assign [.Name x px] (.ListComp elt gens scope cp) p6) := if h : (m.N[i]? == some x && m.kind x == some .local && m.sc.kind == .function && px.line == cp.line && !(scope.names.any fun y => y.1 == x && (y.2 == .local || y.2 == .cell)) && mC m elt scope f gens) = true then some ⟨fun {k} {W} {C} {X} S => by
    simp only[aQ8,aRW,aTA] at h;obtain ⟨⟨⟨⟨⟨h1,h2⟩,h3⟩,h4⟩,h5⟩,h7⟩:=h;cases f with
    | comp el it ts aG t n=>exact aLO S fz h1 h2 h3 h4 h5 h7
    | _=>cases h7⟩ else none
noncomputable def aLU {m : MC} {f} {a} {b} {c} {x} {y} {p3} (r1 : CkB m a x) (r2 : CkB m b y) : CkS m (.ite f a b) (.If c x y p3) := if h : (mT m f c && (r1.isSome && r2.isSome)) = true then some ⟨fun {k} {W} {C} {X} S => by
    simp only[aQ8] at h;obtain ⟨h1,h2,h3⟩:=h;exact aG1 (sT f S.toSX h1) (got h2 S) (got h3 S)⟩ else none
noncomputable def aLV {m : MC} {f} {t} {b} {tg} {e} {body} {p3} (r1 : CkB m b body) : CkS m (.for f t b) (.For tg e body [] p3) := if h : (m.calm && mG m t tg && eR e && (mI m tg f e && r1.isSome)) = true then some ⟨fun {k} {W} {C} {X} S => by
    simp only[aQ8] at h;obtain ⟨⟨⟨hq,h1⟩,h2⟩,h3,h4⟩:=h;exact aG9 S.hp (S.cm hq) (sI f S.toSX h3) (aIJ (sG S.toSX S.nd t h1)) (got h4 S) (rY h2)⟩ else none
noncomputable def aLW {m : MC} {t} {f} {tg} {e} {p2} : CkS m (.asg t f) (.Assign [tg] e p2) := if h : (mG m t tg && gU tg && jZ e && yC e && mE m f e) = true then some ⟨fun {k} {W} {C} {X} S => by
    simp only[aQ8] at h;obtain ⟨⟨⟨⟨h1,h2⟩,h3⟩,h4⟩,h5⟩:=h;exact aIK (sE f S.toSX h5) (sG S.toSX S.nd t h1) (oA h3) (aLM h4) h2⟩ else none
noncomputable def aLX {m : MC} {n} {f} {b} {c} {body} {p2} (r1 : CkB m b body) : CkS m (.whl n f b) (.While c body [] p2) := if h : (mT m f c && r1.isSome) = true then some ⟨fun {k} {W} {C} {X} S => by
    simp only[aQ8] at h;have:evS W (.whl n f b)=cK (evE W f) (evB W b) n:=by funext ρ;rfl
    rw[this];exact aIL n S.hp (sT f S.toSX h.1) (got h.2 S)⟩ else none
noncomputable def aLY {m : MC} {i} {j} {a} {b} {x} {px} {y} {py} {p4} {p5} {u} {v} {p8} {p9} {p10} : CkS m (.par i j a b) (.Assign [.Tuple [.Name x px, .Name y py] p4 p5] (.Tuple [u, v] p8 p9) p10) := if h : (m.N[i]? == some x && m.N[j]? == some y && decide (i ≠ j) && rZ m x y px py u v && (mE m a u && mE m b v)) = true then some ⟨fun {k} {W} {C} {X} S => by
    simp only[aQ8,aRW,aRL] at h;obtain ⟨⟨⟨⟨h1,h2⟩,h3⟩,h4⟩,h5,h6⟩:=h;obtain ⟨hq,k1,k2,hw,s1,s2⟩:=aLN S.toSX h4
    exact aIM (S.cm hq) (by rw[S.hN];exact S.nd) (by rw[S.hN];exact h1) (by rw[S.hN];exact h2) h3 k1 k2 (iK (sE a S.toSX h5) (iK (sE b S.toSX h6) lD (bQ s2)) (bQ s1)) (hw _ _ _ _)⟩ else none
noncomputable def aLZ {m : MC} {f} {e} {p1} : CkS m (.expr f) (.Expr e p1) := if h : (jZ e && mE m f e) = true then some ⟨fun {k} {W} {C} {X} S => by
    simp only[aQ8] at h;exact aGY (sE f S.toSX h.2) (oA h.1)⟩ else none
noncomputable def kS_rz {m : MC} {c} {es} {f} {p1} {x} {xs} {p4} {p5} : CkS m (.rz c es) (.Raise (some (.Call (.Name f p1) (x :: xs) [] p4)) none p5) := if h : (m.calm && m.rz && f == c && m.gk f && m.g.xcs.contains f && mEs m es (x :: xs)) = true then some ⟨fun {k} {W} {C} {X} S => by
    simp only[aQ8,aRW,aS7] at h;obtain ⟨⟨⟨⟨⟨hq,hr⟩,rfl⟩,h1⟩,h2⟩,h3⟩:=h;obtain ⟨gl,hd⟩:=S.toSX.gk h1;obtain ⟨Cc,hm,Z⟩:=S.xc _ h2;exact aJD hm Z (S.rm hq).hd (S.ro hr).1 gl (sEs es S.toSX h3) hd (aLK h3)⟩ else none
noncomputable def aL0 {m : MC} {i} {f} {x} {p1} {a} {ap} {e} {cp} {p6} : CkS m (.app i f) (.Expr (.Call (.Attribute (.Name x p1) a ap) [e] [] cp) p6) := if h : (m.N[i]? == some x && m.vis x && a == "append" && ap.endLine == cp.line && bP e && mE m f e) = true then some ⟨fun {k} {W} {C} {X} S => by
    simp only[aQ8,aRW] at h;obtain ⟨⟨⟨⟨⟨h1,h2⟩,rfl⟩,h3⟩,h4⟩,h5⟩:=h;obtain ⟨v1,v2,v3⟩:=S.toSX.vis h2
    exact aJH i (jE (by rw[S.hN];exact h1) v1 v2 v3) (sE f S.toSX h5) h4 h3⟩ else none
noncomputable def aL1 {m : MC} {i} {f} {x} {p1} {a} {ap} {e} {cp} {p6} : CkS m (.extn i f) (.Expr (.Call (.Attribute (.Name x p1) a ap) [e] [] cp) p6) := if h : (m.N[i]? == some x && m.vis x && a == "extend" && ap.endLine == cp.line && bP e && mE m f e) = true then some ⟨fun {k} {W} {C} {X} S => by
    simp only[aQ8,aRW] at h;obtain ⟨⟨⟨⟨⟨h1,h2⟩,rfl⟩,h3⟩,h4⟩,h5⟩:=h;obtain ⟨v1,v2,v3⟩:=S.toSX.vis h2
    exact aJW i (jE (by rw[S.hN];exact h1) v1 v2 v3) (sE f S.toSX h5) h4 h3⟩ else none
theorem aL2{k:Nat}{W:WD}{m:MC}{C:Cw}{X:Cx}(S:SB k W m C X):PBv C X [] (evB W []):=by
 have:evB W []=λρ=>.nx ρ:=by funext ρ;simp only[evB]
 rw[this];exact aGV
noncomputable def aL3 {m : MC} {i fs sts} (r : CkB m fs sts) : CkB m (.frzV i :: fs) sts := if h : r.isSome = true then some ⟨fun {k} {W} {C} {X} S => by
    have:evB W (.frzV i::fs)=λρ=>(lR ρ i).thn (evB W fs):=by funext ρ;rfl
    rw[this];exact aJR (got h S)⟩ else none
noncomputable def aL4 {m : MC} {f fs st sts} (r : CkS m f st) (r2 : CkB m fs sts) : CkB m (f :: fs) (st :: sts) := if h : (r.isSome && r2.isSome) = true then some ⟨fun {k} {W} {C} {X} S => by
    rw[aQ8] at h;have:evB W (f::fs)=λρ=>(evS W f ρ).thn (evB W fs):=by funext ρ;simp only[evB]
    rw[this];exact aGX (got h.1 S) (got h.2 S)⟩ else none
set_option maxHeartbeats 4000000 in
mutual
noncomputable def ckS:(m:MC)->(f:D3.S)->(st:Stmt)->CkS m f st
 | _,.frzV _,_=>none
 | m,.ret f,st=>match st with | .Return (some e) p1=>aLP | _=>none
 | m,.retV i,st=>match st with | .Return (some (.Name x p1)) p2=>aLQ | _=>none
 | m,.set i f,st=>match st with | .Assign [.Name x p1] e p3=>aLR | _=>none
 | m,.dput i f g,st=>match st with | .Assign [.Subscript (.Name x p1) k p3] e p5=>aLS | _=>none
 | m,.setC i fz f,st=>match st with | .Assign [.Name x px] (.ListComp elt gens scope cp) p6=>aLT | _=>none
 | m,.ite f a b,st=>match st with | .If c x y p3=>aLU (ckB m a x) (ckB m b y) | _=>none
 | m,.for f t b,st=>match st with | .For tg e body [] p3=>aLV (ckB m b body) | _=>none
 | m,.asg t f,st=>match st with | .Assign [tg] e p2=>aLW | _=>none
 | m,.whl n f b,st=>match st with | .While c body [] p2=>aLX (ckB m b body) | _=>none
 | m,.par i j a b,st=>match st with | .Assign [.Tuple [.Name x px,.Name y py] p4 p5] (.Tuple [u,v] p8 p9) p10=>aLY | _=>none
 | m,.expr f,st=>match st with | .Expr e p1=>aLZ | _=>none
 | m,.rz c es,st=>match st with | .Raise (some (.Call (.Name f p1) (x::xs) [] p4)) none p5=>kS_rz | _=>none
 | m,.extn i f,st=>match st with | .Expr (.Call (.Attribute (.Name x p1) a ap) [e] [] cp) p6=>aL1 | _=>none
 | m,.app i f,st=>match st with | .Expr (.Call (.Attribute (.Name x p1) a ap) [e] [] cp) p6=>aL0 | _=>none
noncomputable def ckB:(m:MC)->(f:List D3.S)->(sts:List Stmt)->CkB m f sts
 | m,[],sts=>match sts with | []=>some ⟨λS=>aL2 S⟩ | _=>none
 | m,.frzV i::fs,sts=>aL3 (ckB m fs sts)
 | m,f::fs,sts=>match sts with | st::sts=>aL4 (ckS m f st) (ckB m fs sts) | _=>none
end
noncomputable def mB(m:MC)(f:List D3.S)(sts:List Stmt):Bool:=(ckB m f sts).isSome
theorem sB{k:Nat}{W:WD}{m:MC}{C:Cw}{X:Cx}(S:SB k W m C X)(f:List D3.S){sts:List Stmt}(h:mB m f sts=true):PBv C X sts (evB W f):=got h S
abbrev IB:=Unit
structure FD where
 ps:List Str
 N:List Str
 b:List D3.S
structure ID where
 c:Str
 ps:List Str
 N:List Str
 ib:IB
structure TB where
 T:List (Str×FD)
 I:List (Str×ID)
 cl:List CI
 xt:List ((Str×Str)×Bool)
 xi:List ((Str×Str)×Bool)
noncomputable def r6(W:WD)(i:ID):List D->Res:=λ_=>.stuck
noncomputable def lT(t:TB)(W:WD)(f:Str):List D->Res:=match t.T.lookup f with
 | some d=>phi d.ps.length d.N.length (evB W d.b)
 | none=>λ_=>.stuck
noncomputable def WT(t:TB):Nat->WD
 | 0=>⟨λ_ _=>.stuck,λ_=>none,t.cl,t.xt,t.xi⟩
 | 1=>⟨λf=>lT t ⟨λ_ _=>.stuck,λ_=>none,t.cl,t.xt,t.xi⟩ f,λ_=>none,t.cl,t.xt,t.xi⟩
 | k+2=>⟨λf=>lT t (WT t (k+1)) f,λkey=>match t.I.lookup key with | some i=>some (r6 (WT t k) i) | none=>none,t.cl,t.xt,t.xi⟩
theorem oB(t:TB):∀ k,(WT t k).cl=t.cl
 | 0=>rfl
 | 1=>rfl
 | k+2=>rfl
theorem yD(t:TB):∀ k,(WT t k).xt=t.xt
 | 0=>rfl
 | 1=>rfl
 | k+2=>rfl
theorem yE(t:TB):∀ k,(WT t k).xi=t.xi
 | 0=>rfl
 | 1=>rfl
 | k+2=>rfl
theorem WT_Φ(t:TB):∀ k f,(WT t (k+1)).Φ f=lT t (WT t k) f
 | 0,f=>rfl
 | k+1,f=>rfl
noncomputable def r8(N ps:List Str)(sc:Scope):Bool:=sc.kind == .function&&!sc.isCoroutine&&!sc.isGenerator&&decide N.Nodup&&(N.take ps.length==ps)&&ps.all (λx=>sc.names.lookup x==some .local||sc.names.lookup x==some .cell)&&sc.names.all (λy=>y.2 != .free)
theorem aL5{N ps:List Str}{sc:Scope}(h:r8 N ps sc=true):nD N ps sc:=by unfold r8 at h;simp only[aQ8,aRZ,aRN,aS6,aRW,aRL,aTA] at h;obtain ⟨⟨⟨⟨⟨⟨h1,h2⟩,h3⟩,h4⟩,h5⟩,h6⟩,h7⟩:=h;exact ⟨h1,h2,h3,h4,h5,h6,h7⟩
noncomputable def iT(g:MG)(st:Stmt)(d:FD):Bool:=r8 d.N d.ps (eL st)&&mB ⟨d.N,eL st,g,true,true,true⟩ d.b (jG st)
noncomputable def idOk(g:MG)(st:Stmt)(d:ID):Bool:=false
noncomputable def yF(K:Fg)(g:MG)(fa:Str->Addr)(key:Str)(d:FD):Prop :=
 ∃ name st fd,Fun K name key st (fa key) fd/\e8 K fd d.ps []/\iT g st d=true
noncomputable def lU(K:Fg)(g:MG)(fa:Str->Addr):List (Str×FD)->Prop
 | []=>True
 | (x,d)::r=>yF K g fa x d/\lU K g fa r
theorem lU.at{K:Fg}{g:MG}{fa:Str->Addr}:∀ {T:List (Str×FD)} {x:Str} {d:FD},lU K g fa T->T.lookup x=some d->yF K g fa x d
 | [],_,_,_,e=>by cases e
 | (y,d')::r,x,d,h,e=>by
  rw[aSB] at e;split at e
  . rename_i hb;cases e;rw[aRW] at hb;subst hb;exact h.1
  . exact h.2.at e
noncomputable def yG(K:Fg)(mg:SOV)(g:MG)(key:Str)(d:ID):Prop :=
 ∃ name st C f fd,PySem.W.nsIn K mainGlobals d.c=some (some (.ref C))/\mg d.c=some (.ref C)/\Mk K C f/\Fun K name key st f fd/\e8 K fd d.ps []/\idOk g st d=true
noncomputable def lV(K:Fg)(mg:SOV)(g:MG):List (Str×ID)->Prop
 | []=>True
 | (x,d)::r=>yG K mg g x d/\lV K mg g r
theorem lV.at{K:Fg}{mg:SOV}{g:MG}:∀ {T:List (Str×ID)} {x:Str} {d:ID},lV K mg g T->T.lookup x=some d->yG K mg g x d
 | [],_,_,_,e=>by cases e
 | (y,d')::r,x,d,h,e=>by
  rw[aSB] at e;split at e
  . rename_i hb;cases e;rw[aRW] at hb;subst hb;exact h.1
  . exact h.2.at e
noncomputable def GVOk(w:World)(K:Fg)(mg:SOV)(fa:Str->Addr)(x:Str):GV->Prop
 | .con (.s y)=>∃ t,mg x=some (.str y t)
 | .con (.i n)=>∃ t,mg x=some (.int n t)
 | .con (.t tb)=>gY w K mg x tb
 | .no=>mg x=none
 | .fn _=>mg x=some (.ref (fa x))
 | .cls=>True
noncomputable def lW(w:World)(K:Fg)(mg:SOV)(fa:Str->Addr):List (Str×GV)->Prop
 | []=>True
 | (x,v)::r=>GVOk w K mg fa x v/\lW w K mg fa r
theorem lW.at{w:World}{K:Fg}{mg:SOV}{fa:Str->Addr}:∀ {G:List (Str×GV)} {x:Str} {v:GV},lW w K mg fa G->G.lookup x=some v->GVOk w K mg fa x v
 | [],_,_,_,e=>by cases e
 | (y,v')::r,x,v,h,e=>by
  rw[aSB] at e;split at e
  . rename_i hb;cases e;rw[aRW] at hb;subst hb;exact h.1
  . exact h.2.at e
noncomputable def gOk(G:List (Str×GV))(T:List (Str×FD)):Bool:=G.all λ(x,v)=>match v with | .fn n=>(match T.lookup x with | some d=>d.ps.length==n | none=>false) | _=>true
theorem yH{T:List (Str×FD)}:∀ {G:List (Str×GV)} {x:Str} {n:Nat},gOk G T=true->G.lookup x=some (.fn n)->∃ d,T.lookup x=some d/\d.ps.length=n
 | [],_,_,_,e=>by cases e
 | (y,v')::r,x,n,h,e=>by
  unfold gOk at h;rw[aRA,aQ8] at h;rw[aSB] at e;split at e
  . rename_i hb;cases e;rw[aRW] at hb;subst hb;have h1:=h.1;dsimp only at h1;cases q:T.lookup x with
    | none=>rw[q] at h1;cases h1
    | some d=>rw[q] at h1;exact ⟨d,rfl,by simpa using h1⟩
  . exact yH (G:=r) h.2 e
noncomputable def mtOk(cl:List CI)(T:List (Str×FD)):Bool:=cl.all λi=>i.meths.all λ(_,key,n)=>match T.lookup key with | some d=>d.ps.length==n | none=>false
noncomputable def yI(mki:List (Str×Str×Nat))(I:List (Str×ID)):Bool:=mki.all λ(c,key,n)=>match I.lookup key with | some d=>d.c==c&&d.ps.length==n+1 | none=>false
noncomputable def j6(K:Fg)(fa:Str->Addr)(C:Addr):List (Str×Str×Nat)->Prop
 | []=>True
 | (m,key,_)::r=>qR K C m (fa key)/\j6 K fa C r
noncomputable def j7(K:Fg)(C:Addr):List Str->Prop
 | []=>True
 | f::r=>qQ K C f/\j7 K C r
noncomputable def lX(K:Fg)(fa:Str->Addr):List CI->Prop
 | []=>True
 | i::r=>(∃ C,PySem.W.nsIn K mainGlobals i.name=some (some (.ref C))/\Cls K C/\j6 K fa C i.meths/\j7 K C i.flds)/\lX K fa r
theorem lX.at{K:Fg}{fa:Str->Addr}:∀ {cl:List CI} {i:CI},lX K fa cl->i∈cl->∃ C,PySem.W.nsIn K mainGlobals i.name=some (some (.ref C))/\Cls K C/\j6 K fa C i.meths/\j7 K C i.flds
 | [],_,_,h=>by cases h
 | j::r,i,h,hi=>by
  rcases aPP.mp hi with rfl | hi
  . exact h.1
  . exact h.2.at hi
theorem j7.at{K:Fg}{C:Addr}:∀ {l:List Str} {f:Str},j7 K C l->f∈l->qQ K C f
 | [],_,_,h=>by cases h
 | j::r,i,h,hi=>by
  rcases aPP.mp hi with rfl | hi
  . exact h.1
  . exact h.2.at hi
theorem j6.at{K:Fg}{fa:Str->Addr}{C:Addr}:∀ {l:List (Str×Str×Nat)} {m key:Str} {n:Nat},j6 K fa C l->l.lookup m=some (key,n)->qR K C m (fa key)
 | [],_,_,_,_,e=>by cases e
 | (m',key',n')::r,m,key,n,h,e=>by
  rw[aSB] at e;split at e
  . rename_i hb;cases e;rw[aRW] at hb;subst hb;exact h.1
  . exact h.2.at e
structure GF(w:World)(K:Fg)(mg:SOV)(g:MG)(t:TB)(fa:Str->Addr):Prop where
 con:lW w K mg fa g.G
 gok:gOk g.G t.T=true
 all:lU K g fa t.T
 alli:lV K mg g t.I
 mk0:∀ c,c∈g.mk0->MkV0 K mg c
 mkok:yI g.mki t.I=true
 iso:∀ c,c∈g.iso->IsV K mg t.cl c
 cls:lX K fa t.cl
 mtok:mtOk t.cl t.T=true
 xtok:rQ K mg (λc x=>t.xt.lookup (c,x))
 xiok:rR K mg (λc x=>t.xi.lookup (c,x))
 xcok:∀ c,c∈g.xcs->∃ Cc,mg c=some (.ref Cc)/\lM K Cc
 xnok:∀ n,n∈g.xns->∃ cv,nZ mg n cv
theorem yJ{K:Fg}{mg:SOV}{n:Nat}{Φ:List D->Res}{vs:List V}{H:Hp}{Q:VK}{E:XK}(hz:∀ ds,Φ ds=.stuck)(h:spV K mg n Φ vs H Q E):False:=by obtain ⟨_,F,ds,_,_,h⟩:=h;rw[hz] at h;exact h
section
variable {P:Program}{w:World}{K:Fg}{mg:SOV}{base:Heap}{g:MG}{t:TB}{fa:Str->Addr}
structure j8(P:Program)(w:World)(K:Fg)(mg:SOV)(base:Heap)(t:TB)(fa:Str->Addr)(k:Nat):Prop where
 fn:∀ key d,t.T.lookup key=some d->∃ fd,cW P w K mg base (CX1 P w) k (fa key) fd d.ps (spV K mg d.ps.length ((WT t k).Φ key))/\e8 K fd d.ps []/\PySem.W.keepIn K (.ref (fa key))=true
 ini:∀ key d Φ,t.I.lookup key=some d->(WT t k).I key=some Φ->∃ j,j+1<=k/\InV P w K mg base (CX1 P w) j d.c (d.ps.length-1) Φ
theorem sx_of(f:GF w K mg g t fa){k:Nat}(A:j8 P w K mg base t fa k){N:List Str}{sc:Scope}{C:Cw}{X:Cx}(hP:X.prog=P)(hw:X.w=w)(hK:X.K=K)(hmg:X.mg=mg)(hb:X.base=base)(hN:X.N=N)(hs:X.env.scope=sc)(cm:X.calm=true)(rm:cI k X.A)(hfn:∀ x,X.fn x=true)(xo:XOk (CX1 X.prog X.w) (C.at X) X):SX k (WT t k) ⟨N,sc,g,true,true,true⟩ C X:=by
 subst hP hw hK hmg hb;refine ⟨hN,hs,λ_=>cm,λ_=>rm,rm.units,λ_=>xo,?_,?_,f.xcok,f.xnok,λy c l=>?_,λy l=>f.con.at l,λc hc=>f.mk0 c hc,λc key n hm Φ e=>?_,λc hc=>by rw[oB];exact f.iso c hc,λi f' hi hf=>?_,λc m key n e=>?_,λy n l=>?_,λ_=>hfn⟩
 . unfold WD.xf;rw[yD];exact f.xtok
 . unfold WD.xg;rw[yE];exact f.xiok
 . have:=f.con.at l;cases c <;> exact this
 . have h1:=aRZ.mp f.mkok (c,key,n) hm;dsimp only at h1;cases q:t.I.lookup key with
   | none=>rw[q] at h1;cases h1
   | some d=>rw[q] at h1;simp only[aQ8,aRW] at h1;obtain ⟨j,hj,M⟩:=A.ini key d Φ q e;rw[h1.1,h1.2] at M;exact ⟨j,hj,M⟩
 . rw[oB] at hi;obtain ⟨C',h1,h2,_,h4⟩:=f.cls.at hi;exact ⟨C',h1,h2,h4.at hf⟩
 . rw[oB] at e;unfold CI.meth at e;split at e
   . rename_i i ei;have hi:=List.mem_of_find?_eq_some ei;have hn:i.name=c:=by simpa using List.find?_some ei
     obtain ⟨C',h1,h2,h3,_⟩:=f.cls.at hi;have hmo:=aRZ.mp (aRZ.mp f.mtok i hi) (m,key,n) (aQJ e);dsimp only at hmo;cases q:t.T.lookup key with
     | none=>rw[q] at hmo;cases hmo
     | some d=>rw[q] at hmo;rw[aRW] at hmo;obtain ⟨fd,FO,hb,_⟩:=A.fn key d q;rw[hmo] at FO;exact ⟨C',fa key,fd,d.ps,by rw[<- hn];exact h1,h2,h3.at e,FO,hb⟩
   . cases e
 . obtain ⟨d,e,rfl⟩:=yH f.gok l;obtain ⟨fd,FO,hb,hk⟩:=A.fn y d e;exact ⟨fa y,fd,d.ps,FO,f.con.at l,hk,hb⟩
theorem r9(f:GF w K mg g t fa){k:Nat}(A:j8 P w K mg base t fa k){key:Str}{d:FD}{name:Str}{st:Stmt}{fd:FuncData}{a:Addr}(F:Fun K name key st a fd)(e:t.T.lookup key=some d)(ok:iT g st d=true):cW P w K mg base (CX1 P w) (k+1) a fd d.ps (spV K mg d.ps.length ((WT t (k+1)).Φ key)):=by
 unfold iT at ok;rw[aQ8] at ok;have sc:=aL5 ok.1;have:(WT t (k+1)).Φ key=phi d.ps.length d.N.length (evB (WT t k) d.b):=by rw[WT_Φ];unfold lT;rw[e]
 rw[this];exact aJG (k:=k) F sc λC cdv A' outer s H En hE hr=>sB (m:=⟨d.N,eL st,g,true,true,true⟩) (X:=dP (CX1 P w) P w K mg base d.N key (eL st) a cdv A' outer s H En) ⟨sx_of f A rfl rfl rfl rfl rfl rfl rfl rfl hr (λ_=>rfl) (aJE (K:=K) (H:=H) (outer:=outer) hE),sc.nd,PassesOwn.leaving,λ_=>⟨aJF (K:=K) (H:=H) (outer:=outer) hE,fnCx⟩⟩ d.b ok.2
theorem aL6(f:GF w K mg g t fa){k:Nat}(A:j8 P w K mg base t fa k){key:Str}{d:ID}(e:t.I.lookup key=some d):InV P w K mg base (CX1 P w) (k+1) d.c (d.ps.length-1) (r6 (WT t k) d):=by obtain ⟨name,st,C2,a,fd,ns,hm,M,F,hb,ok⟩:=f.alli.at e;cases ok
theorem yK(f:GF w K mg g t fa):∀ k,j8 P w K mg base t fa k/\j8 P w K mg base t fa (k+1)
 | 0=>by
  have A0:j8 P w K mg base t fa 0:=⟨λkey d e=>by
   obtain ⟨name,st,fd,F,hb,_⟩:=f.all.at e;exact ⟨fd,⟨λvs H Q En h=>(yJ (λ_=>rfl) h).elim,λA outer s H args us vs Q En _ _ _ _ h=>(yJ (λ_=>rfl) h).elim⟩,hb,F.kp⟩,λkey d Φ _ e=>by cases e⟩
  refine ⟨A0,λkey d e=>?_,λkey d Φ _ e=>by cases e⟩
  obtain ⟨name,st,fd,F,hb,ok⟩:=f.all.at e;exact ⟨fd,r9 f A0 F e ok,hb,F.kp⟩
 | k+1=>by
  obtain ⟨A0,A1⟩:=yK f k;refine ⟨A1,λkey d e=>?_,λkey d Φ e ei=>?_⟩
  . obtain ⟨name,st,fd,F,hb,ok⟩:=f.all.at e;exact ⟨fd,r9 f A1 F e ok,hb,F.kp⟩
  . have ei:(match t.I.lookup key with | some i=>some (r6 (WT t k) i) | none=>none)=some Φ:=ei
    rw[e] at ei;cases ei;exact ⟨k+1,aP8 _,aL6 f A0 e⟩
end
noncomputable def sC(K:Fg)(Φ:List D->Res):Sp:=λvs H Q E=>∃ a ns,vs=[.ref a]/\SqL K H a (ns.map V.int)/\Φ (nP ns)=.ok .fz (.bl true)/\∀ H',Q (.bl true) H'
theorem aL7{P:Program}{w:World}{K:Fg}{mg:SOV}{base:Heap}{CX:CXT}{k:Nat}{f:Addr}{fd:FuncData}{ps:List Str}{Φ:List D->Res}(h:cW P w K mg base CX k f fd ps (spV K mg 1 Φ)):cW P w K mg base CX k f fd ps (sC K Φ) :=
 h.imp λvs H Q E ⟨a,ns,e,hq,hp,q⟩=>by
  subst e;refine ⟨rfl,H,nP ns,aH.refl _,aE.cons ?_ aE.nil,?_⟩
  . simp only[aC];exact ⟨a,_,rfl,hq,wM ns⟩
  . rw[hp];exact ⟨by decide,λv F' H' s rp _=>by rw[rp.bl];exact q H'⟩
theorem aL8{P:Program}{w:World}{K:Fg}{mg:SOV}{base:Heap}{g:MG}{t:TB}{fa:Str->Addr}(f:GF w K mg g t fa)(k:Nat){a:Addr}{fd:FuncData}{d:FD}{st:Stmt}(F:Fun K "law" "law" st a fd)(e:t.T.lookup ("law" : Str)=some d)(ok:iT g st d=true)(hl:d.ps.length=1):cW P w K mg base (CX1 P w) (k+1) a fd d.ps (sC K ((WT t (k+1)).Φ ("law" : Str))):=by have:=r9 (P:=P) (w:=w) (base:=base) f (yK f k).1 F e ok;rw[hl] at this;exact aL7 this
end D3
namespace D3
open PySem L2
section
variable {W:WD}{ρ:Rho}{a b c:E}{es:List E}
@[simp] theorem bK{i}:evE W (.var i) ρ=dC ρ i:=Eq.trans rfl rfl
@[simp] theorem e_non:evE W .non ρ=.ok .fz .non:=Eq.trans rfl rfl
@[simp] theorem e_bl{b}:evE W (.bl b) ρ=.ok .fz (.bl b):=Eq.trans rfl rfl
@[simp] theorem bS{i}:evE W (.int i) ρ=.ok .fz (.int i):=Eq.trans rfl rfl
@[simp] theorem f7{x}:evE W (.str x) ρ=.ok .fz (.str x):=Eq.trans rfl rfl
@[simp] theorem e_globS{x y}:evE W (.glob x (.s y)) ρ=.ok .fz (.str y):=Eq.trans rfl rfl
@[simp] theorem e_globI{x y}:evE W (.glob x (.i y)) ρ=.ok .fz (.int y):=Eq.trans rfl rfl
@[simp] theorem e_ty{t:Ty}:evE W (.ty t) ρ=.ok .fz (.ty t.id):=Eq.trans rfl rfl
@[simp] theorem dS{op}:evE W (.bin op a b) ρ=op2 (aX op) (evE W a ρ) (evE W b ρ):=Eq.trans rfl rfl
@[simp] theorem eU{op}:evE W (.cmp op a b) ρ=op2 (bB op) (evE W a ρ) (evE W b ρ):=Eq.trans rfl rfl
@[simp] theorem e_andL:evE W (.andL es) ρ=evA W es ρ:=Eq.trans rfl rfl
@[simp] theorem e_orL:evE W (.orL es) ρ=dA W es ρ:=Eq.trans rfl rfl
@[simp] theorem e_not:evE W (.not a) ρ=lB (evE W a ρ):=Eq.trans rfl rfl
@[simp] theorem e_neg:evE W (.neg a) ρ=nM (evE W a ρ):=Eq.trans rfl rfl
@[simp] theorem e_tru:evE W (.tru a) ρ=jJ (evE W a ρ):=Eq.trans rfl rfl
@[simp] theorem hG:evE W (.frz a) ρ=bG (evE W a ρ):=Eq.trans rfl rfl
@[simp] theorem eV:evE W (.ix a b) ρ=op2 ixD (evE W a ρ) (evE W b ρ):=Eq.trans rfl rfl
@[simp] theorem hU{l h}:evE W (.slice a l h) ρ=slP (evE W a ρ) (evO W l) (evO W h) ρ:=Eq.trans rfl rfl
@[simp] theorem e_tup:evE W (.tup es) ρ=dW (bR W es ρ):=Eq.trans rfl rfl
@[simp] theorem yL:evE W (.lst es) ρ=iL (bR W es ρ):=Eq.trans rfl rfl
@[simp] theorem e_call{f n}:evE W (.call f n es) ρ=aF n (W.Φ f) (bR W es ρ):=Eq.trans rfl rfl
@[simp] theorem sD{f:Bn}:evE W (.bcall f es) ρ=eO f.f (bR W es ρ):=Eq.trans rfl rfl
@[simp] theorem j9:evE W (.items a) ρ=fU (bG (evE W a ρ)):=Eq.trans rfl rfl
@[simp] theorem sH:evE W (.rng1 a) ρ=iM (cC (evE W a ρ) (.ok [])):=Eq.trans rfl rfl
@[simp] theorem e_enum1:evE W (.enum1 a) ρ=gW (cC (bG (evE W a ρ)) (.ok [])):=Eq.trans rfl rfl
@[simp] theorem aL9:evE W .dnew ρ=.ok .fr (.dct []):=Eq.trans rfl rfl
@[simp] theorem e_deed{x tb}:evE W (.deed x tb a) ρ=jV tb (evE W a ρ):=Eq.trans rfl rfl
@[simp] theorem e_dzip:evE W (.dzip a b) ρ=iS (evE W a ρ) (evE W b ρ):=Eq.trans rfl rfl
@[simp] theorem e_callv{i fs n}:evE W (.callv i fs n es) ρ=lQ W.Φ fs n (dC ρ i) (bR W es ρ):=Eq.trans rfl rfl
@[simp] theorem e_dix:evE W (.dix a b) ρ=op2 ixK (evE W a ρ) (evE W b ρ):=Eq.trans rfl rfl
@[simp] theorem e_deq{neg}:evE W (.deq neg a b) ρ=op2 (eqN neg) (evE W a ρ) (evE W b ρ):=Eq.trans rfl rfl
@[simp] theorem e_din{neg}:evE W (.din neg a b) ρ=op2 (inK neg) (evE W a ρ) (evE W b ρ):=Eq.trans rfl rfl
@[simp] theorem e_rng2:evE W (.rng2 a b) ρ=jO (cC (evE W a ρ) (cC (evE W b ρ) (.ok []))):=Eq.trans rfl rfl
@[simp] theorem f8{ts:List E}{aG t n}:evE W (.comp a b ts aG t n) ρ=bX (evE W b ρ) ρ aG n (aI t) (λρ=>evF W ts ρ) (λρ=>evE W a ρ):=Eq.trans rfl rfl
@[simp] theorem e_fmt:evE W (.fmt a) ρ=nV (evE W a ρ):=Eq.trans rfl rfl
@[simp] theorem e_fstr:evE W (.fstr es) ρ=fW Str.empty (evL W es) ρ:=Eq.trans rfl rfl
@[simp] theorem el_nil:evL W []=[]:=by simp only[evL]
@[simp] theorem el_cons:evL W (a::es)=evE W a::evL W es:=by simp only[evL]
@[simp] theorem sg_nm{i:Nat}{d:D}:aI (.nm i) d ρ=some (ρ.set i (some (false,d))):=by simp only[aI]
@[simp] theorem sg_tp{ts:List Tg}{ds:List D}:aI (.tp ts) (.tup ds) ρ=c7 ts ds ρ:=by simp only[aI]
@[simp] theorem sg_tpl{ts:List Tg}{ds:List D}:aI (.tp ts) (.lst ds) ρ=c7 ts ds ρ:=by simp only[aI]
@[simp] theorem sgs_nil:c7 [] [] ρ=some ρ:=by simp[c7]
@[simp] theorem sgs_cons{t:Tg}{ts:List Tg}{d:D}{ds:List D}:c7 (t::ts) (d::ds) ρ=(aI t d ρ).bind (c7 ts ds):=by simp only[c7];cases aI t d ρ <;> rfl
@[simp] theorem fmt_s{m:Md}{z:Str}:nV (.ok m (.str z))=.ok .fz (.str z):=rfl
@[simp] theorem sJ{t:Ty}:evE W (.tcall t es) ρ=eO t.f (bR W es ρ):=Eq.trans rfl rfl
@[simp] theorem f9:bR W [] ρ=.ok []:=by simp only[bR]
@[simp] theorem gB:bR W (a::es) ρ=cC (evE W a ρ) (bR W es ρ):=by simp only[bR]
@[simp] theorem ea_one:evA W [a] ρ=evE W a ρ:=by simp only[evA]
@[simp] theorem ea_cons:evA W (a::b::es) ρ=eB (evE W a ρ) (evA W (b::es) ρ):=by simp only[evA]
@[simp] theorem aMA:dA W [a] ρ=evE W a ρ:=by simp only[dA]
@[simp] theorem aMB:dA W (a::b::es) ρ=orR (evE W a ρ) (dA W (b::es) ρ):=by simp only[dA]
@[simp] theorem yM:evF W [] ρ=.ok .fz (.bl true):=by simp only[evF]
@[simp] theorem ef_cons:evF W (a::es) ρ=eB (evE W a ρ) (evF W es ρ):=by simp only[evF]
@[simp] theorem eo_none:evO W none=none:=by simp only[evO]
@[simp] theorem eo_some:evO W (some a)=some (evE W a):=by simp only[evO]
@[simp] theorem lY:evS W (.ret a) ρ=fC (evE W a ρ) ρ:=Eq.trans rfl rfl
@[simp] theorem oC{i}:evS W (.retV i) ρ=fD ρ i:=Eq.trans rfl rfl
@[simp] theorem oD{i}:evS W (.set i a) ρ=eC ρ i (evE W a ρ):=Eq.trans rfl rfl
@[simp] theorem oE{x y:List S}:evS W (.ite a x y) ρ=ifS (evE W a ρ) ρ (evB W x ρ) (evB W y ρ):=Eq.trans rfl rfl
@[simp] theorem lZ{t:Tg}{y:List S}:evS W (.for a t y) ρ=cJ (evE W a ρ) ρ (aI t) (evB W y):=Eq.trans rfl rfl
@[simp] theorem s_asg{t:Tg}:evS W (.asg t a) ρ=fF t ρ (evE W a ρ):=Eq.trans rfl rfl
@[simp] theorem yN{n}{y:List S}:evS W (.whl n a y) ρ=cK (evE W a) (evB W y) n ρ:=Eq.trans rfl rfl
@[simp] theorem s_par{i j}:evS W (.par i j a b) ρ=jS i j ρ (cC (evE W a ρ) (cC (evE W b ρ) (.ok []))):=Eq.trans rfl rfl
@[simp] theorem s_expr:evS W (.expr a) ρ=(evE W a ρ).thS ρ λ_ _=>.nx ρ:=Eq.trans rfl rfl
@[simp] theorem s_rz{c}:evS W (.rz c es) ρ=rzR c ρ (bR W es ρ):=Eq.trans rfl rfl
@[simp] theorem aMC{i}:evS W (.extn i a) ρ=gZ ρ i (evE W a ρ):=Eq.trans rfl rfl
@[simp] theorem yO{i}:evS W (.app i a) ρ=gX ρ i (evE W a ρ):=Eq.trans rfl rfl
@[simp] theorem s_frzV{i}:evS W (.frzV i) ρ=lR ρ i:=Eq.trans rfl rfl
@[simp] theorem aMD{i}:evS W (.dput i a b) ρ=fY ρ i (evE W a ρ) (evE W b ρ):=Eq.trans rfl rfl
@[simp] theorem s_setC{i}:evS W (.setC i false a) ρ=eC ρ i (evE W a ρ):=Eq.trans rfl rfl
@[simp] theorem aME{i}:evS W (.setC i true a) ρ=eC ρ i (bG (evE W a ρ)):=Eq.trans rfl rfl
@[simp] theorem dY:evB W [] ρ=.nx ρ:=by simp only[evB]
@[simp] theorem bI{s:S}{r:List S}:evB W (s::r) ρ=(evS W s ρ).thn (evB W r):=by simp only[evB]
end
section
variable {m n:Md}{i j:Int}{ρ:Rho}{d:D}
@[simp] theorem x_add:op2 (aX .Add) (.ok m (.int i)) (.ok n (.int j))=.ok .fz (.int (i+j)):=rfl
@[simp] theorem x_band:op2 (aX .BitAnd) (.ok m (.int i)) (.ok n (.int j))=.ok .fz (.int (Builtin.bitAnd i j)):=rfl
@[simp] theorem x_bor:op2 (aX .BitOr) (.ok m (.int i)) (.ok n (.int j))=.ok .fz (.int (Builtin.bitOr i j)):=rfl
@[simp] theorem x_shl(h:0<=j)(h1:j<=1000000)(h2:i.natAbs<2 ^ 64):op2 (aX .LShift) (.ok m (.int i)) (.ok n (.int j))=.ok .fz (.int (i * 2 ^ j.toNat)):=by
 show (match (if (decide (0<=j)&&decide (j<=1000000)&&decide (i.natAbs<2 ^ 64))=true then some (Md.fz,D.int (i * 2 ^ j.toNat)) else none) with | some (m,d)=>Res.ok m d | none=>.stuck)=_
 rw[aRE h,aRE h1,aRE h2];rfl
@[simp] theorem x_shr(h:0<=j):op2 (aX .RShift) (.ok m (.int i)) (.ok n (.int j))=.ok .fz (.int (i / 2 ^ j.toNat)):=by
 show (match (if decide (0<=j)=true then some (Md.fz,D.int (i / 2 ^ j.toNat)) else none) with | some (m,d)=>Res.ok m d | none=>.stuck)=_
 rw[aRE h];rfl
@[simp] theorem x_sub:op2 (aX .Sub) (.ok m (.int i)) (.ok n (.int j))=.ok .fz (.int (i-j)):=rfl
@[simp] theorem x_lt:op2 (bB .Lt) (.ok m (.int i)) (.ok n (.int j))=.ok .fz (.bl (decide (i<j))):=rfl
@[simp] theorem x_le:op2 (bB .LtE) (.ok m (.int i)) (.ok n (.int j))=.ok .fz (.bl (decide (i<=j))):=rfl
@[simp] theorem x_gt:op2 (bB .Gt) (.ok m (.int i)) (.ok n (.int j))=.ok .fz (.bl (decide (j<i))):=rfl
@[simp] theorem x_ge:op2 (bB .GtE) (.ok m (.int i)) (.ok n (.int j))=.ok .fz (.bl (decide (j<=i))):=rfl
@[simp] theorem fG(h:0<j):op2 (aX .Mod) (.ok m (.int i)) (.ok n (.int j))=.ok .fz (.int (i % j)):=by show Res.of (if decide (0<j)=true then _ else _)=_;rw[if_pos (aRE h)];rfl
theorem x_div(h:0<j)(hb:b0 j=true):op2 (aX .FloorDiv) (.ok m (.int i)) (.ok n (.int j))=.ok .fz (.int (i / j)):=by show Res.of (if (decide (0<j)&&b0 j)=true then _ else _)=_;rw[if_pos (by rw[hb,aRE h];rfl)];rfl
theorem aMF(h:i.natAbs<10 ^ 2000):b0 i=true:=by
 unfold b0;refine aRE ?_;by_cases h0:i.natAbs=0
 . rw[h0];decide
 . refine (Nat.log2_lt h0).mpr (Nat.lt_trans h ?_);decide +kernel
theorem aMG{N:Nat}(h:i.natAbs<=N)(hN:N<10 ^ 2000:=by decide +kernel):b0 i=true:=aMF (aS8 h hN)
@[simp] theorem yP(h:0<j)(hb:j.natAbs<=1000000000):op2 (aX .FloorDiv) (.ok m (.int i)) (.ok n (.int j))=.ok .fz (.int (i / j)):=x_div h (aMG hb)
theorem aMH(h:((b0 i&&b0 j)||(w64 i||w64 j))=true):op2 (aX .Mult) (.ok m (.int i)) (.ok n (.int j))=.ok .fz (.int (i * j)):=by show Res.of (((if ((b0 i&&b0 j)||(w64 i||w64 j))=true then _ else _:Option (Md×D)).orElse _).orElse _)=_;rw[if_pos h];rfl
theorem oF(h:j.natAbs<9000000000000000000):op2 (aX .Mult) (.ok m (.int i)) (.ok n (.int j))=.ok .fz (.int (i * j)):=aMH (by
 have:w64 j=true:=aRE (by omega)
 rw[this];simp)
theorem bN{φ:Md->D->Md->D->Option (Md×D)}{x y d:D}{k:Md}(h:φ m x n y=some (k,d)):op2 φ (.ok m x) (.ok n y)=.ok k d:=by show Res.of (φ m x n y)=_;rw[h];rfl
@[simp] theorem sK:op2 (bB .Eq) (.ok m (.int i)) (.ok n (.int j))=.ok .fz (.bl (i==j)):=bN rfl
@[simp] theorem x_neI:op2 (bB .NotEq) (.ok m (.int i)) (.ok n (.int j))=.ok .fz (.bl (i != j)):=bN rfl
@[simp] theorem x_eqB{a b:Bool}:op2 (bB .Eq) (.ok m (.bl a)) (.ok n (.bl b))=.ok .fz (.bl (a==b)):=bN rfl
@[simp] theorem x_neB{a b:Bool}:op2 (bB .NotEq) (.ok m (.bl a)) (.ok n (.bl b))=.ok .fz (.bl (a != b)):=bN rfl
@[simp] theorem l5{a b:Str}:op2 (bB .Eq) (.ok m (.str a)) (.ok n (.str b))=.ok .fz (.bl (a==b)):=bN (by rfl)
@[simp] theorem yQ{a b:Str}:op2 (bB .NotEq) (.ok m (.str a)) (.ok n (.str b))=.ok .fz (.bl (a != b)):=bN (by rfl)
@[simp] theorem x_inS{a b:Str}:op2 (bB .In) (.ok m (.str a)) (.ok n (.str b))=.ok .fz (.bl (jI a b)):=bN rfl
@[simp] theorem x_notinS{a b:Str}:op2 (bB .NotIn) (.ok m (.str a)) (.ok n (.str b))=.ok .fz (.bl (!jI a b)):=bN rfl
@[simp] theorem aMI{a b:Str}(h:a.length+b.length<=sizeLine):op2 (aX .Add) (.ok m (.str a)) (.ok n (.str b))=.ok .fz (.str (a++b)) :=
 bN (by
  have:fS (λi j=>decide (i.length+j.length<=sizeLine)) (λi j=>D.str (i++j)) m (.str a) n (.str b)=some (Md.fz,D.str (a++b)):=by show (if decide (a.length+b.length<=sizeLine)=true then some (Md.fz,D.str (a++b)) else none)=_;rw[if_pos (aRE h)]
  show orO (orO (fI (λ_ _=>true) λi j=>.int (i+j)) (fS (λi j=>decide (i.length+j.length<=sizeLine)) λi j=>.str (i++j))) nR m (.str a) n (.str b)=_;simp only[orO,this];rfl)
@[simp] theorem x_isN{d:D}:op2 (bB .Is) (.ok m d) (.ok n .non)=.ok .fz (.bl (eP d)):=bN rfl
@[simp] theorem x_isnotN{d:D}:op2 (bB .IsNot) (.ok m d) (.ok n .non)=.ok .fz (.bl (!eP d)):=bN rfl
@[simp] theorem yR{x y:List D}(h:x.length+y.length<=sizeLine):op2 (aX .Add) (.ok m (.lst x)) (.ok n (.lst y))=.ok .fr (.lst (x++y)):=bN (by
 show (if x.length+y.length<=sizeLine then some (Md.fr,D.lst (x++y)) else none)=_;rw[if_pos h])
@[simp] theorem oG{x y:List D}(h:x.length+y.length<=sizeLine):op2 (aX .Add) (.ok m (.tup x)) (.ok n (.tup y))=.ok .fz (.tup (x++y)):=bN (by
 show (if x.length+y.length<=sizeLine then some (Md.fz,D.tup (x++y)) else none)=_;rw[if_pos h])
@[simp] theorem isn_n:eP .non=true:=rfl
@[simp] theorem isn_i{i:Int}:eP (.int i)=false:=rfl
@[simp] theorem isn_b{i:Bool}:eP (.bl i)=false:=rfl
@[simp] theorem isn_s{i:Str}:eP (.str i)=false:=rfl
@[simp] theorem isn_t{i:List D}:eP (.tup i)=false:=rfl
@[simp] theorem isn_l{i:List D}:eP (.lst i)=false:=rfl
@[simp] theorem x_andT{y:Res}:eB (.ok m (.bl true)) y=y:=rfl
@[simp] theorem x_andF{y:Res}:eB (.ok m (.bl false)) y=.ok .fz (.bl false):=rfl
@[simp] theorem x_orT{y:Res}:orR (.ok m (.bl true)) y=.ok .fz (.bl true):=rfl
@[simp] theorem x_orF{y:Res}:orR (.ok m (.bl false)) y=y:=rfl
@[simp] theorem x_and{a b:Bool}:eB (.ok m (.bl a)) (.ok .fz (.bl b))=.ok .fz (.bl (a&&b)):=by cases a <;> rfl
@[simp] theorem x_or{a b:Bool}:orR (.ok m (.bl a)) (.ok .fz (.bl b))=.ok .fz (.bl (a||b)):=by cases a <;> rfl
@[simp] theorem x_not{a:Bool}:lB (.ok m (.bl a))=.ok .fz (.bl (!a)):=rfl
@[simp] theorem x_tru{a:Bool}:jJ (.ok m (.bl a))=.ok .fz (.bl a):=rfl
@[simp] theorem x_truI:jJ (.ok m (.int i))=.ok .fz (.bl (i != 0)):=rfl
@[simp] theorem x_neg:nM (.ok m (.int i))=.ok .fz (.int (-i)):=rfl
@[simp] theorem yS{x y:aB}:ifS (.ok m (.bl true)) ρ x y=x:=rfl
@[simp] theorem yT{x y:aB}:ifS (.ok m (.bl false)) ρ x y=y:=rfl
@[simp] theorem iU:bG (.ok .fz d)=.ok .fz d:=rfl
@[simp] theorem x_frr:bG (.ok .fr d)=.ok .fz d:=rfl
@[simp] theorem yU{k:Nat}:eC ρ k (.ok .fz d)=.nx (ρ.set k (some (false,d))):=rfl
@[simp] theorem yV{k:Nat}:eC ρ k (.ok .fr d)=.nx (ρ.set k (some (true,d))):=rfl
@[simp] theorem x_ret:fC (.ok .fz d) ρ=.rt .fz d:=rfl
@[simp] theorem x_retr:fC (.ok .fr d) ρ=.rt .fr d:=rfl
@[simp] theorem g_0{r:Rho}:dC (some (false,d)::r) 0=.ok .fz d:=rfl
@[simp] theorem g_0b{r:Rho}:dC (some (true,d)::r) 0=.ok .bo d:=rfl
@[simp] theorem g_s{x:Option (Bool×D)}{r:Rho}{i:Nat}:dC (x::r) (i+1)=dC r i:=rfl
@[simp] theorem g_1{x:Option (Bool×D)}{r:Rho}:dC (x::r) 1=dC r 0:=rfl
@[simp] theorem rs_0{r:Rho}:fD (some (false,d)::r) 0=.rt .fz d:=rfl
@[simp] theorem rs_0b{r:Rho}:fD (some (true,d)::r) 0=.rt .fr d:=rfl
@[simp] theorem rs_1{x:Option (Bool×D)}{r:Rho}:fD (x::r) 1=fD r 0:=rfl
@[simp] theorem rs_s{x:Option (Bool×D)}{r:Rho}{i:Nat}:fD (x::r) (i+1)=fD r i:=rfl
@[simp] theorem r_set0{x y:Option (Bool×D)}{r:Rho}:(x::r).set 0 y=y::r:=rfl
@[simp] theorem aMJ{f:List (Md×D)->Option (Md×D)}{xs:List (Md×D)}:eO f (.ok xs)=Res.of (f xs):=rfl
@[simp] theorem aMK:Bn.f .len=fA:=rfl
@[simp] theorem bn_isi:Bn.f .isinstance=lF:=rfl
@[simp] theorem ty_int:Ty.f .int=jT:=rfl
@[simp] theorem ty_str:Ty.f .str=lK:=rfl
@[simp] theorem ty_tuple:Ty.f .tuple=jQ:=rfl
@[simp] theorem ty_dict:Ty.f .dict=lP:=rfl
@[simp] theorem ty_list:Ty.f .list=iO:=rfl
@[simp] theorem tci_i{i:Int}:jT [(m,.int i)]=some (.fz,.int i):=rfl
@[simp] theorem tci_b{i:Bool}:jT [(m,.bl i)]=some (.fz,.int (if i then 1 else 0)):=rfl
@[simp] theorem tct_l{i:List D}:jQ [(m,.lst i)]=some (.fz,.tup i):=rfl
@[simp] theorem tct_t{i:List D}:jQ [(.fz,.tup i)]=some (.fz,.tup i):=rfl
@[simp] theorem tcl_l{i:List D}:iO [(m,.lst i)]=some (.fr,.lst i):=rfl
@[simp] theorem tcl_t{i:List D}:iO [(m,.tup i)]=some (.fr,.lst i):=rfl
@[simp] theorem tcs_i{i:Int}(h:nS i=true):lK [(m,.int i)]=some (.fz,.str (jR i)):=by show (if nS i=true then _ else _)=_;rw[if_pos h]
@[simp] theorem bn_all:Bn.f .all=gR:=rfl
@[simp] theorem len_s{z:Str}:fA [(m,.str z)]=some (.fz,.int z.length):=rfl
@[simp] theorem len_l{z:List D}:fA [(m,.lst z)]=some (.fz,.int z.length):=rfl
@[simp] theorem len_t{z:List D}:fA [(m,.tup z)]=some (.fz,.int z.length):=rfl
@[simp] theorem itm_l{z:List D}:fU (.ok m (.lst z))=.ok .fz (.lst z):=rfl
@[simp] theorem itm_t{z:List D}:fU (.ok m (.tup z))=.ok .fz (.lst z):=rfl
@[simp] theorem itm_s{z:Str}:fU (.ok m (.str z))=.ok .fz (.lst (jN z)):=rfl
end
@[simp] theorem WT_xf{t:TB}{k:Nat}:(WT t k).xf=λc x=>t.xt.lookup (c,x):=by unfold WD.xf;rw[yD]
@[simp] theorem WT_xg{t:TB}{k:Nat}:(WT t k).xg=λc x=>t.xi.lookup (c,x):=by unfold WD.xg;rw[yE]
@[simp] theorem x_rz{c:Str}{ρ:Rho}{xs:List (Md×D)}(h:xs.length<=sizeLine):rzR c ρ (.ok xs)=.exc c ρ:=by show (if xs.length<=sizeLine then _ else _)=_;rw[if_pos h]
section
variable {c x:Str}{ρ ρ':Rho}{m:Md}{d:D}{xt:Str->Str->Option Bool}{hs:List HX}{g:Rho->aB}
@[simp] theorem x_frx:bG (.exc c)=.exc c:=rfl
@[simp] theorem x_setx{k:Nat}:eC ρ k (.exc c)=.exc c ρ:=rfl
@[simp] theorem x_retx:fC (.exc c) ρ=.exc c ρ:=rfl
end
theorem aK{n N:Nat}{g:Rho->aB}{ds:List D}{m:Md}{d:D}(hl:ds.length=n)(h:g (fV N ds)=.rt m d):phi n N g ds=.ok m d:=by unfold phi;rw[if_pos hl,h];rfl
theorem kA{n:Nat}{Φ:List D->Res}{xs:List (Md×D)}{ds:List D}{d:D}(hl:ds.length=n)(ha:cQ xs=some ds)(h:Φ ds=.ok .fz d):aF n Φ (.ok xs)=.ok .fz d:=by
 show (match cQ xs with | some ds=>if ds.length=n then (match Φ ds with | .ok .bo _=>Res.stuck | r=>r) else .stuck | none=>.stuck)=_
 rw[ha];show (if ds.length=n then _ else _)=_;rw[if_pos hl,h]
@[simp] theorem oH{Φ:List D->Res}{a d:D}(h:Φ [a]=.ok .fz d):aF 1 Φ (.ok [(.fz,a)])=.ok .fz d:=kA (ds:=[a]) rfl rfl h
@[simp] theorem aR{Φ:List D->Res}{a b d:D}(h:Φ [a,b]=.ok .fz d):aF 2 Φ (.ok [(.fz,a),(.fz,b)])=.ok .fz d:=kA (ds:=[a,b]) rfl rfl h
@[simp] theorem gC{Φ:List D->Res}{a b c d:D}(h:Φ [a,b,c]=.ok .fz d):aF 3 Φ (.ok [(.fz,a),(.fz,b),(.fz,c)])=.ok .fz d:=kA (ds:=[a,b,c]) rfl rfl h
@[simp] theorem wt_cl{t:TB}{k:Nat}:(WT t k).cl=t.cl:=oB t k
theorem aY{t:TB}{k:Nat}{f:Str}{d:FD}(h:t.T.lookup f=some d):(WT t (k+1)).Φ f=phi d.ps.length d.N.length (evB (WT t k) d.b):=by rw[WT_Φ];unfold lT;rw[h]
@[simp] theorem kB{Φ:List D->Res}{a b c e d:D}(h:Φ [a,b,c,e]=.ok .fz d):aF 4 Φ (.ok [(.fz,a),(.fz,b),(.fz,c),(.fz,e)])=.ok .fz d:=kA (ds:=[a,b,c,e]) rfl rfl h
theorem bE{W:WD}:∀ {x y:List D3.S} {ρ:Rho},evB W (x++y) ρ=(evB W x ρ).thn (evB W y)
 | [],y,ρ=>by simp
 | s::x,y,ρ=>by
  show evB W (s::(x++y)) ρ=_;rw[bI,bI];cases evS W s ρ with
  | nx ρ'=>exact bE
  | _=>rfl
theorem yW{k:D->Rho->Option Rho}{t e:Rho->Res}{ρ0:Rho}{f:D->D}:∀ {ds:List D},(∀ d∈ds,∃ ρ1 m,k d ρ0=some ρ1/\t ρ1=.ok m (.bl true)/\∃ m',bG (e ρ1)=.ok m' (f d))->bH k t e ρ0 ds=some (ds.map f)
 | [],_=>rfl
 | d::ds,h=>by obtain ⟨ρ1,m,e1,e2,m',e3⟩:=h d mcs;unfold bH;rw[e1];dsimp only;rw[e2];dsimp only;rw[e3];dsimp only;rw[yW λd hd=>h d (mcm hd)];rfl
theorem yX{ρ:Rho}{aG:List Nat}{n:Nat}{k:D->Rho->Option Rho}{t e:Rho->Res}{m:Md}{ds:List D}(f:D->D)(hl:ds.length<sizeLine)(h:∀ d∈ds,∃ ρ1 m,k d (cF aG ρ++List.replicate n none)=some ρ1/\t ρ1=.ok m (.bl true)/\∃ m',bG (e ρ1)=.ok m' (f d)):bX (.ok m (.lst ds)) ρ aG n k t e=.ok .fr (.lst (ds.map f)):=by unfold bX;rw[Res.thn_ok];dsimp only;rw[if_pos hl,yW h]
end D3
namespace Tp
open PySem PySem.W PySem.Calls
structure S where
 t:BT
 n:Nat
 k:Nat
 nm:Value
 g:List DictEntry
 tb:List Value
def tupO(vs:List Value):Obj:=⟨.type "tuple", none,.seq vs.toArray 0,#[]⟩
def fldO(c:Value)(vs:List Value):Obj:=⟨c,none,.fields vs.toArray,#[]⟩
def dicO(es:List DictEntry)(e:Nat):Obj:=⟨.type "dict", none,.dict es.toArray e,#[]⟩
def en(P:Params)(x:Str)(k:Nat)(v:Value):DictEntry:=⟨PyData.keyHash P x,.str x k,v⟩
def texts:List Str->Nat->List Value
 | [],_=>[]
 | x::xs,k=>.str x k::texts xs (k+1)
def fileS:Str := "/claim/cut.py"
def codeO(name aS:Str)(k line argc fl:Nat)(isF:Bool)(a:Nat)(ls cs tm:Value)(j:Nat):Obj :=
 fldO (.type "code") [.str name k,.str aS (k+1),.str fileS (k+2),.int line 0,.int argc 0,.int 0 0,.int 0 0,.int fl 0,.ref a,.bool isF,.int 181 0,.ref (a+1),.none,ls,cs,tm,.int j 0,.int line 0,.str fileS (j+1)]
def frmO(code ns:Nat)(nm:Value):Obj:=⟨.type "frame", none,.plain,#[some (.ref code),some (.ref 3),some (.ref ns),none,some nm,none,some (.ref 0)]⟩
def fnD(name aS:Str)(args:Arguments)(body:List Stmt)(sc:Scope)(gl:Nat)(nm cd:Value):FuncData:=⟨name,aS,args,.stmts body,sc,gl,[],.none,.none,.none,nm,none,cd,.none,0⟩
def insL:List Obj->BT->Nat->BT
 | [],t,_=>t
 | o::os,t,n=>insL os (t.ins n o) (n+1)
def layF(name aS:Str)(args:Arguments)(body:List Stmt)(sc:Scope)(line n k:Nat)(nm:Value):List Obj×Nat×Nat :=
 match localNames args sc (.stmts body) with
 | some (ls,cs) =>
  let a:=ls.length
  let b:=cs.length
  ([tupO [],fldO .none [],tupO (texts ls (k+3)),tupO (texts cs (k+3+a)),⟨.none,none,.func (fnD name aS args body sc 0 .none .none),#[]⟩,
   codeO name aS k line args.args.length 3 true n (.ref (n+2)) (.ref (n+3)) (.ref (n+4)) (k+3+a+b),⟨.type "function", none,.func (fnD name aS args body sc 3 nm (.ref (n+5))),#[]⟩],n+5,k+5+a+b)
 | none =>
  ([tupO [],fldO .none [],⟨.none,none,.func (fnD name aS args body sc 0 .none .none),#[]⟩,
   codeO name aS k line args.args.length 3 true n .none .none (.ref (n+2)) (k+3),⟨.type "function", none,.func (fnD name aS args body sc 3 nm (.ref (n+3))),#[]⟩],n+3,k+5)
def cH(x:Str):List DictEntry->Option Value
 | []=>none
 | ⟨_,.str y _,v⟩::es=>match decide (x=y) with | true=>some v | false=>cH x es
 | _::es=>cH x es
structure B where
 t:BT
 n:Nat
 k:Nat
 es:List DictEntry
 tb:List Value
def layB(P:Params)(cn:Str)(nm:Value):List Stmt->B->B
 | .FunctionDef name args body _ _ _ sc _ _ pos::r,⟨t,n,k,es,tb⟩ =>
  match layF name (cn ++ "." ++ name) args body sc pos.line n k nm with
  | (os,c,j)=>layB P cn nm r ⟨insL os t n,n+os.length,j+1,en P name j (.ref (c+1))::es,.ref c :: .int pos.col 0 :: .int pos.line 0::tb⟩
 | _::r,b=>layB P cn nm r b
 | [],b=>b
def mroOf(t:BT)(a:Nat):List Value×Value:=match t.get a with
 | some ⟨_,_,.cls c,sl⟩=>(c.mro,(sl.getD 4 none).getD .none)
 | _=>([],.none)
def subTo(a:Nat):Obj->Obj
 | ⟨c,d,.cls k,sl⟩=>⟨c,d,.cls { k with subclasses:=k.subclasses++[.ref a] },sl⟩
 | o=>o
def layC(P:Params)(name:Str)(bases:List PySem.Expr)(body:List Stmt)(st:List Str)(line:Nat):S->S
 | ⟨t,n,k,nm,g,tb⟩ =>
  let bs:List Value:=match bases with
   | .Name b _::_=>(match cH b g with | some v=>[v] | none=>[.type "ValueError"])
   | _=>[]
  let n2:=n+2
  let t1:=insL [tupO bs,fldO (.type "builtin_function_or_method") [.builtin "type.__prepare__", .type "type"],dicO [] 0,tupO [],fldO .none [],codeO name name (k+2) line 0 0 false (n+3) .none .none .none (k+5),frmO (n+5) n2 nm] t n
  match layB P name nm body ⟨t1,n+7,k+12,[en P "__firstlineno__" (k+11) (.int line (k+10)),en P "__qualname__" (k+9) (.str name (k+8)),en P "__module__" (k+7) nm],[]⟩ with
  | ⟨t2,m,j,es,ct⟩ =>
   let es1:=en P "__static_attributes__" (j+st.length) (.ref m)::es
   let j1:=j+st.length+1
   let t3:=(t2.set n2 λ_=>dicO es1.reverse es1.length).set (n+4) λ_=>fldO .none ct.reverse
   let cl:=m+2
   let cp:=(es1.reverse.take 1)++(es1.reverse.drop 2)
   let fin (mro:List Value) (nw:Value) (bv:List Value) (sl0:Option Value) (xs:List DictEntry) (gs:List Obj) (t:BT) (j:Nat):S :=
    let os:=[tupO (texts st (m-m+(j1-1-st.length))),dicO (cp++xs++[en P "__doc__" j .none]) (2+xs.length),⟨.type "type", none,.cls ⟨name,bv,.ref cl::mro,m+1,name,true,[],[],false,none,false⟩,#[sl0,none,some (.str name k),some (.str name (k+8)),some nw,some (.bool true)]⟩]
     ++ gs++[fldO (.type "super") [.ref cl,.ref cl,.ref cl],fldO (.type "builtin_function_or_method") [.builtin "object.__init_subclass__", .ref cl]]
    ⟨insL os t m,m+os.length,j+3,nm,en P name (j+2) (.ref cl)::g,.ref (n+5) :: .int 0 0 :: .int line 0::tb⟩
   let gw (j a:Nat):=fldO (.type "getset_descriptor") [.str "__weakref__" j,.ref cl,.builtin "ExceptionGroup.__weakref__", .none]
   match bs with
   | [] => fin [.type "object"] (.builtin "object.__new__") [.type "object"] none [en P "__dict__" (j1 + 1) (.ref (m + 3)), en P "__weakref__" (j1 + 3) (.ref (m + 4))]
       [fldO (.type "getset_descriptor") [.str "__dict__" j1,.ref cl,.builtin "function.__dict__", .builtin "function.__dict__#set"],gw (j1+2) 0] t3 (j1+4)
   | .ref a::_=>match mroOf t3 a with
    | (mro,nw)=>fin mro nw bs (some (.ref n)) [] [] (t3.set a (subTo cl)) j1
   | _=>fin [.type "ValueError", .type "Exception", .type "BaseException", .type "object"] (.builtin "ValueError.__new__") bs (some (.ref n)) [en P "__weakref__" (j1+1) (.ref (m+3))] [gw j1 0] t3 (j1+2)
def keysD(P:Params)(g:List DictEntry):List (Option PySem.Expr)->List PySem.Expr->Nat->List DictEntry
 | some (.Constant (.str x) _ _)::ks,.Name y _::vs,k=>en P x k ((cH y g).getD .none)::keysD P g ks vs (k+1)
 | _,_,_=>[]
def put(P:Params)(x:Str)(v:Value)(t:BT)(n k:Nat)(nm:Value)(g:List DictEntry)(tb:List Value):S:=match decide (x = "__name__") with
 | true=>⟨t,n,k+1,v,g,tb⟩
 | false=>⟨t,n,k+1,nm,en P x k v::g,tb⟩
def lay1(P:Params):Stmt->S->S
 | .FunctionDef name args body _ _ _ sc _ _ pos,⟨t,n,k,nm,g,tb⟩=>match layF name name args body sc pos.line n k nm with
  | (os,c,j)=>⟨insL os t n,n+os.length,j+1,nm,en P name j (.ref (c+1))::g,.ref c :: .int pos.col 0 :: .int pos.line 0::tb⟩
 | .ClassDef name bases _ body _ _ _ _ _ st pos,s=>layC P name bases body st pos.line s
 | .Assign [.Name x _] (.Constant (.str v) _ _) _,⟨t,n,k,nm,g,tb⟩=>put P x (.str v k) t n (k+1) nm g tb
 | .Assign [.Name x _] (.Constant (.int v) _ _) _,⟨t,n,k,nm,g,tb⟩=>put P x (.int v k) t n (k+1) nm g tb
 | .Assign [.Name x _] (.Dict ks vs _) _,⟨t,n,k,nm,g,tb⟩=>put P x (.ref n) (t.ins n (dicO (keysD P g ks vs k) vs.length)) (n+1) (k+2 * vs.length) nm g tb
 | _,s=>s
def lay(P:Params):List Stmt->S->S
 | [],s=>s
 | st::r,s=>lay P r (lay1 P st s)
def s0(os:List Obj):S :=
 ⟨insL [tupO [],fldO .none [],codeO "<module>" "<module>" 182 1 0 0 false 11 .none .none .none 185,frmO 13 3 (.str "__main__" 164)] (insL os .nil 0) 11,15,187,.str "__main__" 164,[],[]⟩
def nameTo(nm:Value):List DictEntry->List DictEntry
 | e::es=>{ e with val:=nm }::es
 | []=>[]
def mainTo(nm:Value)(g:List DictEntry):Obj->Obj
 | ⟨c,d,.dict es e,sl⟩=>⟨c,d,.dict (nameTo nm es.toList++g.reverse).toArray (e+g.length),sl⟩
 | o=>o
def S.bt(s:S):BT:=(s.t.set 3 (mainTo s.nm s.g)).set 12 λ_=>fldO .none s.tb.reverse
open PyProof.Rows
def z0:Pos:=⟨0,0,0,0⟩
def an:Option Value:=some (.ref 6)
def ev(p:Program):Env:={ scope:=p.main.scope,locals:=mainNs,globals:=mainNs,cells:=[],code:=.ref 13,frame:=some 14 }
def cd(p:Program):Code:=.body (behindTheImports p) (ev p)
def go(tb:String->Option Builtin)(p:Program)(w:World)(F:Nat):List Stmt->SharedT->Code->Pos->Option (SharedT×Code×Pos)
 | [],s,c,q=>some (s,c,q)
 | st::l,s,c,q=>match segRunT tb p w 11 an 1 F s (pieceOf st (ev p) c q [topFrame z0]) with
  | some (.next,s',c',q')=>go tb p w F l s' c' q'
  | _=>none
def ns(F N:Nat):List Stmt->Nat
 | []=>N
 | _::l=>F+ns F N l
section
variable {tb:String->Option Builtin}{p:Program}{w:World}
theorem one{n N:Nat}{s s' r:Shared}{st:Stmt}{aZ:List Stmt}{c c':Code}{e:Env}{q q':Pos}(h:segRun tb p w 11 an 1 n s (pieceOf st e c q [topFrame z0])=some (.next,s',c',q'))(k:topRun tb p w 11 an N s' (restOf aZ e c' q' [topFrame z0])=some r):topRun tb p w 11 an (n+N) s (restOf (st::aZ) e c q [topFrame z0])=some r:=by
 obtain ⟨a,ha,hN⟩:=seg_top (B:=[topFrame z0]) (res:=id)
  (K':=λf=>match f with
   | .next=>(execs aZ e).wrap doneF (leaveH e) id id
   | f=>doneF f)
  (H':=leaveH e) rfl n s (pieceOf st e c q [topFrame z0])
  ⟨(exec st e).wrap (λf=>match f with
   | .next=>(execs aZ e).wrap doneF (leaveH e) id id
   | f=>doneF f) (leaveH e) id id,c,q,[topFrame z0]⟩ _ _ _ _ ⟨rfl,rfl,.inl ⟨rfl,rfl,_,rfl,rfl⟩⟩ h
 cases ha;unfold restOf;rw[execs_cons_wrap];exact hN N r k
theorem go_top'{F:Nat}:∀ (l:List Stmt) {s s':SharedT} {c c':Code} {q q':Pos},go tb p w F l s c q=some (s',c',q')->∀ {N:Nat} {r:Shared} {aZ:List Stmt},topRun tb p w 11 an N s'.abs (restOf aZ (ev p) c' q' [topFrame z0])=some r->topRun tb p w 11 an (ns F N l) s.abs (restOf (l++aZ) (ev p) c q [topFrame z0])=some r
 | [],_,_,_,_,_,_,h,_,_,_,k=>by cases h;exact k
 | st::l,s,s',c,c',q,q',h,N,r,aZ,k=>by
  unfold go at h;split at h
  . rename_i x e;exact one (segRun_of e) (go_top' l h k)
  . cases h
theorem fin2(s:Shared)(c:Code)(q:Pos):topRun tb p w 11 an 2 s (restOf [] (ev p) c q [topFrame z0])=some s:=by obtain ⟨h,g,d,k,o⟩:=s;rfl
noncomputable def sh(P:Params)(S:S)(n k:Nat)(os:OsState):SharedT:=⟨S.bt,n,(boot_heap P).life,#[],boot_drawn,k,os⟩
noncomputable def sA(P:Params):S:=s0 (boot_heap P).objs.toList
theorem run_of{l:List Stmt}{n k:Nat}{c':Code}{q':Pos}(hl:behindTheImports p=l)(pre:∀ (w:World) (os:OsState),topGo treeTable p w 11 an 12 ⟨boot_heap w.params,#[],boot_drawn,boot_toks,os⟩ (topStub p)=some ((sh w.params (sA w.params) 15 187 os).abs,⟨denote treeTable (cd p),cd p,z0,[topFrame z0]⟩))(blk:∀ (w:World) (s:Shared),segRun treeTable p w 11 an 1 1 s (blockOf l (ev p) (cd p) z0 [topFrame z0])=some (.next,s,cd p,z0))(run:∀ (w:World) (os:OsState),go treeTable p w 1000 l (sh w.params (sA w.params) 15 187 os) (cd p) z0=some (sh w.params (lay w.params l (sA w.params)) n k os,c',q')):∀ (w:World) (os:OsState),topRun treeTable p w 11 an (12+(1+ns 1000 2 l)) ⟨boot_heap w.params,#[],boot_drawn,boot_toks,os⟩ (topStub p)=some (sh w.params (lay w.params l (sA w.params)) n k os).abs:=by
 intro w os;refine go_top (pre w os) ?_;unfold cd;rw[hl];refine piece_block (n:=1) (by have:=blk w (sh w.params (sA w.params) 15 187 os).abs;unfold cd at this;rw[hl] at this;exact this) ?_
 have:=go_top' l (run w os) (aZ:=[]) (fin2 _ _ _);rw[aQF] at this;unfold cd at this;rw[hl] at this;exact this
end
noncomputable def KK(l:List Stmt)(as:List Addr)(P:Params):Frag:=as.map λa=>(a,((lay P l (sA P)).bt.get a).getD default)
theorem KK_e(l:List Stmt)(as:List Addr)(P:Params):as=(KK l as P).map (·.1):=by unfold KK;rw[List.map_map];exact (List.map_id as).symm
noncomputable def hk(l:List Stmt)(as:List Addr):Hook:=kHook (KK l as) as (KK_e l as)
noncomputable def H1(l:List Stmt)(n:Nat)(P:Params):Heap:=absHeap (lay P l (sA P)).bt n (boot_heap P).life
noncomputable def S1(l:List Stmt)(n k:Nat)(P:Params)(os:OsState):Shared:=⟨H1 l n P,#[],boot_drawn,k,os⟩
def bnd(n:Str):Stmt->List Str
 | .FunctionDef x ..=>if x==n then [] else [x]
 | .ClassDef x ..=>[x]
 | .Assign [.Name x _] _ _=>if x == "__name__" then [] else [x]
 | _=>[]
def los(l:List Stmt):List Str:=l.flatMap (bnd "law")
def vw(p:Program):Program:={ p with main:={ p.main with body:=p.main.body.filter λst=>match st with | .FunctionDef x ..=>x == "law" | _=>false } }
def xt(r:OpenRow)(s:Shared):Bool:=xlAt (vw r.prog) [] s&&recOk r.toRowW.records s
theorem size1(w:World):((boot_heap w.params).isNs mainGlobals&&(#[]:Array GenState).size==0,(boot_heap w.params).objs.size,(boot_heap w.params).nsMap mainGlobals "__annotations__")=(true,11,an):=by kernel_rfl
end Tp
theorem Tp.twA:Prod.fst (true,(@Tp.go,@Tp.lay,@Tp.sh,@Tp.sA,@Tp.cd,@Tp.ev,@Tp.S.bt,@Tp.KK,@Tp.hk,@Tp.H1,@Tp.S1,@Tp.los,@Tp.vw,@Tp.xt))=true:=by k_qdec
namespace D3
open PySem PySem.Spec PySem.Calls PyProof.Rows L2
theorem yY:∀ {ps:List Str} {us:List Value},ps.Nodup->us.length=ps.length->ps.filterMap (λn=>((ps.zip us).lookup n).map (n,·))=ps.zip us/\∀ n∈ps,((ps.zip us).lookup n).isNone=false
 | [],us,_,_=>⟨rfl,λ_ h=>by cases h⟩
 | p::ps,[],_,h=>by cases h
 | p::ps,u::us,nd,h=>by
  obtain ⟨h1,h2⟩:=aQG.mp nd;obtain ⟨i1,i2⟩:=yY (us:=us) h2 (Nat.succ.inj h);have e:∀ n∈ps,((p,u)::ps.zip us).lookup n=(ps.zip us).lookup n:=λn hn=>by rw[aSB];have:(n==p)=false:=aPC.mpr λz=>h1 (z ▸ hn);rw[this]
  refine ⟨?_,λn hn=>?_⟩
  . rw[List.zip_cons_cons,aPO,aSB,aSC];dsimp only[Option.map];refine congrArg _ (Eq.trans ?_ i1);have c:∀ l:List Str,(∀ n∈l,n∈ps)->l.filterMap (λn=>(((p,u)::ps.zip us).lookup n).map (n,·))=l.filterMap (λn=>((ps.zip us).lookup n).map (n,·)):=by
      intro l hl
      induction l with
      | nil=>rfl
      | cons a l ih=>rw[aPO,aPO,e a (hl a mcs),ih λn hn=>hl n (mcm hn)]
    exact c ps λ_ h=>h
  . rw[List.zip_cons_cons];rcases aPP.mp hn with rfl | hn
    . rw[aSB,aSC];rfl
    . rw[e n hn];exact i2 n hn
theorem aML{fd:FuncData}{ps:List Str}(h1:fd.params.posonlyargs=[])(h2:fd.params.args.map (·.arg)=ps)(h3:fd.params.vararg=none)(h4:fd.params.kwonlyargs=[])(h5:fd.params.kwarg=none)(hd:fd.defaults=.none)(h6:ps.Nodup)(us:List Value)(hl:us.length=ps.length):bindArgs fd ⟨us,[]⟩=pure (ps.zip us):=by
 obtain ⟨z1,z2⟩:=yY h6 hl;have z3:(ps.take (ps.length-0)).filter (λn=>((ps.zip us).lookup n).isNone)=[]:=by rw[Nat.sub_zero,aSY,List.filter_eq_nil_iff];intro n hn;rw[z2 n hn];decide
 unfold bindArgs;simp only[h1,h2,h3,h4,h5,hd,List.map_nil,aSZ,aQF,aR8,aSA,hl,aPI,seqItems?];have q:(do notAStandIn Value.none;pure none:Sem (Option (Array Value)))=pure none:=rfl
 rw[q];simp only[aSA,aQ9,List.length_nil,Nat.zero_sub,aSG,z3,decide_false,Bool.false_and,aSD,aQZ,List.isEmpty_nil,Bool.not_true,List.zip_nil_right,aR8,z1,Array.toList_empty,List.drop_nil]
noncomputable def adB(K:Fg)(x:Str):Option Addr:=match PySem.W.nsIn K mainGlobals x with | some (some (.ref a))=>some a | _=>none
theorem dZ{K:Fg}{x:Str}{a:Addr}(h:adB K x=some a):PySem.W.nsIn K mainGlobals x=some (some (.ref a)):=by
 unfold adB at h;split at h
 . rename_i b e;cases h;exact e
 . cases h
noncomputable def isKey(key:Str):Addr×Obj->Bool
 | (_,⟨.type t,_,.func fd,_⟩)=>t == "function" && fd.qualname==key
 | _=>false
noncomputable def faK(K:Fg)(key:Str):Addr:=match K.find? (isKey key) with | some p=>p.1 | none=>0
noncomputable def stOf(fd:FuncData)(b:List Stmt):Stmt:=.FunctionDef fd.name fd.params b [] none [] fd.scope none fd.name ⟨0,0,0,0⟩
noncomputable def parB(p:Arguments)(ps:List Str):Bool:=p.posonlyargs.isEmpty&&(p.args.map (·.arg)==ps)&&p.vararg.isNone&&p.kwonlyargs.isEmpty&&p.kwarg.isNone&&decide ps.Nodup
noncomputable def fdB(K:Fg)(nm:Option Str)(key:Str)(a:Addr)(ps:List Str)(f:Stmt->Bool)(fd:FuncData)(b:List Stmt):Bool :=
 (nm.getD fd.name==fd.name)&&((fd.qualname==key)&&(fd.globals==mainGlobals&&(fd.closure.isEmpty&&((fd.defaults == .none)&&(fd.builtins==builtinsNs&&(PySem.W.codeIn K fd.code key&&(PySem.W.keepIn K (.ref a)&&(parB fd.params ps&&f (stOf fd b)))))))))
noncomputable def kC(K:Fg)(nm:Option Str)(key:Str)(a:Addr)(ps:List Str)(f:Stmt->Bool):Bool:=match K.lookup a with
 | some ⟨_,_,.func fd,_⟩=>(match fd.body with
  | .stmts b=>fdB K nm key a ps f fd b
  | _=>false)
 | _=>false
theorem sL{K:Fg}{nm:Option Str}{key:Str}{a:Addr}{ps:List Str}{f:Stmt->Bool}(h:kC K nm key a ps f=true):∃ name st fd,Fun K name key st a fd/\e8 K fd ps []/\f st=true/\nm.getD name=name/\∀ us:List Value,us.length=ps.length->bindArgs fd ⟨us,[]⟩=pure (ps.zip us):=by
 unfold kC at h;split at h
 . rename_i oc od fd sl el;split at h
   . rename_i b eb;unfold fdB at h;simp only[aQ8] at h;obtain ⟨h1,h2,h3,h4,h5,h6,h7,h8,h9,h10⟩:=h;obtain ⟨name,qualname,params,body,scope,globals,closure,defaults,kwdefaults,doc,pm,an,code,ct,bl⟩:=fd;dsimp only at *;obtain rfl:=eb;obtain rfl:=aRW.mp h2;obtain rfl:=aRW.mp h3;obtain rfl:=List.isEmpty_iff.mp h4;obtain rfl:=aRW.mp h5;obtain rfl:=aRW.mp h6;unfold parB at h9;simp only[aQ8,List.isEmpty_iff,aRW,Option.isNone_iff_eq_none,aRL] at h9;obtain ⟨⟨⟨⟨⟨p1,p2⟩,p3⟩,p4⟩,p5⟩,p6⟩:=h9;have bp:=aML (fd:=PySem.W.fnOf name qualname params b scope .none kwdefaults doc pm an code ct) p1 p2 p3 p4 p5 rfl p6;exact ⟨name,_,_,aFL (st:=stOf ⟨name,qualname,params,.stmts b,scope,mainGlobals,[],.none,kwdefaults,doc,pm,an,code,ct,builtinsNs⟩ b) el h7 h8,.all bp,h10,aRW.mp h1,bp⟩
   . cases h
 . cases h
noncomputable def gvB(K:Fg)(x:Str):GV->Bool
 | .con (.s y)=>(match PySem.W.nsIn K mainGlobals x with | some (some (.str z _))=>z==y | _=>false)
 | .con (.i n)=>(match PySem.W.nsIn K mainGlobals x with | some (some (.int z _))=>z==n | _=>false)
 | .con (.t _)=>true
 | .no=>PySem.W.nsIn K mainGlobals x==some none
 | .fn _=>PySem.W.nsIn K mainGlobals x==some (some (.ref (faK K x)))
 | .cls=>true
noncomputable def oI(K:Fg)(C:Addr):Bool:=PySem.W.plainGet K C Str.empty&&(PySem.W.hasDictIn K C&&(PySem.W.plainOver K C&&PySem.W.findIn K (.ref C) "__setattr__" == some (some (.builtin "object.__setattr__"))))
theorem yZ{K:Fg}{C:Addr}(h:oI K C=true):Cls K C:=by unfold oI at h;simp only[aQ8,aRW] at h;exact ⟨h.1,h.2.1,h.2.2.1,h.2.2.2⟩
noncomputable def sM(K:Fg)(C:Addr)(x:Str×Str×Nat):Bool:=PySem.W.findIn K (.ref C) x.1==some (some (.ref (faK K x.2.1)))&&(PySem.W.isFn K (.ref (faK K x.2.1))&&PySem.W.keepIn K (.ref (faK K x.2.1)))
noncomputable def ciB(K:Fg)(i:CI):Bool:=match adB K i.name with
 | some C=>oI K C&&(i.meths.all (sM K C)&&i.flds.all λf=>PySem.W.findIn K (.ref C) f==some none)
 | none=>false
noncomputable def mk0B(K:Fg)(c:Str):Bool:=match adB K c with
 | some C=>PySem.W.makesIn K C&&(PySem.W.findIn K (.ref C) "__init__" == some (some (.builtin "object.__init__"))&&PySem.W.keepIn K (.ref C))
 | none=>false
noncomputable def clB(K:Fg)(C:Addr):Bool:=PySem.W.findIn K (.ref C) "__class__" == some (some (.builtin "object.__class__"))&&(PySem.W.specialIn K (.builtin "object.__class__") "__get__" == some (some (.builtin "getset_descriptor.__get__"))&&(PySem.W.takesIn K (.builtin "object.__class__")==some true&&PySem.W.mroIn K C (.type "object")==some true))
noncomputable def isoB(K:Fg)(cl:List CI)(c:Str):Bool:=match adB K c with
 | some C=>["NoneType", "bool", "int", "str", "tuple", "list", "dict"].all (λt=>PySem.W.kitOne K (.type t) (.ref C)==some false)&&cl.all λi=>match adB K i.name with
  | some C'=>oI K C'&&(clB K C'&&PySem.W.kitOne K (.ref C') (.ref C)==some (i.ups.contains c))
  | none=>false
 | none=>false
noncomputable def inB(K:Fg)(g:MG)(x:Str×ID):Bool:=match adB K x.2.c with
 | some C=>PySem.W.makesIn K C&&(PySem.W.findIn K (.ref C) "__init__" == some (some (.ref (faK K x.1)))&&(PySem.W.isFn K (.ref (faK K x.1))&&(PySem.W.keepIn K (.ref C)&&kC K none x.1 (faK K x.1) x.2.ps (λst=>idOk g st x.2))))
 | none=>false
noncomputable def xtB(K:Fg)(x:(Str×Str)×Bool):Bool:=match adB K x.1.1,adB K x.1.2 with
 | some C,some C2=>PySem.W.mroIn K C2 (.type "BaseException")==some true&&(PySem.W.typeIn K (.ref C2)==some (.type "type")&&PySem.W.mroIn K C (.ref C2)==some x.2)
 | _,_=>false
noncomputable def xcB(K:Fg)(C:Addr):Bool:=PySem.W.findIn K (.ref C) "__getattribute__" == some (some (.builtin "BaseException.__getattribute__"))&&(PySem.W.findIn K (.ref C) "__getattr__" == some none&&(PySem.W.mroIn K C (.type "BaseException")==some true&&clB K C))
noncomputable def cvB(K:Fg)(n:Str):Option V:=match PySem.W.nsIn K mainGlobals n with
 | some (some (.ref C))=>some (.ref C)
 | some none=>if n == "__name__" then none else (match bootBuiltins n with | some (.type T)=>some (.ty T) | _=>none)
 | _=>none
noncomputable def xiB(K:Fg)(x:(Str×Str)×Bool):Bool:=match adB K x.1.1,cvB K x.1.2 with
 | some C,some cv=>xcB K C&&PySem.W.kitOne K (.ref C) (xE cv)==some x.2
 | _,_=>false
noncomputable def rzB(K:Fg)(c:Str):Bool:=match adB K c with
 | some C=>PySem.W.excIn K C rO "ValueError.__new__"
 | none=>false
noncomputable def gfB(K:Fg)(g:MG)(t:TB):Bool :=
 g.G.all (λx=>gvB K x.1 x.2)&&(gOk g.G t.T&&(t.T.all (λx=>kC K (if x.1 == "law" then some "law" else none) x.1 (faK K x.1) x.2.ps (λst=>iT g st x.2))&&(t.I.all (inB K g)&&(g.mk0.all (mk0B K)&&(yI g.mki t.I&&(g.iso.all (isoB K t.cl)&&(t.cl.all (ciB K)&&(mtOk t.cl t.T&&(t.xt.all (xtB K)&&(t.xi.all (xiB K)&&(g.xcs.all (rzB K)&&g.xns.all (λn=>(cvB K n).isSome))))))))))))
section
variable {w:World}{K:Fg}{mg:SOV}{h:Heap}(X:K.In h)(G:h.Ns mainGlobals mg)
include X G
theorem y6:∀ {l:List (Str×GV)},(∀ x tb,(x,GV.con (.t tb))∈l->gY w K mg x tb)->l.all (λx=>gvB K x.1 x.2)=true->lW w K mg (faK K) l
 | [],_,_=>trivial
 | (x,v)::l,ht,b=>by
  rw[aRA,aQ8] at b;refine ⟨?_,y6 (λx tb hx=>ht x tb (mcm hx)) b.2⟩;have b:=b.1;dsimp only at b;cases v with
  | con c =>
   cases c with
   | s y =>
    have b:(match PySem.W.nsIn K mainGlobals x with | some (some (.str z _))=>z==y | _=>false)=true:=b
    split at b
    . rename_i z t e;cases aRW.mp b;exact ⟨t,aS0 X G e⟩
    . cases b
   | i y =>
    have b:(match PySem.W.nsIn K mainGlobals x with | some (some (.int z _))=>z==y | _=>false)=true:=b
    split at b
    . rename_i z t e;cases aRW.mp b;exact ⟨t,aS0 X G e⟩
    . cases b
   | t tb=>exact ht x tb mcs
  | fn n=>exact aS0 X G (aRW.mp b)
  | no=>exact PySem.W.mg_none_of X G (aRW.mp b)
  | cls=>trivial
theorem y8{n:Str}{cv:V}(e:cvB K n=some cv):nZ mg n cv:=by
 unfold cvB at e;split at e
 . rename_i C q;cases e;exact .inl ⟨C,aS0 X G q,rfl⟩
 . rename_i q;split at e
   . cases e
   . rename_i hn;split at e
     . rename_i T hb;cases e;exact .inr ⟨PySem.W.mg_none_of X G q,by simpa using hn,T,hb,rfl⟩
     . cases e
 . cases e
end
theorem y9{K:Fg}{g:MG}:∀ {l:List (Str×FD)},l.all (λx=>kC K (if x.1 == "law" then some "law" else none) x.1 (faK K x.1) x.2.ps (λst=>iT g st x.2))=true->lU K g (faK K) l
 | [],_=>trivial
 | (x,d)::l,b=>by rw[aRA,aQ8] at b;obtain ⟨name,st,fd,F,hb,ok,_,_⟩:=sL b.1;exact ⟨⟨name,st,fd,F,hb,ok⟩,y9 b.2⟩
theorem zA{K:Fg}{C:Addr}:∀ {l:List (Str×Str×Nat)},l.all (sM K C)=true->j6 K (faK K) C l
 | [],_=>trivial
 | (m,key,n)::l,b=>by rw[aRA,aQ8] at b;have b1:=b.1;unfold sM at b1;simp only[aQ8,aRW] at b1;exact ⟨⟨b1.1,b1.2.1,b1.2.2⟩,zA b.2⟩
theorem zB{K:Fg}{C:Addr}:∀ {l:List Str},l.all (λf=>PySem.W.findIn K (.ref C) f==some none)=true->j7 K C l
 | [],_=>trivial
 | f::l,b=>by rw[aRA,aQ8] at b;exact ⟨aRW.mp b.1,zB b.2⟩
theorem zC{K:Fg}:∀ {l:List CI},l.all (ciB K)=true->lX K (faK K) l
 | [],_=>trivial
 | i::l,b=>by
  rw[aRA,aQ8] at b;refine ⟨?_,zC b.2⟩;have b:=b.1;unfold ciB at b;split at b
  . rename_i C e;simp only[aQ8] at b;exact ⟨C,dZ e,yZ b.1,zA b.2.1,zB b.2.2⟩
  . cases b
section
variable {w:World}{K:Fg}{mg:SOV}{h:Heap}(X:K.In h)(G:h.Ns mainGlobals mg)
include X G
theorem zD{g:MG}:∀ {l:List (Str×ID)},l.all (inB K g)=true->lV K mg g l
 | [],_=>trivial
 | (x,d)::l,b=>by
  rw[aRA,aQ8] at b;refine ⟨?_,zD b.2⟩;have b:=b.1;unfold inB at b;split at b
  . rename_i C e;simp only[aQ8,aRW] at b;obtain ⟨b1,b2,b3,b4,b5⟩:=b;obtain ⟨name,st,fd,F,hb,ok,_,_⟩:=sL b5;exact ⟨name,st,C,_,fd,dZ e,aS0 X G (dZ e),⟨b1,b2,b3,b4⟩,F,hb,ok⟩
  . cases b
omit X G in
theorem sN{c x:Str}{v:Bool}:∀ {l:List ((Str×Str)×Bool)},l.lookup (c,x)=some v->((c,x),v)∈l
 | [],e=>by cases e
 | (y,b)::l,e=>by
  rw[aSB] at e;split at e
  . rename_i hb;cases e;rw[<- aRW.mp hb];exact mcs
  . exact mcm (sN e)
theorem xt_of{l:List ((Str×Str)×Bool)}(b:l.all (xtB K)=true):rQ K mg (λc x=>l.lookup (c,x)):=λc x v e=>by
 have b:=aRZ.mp b ((c,x),v) (sN e);unfold xtB at b;split at b
 . rename_i C C2 e1 e2;simp only[aQ8,aRW] at b;exact ⟨C,C2,dZ e1,aS0 X G (dZ e1),aS0 X G (dZ e2),b.1,b.2.1,b.2.2⟩
 . cases b
theorem xi_of{l:List ((Str×Str)×Bool)}(b:l.all (xiB K)=true):rR K mg (λc x=>l.lookup (c,x)):=λc x v e=>by
 have b:=aRZ.mp b ((c,x),v) (sN e);unfold xiB at b;split at b
 . rename_i C cv e1 e2;unfold xcB clB at b;simp only[aQ8,aRW] at b;obtain ⟨⟨b1,b2,b3,b4,b5,b6,b7⟩,b8⟩:=b;exact ⟨C,cv,dZ e1,⟨b1,b2,b4,b3,b7,b5,b6⟩,y8 X G e2,b8⟩
 . cases b
theorem gf_of{g:MG}{t:TB}(b:gfB K g t=true)(ht:∀ x tb,(x,GV.con (.t tb))∈g.G->gY w K mg x tb):GF w K mg g t (faK K):=by
 unfold gfB at b;simp only[aQ8] at b;obtain ⟨b1,b2,b3,b4,b5,b6,b7,b8,b9,b10,b11,b12,b13⟩:=b;refine ⟨y6 X G ht b1,b2,y9 b3,zD X G b4,λc hc=>?_,b6,λc hc=>?_,zC b8,b9,xt_of X G b10,xi_of X G b11,λc hc=>?_,λn hn=>?_⟩
 . have b:=aRZ.mp b5 c hc;unfold mk0B at b;split at b
   . rename_i C e;simp only[aQ8,aRW] at b;exact ⟨C,dZ e,aS0 X G (dZ e),b.1,b.2.1,b.2.2⟩
   . cases b
 . have b:=aRZ.mp b7 c hc;unfold isoB at b;split at b
   . rename_i C e;rw[aQ8] at b;refine ⟨C,aS0 X G (dZ e),λt ht=>aRW.mp (aRZ.mp b.1 t ht),λi hi=>?_⟩;have b:=aRZ.mp b.2 i hi;split at b
     . rename_i C' e';unfold clB at b;simp only[aQ8,aRW] at b;obtain ⟨c1,⟨c2,c3,c4,c5⟩,c6⟩:=b;exact ⟨C',dZ e',yZ c1,c2,c3,c4,c5,c6⟩
     . cases b
   . cases b
 . have b:=aRZ.mp b12 c hc;unfold rzB at b;split at b
   . rename_i C e;exact ⟨C,aS0 X G (dZ e),b⟩
   . cases b
 . have b:=aRZ.mp b13 n hn;cases e:cvB K n with
   | none=>rw[e] at b;cases b
   | some cv=>exact ⟨cv,y8 X G e⟩
end
noncomputable def l6(K:Fg)(g:MG)(t:TB):Bool:=gfB K g t&&PySem.W.nsIn K mainGlobals "law" == some (some (.ref (faK K "law")))
theorem zE{x:Str}{d:FD}:∀ {l:List (Str×FD)},l.lookup x=some d->(x,d)∈l
 | [],e=>by cases e
 | (y,b)::l,e=>by
  rw[aSB] at e;split at e
  . rename_i hb;cases e;rw[<- aRW.mp hb];exact mcs
  . exact mcm (zE e)
theorem walkG{l:PySem.W.OpenLaw}{q:Program}{loose:List Str}{XP:(Str->Option Value)->Heap->Prop}{YP:World->Heap->Prop}{d:DefRec}{K:Params->Fg}{g:MG}{t:TB}{kk:Nat}{x:Str}{e:FD}(hn:l.most=some 63)(hdf:d.params.defaults=[])(hdn:d.name = "law")(hY:∀ (w:World) (h:Heap),YP w h->(K w.params).In h)(b:∀ P,l6 (K P) g t=true)(ht:∀ (w:World) (mg:SOV) (h:Heap),(K w.params).In h->h.Ns mainGlobals mg->∀ x tb,(x,GV.con (.t tb))∈g.G->gY w (K w.params) mg x tb)(hT:t.T.lookup ("law" : Str)=some e)(hps:e.ps=[x])(hr:cI (kk+1) callerA)(main:∀ ns:List Int,ns.length<=63->(WT t (kk+1)).Φ "law" (nP ns)=.ok .fz (.bl true)):PySem.W.WalkO q loose XP YP l.row.toRowW d [] (λf vs=>PySem.call f vs):=by
 refine L2.aFK (n:=63) (k:=kk+1) (x:=x) (CX:=λw=>CX1 l.prog w) (sp:=λw=>sC (K w.params) ((WT t (kk+1)).Φ ("law" : Str))) hn (by decide) hdf hr hY (λw mg fa h KX G hmg=>?_)
  (λ_ _ a ns hl _ hS=>⟨a,ns,rfl,hS,main ns hl,λ_=>rfl⟩) λ_ _ _ _ _ z=>by obtain ⟨_,_,_,_,_,_,_,_,_,_,z⟩:=z;exact z
 have b:=b w.params;unfold l6 at b;rw[aQ8,aRW] at b;have f:=gf_of (w:=w) KX G b.1 (ht w mg h KX G);have e1:=aS0 KX G b.2;rw[hdn,e1] at hmg;cases hmg;have b3:t.T.all (λx=>kC (K w.params) (if x.1 == "law" then some "law" else none) x.1 (faK (K w.params) x.1) x.2.ps (λst=>iT g st x.2))=true:=by have:=b.1;unfold gfB at this;simp only[aQ8] at this;exact this.2.2.1
 obtain ⟨name,st,fd,F,hb,ok,hnm,bp⟩:=sL (aRZ.mp b3 (("law" : Str),e) (zE hT));have hnm:name = "law" := hnm.symm;subst hnm;refine ⟨fd,λs u=>.of_eq ?_,λbase _ _=>?_⟩
 . have:=bp [u] (by rw[hps];rfl)
   rw[hps] at this;exact this
 . have:=aL8 (P:=l.prog) (base:=base) f kk F hT ok (by rw[hps];rfl)
   rw[hps] at this;exact this
end D3
namespace Tp
open PySem PySem.W PySem.Calls PyProof.Rows
theorem left{p:Program}{r:OpenRow}{l:List Stmt}{n k:Nat}{as:List Addr}{c':Code}{q':Pos}(hl:behindTheImports p=l)(pre:∀ (w:World) (os:OsState),topGo treeTable p w 11 an 12 ⟨boot_heap w.params,#[],boot_drawn,boot_toks,os⟩ (topStub p)=some ((sh w.params (sA w.params) 15 187 os).abs,⟨denote treeTable (cd p),cd p,z0,[topFrame z0]⟩))(blk:∀ (w:World) (s:Shared),segRun treeTable p w 11 an 1 1 s (blockOf l (ev p) (cd p) z0 [topFrame z0])=some (.next,s,cd p,z0))(run:∀ (w:World) (os:OsState),go treeTable p w 1000 l (sh w.params (sA w.params) 15 187 os) (cd p) z0=some (sh w.params (lay w.params l (sA w.params)) n k os,c',q'))(le:Nat.ble (12+(1+ns 1000 2 l)) 1000000=true)(e1:opening p=plainProg p.main.scope.names)(e2:∀ s,fenceModules? p s=some s)(uO:∀ w:World,(λos=>((staticsOk (importedModules p.main.body) (boot_heap w.params) (H1 l n w.params)&&namesBound p (H1 l n w.params)&&gensDone (S1 l n k w.params os)&&laidKept (boot_heap w.params) (H1 l n w.params)),openSeen (vw p) (los l) (importedModules p.main.body) (xt r) true (S1 l n k w.params os),(hk l as).obs (S1 l n k w.params os)))=λ_=>(true,openGood (vw p) (los l),(hk l as).val w)):LeftO p (vw p) (los l) (xt r) (hk l as).obs (hk l as).val 1000000 :=
 LeftO.of_pieces (H₀:=boot_heap) (H₁:=H1 l n) (m₀:=11) (ann:=an) (boot_open e1 rfl e2) size1 (run_of hl pre blk run) le uO
theorem head{p:OpenLaw}{l:List Stmt}{as:List Addr}{d:DefRec}(left:LeftO p.prog (vw p.prog) (los l) (xt p.row) (hk l as).obs (hk l as).val 1000000)(said:p.row.wellSaid=true)(h1:defOf (vw p.prog) p.name=some (d,[]))(h2:p.prog.theDef p.name=some (d.params,d.body,d.scope))(h3:kwWritten? d.params.kwonlyargs d.params.kw_defaults=some [])(h4:(!p.row.writes||p.row.records.isEmpty)=true)(ok:(chainsOk (vw p.prog)&&opensWell p.prog&&(frees p.row.toRowW&&p.row.within.isEmpty))=true)(hb:p.prog.bare)(hw:p.row.toRowW.promised)(call:WalkO (vw p.prog) (los l) (XL (vw p.prog) []) (hk l as).says p.row.toRowW d [] λf vs=>PySem.call f vs):p.row.Holds :=
 holds_open (r:=p.row) (XP:=XL (vw p.prog) []) (YP:=(hk l as).says) left (hk l as).of (hk l as).keeps (λs e=>xl_of s (Bool.and_eq_true_iff.mp e).1) XL.keeps h1 h2 h3
  (λs e=>recFacts_of (Bool.and_eq_true_iff.mp e).2) h4 said ok hb hw call
end Tp
namespace D3
open PySem PySem.Spec PySem.Calls PyProof.Rows L2
noncomputable def oJ:Obj->List DictEntry
 | ⟨.type t,none,.dict es _,sl⟩=>if t = "dict" /\ sl.size=0 then es.toList else []
 | _=>[]
theorem aMM{o:Obj}(h:oJ o≠[]):∃ es ep,o=⟨.type "dict", none,.dict es ep,#[]⟩/\oJ o=es.toList:=by
 unfold oJ at h ⊢;split at h
 . rename_i t es ep sl;split at h
   . rename_i hc;obtain ⟨rfl,hs⟩:=hc;obtain rfl:=Array.eq_empty_of_size_eq_zero hs;exact ⟨es,ep,rfl,rfl⟩
   . exact absurd rfl h
 . exact absurd rfl h
noncomputable def fH(K:Fg)(x:Str):List DictEntry:=match adB K x with
 | some a=>(match K.lookup a with | some o=>oJ o | none=>[])
 | none=>[]
theorem aMN{K:Fg}{x:Str}(h:fH K x≠[]):∃ a es ep,adB K x=some a/\K.lookup a=some ⟨.type "dict", none,.dict es ep,#[]⟩/\fH K x=es.toList:=by
 unfold fH at h ⊢;cases ea:adB K x with
 | none=>rw[ea] at h;exact absurd rfl h
 | some a =>
  rw[ea] at h;dsimp only at h ⊢;cases el:K.lookup a with
  | none=>rw[el] at h;exact absurd rfl h
  | some o=>rw[el] at h;dsimp only at h ⊢;obtain ⟨es,ep,rfl,e⟩:=aMM h;exact ⟨a,es,ep,rfl,el,e⟩
noncomputable def kD(P:Params):List (Str×Str)->List DictEntry->List DictEntry
 | (z,_)::r,⟨_,.str _ t,.ref a⟩::es=>⟨PyData.keyHash P z,.str z t,.ref a⟩::kD P r es
 | _,_=>[]
noncomputable def okE(K:Fg):List (Str×Str)->List DictEntry->Bool
 | [],[]=>true
 | (_,f)::r,⟨_,.str _ _,.ref a⟩::es=>PySem.W.nsIn K mainGlobals f==some (some (.ref a))&&okE K r es
 | _,_=>false
theorem zF{w:World}{K:Fg}:∀ {tb:List (Str×Str)} {es:List DictEntry},es=kD w.params tb es->okE K tb es=true->iR w K tb es
 | [],[],_,_=>rfl
 | [],⟨_,.str _ _,.ref _⟩::es,e,_=>by unfold kD at e;cases e
 | (z,f)::r,es,e,ok=>by
  unfold okE at ok;split at ok
  . rename_i h1 h2;cases h2
  . rename_i f' r' hh y t a es' h1;cases h1;rw[aQ8,aRW] at ok;unfold kD at e;injection e with e1 e2
    exact ⟨t,a,es',congrArg (·::es') e1,ok.1,zF e2 ok.2⟩
  . cases ok
theorem aMO{K:Fg}:∀ {tb:List (Str×Str)},tb≠[]->okE K tb []=false
 | [],h=>absurd rfl h
 | p::r,_=>by unfold okE;rfl
theorem aMP{w:World}{K:Fg}{mg:SOV}{h:Heap}{x:Str}{tb:List (Str×Str)}(X:K.In h)(G:h.Ns mainGlobals mg)(e:fH K x=kD w.params tb (fH K x))(ok:okE K tb (fH K x)=true)(ne:tb≠[])(nd:(tb.map (·.1)).Nodup):gY w K mg x tb:=by
 have bad:fH K x≠[]:=λz=>by rw[z,aMO ne] at ok;cases ok
 have t:=zF e ok;obtain ⟨a,es,ep,ea,el,et⟩:=aMN bad;rw[et] at t;exact ⟨⟨a,_,es,ep,aS0 X G (dZ ea),el,⟨rfl,rfl,rfl⟩,rfl,t⟩,nd⟩
theorem aMQ{g:MG}{K:Params->Fg}{y:Str}{t0:List (Str×Str)}(b:(g.G.all λx=>match x.2 with | .con (.t tb)=>x.1==y&&tb==t0 | _=>true)=true)(e:∀ P,fH (K P) y=kD P t0 (fH (K P) y))(ok:∀ P,okE (K P) t0 (fH (K P) y)=true)(ne:t0≠[])(nd:(t0.map (·.1)).Nodup)(w:World)(mg:SOV)(h:Heap)(X:(K w.params).In h)(G:h.Ns mainGlobals mg)(x:Str)(tb:List (Str×Str))(hm:(x,GV.con (.t tb))∈g.G):gY w (K w.params) mg x tb:=by have:=aRZ.mp b _ hm;dsimp only at this;rw[aQ8,aRW,aRW] at this;obtain ⟨rfl,rfl⟩:=this;exact aMP X G (e w.params) (ok w.params) ne nd
end D3
namespace K62
open PySem L2 D3
def oK:List D3.S:=[.expr (.call "refuse_missing" 2 [(.var 2),(.ix (.var 1) (.int 0))])]
def oM:List D3.S:=[.expr (.call "refuse_missing" 2 [(.var 3),(.var 1)]),.expr (.call "refuse_twice" 2 [(.var 0),(.var 2)])]
def kE:List D3.S:=[.expr (.call "refuse_twice" 2 [(.var 2),(.var 3)])]
def oN:List D3.S:=[.ite (.cmp .NotIn (.var 4) (.var 2)) [.rz "Unlike" [(.fstr [(.str "the column "),(.fmt (.var 4)),(.str " of what is left out isn't there")])]] []]
def l7:List D3.S:=[.app 2 (.var 3),.set 3 (.frz (.call "stepped" 2 [(.var 3),(.var 1)]))]
def iV:List D3.S:=[.set 2 (.frz (.call "stepped" 2 [(.var 5),(.var 1)])),.ite (.cmp .IsNot (.var 2) .non) [.ret (.call "rebuilt" 2 [(.var 0),(.frz (.bin .Add (.slice (.var 3) none (some (.var 4))) (.tup [(.var 2)])))])] []]
def dG:List D3.S:=[.set 12 (.frz (.call "_law_mixed" 2 [(.var 11),(.int 2147483629)])),.set 13 (.ix (.var 1) (.bin .Mod (.var 12) (.bcall .len [(.var 1)]))),.set 12 (.frz (.bin .FloorDiv (.var 12) (.bcall .len [(.var 1)]))),.ite (.orL [(.andL [(.cmp .Eq (.var 13) (.str "pick")),(.cmp .Eq (.var 10) (.int 3))]),(.andL [(.cmp .In (.var 13) (.tup [(.str "join"),(.str "pour"),(.str "leave")])),(.cmp .Eq (.var 9) (.var 2))])]) [.set 13 (.str "call")] [],.ite (.cmp .In (.var 13) (.tup [(.str "join"),(.str "pour"),(.str "leave")])) [.set 9 (.frz (.bin .Add (.var 9) (.int 1))),.asg (.tp [(.nm 7),(.nm 8)]) (.call "_law_widened" 7 [(.var 13),(.var 12),(.var 7),(.var 8),(.var 5),(.var 3),(.var 4)])] [.set 10 (.frz (.bin .Add (.var 10) (.tcall .int [(.cmp .Eq (.var 13) (.str "pick"))]))),.asg (.tp [(.nm 7),(.nm 8)]) (.call "_law_narrowed" 6 [(.var 13),(.var 12),(.var 7),(.var 8),(.var 5),(.var 6)])]]
def iW:List D3.S:=[.extn 1 (.call "_law_asked" 1 [(.var 2)])]
def l8:List D3.S:=[.set 3 (.ix (.var 3) (.int 1))]
def oO:List D3.S:=[.set 5 (.frz (.call "_law_columns" 2 [(.var 4),(.var 1)])),.ite (.tru (.bcall .all [(.comp (.cmp .In (.var 1) (.var 0)) (.items (.call "_law_asked" 1 [(.var 2)])) [] [5] (.nm 1) 1)])) [.ret (.bl false)] []]
def iX:List D3.S:=[.ite (.orL [(.cmp .NotEq (.call "step" 2 [(.ix (.var 10) (.bin .Sub (.var 11) (.int 1))),(.var 9)]) (.ix (.var 10) (.var 11))),(.cmp .NotEq (.call "_law_columns" 2 [(.ix (.var 10) (.var 11)),(.var 4)]) (.var 7))]) [.ret (.bl false)] []]
def oP:List D3.S:=[.ite (.cmp .In (.ix (.var 0) (.var 1)) (.slice (.var 0) none (some (.var 1)))) [.rz "Twice" [(.fstr [(.str "the column "),(.fmt (.ix (.var 0) (.var 1))),(.str " was there ahead")])]] []]
def gD:List D3.S:=[.set 1 (.ix (.var 0) (.int 0)),.ite (.cmp .Eq (.var 1) (.str "not")) [.ret (.call "columns_in" 1 [(.ix (.var 0) (.int 1))])] [],.ite (.cmp .In (.var 1) (.tup [(.str "both"),(.str "either")])) [.ret (.bin .Add (.call "columns_in" 1 [(.ix (.var 0) (.int 1))]) (.call "columns_in" 1 [(.ix (.var 0) (.int 2))]))] [],.ret (.comp (.ix (.var 0) (.int 1)) (.items (.slice (.var 0) (some (.int 1)) none)) [(.cmp .Eq (.ix (.var 0) (.int 0)) (.str "of"))] [] (.nm 0) 1)]
def fJ:List D3.S:=[.set 2 (.ix (.var 0) (.int 0)),.ite (.cmp .Eq (.var 2) (.str "not")) [.ret (.tup [(.var 2),(.frz (.call "called" 2 [(.ix (.var 0) (.int 1)),(.var 1)]))])] [],.ite (.cmp .In (.var 2) (.tup [(.str "both"),(.str "either")])) [.ret (.tup [(.var 2),(.frz (.call "called" 2 [(.ix (.var 0) (.int 1)),(.var 1)])),(.frz (.call "called" 2 [(.ix (.var 0) (.int 2)),(.var 1)]))])] [],.ret (.tup [(.var 2),(.frz (.call "called_part" 2 [(.ix (.var 0) (.int 1)),(.var 1)])),(.frz (.call "called_part" 2 [(.ix (.var 0) (.int 2)),(.var 1)]))])]
def l9:List D3.S:=[.ite (.cmp .Eq (.ix (.var 0) (.int 0)) (.str "of")) [.ret (.tup [(.str "of"),(.dix (.var 1) (.ix (.var 0) (.int 1)))])] [],.retV 0]
def hV:List D3.S:=[.ite (.cmp .Eq (.ix (.var 0) (.int 0)) (.str "table")) [.ret (.tup [])] [],.ite (.cmp .In (.ix (.var 0) (.int 0)) (.tup [(.str "join"),(.str "pour"),(.str "leave")])) [.ret (.tup [(.ix (.var 0) (.int 1)),(.ix (.var 0) (.int 2))])] [],.ret (.tup [(.ix (.var 0) (.int 1))])]
def oQ:List D3.S:=[.ret (.bin .Add (.bin .Add (.slice (.var 0) none (some (.int 1))) (.var 1)) (.slice (.var 0) (some (.bin .Add (.int 1) (.bcall .len [(.var 1)]))) none))]
def oR:List D3.S:=[.ite (.cmp .NotIn (.var 0) (.var 1)) [.rz "NoColumn" [(.fstr [(.str "there is no column "),(.fmt (.var 0))])]] []]
def oS:List D3.S:=[.for (.items (.call "columns_in" 1 [(.ix (.var 0) (.int 2))])) (.nm 2) oK,.ret (.ix (.var 1) (.int 0))]
def oT:List D3.S:=[.for (.enum1 (.var 0)) (.tp [(.nm 2),(.nm 3)]) oM,.retV 0]
def oU:List D3.S:=[.ret (.call "kept" 2 [(.ix (.var 0) (.int 2)),(.ix (.var 1) (.int 0))])]
def oV:List D3.S:=[.expr (.call "refuse_missing" 2 [(.var 0),(.var 2)]),.ret (.call "kept" 2 [(.var 1),(.var 2)])]
def oW:List D3.S:=[.ret (.call "totalled" 3 [(.ix (.var 0) (.int 2)),(.ix (.var 0) (.int 3)),(.ix (.var 1) (.int 0))])]
def iY:List D3.S:=[.set 2 (.ix (.var 0) (.int 2)),.ite (.cmp .NotEq (.bcall .len [(.var 2)]) (.bcall .len [(.ix (.var 1) (.int 0))])) [.rz "Unlike" [(.str "a call has as many columns as the asking within")]] [],.for (.rng1 (.bcall .len [(.var 2)])) (.nm 3) kE,.retV 2]
def mD:List D3.S:=[.asg (.tp [(.nm 2),(.nm 3)]) (.var 1),.ret (.bin .Add (.var 2) (.tcall .tuple [(.comp (.var 1) (.items (.var 3)) [(.cmp .NotIn (.var 1) (.var 0))] [2] (.nm 1) 1)]))]
def oX:List D3.S:=[.asg (.tp [(.nm 2),(.nm 3)]) (.var 1),.ite (.cmp .NotEq (.var 2) (.var 3)) [.rz "Unlike" [(.str "both askings of a pour have the same columns in the same order")]] [],.retV 2]
def oY:List D3.S:=[.asg (.tp [(.nm 2),(.nm 3)]) (.var 1),.for (.items (.var 3)) (.nm 4) oN,.retV 2]
def gE:List D3.S:=[.ite (.cmp .Eq (.ix (.var 0) (.int 0)) (.str "table")) [.ret (.call "columns_of_table" 2 [(.ix (.var 0) (.int 1)),(.var 1)])] [],.setC 2 true (.comp (.call "columns_of" 2 [(.var 1),(.var 0)]) (.items (.call "askings_within" 1 [(.var 0)])) [] [1] (.nm 1) 1),.set 3 (.deed "DEEDS" [("pick", "columns_of_pick"),("keep", "columns_of_keep"),("call", "columns_of_call"),("join", "columns_of_join"),("pour", "columns_of_pour"),("total", "columns_of_total"),("leave", "columns_of_leave")] (.ix (.var 0) (.int 0))),.ret (.callv 3 ["columns_of_pick", "columns_of_keep", "columns_of_call", "columns_of_join", "columns_of_pour", "columns_of_total", "columns_of_leave"] 2 [(.var 0),(.var 2)])]
def oZ:List D3.S:=[.ite (.din true (.var 0) (.var 1)) [.rz "NoTable" [(.fstr [(.str "there is no table "),(.fmt (.var 0))])]] [],.ret (.dix (.var 1) (.var 0))]
def o7:List D3.S:=[.expr (.call "columns_of" 2 [(.var 0),(.var 1)]),.ret (.call "stepped" 2 [(.var 0),(.var 1)])]
def iZ:List D3.S:=[.expr (.call "columns_of" 2 [(.var 0),(.var 1)]),.set 2 (.lst []),.set 3 (.var 0),.whl 1000000 (.cmp .IsNot (.var 3) .non) l7,.retV 2]
def d5:List D3.S:=[.ite (.cmp .Eq (.ix (.var 0) (.int 0)) (.str "pick")) [.set 2 (.frz (.call "behind_pick" 3 [(.ix (.var 0) (.int 1)),(.ix (.var 0) (.int 2)),(.var 1)])),.ite (.cmp .IsNot (.var 2) .non) [.retV 2] []] [],.set 3 (.frz (.call "askings_within" 1 [(.var 0)])),.for (.enum1 (.var 3)) (.tp [(.nm 4),(.nm 5)]) iV,.ret .non]
def eG:List D3.S:=[.ite (.cmp .Eq (.ix (.var 1) (.int 0)) (.str "both")) [.ret (.tup [(.str "pick"),(.tup [(.str "pick"),(.var 0),(.ix (.var 1) (.int 1))]),(.ix (.var 1) (.int 2))])] [],.ite (.andL [(.cmp .Eq (.ix (.var 1) (.int 0)) (.str "not")),(.cmp .Eq (.ix (.ix (.var 1) (.int 1)) (.int 0)) (.str "not"))]) [.ret (.tup [(.str "pick"),(.var 0),(.ix (.ix (.var 1) (.int 1)) (.int 1))])] [],.ite (.andL [(.cmp .Eq (.ix (.var 1) (.int 0)) (.str "not")),(.cmp .Eq (.ix (.ix (.var 1) (.int 1)) (.int 0)) (.str "either"))]) [.ret (.tup [(.str "pick"),(.var 0),(.tup [(.str "both"),(.tup [(.str "not"),(.ix (.ix (.var 1) (.int 1)) (.int 1))]),(.tup [(.str "not"),(.ix (.ix (.var 1) (.int 1)) (.int 2))])])])] [],.ret (.call "sunk" 3 [(.var 0),(.var 1),(.var 2)])]
def bO:List D3.S:=[.set 3 (.ix (.var 0) (.int 0)),.ite (.cmp .Eq (.var 3) (.str "table")) [.ret .non] [],.ite (.cmp .Eq (.var 3) (.str "pick")) [.set 4 (.frz (.call "sunk" 3 [(.ix (.var 0) (.int 1)),(.var 1),(.var 2)])),.ite (.cmp .Is (.var 4) .non) [.ret .non] [],.ret (.tup [(.str "pick"),(.var 4),(.ix (.var 0) (.int 2))])] [],.ite (.cmp .Eq (.var 3) (.str "join")) [.ret (.call "sunk_into_join" 3 [(.var 0),(.var 1),(.var 2)])] [],.ite (.cmp .Eq (.var 3) (.str "pour")) [.ret (.tup [(.str "pour"),(.tup [(.str "pick"),(.ix (.var 0) (.int 1)),(.var 1)]),(.tup [(.str "pick"),(.ix (.var 0) (.int 2)),(.var 1)])])] [],.ite (.cmp .Eq (.var 3) (.str "call")) [.set 5 (.frz (.dzip (.ix (.var 0) (.int 2)) (.call "columns_of" 2 [(.ix (.var 0) (.int 1)),(.var 2)]))),.ret (.tup [(.str "call"),(.tup [(.str "pick"),(.ix (.var 0) (.int 1)),(.frz (.call "called" 2 [(.var 1),(.var 5)]))]),(.ix (.var 0) (.int 2))])] [],.ret (.call "rebuilt" 2 [(.var 0),(.tup [(.tup [(.str "pick"),(.ix (.var 0) (.int 1)),(.var 1)])])])]
def cT:List D3.S:=[.par 3 4 (.ix (.var 0) (.int 1)) (.ix (.var 0) (.int 2)),.ite (.tru (.call "has_all" 2 [(.frz (.call "columns_of" 2 [(.var 3),(.var 2)])),(.var 1)])) [.ret (.tup [(.str "join"),(.tup [(.str "pick"),(.var 3),(.var 1)]),(.var 4)])] [],.ite (.tru (.call "has_all" 2 [(.frz (.call "columns_of" 2 [(.var 4),(.var 2)])),(.var 1)])) [.ret (.tup [(.str "join"),(.var 3),(.tup [(.str "pick"),(.var 4),(.var 1)])])] [],.ret .non]
def o8:List D3.S:=[.ret (.bcall .all [(.comp (.cmp .In (.var 1) (.var 0)) (.items (.call "columns_in" 1 [(.var 1)])) [] [0] (.nm 1) 1)])]
def mH:List D3.S:=[.ite (.cmp .Lt (.var 1) (.bcall .len [(.var 0)])) [.ret (.ix (.var 0) (.var 1))] [],.ret (.int 0)]
def o9:List D3.S:=[.set 2 (.frz (.bin .Mod (.bin .Mult (.bin .Add (.var 0) (.int 7)) (.int 48271)) (.int 2147483647))),.ret (.bin .Mod (.bin .Mult (.var 2) (.var 2)) (.var 1))]
def hX:List D3.S:=[.set 2 (.frz (.bin .Add (.int 1) (.bin .Mod (.var 0) (.int 6)))),.ite (.cmp .Eq (.bin .Mod (.bin .FloorDiv (.var 0) (.int 6)) (.int 9)) (.int 4)) [.set 2 (.int 40)] [],.ite (.cmp .Eq (.bin .Mod (.bin .FloorDiv (.var 0) (.int 54)) (.int 4)) (.int 1)) [.ret (.comp (.bin .Mult (.str "p") (.bin .Add (.var 0) (.int 1))) (.rng1 (.var 1)) [] [] (.nm 0) 1)] [],.set 3 (.frz (.bin .Mod (.bin .FloorDiv (.var 0) (.int 216)) (.var 2))),.ret (.comp (.bin .Add (.bin .Add (.bin .Mult (.str "r") (.var 0)) (.ix (.str "kmqbzwhvcjxf") (.var 3))) (.bin .Mult (.ix (.str "r7") (.bin .Mod (.var 1) (.int 2))) (.bin .Sub (.bin .Sub (.var 2) (.var 0)) (.int 1)))) (.rng1 (.var 1)) [] [3,0,2] (.nm 3) 1)]
def hZ:List D3.S:=[.set 1 (.frz (.bin .Add (.int 3) (.bin .Mod (.bin .Pow (.bin .Mod (.var 0) (.bin .Pow (.int 10) (.int 12))) (.int 5)) (.bin .Pow (.int 10) (.int 50))))),.ite (.cmp .Eq (.bin .Mod (.var 0) (.int 2)) (.int 1)) [.set 1 (.frz (.bin .Sub (.int 0) (.var 1)))] [],.ret (.lst [(.frz (.bin .Mod (.bin .FloorDiv (.var 0) (.int 2)) (.int 3))),(.var 1),(.ix (.call "_law_names" 2 [(.frz (.bin .FloorDiv (.var 0) (.int 6))),(.int 1)]) (.int 0))])]
def i3:List D3.S:=[.ite (.andL [(.cmp .Gt (.bcall .len [(.var 1)]) (.int 0)),(.cmp .Lt (.bin .Mod (.var 0) (.int 3)) (.int 2))]) [.ret (.tup [(.str "of"),(.ix (.var 1) (.bin .Mod (.bin .FloorDiv (.var 0) (.int 3)) (.bcall .len [(.var 1)])))])] [],.ret (.tup [(.str "just"),(.ix (.var 2) (.bin .Mod (.bin .FloorDiv (.var 0) (.int 3)) (.int 3)))])]
def bL:List D3.S:=[.set 4 (.frz (.bin .FloorDiv (.var 0) (.int 5))),.ite (.orL [(.cmp .Eq (.var 1) (.int 0)),(.cmp .Lt (.bin .Mod (.var 0) (.int 5)) (.int 2))]) [.set 5 (.ix (.lst [(.str "same"),(.str "under")]) (.bin .Mod (.var 0) (.int 2))),.ret (.tup [(.var 5),(.frz (.call "_law_part" 3 [(.var 4),(.var 2),(.var 3)])),(.frz (.call "_law_part" 3 [(.frz (.bin .FloorDiv (.var 4) (.int 19))),(.var 2),(.var 3)]))])] [],.ite (.cmp .Eq (.bin .Mod (.var 0) (.int 5)) (.int 2)) [.ret (.tup [(.str "not"),(.frz (.call "_law_test" 4 [(.var 4),(.frz (.bin .Sub (.var 1) (.int 1))),(.var 2),(.var 3)]))])] [],.set 5 (.ix (.lst [(.str "both"),(.str "either")]) (.bin .Mod (.var 0) (.int 2))),.set 6 (.frz (.call "_law_test" 4 [(.var 4),(.frz (.bin .Sub (.var 1) (.int 1))),(.var 2),(.var 3)])),.ret (.tup [(.var 5),(.var 6),(.frz (.call "_law_test" 4 [(.frz (.bin .Mod (.bin .Mult (.bin .Add (.var 4) (.int 5)) (.int 69621)) (.int 998244353))),(.frz (.bin .Sub (.var 1) (.int 1))),(.var 2),(.var 3)]))])]
def kG:List D3.S:=[.ite (.cmp .Eq (.bcall .len [(.var 1)]) (.int 0)) [.retV 1] [],.set 2 (.frz (.bin .Mod (.var 0) (.bcall .len [(.var 1)]))),.set 3 (.frz (.bin .Add (.slice (.var 1) (some (.var 2)) none) (.slice (.var 1) none (some (.var 2))))),.ret (.slice (.var 3) none (some (.bin .Sub (.bcall .len [(.var 3)]) (.bin .Mod (.bin .FloorDiv (.var 0) (.int 7)) (.int 2)))))]
def pA:List D3.S:=[.set 4 (.tup [(.str "keep"),(.tup [(.str "table"),(.ix (.var 2) (.var 0))]),(.frz (.slice (.dix (.var 3) (.ix (.var 2) (.var 0))) none (some (.bcall .len [(.var 1)]))))]),.ret (.tup [(.str "call"),(.var 4),(.var 1)])]
def pB:List D3.S:=[.set 2 .dnew,.dput 2 (.ix (.var 0) (.int 0)) (.tup [(.ix (.var 1) (.int 0)),(.ix (.var 1) (.int 1))]),.dput 2 (.ix (.var 0) (.int 1)) (.tup [(.ix (.var 1) (.int 1)),(.ix (.var 1) (.int 2))]),.dput 2 (.ix (.var 0) (.int 2)) (.tup [(.ix (.var 1) (.int 3)),(.ix (.var 1) (.int 4))]),.retV 2]
def fK:List D3.S:=[.ite (.cmp .Eq (.var 0) (.str "pick")) [.ret (.tup [(.tup [(.str "pick"),(.var 2),(.frz (.call "_law_test" 4 [(.frz (.bin .FloorDiv (.var 1) (.int 3))),(.frz (.bin .Add (.int 1) (.bin .FloorDiv (.bin .Mod (.var 1) (.int 3)) (.int 2)))),(.var 3),(.var 5)]))]),(.var 3)])] [],.ite (.cmp .Eq (.var 0) (.str "call")) [.set 6 (.frz (.bin .Mod (.var 1) (.bcall .len [(.var 4)]))),.set 3 (.frz (.slice (.bin .Add (.slice (.var 4) (some (.var 6)) none) (.slice (.var 4) none (some (.var 6)))) none (some (.bcall .len [(.var 3)])))),.ret (.tup [(.tup [(.str "call"),(.var 2),(.var 3)]),(.var 3)])] [],.set 7 (.frz (.call "_law_some" 2 [(.var 1),(.var 3)])),.ite (.orL [(.cmp .Eq (.var 0) (.str "keep")),(.cmp .Eq (.bcall .len [(.var 3)]) (.int 0))]) [.ret (.tup [(.tup [(.str "keep"),(.var 2),(.var 7)]),(.var 7)])] [],.ret (.tup [(.tup [(.str "total"),(.var 2),(.ix (.var 3) (.bin .Mod (.bin .FloorDiv (.var 1) (.int 14)) (.bcall .len [(.var 3)]))),(.var 7)]),(.var 7)])]
def i4:List D3.S:=[.set 7 (.frz (.bin .Mod (.var 1) (.int 3))),.set 8 (.frz (.bin .Mod (.bin .FloorDiv (.var 1) (.int 3)) (.int 2))),.ite (.cmp .Eq (.var 0) (.str "join")) [.set 9 (.frz (.bin .Mod (.bin .FloorDiv (.var 1) (.int 6)) (.bcall .len [(.var 4)]))),.set 10 (.frz (.slice (.bin .Add (.slice (.var 4) (some (.var 9)) none) (.slice (.var 4) none (some (.var 9)))) none (some (.int 2)))),.set 11 (.frz (.call "_law_like" 4 [(.var 7),(.var 10),(.var 5),(.var 6)])),.ite (.cmp .Eq (.var 8) (.int 1)) [.ret (.tup [(.tup [(.str "join"),(.var 11),(.var 2)]),(.frz (.bin .Add (.var 10) (.tcall .tuple [(.comp (.var 1) (.items (.var 3)) [(.cmp .NotIn (.var 1) (.var 0))] [10] (.nm 1) 1)])))])] [],.ret (.tup [(.tup [(.str "join"),(.var 2),(.var 11)]),(.frz (.bin .Add (.var 3) (.tcall .tuple [(.comp (.var 1) (.items (.var 10)) [(.cmp .NotIn (.var 1) (.var 0))] [3] (.nm 1) 1)])))])] [],.ite (.cmp .Eq (.var 0) (.str "leave")) [.ret (.tup [(.tup [(.str "leave"),(.var 2),(.frz (.call "_law_like" 4 [(.var 7),(.frz (.slice (.call "_law_some" 2 [(.var 1),(.var 3)]) none (some (.int 2)))),(.var 5),(.var 6)]))]),(.var 3)])] [],.ite (.cmp .Gt (.bcall .len [(.var 3)]) (.int 2)) [.set 3 (.frz (.slice (.var 3) none (some (.int 2)))),.set 2 (.tup [(.str "keep"),(.var 2),(.var 3)])] [],.set 11 (.frz (.call "_law_like" 4 [(.var 7),(.var 3),(.var 5),(.var 6)])),.ite (.cmp .Eq (.var 8) (.int 1)) [.ret (.tup [(.tup [(.str "pour"),(.var 11),(.var 2)]),(.var 3)])] [],.ret (.tup [(.tup [(.str "pour"),(.var 2),(.var 11)]),(.var 3)])]
def i6:List D3.S:=[.set 7 (.tup [(.str "table"),(.ix (.var 3) (.int 0))]),.set 8 (.dix (.var 4) (.ix (.var 3) (.int 0))),.set 9 (.int 0),.set 10 (.int 0),.for (.items (.var 0)) (.nm 11) dG,.ret (.tup [(.var 7),(.var 8),(.var 9)])]
def d7:List D3.S:=[.set 2 (.ix (.var 0) (.int 0)),.ite (.cmp .Eq (.var 2) (.str "table")) [.ret (.dix (.var 1) (.ix (.var 0) (.int 1)))] [],.ite (.cmp .In (.var 2) (.tup [(.str "keep"),(.str "call"),(.str "total")])) [.ret (.ix (.var 0) (.neg (.int 1)))] [],.set 3 (.frz (.call "_law_columns" 2 [(.ix (.var 0) (.int 1)),(.var 1)])),.ite (.cmp .Eq (.var 2) (.str "join")) [.ret (.bin .Add (.var 3) (.tcall .tuple [(.comp (.var 1) (.items (.call "_law_columns" 2 [(.ix (.var 0) (.int 2)),(.var 1)])) [(.cmp .NotIn (.var 1) (.var 0))] [3] (.nm 1) 1)]))] [],.retV 3]
def iA:List D3.S:=[.ite (.cmp .Eq (.ix (.var 0) (.int 0)) (.str "of")) [.ret (.lst [(.ix (.var 0) (.int 1))])] [],.ite (.cmp .Eq (.ix (.var 0) (.int 0)) (.str "just")) [.ret (.lst [])] [],.set 1 (.lst []),.for (.items (.slice (.var 0) (some (.int 1)) none)) (.nm 2) iW,.retV 1]
def pC:List D3.S:=[.set 2 (.ix (.var 0) (.int 2)),.ite (.orL [(.cmp .Eq (.ix (.var 2) (.int 0)) (.str "both")),(.andL [(.cmp .Eq (.ix (.var 2) (.int 0)) (.str "not")),(.cmp .In (.ix (.ix (.var 2) (.int 1)) (.int 0)) (.tup [(.str "not"),(.str "either")]))])]) [.ret (.bl false)] [],.set 3 (.ix (.var 0) (.int 1)),.whl 1000000 (.cmp .Eq (.ix (.var 3) (.int 0)) (.str "pick")) l8,.ite (.cmp .NotEq (.ix (.var 3) (.int 0)) (.str "join")) [.ret (.cmp .Eq (.ix (.var 3) (.int 0)) (.str "table"))] [],.for (.items (.slice (.var 3) (some (.int 1)) none)) (.nm 4) oO,.ret (.bl true)]
def fL:List D3.S:=[.ite (.cmp .Eq (.ix (.var 0) (.int 0)) (.str "table")) [.ret (.bl true)] [],.ite (.andL [(.cmp .Eq (.ix (.var 0) (.int 0)) (.str "pick")),(.not (.tru (.call "_law_stays" 2 [(.var 0),(.var 1)])))]) [.ret (.bl false)] [],.ite (.andL [(.cmp .In (.ix (.var 0) (.int 0)) (.tup [(.str "join"),(.str "pour"),(.str "leave")])),(.not (.tru (.call "_law_settled" 2 [(.ix (.var 0) (.int 2)),(.var 1)])))]) [.ret (.bl false)] [],.ret (.call "_law_settled" 2 [(.ix (.var 0) (.int 1)),(.var 1)])]
def bD:List D3.S:=[.set 1 (.frz (.tcall .tuple [(.call "_law_names" 2 [(.frz (.call "_law_cell_at" 2 [(.var 0),(.int 0)])),(.int 7)])])),.set 2 (.frz (.call "_law_names" 2 [(.frz (.call "_law_cell_at" 2 [(.var 0),(.int 1)])),(.int 3)])),.set 3 (.frz (.call "_law_values" 1 [(.frz (.call "_law_cell_at" 2 [(.var 0),(.int 2)]))])),.set 4 (.frz (.call "_law_shapes" 2 [(.var 2),(.var 1)])),.set 5 (.frz (.lst [(.str "pick"),(.str "keep"),(.str "pick"),(.str "call"),(.str "join"),(.str "pick"),(.str "pour"),(.str "total"),(.str "leave"),(.str "call")])),.asg (.tp [(.nm 6),(.nm 7),(.nm 8)]) (.call "_law_grown" 7 [(.frz (.slice (.var 0) (some (.int 3)) (some (.int 12)))),(.var 5),(.int 2),(.var 2),(.var 4),(.var 1),(.var 3)]),.set 9 (.frz (.tcall .dict [(.var 4)])),.set 10 (.call "steps" 2 [(.var 6),(.var 9)]),.ite (.orL [(.not (.tru (.bcall .isinstance [(.var 10),(.ty .list)]))),(.cmp .Eq (.bcall .len [(.var 10)]) (.int 0)),(.cmp .NotEq (.ix (.var 10) (.int 0)) (.var 6))]) [.ret (.bl false)] [],.for (.rng2 (.int 1) (.bcall .len [(.var 10)])) (.nm 11) iX,.set 12 (.ix (.var 10) (.neg (.int 1))),.ite (.orL [(.cmp .IsNot (.call "step" 2 [(.var 12),(.var 9)]) .non),(.not (.tru (.call "_law_settled" 2 [(.var 12),(.var 4)])))]) [.ret (.bl false)] [],.set 13 (.frz (.tcall .list [(.var 10)])),.app 10 (.var 6),.ret (.andL [(.cmp .Eq (.call "steps" 2 [(.var 12),(.var 9)]) (.lst [(.var 12)])),(.cmp .Eq (.call "steps" 2 [(.var 6),(.var 9)]) (.var 13)),(.deq false (.var 9) (.var 4))])]
def zG:FD:=⟨["columns", "at"],["columns", "at"],oP⟩
def zH:FD:=⟨["test"],["test", "word"],gD⟩
def zI:FD:=⟨["test", "names"],["test", "names", "word"],fJ⟩
def zJ:FD:=⟨["part", "names"],["part", "names"],l9⟩
def zK:FD:=⟨["asking"],["asking"],hV⟩
def zL:FD:=⟨["asking", "within"],["asking", "within"],oQ⟩
def zM:FD:=⟨["column", "columns"],["column", "columns"],oR⟩
def zN:FD:=⟨["asking", "within"],["asking", "within", "column"],oS⟩
def zO:FD:=⟨["columns", "within"],["columns", "within", "at", "column"],oT⟩
def zP:FD:=⟨["asking", "within"],["asking", "within"],oU⟩
def zQ:FD:=⟨["column", "columns", "within"],["column", "columns", "within"],oV⟩
def zR:FD:=⟨["asking", "within"],["asking", "within"],oW⟩
def zS:FD:=⟨["asking", "within"],["asking", "within", "columns", "at"],iY⟩
def zT:FD:=⟨["asking", "within"],["asking", "within", "one", "other"],mD⟩
def zU:FD:=⟨["asking", "within"],["asking", "within", "one", "other"],oX⟩
def zV:FD:=⟨["asking", "within"],["asking", "within", "one", "other", "column"],oY⟩
def zW:FD:=⟨["asking", "shapes"],["asking", "shapes", "within", "deed"],gE⟩
def zX:FD:=⟨["name", "shapes"],["name", "shapes"],oZ⟩
def zY:FD:=⟨["asking", "shapes"],["asking", "shapes"],o7⟩
def zZ:FD:=⟨["asking", "shapes"],["asking", "shapes", "found", "behind"],iZ⟩
def z9:FD:=⟨["asking", "shapes"],["asking", "shapes", "behind", "within", "at", "one"],d5⟩
def aAA:FD:=⟨["asking", "test", "shapes"],["asking", "test", "shapes"],eG⟩
def aAB:FD:=⟨["asking", "test", "shapes"],["asking", "test", "shapes", "word", "within", "names"],bO⟩
def aAC:FD:=⟨["asking", "test", "shapes"],["asking", "test", "shapes", "one", "other"],cT⟩
def aAD:FD:=⟨["columns", "test"],["columns", "test"],o8⟩
def aAE:FD:=⟨["_law_script", "_law_k"],["_law_script", "_law_k"],mH⟩
def aAF:FD:=⟨["_law_cell", "_law_prime"],["_law_cell", "_law_prime", "_law_number"],o9⟩
def aAG:FD:=⟨["_law_cell", "_law_many"],["_law_cell", "_law_many", "_law_size", "_law_at"],hX⟩
def aAH:FD:=⟨["_law_cell"],["_law_cell", "_law_far"],hZ⟩
def aAI:FD:=⟨["_law_cell", "_law_columns_here", "_law_values_here"],["_law_cell", "_law_columns_here", "_law_values_here"],i3⟩
def aAJ:FD:=⟨["_law_cell", "_law_deep", "_law_columns_here", "_law_values_here"],["_law_cell", "_law_deep", "_law_columns_here", "_law_values_here", "_law_rest", "_law_word", "_law_one"],bL⟩
def aAK:FD:=⟨["_law_number", "_law_columns_here"],["_law_number", "_law_columns_here", "_law_at", "_law_some_here"],kG⟩
def aAL:FD:=⟨["_law_at", "_law_columns_here", "_law_tables", "_law_shapes_here"],["_law_at", "_law_columns_here", "_law_tables", "_law_shapes_here", "_law_within"],pA⟩
def aAM:FD:=⟨["_law_tables", "_law_pool"],["_law_tables", "_law_pool", "_law_shapes_here"],pB⟩
def aAN:FD:=⟨["_law_word", "_law_number", "_law_asking", "_law_columns_here", "_law_pool", "_law_values_here"],["_law_word", "_law_number", "_law_asking", "_law_columns_here", "_law_pool", "_law_values_here", "_law_at", "_law_some_here"],fK⟩
def aAO:FD:=⟨["_law_word", "_law_number", "_law_asking", "_law_columns_here", "_law_pool", "_law_tables", "_law_shapes_here"],["_law_word", "_law_number", "_law_asking", "_law_columns_here", "_law_pool", "_law_tables", "_law_shapes_here", "_law_at", "_law_turn", "_law_begin", "_law_added", "_law_other"],i4⟩
def aAP:FD:=⟨["_law_cells", "_law_words", "_law_most", "_law_tables", "_law_shapes_here", "_law_pool", "_law_values_here"],["_law_cells", "_law_words", "_law_most", "_law_tables", "_law_shapes_here", "_law_pool", "_law_values_here", "_law_asking", "_law_columns_here", "_law_many", "_law_picks", "_law_cell", "_law_number", "_law_word"],i6⟩
def aAQ:FD:=⟨["_law_asking", "_law_shapes_here"],["_law_asking", "_law_shapes_here", "_law_word", "_law_columns_here"],d7⟩
def aAR:FD:=⟨["_law_test_here"],["_law_test_here", "_law_found", "_law_part_here"],iA⟩
def aAS:FD:=⟨["_law_asking", "_law_shapes_here"],["_law_asking", "_law_shapes_here", "_law_test_here", "_law_below", "_law_side", "_law_columns_here"],pC⟩
def aAT:FD:=⟨["_law_asking", "_law_shapes_here"],["_law_asking", "_law_shapes_here"],fL⟩
def sO:FD:=⟨["_law_script"],["_law_script", "_law_pool", "_law_tables", "_law_values_here", "_law_shapes_here", "_law_words", "_law_asking", "_law_columns_here", "_law_many", "_law_handed", "_law_found", "_law_k", "_law_last", "_law_copied"],bD⟩
def T:List (Str×FD):=[(("refuse_twice" : Str),zG),(("columns_in" : Str),zH),(("called" : Str),zI),(("called_part" : Str),zJ),(("askings_within" : Str),zK),(("rebuilt" : Str),zL),(("refuse_missing" : Str),zM),(("columns_of_pick" : Str),zN),(("kept" : Str),zO),(("columns_of_keep" : Str),zP),(("totalled" : Str),zQ),(("columns_of_total" : Str),zR),(("columns_of_call" : Str),zS),(("columns_of_join" : Str),zT),(("columns_of_pour" : Str),zU),(("columns_of_leave" : Str),zV),(("columns_of" : Str),zW),(("columns_of_table" : Str),zX),(("step" : Str),zY),(("steps" : Str),zZ),(("stepped" : Str),z9),(("behind_pick" : Str),aAA),(("sunk" : Str),aAB),(("sunk_into_join" : Str),aAC),(("has_all" : Str),aAD),(("_law_cell_at" : Str),aAE),(("_law_mixed" : Str),aAF),(("_law_names" : Str),aAG),(("_law_values" : Str),aAH),(("_law_part" : Str),aAI),(("_law_test" : Str),aAJ),(("_law_some" : Str),aAK),(("_law_like" : Str),aAL),(("_law_shapes" : Str),aAM),(("_law_narrowed" : Str),aAN),(("_law_widened" : Str),aAO),(("_law_grown" : Str),aAP),(("_law_columns" : Str),aAQ),(("_law_asked" : Str),aAR),(("_law_stays" : Str),aAS),(("_law_settled" : Str),aAT),(("law" : Str),sO)]
def TT:TB:=⟨T,[],[],[],[]⟩
def GG:MG:=⟨[(("DEEDS" : Str),(GV.con (.t [("pick", "columns_of_pick"),("keep", "columns_of_keep"),("call", "columns_of_call"),("join", "columns_of_join"),("pour", "columns_of_pour"),("total", "columns_of_total"),("leave", "columns_of_leave")]))),(("NoColumn" : Str),(GV.cls)),(("NoTable" : Str),(GV.cls)),(("Twice" : Str),(GV.cls)),(("Unlike" : Str),(GV.cls)),(("_law_asked" : Str),(GV.fn 1)),(("_law_cell_at" : Str),(GV.fn 2)),(("_law_columns" : Str),(GV.fn 2)),(("_law_grown" : Str),(GV.fn 7)),(("_law_like" : Str),(GV.fn 4)),(("_law_mixed" : Str),(GV.fn 2)),(("_law_names" : Str),(GV.fn 2)),(("_law_narrowed" : Str),(GV.fn 6)),(("_law_part" : Str),(GV.fn 3)),(("_law_settled" : Str),(GV.fn 2)),(("_law_shapes" : Str),(GV.fn 2)),(("_law_some" : Str),(GV.fn 2)),(("_law_stays" : Str),(GV.fn 2)),(("_law_test" : Str),(GV.fn 4)),(("_law_values" : Str),(GV.fn 1)),(("_law_widened" : Str),(GV.fn 7)),(("all" : Str),(GV.no)),(("askings_within" : Str),(GV.fn 1)),(("behind_pick" : Str),(GV.fn 3)),(("called" : Str),(GV.fn 2)),(("called_part" : Str),(GV.fn 2)),(("columns_in" : Str),(GV.fn 1)),(("columns_of" : Str),(GV.fn 2)),(("columns_of_call" : Str),(GV.fn 2)),(("columns_of_join" : Str),(GV.fn 2)),(("columns_of_keep" : Str),(GV.fn 2)),(("columns_of_leave" : Str),(GV.fn 2)),(("columns_of_pick" : Str),(GV.fn 2)),(("columns_of_pour" : Str),(GV.fn 2)),(("columns_of_table" : Str),(GV.fn 2)),(("columns_of_total" : Str),(GV.fn 2)),(("dict" : Str),(GV.no)),(("enumerate" : Str),(GV.no)),(("has_all" : Str),(GV.fn 2)),(("int" : Str),(GV.no)),(("isinstance" : Str),(GV.no)),(("kept" : Str),(GV.fn 2)),(("len" : Str),(GV.no)),(("list" : Str),(GV.no)),(("range" : Str),(GV.no)),(("rebuilt" : Str),(GV.fn 2)),(("refuse_missing" : Str),(GV.fn 2)),(("refuse_twice" : Str),(GV.fn 2)),(("step" : Str),(GV.fn 2)),(("stepped" : Str),(GV.fn 2)),(("steps" : Str),(GV.fn 2)),(("sunk" : Str),(GV.fn 3)),(("sunk_into_join" : Str),(GV.fn 3)),(("totalled" : Str),(GV.fn 3)),(("tuple" : Str),(GV.no)),(("zip" : Str),(GV.no))],[],[],[],["Twice", "NoColumn", "Unlike", "NoTable"],[]⟩
def top(i:Nat):Stmt:=PySem.Challenge.pw_whencewise_k62_settled.main.body.getD i (.Pass ⟨0,0,0,0⟩)
abbrev sP:Stmt:=top 53
theorem aMR(k:Nat):(WT TT (k+1)).Φ "refuse_twice" = phi 2 2 (evB (WT TT k) oP):=aY (d:=zG) rfl
theorem sQ(k:Nat):(WT TT (k+1)).Φ "columns_in" = phi 1 2 (evB (WT TT k) gD):=aY (d:=zH) rfl
theorem sR(k:Nat):(WT TT (k+1)).Φ "called" = phi 2 3 (evB (WT TT k) fJ):=aY (d:=zI) rfl
theorem aMS(k:Nat):(WT TT (k+1)).Φ "called_part" = phi 2 2 (evB (WT TT k) l9):=aY (d:=zJ) rfl
theorem sS(k:Nat):(WT TT (k+1)).Φ "askings_within" = phi 1 1 (evB (WT TT k) hV):=aY (d:=zK) rfl
theorem aMT(k:Nat):(WT TT (k+1)).Φ "rebuilt" = phi 2 2 (evB (WT TT k) oQ):=aY (d:=zL) rfl
theorem aMU(k:Nat):(WT TT (k+1)).Φ "refuse_missing" = phi 2 2 (evB (WT TT k) oR):=aY (d:=zM) rfl
theorem aMV(k:Nat):(WT TT (k+1)).Φ "columns_of_pick" = phi 2 3 (evB (WT TT k) oS):=aY (d:=zN) rfl
theorem aMW(k:Nat):(WT TT (k+1)).Φ "kept" = phi 2 4 (evB (WT TT k) oT):=aY (d:=zO) rfl
theorem aMX(k:Nat):(WT TT (k+1)).Φ "columns_of_keep" = phi 2 2 (evB (WT TT k) oU):=aY (d:=zP) rfl
theorem aMY(k:Nat):(WT TT (k+1)).Φ "totalled" = phi 3 3 (evB (WT TT k) oV):=aY (d:=zQ) rfl
theorem aMZ(k:Nat):(WT TT (k+1)).Φ "columns_of_total" = phi 2 2 (evB (WT TT k) oW):=aY (d:=zR) rfl
theorem aM0(k:Nat):(WT TT (k+1)).Φ "columns_of_call" = phi 2 4 (evB (WT TT k) iY):=aY (d:=zS) rfl
theorem aM1(k:Nat):(WT TT (k+1)).Φ "columns_of_join" = phi 2 4 (evB (WT TT k) mD):=aY (d:=zT) rfl
theorem aM2(k:Nat):(WT TT (k+1)).Φ "columns_of_pour" = phi 2 4 (evB (WT TT k) oX):=aY (d:=zU) rfl
theorem aM3(k:Nat):(WT TT (k+1)).Φ "columns_of_leave" = phi 2 5 (evB (WT TT k) oY):=aY (d:=zV) rfl
theorem aAU(k:Nat):(WT TT (k+1)).Φ "columns_of" = phi 2 4 (evB (WT TT k) gE):=aY (d:=zW) rfl
theorem aM4(k:Nat):(WT TT (k+1)).Φ "columns_of_table" = phi 2 2 (evB (WT TT k) oZ):=aY (d:=zX) rfl
theorem aM5(k:Nat):(WT TT (k+1)).Φ "step" = phi 2 2 (evB (WT TT k) o7):=aY (d:=zY) rfl
theorem aM6(k:Nat):(WT TT (k+1)).Φ "steps" = phi 2 4 (evB (WT TT k) iZ):=aY (d:=zZ) rfl
theorem pD(k:Nat):(WT TT (k+1)).Φ "stepped" = phi 2 6 (evB (WT TT k) d5):=aY (d:=z9) rfl
theorem pE(k:Nat):(WT TT (k+1)).Φ "behind_pick" = phi 3 3 (evB (WT TT k) eG):=aY (d:=aAA) rfl
theorem iB(k:Nat):(WT TT (k+1)).Φ "sunk" = phi 3 6 (evB (WT TT k) bO):=aY (d:=aAB) rfl
theorem aAV(k:Nat):(WT TT (k+1)).Φ "sunk_into_join" = phi 3 5 (evB (WT TT k) cT):=aY (d:=aAC) rfl
theorem aM7(k:Nat):(WT TT (k+1)).Φ "has_all" = phi 2 2 (evB (WT TT k) o8):=aY (d:=aAD) rfl
theorem aM8(k:Nat):(WT TT (k+1)).Φ "_law_cell_at" = phi 2 2 (evB (WT TT k) mH):=aY (d:=aAE) rfl
theorem aM9(k:Nat):(WT TT (k+1)).Φ "_law_mixed" = phi 2 3 (evB (WT TT k) o9):=aY (d:=aAF) rfl
theorem aNA(k:Nat):(WT TT (k+1)).Φ "_law_names" = phi 2 4 (evB (WT TT k) hX):=aY (d:=aAG) rfl
theorem aNB(k:Nat):(WT TT (k+1)).Φ "_law_values" = phi 1 2 (evB (WT TT k) hZ):=aY (d:=aAH) rfl
theorem aAW(k:Nat):(WT TT (k+1)).Φ "_law_part" = phi 3 3 (evB (WT TT k) i3):=aY (d:=aAI) rfl
theorem mJ(k:Nat):(WT TT (k+1)).Φ "_law_test" = phi 4 7 (evB (WT TT k) bL):=aY (d:=aAJ) rfl
theorem aNC(k:Nat):(WT TT (k+1)).Φ "_law_some" = phi 2 4 (evB (WT TT k) kG):=aY (d:=aAK) rfl
theorem aND(k:Nat):(WT TT (k+1)).Φ "_law_like" = phi 4 5 (evB (WT TT k) pA):=aY (d:=aAL) rfl
theorem aNE(k:Nat):(WT TT (k+1)).Φ "_law_shapes" = phi 2 3 (evB (WT TT k) pB):=aY (d:=aAM) rfl
theorem aNF(k:Nat):(WT TT (k+1)).Φ "_law_narrowed" = phi 6 8 (evB (WT TT k) fK):=aY (d:=aAN) rfl
theorem aNG(k:Nat):(WT TT (k+1)).Φ "_law_widened" = phi 7 12 (evB (WT TT k) i4):=aY (d:=aAO) rfl
theorem aNH(k:Nat):(WT TT (k+1)).Φ "_law_grown" = phi 7 14 (evB (WT TT k) i6):=aY (d:=aAP) rfl
theorem pF(k:Nat):(WT TT (k+1)).Φ "_law_columns" = phi 2 4 (evB (WT TT k) d7):=aY (d:=aAQ) rfl
theorem sU(k:Nat):(WT TT (k+1)).Φ "_law_asked" = phi 1 3 (evB (WT TT k) iA):=aY (d:=aAR) rfl
theorem aNI(k:Nat):(WT TT (k+1)).Φ "_law_stays" = phi 2 6 (evB (WT TT k) pC):=aY (d:=aAS) rfl
theorem sV(k:Nat):(WT TT (k+1)).Φ "_law_settled" = phi 2 2 (evB (WT TT k) fL):=aY (d:=aAT) rfl
theorem u_law(k:Nat):(WT TT (k+1)).Φ "law" = phi 1 14 (evB (WT TT k) bD):=aY (d:=sO) rfl
theorem d8{ds:List D}{m m':Md}{i:Int}{d:D}(h:atI ds i=some d):op2 ixD (.ok m (.lst ds)) (.ok m' (.int i))=.ok .fz d:=bN (by show (atI ds i).map _=_;rw[h];rfl)
theorem cD{ds:List D}{m m':Md}{i:Int}{d:D}(h:atI ds i=some d):op2 ixD (.ok m (.tup ds)) (.ok m' (.int i))=.ok .fz d:=bN (by show (atI ds i).map _=_;rw[h];rfl)
theorem ix_s{z:Str}{m m':Md}{i:Int}{c:Nat}(h:atI z.cps.toList i=some c):op2 ixD (.ok m (.str z)) (.ok m' (.int i))=.ok .fz (.str ⟨#[c]⟩):=bN (by show (atI z.cps.toList i).map _=_;rw[h];rfl)
theorem aAX{α:Type}(xs:List α)(v:Int)(n:Int)(hn:n=xs.length)(h:0<n):∃ c,c∈xs/\atI xs (v % n)=some c:=by
 have h0:=Int.emod_nonneg v (show n≠0 by omega)
 have h1:=Int.emod_lt_of_pos v h;obtain ⟨j,hj⟩:=Int.eq_ofNat_of_zero_le h0;have hl:j<xs.length:=by omega
 exact ⟨xs[j],aR2 hl,by rw[hj];exact bF (aR1 hl)⟩
def ce(ns:List Int)(i:Int):Int:=if 0<=i then (ns[i.toNat]?).getD 0 else 0
theorem cell(k:Nat)(ns:List Int){i:Int}(h0:0<=i):(WT TT (k+1)).Φ "_law_cell_at" [.lst (ns.map .int),.int i]=.ok .fz (.int (ce ns i)):=by
 rw[aM8];refine aK rfl ?_;show evB _ mH [some (false,.lst (ns.map .int)),some (false,.int i)]=_;obtain ⟨j,rfl⟩:=Int.eq_ofNat_of_zero_le h0;unfold ce;rw[if_pos h0];by_cases h:j<ns.length
 . have hx:op2 ixD (.ok .fz (.lst (ns.map .int))) (.ok .fz (.int j))=.ok .fz (.int ns[j]):=d8 (bF (by rw[aQN,aR1 h];rfl))
   have h':((j:Int)<(ns.length:Int)):=by omega
   simp[mH,h',hx,h]
 . have h':¬ ((j:Int)<(ns.length:Int)):=by omega
   simp[mH,h',List.getElem?_eq_none (Nat.le_of_not_lt h)]
theorem sW(k:Nat)(ns:List Int){i:Int}(h0:0<=i):aF 2 ((WT TT (k+1)).Φ "_law_cell_at") (.ok [(.fz,.lst (ns.map .int)),(.fz,.int i)])=.ok .fz (.int (ce ns i)):=aR (cell k ns h0)
theorem sX{n:Int}(h0:0<=n)(h1:n<=1000){m:Md}:iM (.ok [(m,.int n)])=.ok .fz (.lst (bM 0 n)):=by unfold iM;rw[aT.thn_ok];dsimp only;rw[if_pos];simp only[aQ8,aRL];omega
theorem mem_range{d:D}{n:Int}(h:d∈bM 0 n):∃ i:Nat,(i:Int)<n/\d=.int i:=by simp only[bM,aTB,aPM] at h;obtain ⟨i,hi,rfl⟩:=h;exact ⟨i,by omega,by simp⟩
inductive Pt where | of (k:Str) | just (v:D)
inductive Ts where | atom (s:Bool) (p q:Pt) | no (t:Ts) | two (e:Bool) (a b:Ts)
def ptD(f:List Str):Pt->D
 | .of k=>.tup [.str "of", .str k]
 | .just v=>.tup [.str "just", v]
def tsD(f:List Str):Ts->D
 | .atom s p q=>.tup [.str (if s then "same" else "under"),ptD f p,ptD f q]
 | .no t=>.tup [.str "not", tsD f t]
 | .two e a b=>.tup [.str (if e then "either" else "both"),tsD f a,tsD f b]
def Ts.dep:Ts->Nat
 | .atom ..=>0
 | .no t=>t.dep+1
 | .two _ a b=>max a.dep b.dep+1
theorem i0{a b:D}{m m':Md}:op2 ixD (.ok m (.tup [a,b])) (.ok m' (.int 0))=.ok .fz a:=cD (bF (j:=0) rfl)
theorem i1{a b:D}{m m':Md}:op2 ixD (.ok m (.tup [a,b])) (.ok m' (.int 1))=.ok .fz b:=cD (bF (j:=1) rfl)
theorem j0{a b c:D}{m m':Md}:op2 ixD (.ok m (.tup [a,b,c])) (.ok m' (.int 0))=.ok .fz a:=cD (bF (j:=0) rfl)
theorem j1{a b c:D}{m m':Md}:op2 ixD (.ok m (.tup [a,b,c])) (.ok m' (.int 1))=.ok .fz b:=cD (bF (j:=1) rfl)
theorem j2{a b c:D}{m m':Md}:op2 ixD (.ok m (.tup [a,b,c])) (.ok m' (.int 2))=.ok .fz c:=cD (bF (j:=2) rfl)
theorem wd{a b:String}(h:(Str.ofString a==Str.ofString b)=false:=by decide +kernel):(Str.ofString a==Str.ofString b)=false:=h
def cl(f:List Str):Pt->List D
 | .of k=>[.str k]
 | .just _=>[]
def cols(f:List Str):Ts->List D
 | .atom _ p q=>cl f p++cl f q
 | .no t=>cols f t
 | .two _ a b=>cols f a++cols f b
def kH(w:Str):Bool:=w==Str.ofString "both" || w==Str.ofString "either"
theorem iC{w:Str}{m m':Md}:op2 (bB .In) (.ok m (.str w)) (.ok m' (.tup [.str (Str.ofString "both"),.str (Str.ofString "either")]))=.ok .fz (.bl (kH w)):=by refine bN ?_;show some (Md.fz,D.bl (eqD (.str (Str.ofString "both")) (.str w)||(eqD (.str (Str.ofString "either")) (.str w)||false)))=_;congr 3;simp only[eqD,kH,Bool.or_false];rw[aRY];simp only[aRN,aRW];exact ⟨λh=>h.imp Eq.symm Eq.symm,λh=>h.imp Eq.symm Eq.symm⟩
theorem be:dW (.ok [(.fz,.str (Str.ofString "both")),(.fz,.str (Str.ofString "either"))])=.ok .fz (.tup [.str (Str.ofString "both"),.str (Str.ofString "either")]):=by rfl
theorem w1:kH (Str.ofString "same")=false:=by decide +kernel
theorem w2:kH (Str.ofString "under")=false:=by decide +kernel
theorem w3:kH (Str.ofString "both")=true:=by decide +kernel
theorem w4:kH (Str.ofString "either")=true:=by decide +kernel
theorem t2{a b:D}:dW (.ok [(.fz,a),(.fz,b)])=.ok .fz (.tup [a,b]):=by rfl
theorem t3{a b c:D}:dW (.ok [(.fz,a),(.fz,b),(.fz,c)])=.ok .fz (.tup [a,b,c]):=by rfl
theorem i7{n:Nat}{Φ:List D->Res}{xs:List (Md×D)}{ds:List D}{d:D}(hl:ds.length=n)(ha:cQ xs=some ds)(h:Φ ds=.ok .fr d):aF n Φ (.ok xs)=.ok .fr d:=by
 show (match cQ xs with | some ds=>if ds.length=n then (match Φ ds with | .ok .bo _=>Res.stuck | r=>r) else .stuck | none=>.stuck)=_
 rw[ha];show (if ds.length=n then (match Φ ds with | .ok .bo _=>Res.stuck | r=>r) else .stuck)=_
 rw[if_pos hl,h]
theorem fM{Φ:List D->Res}{a d:D}(h:Φ [a]=.ok .fr d):aF 1 Φ (.ok [(.fz,a)])=.ok .fr d:=i7 (ds:=[a]) rfl rfl h
theorem cn_no(k:Nat){f:List Str}{t:Ts}{c:List D}(h:(WT TT k).Φ "columns_in" [tsD f t]=.ok .fr (.lst c)):(WT TT (k+1)).Φ "columns_in" [tsD f (.no t)]=.ok .fr (.lst c):=by have c1:aF 1 ((WT TT k).Φ "columns_in") (.ok [(.fz,tsD f t)])=.ok .fr (.lst c):=fM h;rw[sQ];refine aK rfl ?_;show evB (WT TT k) gD [some (false,.tup [.str "not", tsD f t]),none]=_;generalize tsD f t=d at *;simp[gD,i0,i1,c1]
theorem aNJ(k:Nat){f:List Str}{e:Bool}{t u:Ts}{b c:List D}(h:(WT TT k).Φ "columns_in" [tsD f t]=.ok .fr (.lst b))(h':(WT TT k).Φ "columns_in" [tsD f u]=.ok .fr (.lst c))(hs:b.length+c.length<=sizeLine):(WT TT (k+1)).Φ "columns_in" [tsD f (.two e t u)]=.ok .fr (.lst (b++c)):=by
 have c1:aF 1 ((WT TT k).Φ "columns_in") (.ok [(.fz,tsD f t)])=.ok .fr (.lst b):=fM h;have c2:aF 1 ((WT TT k).Φ "columns_in") (.ok [(.fz,tsD f u)])=.ok .fr (.lst c):=fM h';rw[sQ];refine aK rfl ?_;show evB (WT TT k) gD [some (false,.tup [.str (if e then "either" else "both"),tsD f t,tsD f u]),none]=_;generalize tsD f t=d at *;generalize tsD f u=d' at *;cases e with
 | true=>simp[gD,j0,j1,j2,wd (a := "either") (b := "not"),be,iC,w4,c1,c2,yR hs]
 | false=>simp[gD,j0,j1,j2,wd (a := "both") (b := "not"),be,iC,w3,c1,c2,yR hs]
theorem cut1{W:WD}{ρ:Rho}{a b c:D}{m:Md}:slP (.ok m (.tup [a,b,c])) (some λρ=>evE W (.int 1) ρ) none ρ=.ok .fz (.tup [b,c]):=by simp only[slP,Res.thn_ok,cP,bS];rfl
def tst(W:WD):Rho->Res:=λρ=>evF W [.cmp .Eq (.ix (.var 0) (.int 0)) (.str "of")] ρ
def elt(W:WD):Rho->Res:=λρ=>evE W (.ix (.var 0) (.int 1)) ρ
theorem aAY{W:WD}{f:List Str}(p:Pt){ds ys:List D}(h:bH (aI (.nm 0)) (tst W) (elt W) [none] ds=some ys):bH (aI (.nm 0)) (tst W) (elt W) [none] (ptD f p::ds)=some (cl f p++ys):=by
 have k:aI (.nm 0) (ptD f p) [none]=some [some (false,ptD f p)]:=rfl;rw[bH,k];dsimp only;cases p with
 | of j =>
  have t:tst W [some (false,ptD f (.of j))]=.ok .fz (.bl true):=by simp[tst,ptD,i0]
  have e:elt W [some (false,ptD f (.of j))]=.ok .fz (.str j):=by simp[elt,ptD,i1]
  rw[t,e,h];rfl
 | just v =>
  have t:tst W [some (false,ptD f (.just v))]=.ok .fz (.bl false):=by simp[tst,ptD,i0,wd (a := "just") (b := "of")]
  rw[t,h];rfl
theorem aNK{W:WD}{ρ:Rho}{f:List Str}(p q:Pt){m:Md}:bX (.ok m (.lst [ptD f p,ptD f q])) ρ [] 1 (aI (.nm 0)) (tst W) (elt W)=.ok .fr (.lst (cl f p++cl f q)):=by
 have h0:bH (aI (.nm 0)) (tst W) (elt W) [none] []=some []:=rfl;have h:=aAY (W:=W) (f:=f) p (aAY (W:=W) (f:=f) q h0);rw[aQF] at h;show (if [ptD f p,ptD f q].length<sizeLine then (match bH (aI (.nm 0)) (tst W) (elt W) [none] [ptD f p,ptD f q] with | some ys=>Res.ok .fr (.lst ys) | none=>.stuck) else .stuck)=_
 rw[h,if_pos (show [ptD f p,ptD f q].length<sizeLine from (by decide +kernel:2<sizeLine))]
theorem last{W:WD}{f:List Str}{w:Str}{p q:Pt}{x:Option (Bool×D)}:evE W (.comp (.ix (.var 0) (.int 1)) (.items (.slice (.var 0) (some (.int 1)) none)) [(.cmp .Eq (.ix (.var 0) (.int 0)) (.str "of"))] [] (.nm 0) 1) [some (false,.tup [.str w,ptD f p,ptD f q]),x]=.ok .fr (.lst (cl f p++cl f q)):=by
 rw[f8,j9,hU];have e:fU (bG (slP (evE W (.var 0) [some (false,.tup [.str w,ptD f p,ptD f q]),x]) (evO W (some (.int 1))) (evO W none) [some (false,.tup [.str w,ptD f p,ptD f q]),x]))=.ok .fz (.lst [ptD f p,ptD f q]):=by
  have:=cut1 (W:=W) (ρ:=[some (false,.tup [.str w,ptD f p,ptD f q]),x]) (a:=.str w) (b:=ptD f p) (c:=ptD f q) (m:=.fz);simp only[evO];rw[show evE W (.var 0) [some (false,.tup [.str w,ptD f p,ptD f q]),x]=.ok .fz (.tup [.str w,ptD f p,ptD f q]) by simp]
  rw[this];rfl
 rw[e];exact aNK p q
theorem aNL(k:Nat){f:List Str}{s:Bool}{p q:Pt}:(WT TT (k+1)).Φ "columns_in" [tsD f (.atom s p q)]=.ok .fr (.lst (cl f p++cl f q)):=by
 rw[sQ];refine aK rfl ?_;show evB (WT TT k) gD [some (false,.tup [.str (if s then "same" else "under"),ptD f p,ptD f q]),none]=_;have l:=λw x=>last (W:=WT TT k) (f:=f) (w:=w) (p:=p) (q:=q) (x:=x);unfold gD;generalize E.comp (.ix (.var 0) (.int 1)) (.items (.slice (.var 0) (some (.int 1)) none)) [(.cmp .Eq (.ix (.var 0) (.int 0)) (.str "of"))] [] (.nm 0) 1=z at *;cases s with
 | true=>simp[j0,wd (a := "same") (b := "not"),be,iC,w1,l]
 | false=>simp[j0,wd (a := "under") (b := "not"),be,iC,w2,l]
theorem mx1(k n m:Nat):∃ j,k+max n m=j+n:=⟨k+max n m-n,by omega⟩
theorem mx2(k n m:Nat):∃ j,k+max n m=j+m:=⟨k+max n m-m,by omega⟩
theorem pG{f:List Str}:∀ (t:Ts) (k:Nat),(cols f t).length<=sizeLine->(WT TT (k+t.dep+1)).Φ "columns_in" [tsD f t]=.ok .fr (.lst (cols f t))
 | .atom s p q,k,_=>aNL k
 | .no t,k,hl=>cn_no (k+t.dep+1) (pG t k hl)
 | .two e a b,k,hl=>by
  have el:(cols f a).length+(cols f b).length<=sizeLine:=by rw[<- aQQ];exact hl
  have q1:(WT TT (k+max a.dep b.dep+1)).Φ "columns_in" [tsD f a]=.ok .fr (.lst (cols f a)):=by obtain ⟨j,e⟩:=mx1 k a.dep b.dep;rw[e];exact pG a j (aPN (aS5 _ _) el)
  have q2:(WT TT (k+max a.dep b.dep+1)).Φ "columns_in" [tsD f b]=.ok .fr (.lst (cols f b)):=by obtain ⟨j,e⟩:=mx2 k a.dep b.dep;rw[e];exact pG b j (aPN (aTC _ _) el)
  exact aNJ (k+max a.dep b.dep+1) q1 q2 el
theorem aAZ{f:List Str}(t:Ts)(K:Nat)(hK:t.dep+1<=K)(hl:(cols f t).length<=sizeLine):(WT TT K).Φ "columns_in" [tsD f t]=.ok .fr (.lst (cols f t)):=by
 have:=pG t (K-t.dep-1) hl;rw[show K-t.dep-1+t.dep+1=K by omega] at this
 exact this
theorem l1{a:D}:iL (.ok [(.fz,a)])=.ok .fr (.lst [a]):=by rfl
theorem l0:iL (.ok [])=.ok .fr (.lst []):=by rfl
theorem sY{k:D->Rho->Option Rho}{body:Rho->aB}(I:Nat->Rho->Prop):∀ (ds:List D) (i:Nat) {ρ:Rho},(∀ j d,ds[j]? = some d->∀ ρ,I (i+j) ρ->∃ ρ1 ρ2,k d ρ=some ρ1/\body ρ1=.nx ρ2/\I (i+j+1) ρ2)->I i ρ->∃ ρ',cZ k body ds ρ=.nx ρ'/\I (i+ds.length) ρ'
 | [],i,ρ,_,h=>⟨ρ,rfl,h⟩
 | d::ds,i,ρ,hs,h=>by
  obtain ⟨ρ1,ρ2,e1,e2,h2⟩:=hs 0 d rfl ρ h;obtain ⟨ρ',e3,h3⟩:=sY (k:=k) (body:=body) I ds (i+1) (λj d hd ρ hρ=>by
   have:=hs (j+1) d (by rw[aTD];exact hd) ρ (by rw[show i+(j+1)=i+1+j by omega];exact hρ)
   rw[show i+(j+1)+1=i+1+j+1 by omega] at this
   exact this) h2
  refine ⟨ρ',?_,by rw[show i+(d::ds).length=i+1+ds.length by rw[aRF];omega];exact h3⟩
  unfold cZ;rw[e1];dsimp only;rw[e2];exact e3
theorem aA0(n:Nat):(bM 0 (n:Int)).length=n:=by simp[bM]
theorem aA1{n N:Nat}{g:Rho->aB}{ds:List D}{ρ:Rho}(hl:ds.length=n)(h:g (fV N ds)=.nx ρ):phi n N g ds=.ok .fz .non:=by unfold phi;rw[if_pos hl,h];rfl
abbrev Tp(C:List Str):D:=.tup (C.map .str)
theorem aA2{C:List Str}:(C.map D.str).all cR=true:=by rw[List.all_map];exact aRZ.mpr λ_ _=>rfl
theorem aA3{C:List Str}{z:Str}:((C.map D.str).any λy=>eqD y (.str z))=decide (z∈C):=by
 rw[aRY,List.any_map,List.any_eq_true,aRL];constructor
 . rintro ⟨y,hy,e⟩;have e:(y==z)=true:=e;rw[aRW] at e;subst e;exact hy
 . exact λh=>⟨z,h,by show (z==z)=true;exact aSC z⟩
theorem mK{m m':Md}{z:Str}{C:List Str}:op2 (bB .In) (.ok m (.str z)) (.ok m' (Tp C))=.ok .fz (.bl (decide (z∈C))):=by refine bN ?_;show (if (cR (.str z)&&(C.map D.str).all cR)=true then some (Md.fz,D.bl (if false=true then _ else ((C.map D.str).any λy=>eqD y (.str z)))) else none)=_;rw[aA2,aA3];rfl
theorem pH{m m':Md}{z:Str}{C:List Str}:op2 (bB .NotIn) (.ok m (.str z)) (.ok m' (Tp C))=.ok .fz (.bl (!decide (z∈C))):=by refine bN ?_;show (if (cR (.str z)&&(C.map D.str).all cR)=true then some (Md.fz,D.bl (if true=true then !((C.map D.str).any λy=>eqD y (.str z)) else _)) else none)=_;rw[aA2,aA3];rfl
theorem sZ:∀ C:List Str,cG (C.map D.str)=some (C.map PyData.str)
 | []=>rfl
 | z::C=>by
  show (match aV (.str z),cG (C.map D.str) with | some p,some ps=>some (p::ps) | _,_=>none)=_
  rw[sZ C];rfl
theorem aA4:∀ C:List Str,PyData.depthAll (C.map PyData.str)=0
 | []=>by simp[PyData.depthAll]
 | z::C=>by simp[PyData.depthAll,PyData.depth,aA4 C]
theorem aA5{C:List Str}:fE (.tuple (C.map .str))=true:=by unfold fE;simp[PyData.depth,aA4]
theorem tB:∀ C:List Str,PyData.eqvAll (C.map PyData.str) (C.map PyData.str)=true
 | []=>by simp[PyData.eqvAll]
 | z::C=>by simp[PyData.eqvAll,PyData.eqv,tB C]
theorem ne_T{m m':Md}{C:List Str}:op2 (bB .NotEq) (.ok m (Tp C)) (.ok m' (Tp C))=.ok .fz (.bl false):=by refine bN ?_;simp[bB,fNe,orO,eqF,aV,sZ,aA5,PyData.eqv,tB]
section
variable {W:WD}{ρ:Rho}{ds:List D}{e:E}{i:Nat}{m:Md}
theorem aNM:c9 ds none (some (i:Int))=ds.take i:=by
 unfold c9;rw[HT.vE,HT.nE,aSG,Nat.sub_zero];by_cases h:i<=ds.length
 . rw[Nat.min_eq_left h]
 . rw[Nat.min_eq_right (by omega),aSY,aSH (by omega)]
theorem aNN:c9 ds (some (i:Int)) none=ds.drop i:=by
 unfold c9;rw[HT.vE,HT.nE];by_cases h:i<=ds.length
 . rw[Nat.min_eq_left h];exact aSH (by rw[aQ2];omega)
 . rw[Nat.min_eq_right (by omega),aR7,List.drop_of_length_le (by omega)];simp
theorem pI(h:evE W e ρ=.ok m (.int (i:Int))):slP (.ok .fz (.tup ds)) (evO W none) (evO W (some e)) ρ=.ok .fz (.tup (ds.take i)):=by simp only[evO,slP,Res.thn_ok,cP,h];rw[if_neg (by simp),aNM]
theorem pJ(h:evE W e ρ=.ok m (.int (i:Int))):slP (.ok .fz (.tup ds)) (evO W (some e)) (evO W none) ρ=.ok .fz (.tup (ds.drop i)):=by simp only[evO,slP,Res.thn_ok,cP,h];rw[if_neg (by simp),aNN]
end
theorem tD(k:Nat){z:Str}{C:List Str}(h:z∈C):(WT TT (k+1)).Φ "refuse_missing" [.str z,Tp C]=.ok .fz .non:=by rw[aMU];refine aA1 (ρ:=[some (false,.str z),some (false,Tp C)]) rfl ?_;show evB _ oR [some (false,.str z),some (false,Tp C)]=_;have e:=pH (m:=.fz) (m':=.fz) (z:=z) (C:=C);rw[aRE h] at e;generalize Tp C=t at *;simp[oR,e]
theorem tE{C:List Str}{i:Nat}(hi:i<C.length){m m':Md}:op2 ixD (.ok m (Tp C)) (.ok m' (.int (i:Int)))=.ok .fz (.str C[i]):=cD (bF (by rw[aQN,aR1 hi];rfl))
theorem aA6(k:Nat){C:List Str}(hn:C.Nodup){i:Nat}(hi:i<C.length):(WT TT (k+1)).Φ "refuse_twice" [Tp C,.int (i:Int)]=.ok .fz .non:=by
 rw[aMR];refine aA1 (ρ:=[some (false,Tp C),some (false,.int (i:Int))]) rfl ?_;show evB _ oP [some (false,Tp C),some (false,.int (i:Int))]=_;have nm:¬ C[i]∈C.take i:=λh=>by obtain ⟨j,hj,e⟩:=List.mem_iff_getElem.mp h;rw[List.getElem_take] at e;rw[aQI] at hj;have:=(List.getElem_inj hn).mp e;omega
 have e1:=tE hi (m:=.fz) (m':=.fz);have e2:slP (.ok .fz (Tp C)) (evO (WT TT k) none) (evO (WT TT k) (some (.var 1))) [some (false,Tp C),some (false,.int (i:Int))]=.ok .fz (Tp (C.take i)):=by rw[pI (m:=.fz) (i:=i) rfl,<- List.map_take]
 have e3:=mK (m:=.fz) (m':=.fz) (z:=C[i]) (C:=C.take i);rw[aPB nm] at e3;generalize hA:evO (WT TT k) none=A at *;generalize hB:evO (WT TT k) (some (.var 1))=B at *;generalize Tp (C.take i)=t at *;generalize Tp C=t' at *;generalize C[i]=z at *;simp[oP,e1,hA,hB,e2,e3]
theorem aA7:∀ {ds:List D} {i j:Nat} {d:D},(c8 i ds)[j]? = some d->∃ x,ds[j]? = some x/\d=.tup [.int ((i+j:Nat):Int),x]
 | [],i,j,d,h=>by simp[c8] at h
 | x::ds,i,0,d,h=>by simp[c8] at h;exact ⟨x,rfl,h.symm⟩
 | x::ds,i,j+1,d,h=>by simp only[c8,aTD] at h;obtain ⟨y,hy,e⟩:=aA7 h;exact ⟨y,by rw[aTD];exact hy,by rw[e,show i+1+j=i+(j+1) by omega]⟩
theorem kept(k:Nat){K C:List Str}(hn:K.Nodup)(hs:∀ z∈K,z∈C):(WT TT (k+2)).Φ "kept" [Tp K,Tp C]=.ok .fz (Tp K):=by
 rw[aMW];refine aK rfl ?_;show evB (WT TT (k+1)) oT [some (false,Tp K),some (false,Tp C),none,none]=_;obtain ⟨ρ',e,I⟩:=sY (k:=aI (.tp [.nm 2,.nm 3])) (body:=evB (WT TT (k+1)) oM) (λ_ ρ=>∃ x y,ρ=[some (false,Tp K),some (false,Tp C),x,y])
  (c8 0 (K.map .str)) 0 (ρ:=[some (false,Tp K),some (false,Tp C),none,none])
  (λj d hd ρ hρ=>by
   obtain ⟨x,y,rfl⟩:=hρ;obtain ⟨v,hv,rfl⟩:=aA7 hd;rw[aQN] at hv;obtain ⟨z,hz,rfl⟩:=Option.map_eq_some_iff.mp hv;obtain ⟨hj,ez⟩:=aPS.mp hz;have c1:aF 2 ((WT TT (k+1)).Φ "refuse_missing") (.ok [(.fz,.str z),(.fz,Tp C)])=.ok .fz .non:=aR (tD k (hs z (by rw[<- ez];exact aR2 hj)))
   have c2:aF 2 ((WT TT (k+1)).Φ "refuse_twice") (.ok [(.fz,Tp K),(.fz,.int (j:Int))])=.ok .fz .non:=aR (aA6 k hn hj);rw[Nat.zero_add];refine ⟨[some (false,Tp K),some (false,Tp C),some (false,.int (j:Int)),some (false,.str z)],[some (false,Tp K),some (false,Tp C),some (false,.int (j:Int)),some (false,.str z)],by simp,?_,_,_,rfl⟩
   generalize Tp C=t at *;generalize Tp K=t' at *;simp[oM,c1,c2])
  ⟨none,none,rfl⟩
 obtain ⟨x,y,rfl⟩:=I;have ef:gW (.ok [(.fz,Tp K)])=.ok .fz (.lst (c8 0 (K.map .str))):=rfl;have e':cJ (.ok .fz (.lst (c8 0 (K.map .str)))) [some (false,Tp K),some (false,Tp C),none,none] (aI (.tp [.nm 2,.nm 3])) (evB (WT TT (k+1)) oM)=_:=e;generalize c8 0 (K.map .str)=R at *;generalize Tp C=t at *;generalize Tp K=t' at *;simp[oT,ef,e']
theorem h0{a:D}{m m':Md}:op2 ixD (.ok m (.lst [a])) (.ok m' (.int 0))=.ok .fz a:=d8 (bF (j:=0) rfl)
theorem f0{a b c d:D}{m m':Md}:op2 ixD (.ok m (.tup [a,b,c,d])) (.ok m' (.int 0))=.ok .fz a:=cD (bF (j:=0) rfl)
theorem f1{a b c d:D}{m m':Md}:op2 ixD (.ok m (.tup [a,b,c,d])) (.ok m' (.int 1))=.ok .fz b:=cD (bF (j:=1) rfl)
theorem f2{a b c d:D}{m m':Md}:op2 ixD (.ok m (.tup [a,b,c,d])) (.ok m' (.int 2))=.ok .fz c:=cD (bF (j:=2) rfl)
theorem f3{a b c d:D}{m m':Md}:op2 ixD (.ok m (.tup [a,b,c,d])) (.ok m' (.int 3))=.ok .fz d:=cD (bF (j:=3) rfl)
theorem pK{k:D->Rho->Option Rho}{body:Rho->aB}(I:Rho->Prop){ds:List D}{ρ:Rho}(h:∀ d∈ds,∀ ρ,I ρ->∃ ρ1 ρ2,k d ρ=some ρ1/\body ρ1=.nx ρ2/\I ρ2)(h0:I ρ):∃ ρ',cZ k body ds ρ=.nx ρ'/\I ρ':=by obtain ⟨ρ',e,q⟩:=sY (k:=k) (body:=body) (λ_=>I) ds 0 (ρ:=ρ) (λj d hd ρ hρ=>h d (aQP hd) ρ hρ) h0;exact ⟨ρ',e,q⟩
theorem aNO(k:Nat){d t:D}{L C:List Str}(hc:(WT TT (k+1)).Φ "columns_in" [t]=.ok .fr (.lst (L.map .str)))(hs:∀ z∈L,z∈C):(WT TT (k+2)).Φ "columns_of_pick" [.tup [.str "pick", d,t],.lst [Tp C]]=.ok .fz (Tp C):=by
 rw[aMV];refine aK rfl ?_;show evB (WT TT (k+1)) oS [some (false,.tup [.str "pick", d,t]),some (false,.lst [Tp C]),none]=_;have x2:op2 ixD (.ok .fz (.tup [.str "pick", d,t])) (.ok .fz (.int 2))=.ok .fz t:=j2;generalize D.tup [.str "pick", d,t]=A at *;have c0:aF 1 ((WT TT (k+1)).Φ "columns_in") (.ok [(.fz,t)])=.ok .fr (.lst (L.map .str)):=fM hc;obtain ⟨ρ',e,x,rfl⟩:=pK (k:=aI (.nm 2)) (body:=evB (WT TT (k+1)) oK) (ds:=L.map .str) (ρ:=[some (false,A),some (false,.lst [Tp C]),none]) (λρ=>∃ x,ρ=[some (false,A),some (false,.lst [Tp C]),x])
  (λd hd ρ hρ=>by
   obtain ⟨x,rfl⟩:=hρ;obtain ⟨z,hz,rfl⟩:=aTB.mp hd;have c1:aF 2 ((WT TT (k+1)).Φ "refuse_missing") (.ok [(.fz,.str z),(.fz,Tp C)])=.ok .fz .non:=aR (tD k (hs z hz));refine ⟨[some (false,A),some (false,.lst [Tp C]),some (false,.str z)],[some (false,A),some (false,.lst [Tp C]),some (false,.str z)],by simp,?_,_,rfl⟩
   generalize Tp C=t at *;simp[oK,h0,c1]) ⟨none,rfl⟩
 have e':cJ (.ok .fz (.lst (L.map .str))) [some (false,A),some (false,.lst [Tp C]),none] (aI (.nm 2)) (evB (WT TT (k+1)) oK)=_:=e;generalize L.map D.str=R at *;generalize Tp C=t at *;simp[oS,x2,c0,e',h0]
theorem aNP(k:Nat){d:D}{K C:List Str}(hn:K.Nodup)(hs:∀ z∈K,z∈C):(WT TT (k+3)).Φ "columns_of_keep" [.tup [.str "keep", d,Tp K],.lst [Tp C]]=.ok .fz (Tp K):=by rw[aMX];refine aK rfl ?_;show evB (WT TT (k+2)) oU [some (false,.tup [.str "keep", d,Tp K]),some (false,.lst [Tp C])]=_;have c1:aF 2 ((WT TT (k+2)).Φ "kept") (.ok [(.fz,Tp K),(.fz,Tp C)])=.ok .fz (Tp K):=aR (kept k hn hs);generalize Tp C=t at *;generalize Tp K=t' at *;simp[oU,j2,h0,c1]
theorem aNQ(k:Nat){d:D}{z:Str}{K C:List Str}(hz:z∈C)(hn:K.Nodup)(hs:∀ z∈K,z∈C):(WT TT (k+4)).Φ "columns_of_total" [.tup [.str "total", d,.str z,Tp K],.lst [Tp C]]=.ok .fz (Tp K):=by
 have a:(WT TT (k+3)).Φ "totalled" [.str z,Tp K,Tp C]=.ok .fz (Tp K):=by rw[aMY];refine aK rfl ?_;show evB (WT TT (k+2)) oV [some (false,.str z),some (false,Tp K),some (false,Tp C)]=_;have c1:aF 2 ((WT TT (k+2)).Φ "kept") (.ok [(.fz,Tp K),(.fz,Tp C)])=.ok .fz (Tp K):=aR (kept k hn hs);have c2:aF 2 ((WT TT (k+2)).Φ "refuse_missing") (.ok [(.fz,.str z),(.fz,Tp C)])=.ok .fz .non:=aR (tD (k+1) hz);generalize Tp C=t at *;generalize Tp K=t' at *;simp[oV,c1,c2]
 rw[aMZ];refine aK rfl ?_;show evB (WT TT (k+3)) oW [some (false,.tup [.str "total", d,.str z,Tp K]),some (false,.lst [Tp C])]=_;have c1:aF 3 ((WT TT (k+3)).Φ "totalled") (.ok [(.fz,.str z),(.fz,Tp K),(.fz,Tp C)])=.ok .fz (Tp K):=gC a;generalize Tp C=t at *;generalize Tp K=t' at *;simp[oW,f2,f3,h0,c1]
theorem mL{C:List Str}{m:Md}:fA [(m,Tp C)]=some (.fz,.int (C.length:Int)):=by show some (Md.fz,D.int ((C.map D.str).length:Int))=_;rw[aQR]
theorem aNR(k:Nat){d:D}{K C:List Str}(hn:K.Nodup)(hl:K.length=C.length)(hb:K.length<=900):(WT TT (k+2)).Φ "columns_of_call" [.tup [.str "call", d,Tp K],.lst [Tp C]]=.ok .fz (Tp K):=by
 rw[aM0];refine aK rfl ?_;show evB (WT TT (k+1)) iY [some (false,.tup [.str "call", d,Tp K]),some (false,.lst [Tp C]),none,none]=_;have x2:op2 ixD (.ok .fz (.tup [.str "call", d,Tp K])) (.ok .fz (.int 2))=.ok .fz (Tp K):=j2;generalize D.tup [.str "call", d,Tp K]=A at *;obtain ⟨ρ',e,x,rfl⟩:=pK (k:=aI (.nm 3)) (body:=evB (WT TT (k+1)) kE) (ds:=bM 0 (K.length:Int)) (ρ:=[some (false,A),some (false,.lst [Tp C]),some (false,Tp K),none]) (λρ=>∃ x,ρ=[some (false,A),some (false,.lst [Tp C]),some (false,Tp K),x])
  (λd hd ρ hρ=>by
   obtain ⟨x,rfl⟩:=hρ;obtain ⟨i,hi,rfl⟩:=mem_range hd;have c2:aF 2 ((WT TT (k+1)).Φ "refuse_twice") (.ok [(.fz,Tp K),(.fz,.int (i:Int))])=.ok .fz .non:=aR (aA6 k hn (by omega))
   refine ⟨[some (false,A),some (false,.lst [Tp C]),some (false,Tp K),some (false,.int (i:Int))],[some (false,A),some (false,.lst [Tp C]),some (false,Tp K),some (false,.int (i:Int))],by simp,?_,_,rfl⟩
   generalize Tp C=t at *;generalize Tp K=t' at *;simp[kE,c2]) ⟨none,rfl⟩
 have e':cJ (.ok .fz (.lst (bM 0 (K.length:Int)))) [some (false,A),some (false,.lst [Tp C]),some (false,Tp K),none] (aI (.nm 3)) (evB (WT TT (k+1)) kE)=_:=e;have er:=sX (m:=.fz) (n:=(K.length:Int)) (by omega) (by omega)
 have l1:=mL (C:=C) (m:=.fz);have l2:=mL (C:=K) (m:=.fz);rw[<- hl] at l1;generalize bM 0 (K.length:Int)=R at *;generalize Tp C=t at *;generalize Tp K=t' at *;have p1:evB (WT TT (k+1)) (iY.take 2) [some (false,A),some (false,.lst [t]),none,none]=.nx [some (false,A),some (false,.lst [t]),some (false,t'),none]:=by
  clear e e' er
  generalize (K.length:Int)=n at *;simp[iY,x2,h0,l1,l2]
 have ea:iY=iY.take 2++[.for (.rng1 (.bcall .len [(.var 2)])) (.nm 3) kE,.retV 2]:=rfl;rw[ea,bE,p1,aB.thn_nx]
 clear e ea p1
 generalize kE=B at *;have g:iM (cC (evE (WT TT (k+1)) (.bcall .len [(.var 2)]) [some (false,A),some (false,.lst [t]),some (false,t'),none]) (.ok []))=.ok .fz (.lst R):=by
  rw[<- er];have:evE (WT TT (k+1)) (.bcall .len [(.var 2)]) [some (false,A),some (false,.lst [t]),some (false,t'),none]=.ok .fz (.int (K.length:Int)):=by simp[l2]
  rw[this];rfl
 rw[bI,lZ,sH,g,e',aB.thn_nx,bI,oC];rfl
def dif(C' C:List Str):List Str:=C'.filter λz=>!decide (z∈C)
theorem aA8{W:WD}{C:List Str}:∀ C':List Str,bH (aI (.nm 1)) (λρ=>evF W [.cmp .NotIn (.var 1) (.var 0)] ρ) (λρ=>evE W (.var 1) ρ) [some (false,Tp C),none] (C'.map .str)=some ((dif C' C).map .str)
 | []=>rfl
 | z::C'=>by
  have ih:=aA8 (W:=W) (C:=C) C';have k:aI (.nm 1) (.str z) [some (false,Tp C),none]=some [some (false,Tp C),some (false,.str z)]:=rfl;have e:=pH (m:=.fz) (m':=.fz) (z:=z) (C:=C);have t:evF W [.cmp .NotIn (.var 1) (.var 0)] [some (false,Tp C),some (false,.str z)]=.ok .fz (.bl (!decide (z∈C))):=by generalize Tp C=t at *;simp[e]
  rw[aRG,bH,k];dsimp only;rw[t,ih];unfold dif;rw[List.filter_cons];cases decide (z∈C) with
  | true=>rfl
  | false=>rfl
theorem aNS{W:WD}{C C':List Str}{ρ:Rho}{aG:List Nat}{m:Md}(hs:C'.length<sizeLine)(hρ:cF aG ρ=[some (false,Tp C)]):bX (.ok m (.lst (C'.map .str))) ρ aG 1 (aI (.nm 1)) (λρ=>evF W [.cmp .NotIn (.var 1) (.var 0)] ρ) (λρ=>evE W (.var 1) ρ)=.ok .fr (.lst ((dif C' C).map .str)):=by
 show (if (C'.map D.str).length<sizeLine then (match bH (aI (.nm 1)) (λρ=>evF W [.cmp .NotIn (.var 1) (.var 0)] ρ) (λρ=>evE W (.var 1) ρ) (cF aG ρ++[none]) (C'.map .str) with | some ys=>Res.ok .fr (.lst ys) | none=>.stuck) else .stuck)=_
 rw[hρ,if_pos (by rw[aQR];exact hs)]
 show (match bH (aI (.nm 1)) (λρ=>evF W [.cmp .NotIn (.var 1) (.var 0)] ρ) (λρ=>evE W (.var 1) ρ) [some (false,Tp C),none] (C'.map .str) with | some ys=>Res.ok .fr (.lst ys) | none=>.stuck)=_
 rw[aA8]
theorem i8{C C':List Str}{m m':Md}(h:C.length+C'.length<=sizeLine):op2 (aX .Add) (.ok m (Tp C)) (.ok m' (Tp C'))=.ok .fz (Tp (C++C')):=by rw[oG (by rw[aQR,aQR];exact h),<- aTE]
theorem pL{C C':List Str}:(dif C' C).length<=C'.length:=List.length_filter_le _ _
theorem aNT(k:Nat){A:D}{C C':List Str}(hs:C.length+C'.length<sizeLine):(WT TT (k+1)).Φ "columns_of_join" [A,.lst [Tp C,Tp C']]=.ok .fz (Tp (C++dif C' C)):=by
 rw[aM1];refine aK rfl ?_;show evB (WT TT k) mD [some (false,A),some (false,.lst [Tp C,Tp C']),none,none]=_;have dl:=pL (C:=C) (C':=C');have e1:=aNS (W:=WT TT k) (C:=C) (C':=C') (m:=.fz) (aG:=[2]) (ρ:=[some (false,A),some (false,.lst [Tp C,Tp C']),some (false,Tp C),some (false,Tp C')]) (by omega) rfl
 have e2:=i8 (C:=C) (C':=dif C' C) (m:=.fz) (m':=.fz) (by omega)
 have ea:mD=[.asg (.tp [(.nm 2),(.nm 3)]) (.var 1)]++mD.drop 1:=rfl;have p1:evB (WT TT k) [.asg (.tp [(.nm 2),(.nm 3)]) (.var 1)] [some (false,A),some (false,.lst [Tp C,Tp C']),none,none]=.nx [some (false,A),some (false,.lst [Tp C,Tp C']),some (false,Tp C),some (false,Tp C')]:=by generalize Tp C=t;generalize Tp C'=t';simp[fF]
 rw[ea,bE,p1,aB.thn_nx];show evB (WT TT k) [.ret (.bin .Add (.var 2) (.tcall .tuple [(.comp (.var 1) (.items (.var 3)) [(.cmp .NotIn (.var 1) (.var 0))] [2] (.nm 1) 1)]))] _=_;rw[bI,lY,dS,sJ,gB,f9,f8,j9,bK,bK];show (fC (op2 (aX .Add) (.ok .fz (Tp C)) (eO (Ty.f .tuple) (cC (bX (.ok .fz (.lst (C'.map .str))) _ [2] 1 (aI (.nm 1)) _ _) (.ok [])))) _).thn _=_;rw[e1];show (fC (op2 (aX .Add) (.ok .fz (Tp C)) (.ok .fz (Tp (dif C' C)))) _).thn _=_;rw[e2];rfl
theorem aNU(k:Nat){A:D}{C:List Str}:(WT TT (k+1)).Φ "columns_of_pour" [A,.lst [Tp C,Tp C]]=.ok .fz (Tp C):=by rw[aM2];refine aK rfl ?_;show evB (WT TT k) oX [some (false,A),some (false,.lst [Tp C,Tp C]),none,none]=_;have e:=ne_T (C:=C) (m:=.fz) (m':=.fz);generalize Tp C=t at *;simp[oX,fF,e]
theorem aNV(k:Nat){A:D}{C C':List Str}(hs:∀ z∈C',z∈C):(WT TT (k+1)).Φ "columns_of_leave" [A,.lst [Tp C,Tp C']]=.ok .fz (Tp C):=by
 rw[aM3];refine aK rfl ?_;show evB (WT TT k) oY [some (false,A),some (false,.lst [Tp C,Tp C']),none,none,none]=_;obtain ⟨ρ',e,x,rfl⟩:=pK (k:=aI (.nm 4)) (body:=evB (WT TT k) oN) (ds:=C'.map .str) (ρ:=[some (false,A),some (false,.lst [Tp C,Tp C']),some (false,Tp C),some (false,Tp C'),none]) (λρ=>∃ x,ρ=[some (false,A),some (false,.lst [Tp C,Tp C']),some (false,Tp C),some (false,Tp C'),x])
  (λd hd ρ hρ=>by
   obtain ⟨x,rfl⟩:=hρ;obtain ⟨z,hz,rfl⟩:=aTB.mp hd;have e:=pH (m:=.fz) (m':=.fz) (z:=z) (C:=C);rw[aRE (hs z hz)] at e;refine ⟨[some (false,A),some (false,.lst [Tp C,Tp C']),some (false,Tp C),some (false,Tp C'),some (false,.str z)],[some (false,A),some (false,.lst [Tp C,Tp C']),some (false,Tp C),some (false,Tp C'),some (false,.str z)],by simp,?_,_,rfl⟩
   generalize Tp C=t at *;generalize Tp C'=t' at *;simp[oN,e]) ⟨none,rfl⟩
 have e':cJ (.ok .fz (.lst (C'.map .str))) [some (false,A),some (false,.lst [Tp C,Tp C']),some (false,Tp C),some (false,Tp C'),none] (aI (.nm 4)) (evB (WT TT k) oN)=_:=e;have ei:fU (.ok .fz (Tp C'))=.ok .fz (.lst (C'.map .str)):=rfl;generalize C'.map D.str=R at *;generalize Tp C=t at *;generalize Tp C'=t' at *;simp[oY,fF,ei,e']
inductive Ask(M:List (Key×D)):D->List Str->Nat->Prop
 | table {w:Str} {C:List Str} (h:bC M (.inr w)=some (Tp C)):Ask M (.tup [.str "table", .str w]) C 0
 | pick {d:D} {C L f:List Str} {n:Nat} {t:Ts} (h:Ask M d C n) (hd:t.dep<=5) (hL:cols f t=L.map .str) (hl:L.length<=900) (hs:∀ z∈L,z∈C):Ask M (.tup [.str "pick", d,tsD f t]) C (n+1)
 | keep {d:D} {C K:List Str} {n:Nat} (h:Ask M d C n) (hn:K.Nodup) (hs:∀ z∈K,z∈C):Ask M (.tup [.str "keep", d,Tp K]) K (n+1)
 | call {d:D} {C K:List Str} {n:Nat} (h:Ask M d C n) (hn:K.Nodup) (hl:K.length=C.length) (hb:K.length<=900):Ask M (.tup [.str "call", d,Tp K]) K (n+1)
 | total {d:D} {z:Str} {C K:List Str} {n:Nat} (h:Ask M d C n) (hz:z∈C) (hn:K.Nodup) (hs:∀ z∈K,z∈C):Ask M (.tup [.str "total", d,.str z,Tp K]) K (n+1)
 | join {d d':D} {C C':List Str} {n n':Nat} (h:Ask M d C n) (h':Ask M d' C' n') (hs:C.length+C'.length<sizeLine):Ask M (.tup [.str "join", d,d']) (C++dif C' C) (max n n'+1)
 | pour {d d':D} {C:List Str} {n n':Nat} (h:Ask M d C n) (h':Ask M d' C n'):Ask M (.tup [.str "pour", d,d']) C (max n n'+1)
 | leave {d d':D} {C C':List Str} {n n':Nat} (h:Ask M d C n) (h':Ask M d' C' n') (hs:∀ z∈C',z∈C):Ask M (.tup [.str "leave", d,d']) C (max n n'+1)
def jpl:List Str:=[Str.ofString "join", Str.ofString "pour", Str.ofString "leave"]
theorem in3{m m':Md}{z:Str}:op2 (bB .In) (.ok m (.str z)) (.ok m' (.tup [.str (Str.ofString "join"),.str (Str.ofString "pour"),.str (Str.ofString "leave")]))=.ok .fz (.bl (decide (z∈jpl))):=mK (C:=jpl)
theorem tu0:dW (.ok [])=.ok .fz (.tup []):=by rfl
theorem tu1{a:D}:dW (.ok [(.fz,a)])=.ok .fz (.tup [a]):=by rfl
theorem aNW(k:Nat){x:D}:(WT TT (k+1)).Φ "askings_within" [.tup [.str "table", x]]=.ok .fz (.tup []):=by rw[sS];refine aK rfl ?_;show evB _ hV [some (false,.tup [.str "table", x])]=_;simp[hV,i0,tu0]
theorem mM(k:Nat){A x:D}{w:Str}(h1:op2 ixD (.ok .fz A) (.ok .fz (.int 0))=.ok .fz (.str w))(h2:op2 ixD (.ok .fz A) (.ok .fz (.int 1))=.ok .fz x)(hw:(w==Str.ofString "table")=false)(hj:decide (w∈jpl)=false):(WT TT (k+1)).Φ "askings_within" [A]=.ok .fz (.tup [x]):=by rw[sS];refine aK rfl ?_;show evB _ hV [some (false,A)]=_;have e3:=in3 (m:=.fz) (m':=.fz) (z:=w);rw[hj] at e3;simp[hV,h1,h2,hw,t3,e3,tu1]
theorem pM(k:Nat){x y:D}{w:Str}(hw:(w==Str.ofString "table")=false)(hj:decide (w∈jpl)=true):(WT TT (k+1)).Φ "askings_within" [.tup [.str w,x,y]]=.ok .fz (.tup [x,y]):=by rw[sS];refine aK rfl ?_;show evB _ hV [some (false,.tup [.str w,x,y])]=_;have e3:=in3 (m:=.fz) (m':=.fz) (z:=w);rw[hj] at e3;simp[hV,j0,j1,j2,hw,t3,e3,t2]
theorem mO{M:List (Key×D)}{w:Str}{d:D}(h:bC M (.inr w)=some d){m m':Md}:op2 ixK (.ok m (.dct M)) (.ok m' (.str w))=.ok .fz d:=bN (by
 show (bC M (.inr w)).map _=_;rw[h];rfl)
theorem aNX{M:List (Key×D)}{w:Str}{d:D}(h:bC M (.inr w)=some d){m m':Md}:op2 (inK true) (.ok m (.str w)) (.ok m' (.dct M))=.ok .fz (.bl false):=bN (by
 show some (Md.fz,D.bl (if true=true then !(bC M (.inr w)).isSome else _))=_;rw[h];rfl)
theorem aNY(k:Nat){M:List (Key×D)}{w:Str}{d:D}(h:bC M (.inr w)=some d):(WT TT (k+2)).Φ "columns_of" [.tup [.str "table", .str w],.dct M]=.ok .fz d:=by
 have a:(WT TT (k+1)).Φ "columns_of_table" [.str w,.dct M]=.ok .fz d:=by rw[aM4];refine aK rfl ?_;show evB _ oZ [some (false,.str w),some (false,.dct M)]=_;simp[oZ,aNX h,mO h]
 rw[aAU];refine aK rfl ?_;show evB (WT TT (k+1)) gE [some (false,.tup [.str "table", .str w]),some (false,.dct M),none,none]=_;have c1:aF 2 ((WT TT (k+1)).Φ "columns_of_table") (.ok [(.fz,.str w),(.fz,.dct M)])=.ok .fz d:=aR a;simp[gE,i0,i1,c1]
def mP:List (Str×Str):=[("pick", "columns_of_pick"),("keep", "columns_of_keep"),("call", "columns_of_call"),("join", "columns_of_join"),("pour", "columns_of_pour"),("total", "columns_of_total"),("leave", "columns_of_leave")]
def dfs:List Str:=["columns_of_pick", "columns_of_keep", "columns_of_call", "columns_of_join", "columns_of_pour", "columns_of_total", "columns_of_leave"]
theorem aA9{W:WD}{M:D}:∀ (xs ys:List D),xs.length=ys.length->(∀ (i:Nat) (h:i<xs.length) (h':i<ys.length),W.Φ "columns_of" [xs[i],M]=.ok .fz ys[i])->bH (aI (.nm 1)) (λρ=>evF W [] ρ) (λρ=>evE W (.call "columns_of" 2 [(.var 1),(.var 0)]) ρ) [some (false,M),none] xs=some ys
 | [],[],_,_=>rfl
 | [],_::_,h,_=>by simp at h
 | _::_,[],h,_=>by simp at h
 | x::xs,y::ys,h,q=>by
  have ih:=aA9 (W:=W) (M:=M) xs ys (by simpa using h) λi h1 h2=>q (i+1) (by simpa using h1) (by simpa using h2)
  have k:aI (.nm 1) x [some (false,M),none]=some [some (false,M),some (false,x)]:=rfl;have q0:W.Φ "columns_of" [x,M]=.ok .fz y:=q 0 (by simp) (by simp)
  have e:evE W (.call "columns_of" 2 [(.var 1),(.var 0)]) [some (false,M),some (false,x)]=.ok .fz y:=by have c1:aF 2 (W.Φ "columns_of") (.ok [(.fz,x),(.fz,M)])=.ok .fz y:=aR q0;simp[c1]
  rw[bH,k];dsimp only;rw[yM];dsimp only;rw[e,ih];rfl
theorem i9(k:Nat){A M r:D}{w f:Str}{xs ys:List D}(h1:op2 ixD (.ok .fz A) (.ok .fz (.int 0))=.ok .fz (.str w))(hw:(w==Str.ofString "table")=false)(hf:mP.lookup w=some f)(hf':dfs.contains f=true)(hx:(WT TT k).Φ "askings_within" [A]=.ok .fz (.tup xs))(hl:xs.length=ys.length)(hs:xs.length<sizeLine)(hq:∀ (i:Nat) (h:i<xs.length) (h':i<ys.length),(WT TT k).Φ "columns_of" [xs[i],M]=.ok .fz ys[i])(hr:(WT TT k).Φ f [A,.lst ys]=.ok .fz r):(WT TT (k+1)).Φ "columns_of" [A,M]=.ok .fz r:=by
 have cx:aF 1 ((WT TT k).Φ "askings_within") (.ok [(.fz,A)])=.ok .fz (.tup xs):=oH hx;have cr:aF 2 ((WT TT k).Φ f) (.ok [(.fz,A),(.fz,.lst ys)])=.ok .fz r:=aR hr;have cl:=aA9 (W:=WT TT k) (M:=M) xs ys hl hq;rw[aAU];refine aK rfl ?_;show evB (WT TT k) gE [some (false,A),some (false,M),none,none]=_;generalize WT TT k=W at *;have ea:gE=gE.take 1++([.setC 2 true (.comp (.call "columns_of" 2 [(.var 1),(.var 0)]) (.items (.call "askings_within" 1 [(.var 0)])) [] [1] (.nm 1) 1)]++[.set 3 (.deed "DEEDS" mP (.ix (.var 0) (.int 0))),.ret (.callv 3 dfs 2 [(.var 0),(.var 2)])]):=rfl;have p1:evB W (gE.take 1) [some (false,A),some (false,M),none,none]=.nx [some (false,A),some (false,M),none,none]:=by simp[gE,h1,hw]
 have p2:evB W [.setC 2 true (.comp (.call "columns_of" 2 [(.var 1),(.var 0)]) (.items (.call "askings_within" 1 [(.var 0)])) [] [1] (.nm 1) 1)] [some (false,A),some (false,M),none,none]=.nx [some (false,A),some (false,M),some (false,.lst ys),none]:=by
  have ei:evE W (.items (.call "askings_within" 1 [(.var 0)])) [some (false,A),some (false,M),none,none]=.ok .fz (.lst xs):=by simp[cx]
  rw[bI,aME,f8,ei];have ec:bX (.ok .fz (.lst xs)) [some (false,A),some (false,M),none,none] [1] 1 (aI (.nm 1)) (λρ=>evF W [] ρ) (λρ=>evE W (.call "columns_of" 2 [(.var 1),(.var 0)]) ρ)=.ok .fr (.lst ys):=by
   show (if xs.length<sizeLine then (match bH (aI (.nm 1)) (λρ=>evF W [] ρ) (λρ=>evE W (.call "columns_of" 2 [(.var 1),(.var 0)]) ρ) [some (false,M),none] xs with | some ys=>Res.ok .fr (.lst ys) | none=>.stuck) else .stuck)=_
   rw[if_pos hs,cl]
  rw[ec];show (aB.nx _).thn _=_;rw[aB.thn_nx,dY];rfl
 rw[ea,bE,p1,aB.thn_nx,bE,p2,aB.thn_nx]
 clear ea p1 p2 cl hq
 have d1:jV mP (.ok .fz (.str w))=.ok .fz (.fn f):=by
  show (match mP.lookup w with | some f=>Res.ok .fz (.fn f) | none=>.stuck)=_
  rw[hf]
 have d2:lQ W.Φ dfs 2 (.ok .fz (.fn f)) (.ok [(.fz,A),(.fz,.lst ys)])=.ok .fz r:=by show (if dfs.contains f=true then aF 2 (W.Φ f) (.ok [(.fz,A),(.fz,.lst ys)]) else .stuck)=_;rw[if_pos hf',cr]
 generalize mP=T1 at *;generalize dfs=T2 at *;simp[h1,d1,d2]
theorem wn{w:Str}(h:(w==Str.ofString "table")=false:=by decide +kernel):(w==Str.ofString "table")=false:=h
theorem pN{W:WD}{M x y:D}(h:W.Φ "columns_of" [x,M]=.ok .fz y):∀ (i:Nat) (h1:i<[x].length) (h2:i<[y].length),W.Φ "columns_of" [[x][i],M]=.ok .fz [y][i]
 | 0,_,_=>h
 | i+1,h1,_=>absurd h1 (by simp)
theorem tF{W:WD}{M x y x' y':D}(h:W.Φ "columns_of" [x,M]=.ok .fz y)(h':W.Φ "columns_of" [x',M]=.ok .fz y'):∀ (i:Nat) (h1:i<[x,x'].length) (h2:i<[y,y'].length),W.Φ "columns_of" [[x,x'][i],M]=.ok .fz [y,y'][i]
 | 0,_,_=>h
 | 1,_,_=>h'
 | i+2,h1,_=>absurd h1 (by simp)
theorem s1:1<sizeLine:=by have:=aQD;omega
theorem s2:2<sizeLine:=by have:=aQD;omega
theorem dp{d k n:Nat}(h:d<=5):d+1<=k+n+6:=aPN (aTF h) (aTC 6 (k+n))
theorem ns{n:Nat}(h:n<=900):n<=sizeLine:=aPN h (by have:=aQD;omega)
theorem aNZ{M:List (Key×D)}{d:D}{C:List Str}{n:Nat}(h:Ask M d C n):∀ k,(WT TT (k+n+7)).Φ "columns_of" [d,.dct M]=.ok .fz (Tp C):=by
 induction h with
 | table h=>exact λk=>aNY (k+5) h
 | @pick d C L f n t h hd hL hl hs ih =>
  intro k;have hc:=aAZ (f:=f) t (k+n+6) (dp hd) (by rw[hL,aQR];exact ns hl)
  rw[hL] at hc;exact i9 (k+n+7) (w:=Str.ofString "pick") (f:=Str.ofString "columns_of_pick") (xs:=[d]) (ys:=[Tp C]) j0 wn (by decide +kernel) (by decide +kernel) (mM (k+n+6) (w:=Str.ofString "pick") j0 j1 wn (by decide +kernel)) rfl s1 (pN (ih k)) (aNO (k+n+5) hc hs)
 | @keep d C K' n h hn hs ih=>exact λk=>i9 (k+n+7) (w:=Str.ofString "keep") (f:=Str.ofString "columns_of_keep") (xs:=[d]) (ys:=[Tp C]) j0 wn (by decide +kernel) (by decide +kernel) (mM (k+n+6) (w:=Str.ofString "keep") j0 j1 wn (by decide +kernel)) rfl s1 (pN (ih k)) (aNP (k+n+4) hn hs)
 | @call d C K' n h hn hl hb ih=>exact λk=>i9 (k+n+7) (w:=Str.ofString "call") (f:=Str.ofString "columns_of_call") (xs:=[d]) (ys:=[Tp C]) j0 wn (by decide +kernel) (by decide +kernel) (mM (k+n+6) (w:=Str.ofString "call") j0 j1 wn (by decide +kernel)) rfl s1 (pN (ih k)) (aNR (k+n+5) hn hl hb)
 | @total d z C K' n h hz hn hs ih=>exact λk=>i9 (k+n+7) (w:=Str.ofString "total") (f:=Str.ofString "columns_of_total") (xs:=[d]) (ys:=[Tp C]) f0 wn (by decide +kernel) (by decide +kernel) (mM (k+n+6) (w:=Str.ofString "total") f0 f1 wn (by decide +kernel)) rfl s1 (pN (ih k)) (aNQ (k+n+3) hz hn hs)
 | @join d d' C C' n n' h h' hs ih ih' =>
  intro k;have q1:(WT TT (k+max n n'+7)).Φ "columns_of" [d,.dct M]=.ok .fz (Tp C):=by obtain ⟨j,e⟩:=mx1 k n n';rw[e];exact ih j
  have q2:(WT TT (k+max n n'+7)).Φ "columns_of" [d',.dct M]=.ok .fz (Tp C'):=by obtain ⟨j,e⟩:=mx2 k n n';rw[e];exact ih' j
  exact i9 (k+max n n'+7) (w:=Str.ofString "join") (f:=Str.ofString "columns_of_join") (xs:=[d,d']) (ys:=[Tp C,Tp C']) j0 wn (by decide +kernel) (by decide +kernel) (pM (k+max n n'+6) (w:=Str.ofString "join") wn (by decide +kernel)) rfl s2 (tF q1 q2) (aNT (k+max n n'+6) hs)
 | @pour d d' C n n' h h' ih ih' =>
  intro k;have q1:(WT TT (k+max n n'+7)).Φ "columns_of" [d,.dct M]=.ok .fz (Tp C):=by obtain ⟨j,e⟩:=mx1 k n n';rw[e];exact ih j
  have q2:(WT TT (k+max n n'+7)).Φ "columns_of" [d',.dct M]=.ok .fz (Tp C):=by obtain ⟨j,e⟩:=mx2 k n n';rw[e];exact ih' j
  exact i9 (k+max n n'+7) (w:=Str.ofString "pour") (f:=Str.ofString "columns_of_pour") (xs:=[d,d']) (ys:=[Tp C,Tp C]) j0 wn (by decide +kernel) (by decide +kernel) (pM (k+max n n'+6) (w:=Str.ofString "pour") wn (by decide +kernel)) rfl s2 (tF q1 q2) (aNU (k+max n n'+6))
 | @leave d d' C C' n n' h h' hs ih ih' =>
  intro k;have q1:(WT TT (k+max n n'+7)).Φ "columns_of" [d,.dct M]=.ok .fz (Tp C):=by obtain ⟨j,e⟩:=mx1 k n n';rw[e];exact ih j
  have q2:(WT TT (k+max n n'+7)).Φ "columns_of" [d',.dct M]=.ok .fz (Tp C'):=by obtain ⟨j,e⟩:=mx2 k n n';rw[e];exact ih' j
  exact i9 (k+max n n'+7) (w:=Str.ofString "leave") (f:=Str.ofString "columns_of_leave") (xs:=[d,d']) (ys:=[Tp C,Tp C']) j0 wn (by decide +kernel) (by decide +kernel) (pM (k+max n n'+6) (w:=Str.ofString "leave") wn (by decide +kernel)) rfl s2 (tF q1 q2) (aNV (k+max n n'+6) hs)
def rD:Option (List D)->D | none=>.non | some l=>.tup l
theorem le1{n K:Nat}(h:n+1<=K):∃ k,K=k+1/\n<=k:=⟨K-1,by omega,by omega⟩
theorem le2{n K:Nat}(h:n+2<=K):∃ k,K=k+2/\n<=k:=⟨K-2,by omega,by omega⟩
theorem pO(k:Nat){a:D}{l xs:List D}(hs:l.length+xs.length+1<=900):(WT TT (k+1)).Φ "rebuilt" [.tup (a::l),.tup xs]=.ok .fz (.tup (a::(xs++l.drop xs.length))):=by
 have hsz:sizeLine=16777216:=aQD;rw[aMT];refine aK rfl ?_;show evB (WT TT k) oQ [some (false,.tup (a::l)),some (false,.tup xs)]=_;have p1:slP (.ok .fz (.tup (a::l))) (evO (WT TT k) none) (evO (WT TT k) (some (.int 1))) [some (false,.tup (a::l)),some (false,.tup xs)]=.ok .fz (.tup [a]):=pI (m:=.fz) (i:=1) (by rw[bS];rfl)
 have p2:slP (.ok .fz (.tup (a::l))) (evO (WT TT k) (some (.bin .Add (.int 1) (.bcall .len [(.var 1)])))) (evO (WT TT k) none) [some (false,.tup (a::l)),some (false,.tup xs)]=.ok .fz (.tup (l.drop xs.length)):=by rw[pJ (m:=.fz) (i:=xs.length+1) (by simp;omega)];rfl
 unfold oQ;rw[bI,lY,dS,dS,hU,hU,bK,bK];show (fC (op2 (aX .Add) (op2 (aX .Add) (slP (.ok .fz (.tup (a::l))) _ _ _) (.ok .fz (.tup xs))) (slP (.ok .fz (.tup (a::l))) _ _ _)) _).thn _=_;rw[p1,p2,oG (by simp;omega),oG (by simp;omega)]
 rfl
def bY(M:List (Key×D))(d:D)(r:Option (List D))(n:Nat):Prop:=∀ K,n<=K->(WT TT K).Φ "stepped" [d,.dct M]=.ok .fz (rD r)
def kI(M:List (Key×D))(x t:D)(r:Option (List D))(n:Nat):Prop:=∀ K,n<=K->(WT TT K).Φ "behind_pick" [x,t,.dct M]=.ok .fz (rD r)
theorem bY.mono{M:List (Key×D)}{d:D}{r:Option (List D)}{n n':Nat}(h:bY M d r n)(hn:n<=n'):bY M d r n':=λK hK=>h K (aPN hn hK)
theorem en0:gW (.ok [(.fz,.tup [])])=.ok .fz (.lst []):=rfl
theorem en1{x:D}:gW (.ok [(.fz,.tup [x])])=.ok .fz (.lst [.tup [.int 0,x]]):=rfl
theorem en2{x y:D}:gW (.ok [(.fz,.tup [x,y])])=.ok .fz (.lst [.tup [.int 0,x],.tup [.int 1,y]]):=rfl
theorem fr0{m:Md}{ρ:Rho}{k:D->Rho->Option Rho}{body:Rho->aB}:cJ (.ok m (.lst [])) ρ k body=.nx ρ:=rfl
theorem fr1{m:Md}{x:D}{ρ ρ1 ρ2:Rho}{k:D->Rho->Option Rho}{body:Rho->aB}(h:k x ρ=some ρ1)(h':body ρ1=.nx ρ2){l:List D}:cJ (.ok m (.lst (x::l))) ρ k body=cJ (.ok m (.lst l)) ρ2 k body:=by show cZ k body (x::l) ρ=_;rw[cZ,h];dsimp only;rw[h'];rfl
theorem fr2{m:Md}{x:D}{ρ ρ1:Rho}{m':Md}{d:D}{k:D->Rho->Option Rho}{body:Rho->aB}(h:k x ρ=some ρ1)(h':body ρ1=.rt m' d){l:List D}:cJ (.ok m (.lst (x::l))) ρ k body=.rt m' d:=by show cZ k body (x::l) ρ=_;rw[cZ,h];dsimp only;rw[h']
section
variable {W:WD}{A M x y:D}{v b:Option (Bool×D)}{xs d:List D}
theorem tI{i:Int}{p q:Option (Bool×D)}(hx:aF 2 (W.Φ "stepped") (.ok [(.fz,x),(.fz,M)])=.ok .fz .non):evB W iV [some (false,A),some (false,M),b,v,some (false,.int i),some (false,x)]=.nx [some (false,A),some (false,M),some (false,.non),v,some (false,.int i),some (false,x)]:=by simp[iV,hx]
theorem tJ{i:Nat}{r:D}(hx:aF 2 (W.Φ "stepped") (.ok [(.fz,x),(.fz,M)])=.ok .fz (.tup d))(hl:i+1<=900)(hi:i<=xs.length)(hr:aF 2 (W.Φ "rebuilt") (.ok [(.fz,A),(.fz,.tup (xs.take i++[.tup d]))])=.ok .fz r):evB W iV [some (false,A),some (false,M),b,some (false,.tup xs),some (false,.int (i:Int)),some (false,x)]=.rt .fz r:=by
 have hsz:sizeLine=16777216:=aQD;have p1:slP (.ok .fz (.tup xs)) (evO W none) (evO W (some (.var 4))) [some (false,A),some (false,M),some (false,.tup d),some (false,.tup xs),some (false,.int (i:Int)),some (false,x)]=.ok .fz (.tup (xs.take i)):=pI (m:=.fz) (i:=i) rfl;have p2:op2 (aX .Add) (.ok .fz (.tup (xs.take i))) (.ok .fz (.tup [.tup d]))=.ok .fz (.tup (xs.take i++[.tup d])):=oG (by rw[aQI];simp;omega)
 have p3:dW (.ok [(.fz,.tup d)])=.ok .fz (.tup [.tup d]):=tu1;generalize hA:evO W none=A' at *;generalize hB:evO W (some (.var 4))=B' at *;generalize xs.take i++[.tup d]=ys at *;generalize xs.take i=zs at *;simp[iV,hx,hA,hB,p1,p2,p3,hr]
end
section
variable {M:List (Key×D)}{x y:D}{r:Option (List D)}{n:Nat}
theorem aBA{W:WD}{A Md:D}{w:Str}(h:op2 ixD (.ok .fz A) (.ok .fz (.int 0))=.ok .fz (.str w))(hw:(w==Str.ofString "pick")=false):evB W (d5.take 1) [some (false,A),some (false,Md),none,none,none,none]=.nx [some (false,A),some (false,Md),none,none,none,none]:=by simp[d5,h,hw]
theorem aN0{w:Str}:bY M (.tup [.str "table", .str w]) none 2:=λK hK=>by
 obtain ⟨k,rfl,_⟩:=le2 (n:=0) (by omega:0+2<=K)
 rw[pD];refine aK rfl ?_;show evB (WT TT (k+1)) d5 [some (false,.tup [.str "table", .str w]),some (false,.dct M),none,none,none,none]=_;have cw:aF 1 ((WT TT (k+1)).Φ "askings_within") (.ok [(.fz,.tup [.str "table", .str w])])=.ok .fz (.tup []):=oH (aNW k);have w0:op2 ixD (.ok .fz (.tup [.str "table", .str w])) (.ok .fz (.int 0))=.ok .fz (.str "table"):=i0;have hw:(Str.ofString "table" == Str.ofString "pick")=false:=by decide +kernel
 generalize D.tup [.str "table", .str w]=A at *;simp[d5,w0,hw,cw,en0,fr0];rfl
def or2(w:Str)(x y:D)(r r':Option (List D)):Option (List D):=match r with | some d=>some [.str w,.tup d,y] | none=>r'.map λd=>[.str w,x,.tup d]
def orP(x t:D)(r0 r:Option (List D)):Option (List D):=match r0 with | some d=>some d | none=>r.map λd=>[.str "pick", .tup d,t]
def jA:List D3.S:=[.set 3 (.frz (.call "askings_within" 1 [(.var 0)])),.for (.enum1 (.var 3)) (.tp [(.nm 4),(.nm 5)]) iV,.ret .non]
theorem aBB{k:Nat}{w:Str}{l:List D}{b:Option (Bool×D)}(hl:l.length<=800)(hw:(w==Str.ofString "table")=false)(hj:decide (w∈jpl)=false)(hx:(WT TT (k+1)).Φ "stepped" [x,.dct M]=.ok .fz (rD r)):evB (WT TT (k+1)) jA [some (false,.tup (.str w::x::l)),some (false,.dct M),b,none,none,none]=.rt .fz (rD (r.map λd=>.str w :: .tup d::l)):=by
 have cw:aF 1 ((WT TT (k+1)).Φ "askings_within") (.ok [(.fz,.tup (.str w::x::l))])=.ok .fz (.tup [x]):=oH (mM k (w:=w) (cD (bF (j:=0) rfl)) (cD (bF (j:=1) rfl)) hw hj);have cx:aF 2 ((WT TT (k+1)).Φ "stepped") (.ok [(.fz,x),(.fz,.dct M)])=.ok .fz (rD r):=aR hx;have st:aI (.tp [.nm 4,.nm 5]) (.tup [.int 0,x]) [some (false,.tup (.str w::x::l)),some (false,.dct M),b,some (false,.tup [x]),none,none]=some [some (false,.tup (.str w::x::l)),some (false,.dct M),b,some (false,.tup [x]),some (false,.int 0),some (false,x)]:=rfl;unfold jA;cases r with
 | none=>have tn:=tI (W:=WT TT (k+1)) (A:=.tup (.str w::x::l)) (i:=0) (b:=b) (v:=some (false,.tup [x])) (p:=none) (q:=none) cx;have f:=fr1 (m:=.fz) st tn (l:=[]);generalize D.tup (.str w::x::l)=A at *;simp[cw,en1,f,fr0,rD]
 | some d =>
  have rb:=pO k (a:=.str w) (l:=x::l) (xs:=[.tup d]) (by simp;omega)
  have tn:=tJ (W:=WT TT (k+1)) (A:=.tup (.str w::x::l)) (i:=0) (xs:=[x]) (b:=b) cx (by decide) (by simp) (aR rb)
  have f:=fr2 (m:=.fz) st tn (l:=[]);show _=aB.rt .fz (.tup (.str w :: .tup d::l));simp only[List.singleton_append,aRC,List.drop_succ_cons,aSG] at f;generalize D.tup (.str w::x::l)=A at *;simp[cw,en1,f]
theorem aN1{k:Nat}{w:Str}{b:Option (Bool×D)}{r':Option (List D)}(hw:(w==Str.ofString "table")=false)(hj:decide (w∈jpl)=true)(hx:(WT TT (k+1)).Φ "stepped" [x,.dct M]=.ok .fz (rD r))(hy:(WT TT (k+1)).Φ "stepped" [y,.dct M]=.ok .fz (rD r')\/r.isSome=true):evB (WT TT (k+1)) jA [some (false,.tup [.str w,x,y]),some (false,.dct M),b,none,none,none]=.rt .fz (rD (or2 w x y r r')):=by
 have cw:aF 1 ((WT TT (k+1)).Φ "askings_within") (.ok [(.fz,.tup [.str w,x,y])])=.ok .fz (.tup [x,y]):=oH (pM k (w:=w) hw hj);have cx:aF 2 ((WT TT (k+1)).Φ "stepped") (.ok [(.fz,x),(.fz,.dct M)])=.ok .fz (rD r):=aR hx;have st:aI (.tp [.nm 4,.nm 5]) (.tup [.int 0,x]) [some (false,.tup [.str w,x,y]),some (false,.dct M),b,some (false,.tup [x,y]),none,none]=some [some (false,.tup [.str w,x,y]),some (false,.dct M),b,some (false,.tup [x,y]),some (false,.int 0),some (false,x)]:=rfl;unfold jA;cases r with
 | some d =>
  have rb:=pO k (a:=.str w) (l:=[x,y]) (xs:=[.tup d]) (by simp)
  have tn:=tJ (W:=WT TT (k+1)) (A:=.tup [.str w,x,y]) (i:=0) (xs:=[x,y]) (b:=b) cx (by decide) (by simp) (aR rb)
  have f:=fr2 (m:=.fz) st tn (l:=[.tup [.int 1,y]]);show _=aB.rt .fz (.tup [.str w,.tup d,y]);simp only[List.singleton_append,aRC,List.drop_succ_cons,aSG] at f;generalize D.tup [.str w,x,y]=A at *;simp[cw,en2,f]
 | none =>
  have hy:(WT TT (k+1)).Φ "stepped" [y,.dct M]=.ok .fz (rD r'):=hy.resolve_right (by simp)
  have cy:aF 2 ((WT TT (k+1)).Φ "stepped") (.ok [(.fz,y),(.fz,.dct M)])=.ok .fz (rD r'):=aR hy;have tn:=tI (W:=WT TT (k+1)) (A:=.tup [.str w,x,y]) (i:=0) (b:=b) (v:=some (false,.tup [x,y])) (p:=none) (q:=none) cx;have f:=fr1 (m:=.fz) st tn (l:=[.tup [.int 1,y]]);have st':aI (.tp [.nm 4,.nm 5]) (.tup [.int 1,y]) [some (false,.tup [.str w,x,y]),some (false,.dct M),some (false,.non),some (false,.tup [x,y]),some (false,.int 0),some (false,x)]=some [some (false,.tup [.str w,x,y]),some (false,.dct M),some (false,.non),some (false,.tup [x,y]),some (false,.int 1),some (false,y)]:=rfl;cases r' with
  | none=>have tn':=tI (W:=WT TT (k+1)) (A:=.tup [.str w,x,y]) (i:=1) (b:=some (false,.non)) (v:=some (false,.tup [x,y])) (p:=none) (q:=none) cy;have f':=fr1 (m:=.fz) st' tn' (l:=[]);generalize D.tup [.str w,x,y]=A at *;simp[cw,en2,f,f',fr0,rD,or2]
  | some d =>
   have rb:=pO k (a:=.str w) (l:=[x,y]) (xs:=[x,.tup d]) (by simp)
   have tn':=tJ (W:=WT TT (k+1)) (A:=.tup [.str w,x,y]) (i:=1) (xs:=[x,y]) (b:=some (false,.non)) cy (by decide) (by simp) (aR rb)
   have f':=fr2 (m:=.fz) st' tn' (l:=[]);show _=aB.rt .fz (.tup [.str w,x,.tup d]);have eq:([.str w]++([x,.tup d]++List.drop [x,D.tup d].length [x,y]):List D)=[.str w,x,.tup d]:=rfl;have f'':cJ (.ok .fz (.lst [.tup [.int 1,y]])) [some (false,.tup [.str w,x,y]),some (false,.dct M),some (false,.non),some (false,.tup [x,y]),some (false,.int 0),some (false,x)] (aI (.tp [.nm 4,.nm 5])) (evB (WT TT (k+1)) iV)=.rt .fz (.tup [.str w,x,.tup d]):=f'
   clear f' tn' rb
   generalize D.tup [.str w,x,y]=A at *;simp[cw,en2,f,f'']
theorem aN2{w:Str}{l:List D}(hl:l.length<=800)(hp:(w==Str.ofString "pick")=false)(hw:(w==Str.ofString "table")=false)(hj:decide (w∈jpl)=false)(hx:bY M x r (n+1)):bY M (.tup (.str w::x::l)) (r.map λd=>.str w :: .tup d::l) (n+2):=λK hK=>by
 obtain ⟨k,rfl,hk⟩:=le2 hK;have t:=aBB (b:=none) hl hw hj (hx (k+1) (by omega))
 rw[pD];refine aK rfl ?_;show evB (WT TT (k+1)) (d5.take 1++jA) [some (false,.tup (.str w::x::l)),some (false,.dct M),none,none,none,none]=_;rw[bE,aBA (w:=w) (cD (bF (j:=0) rfl)) hp,aB.thn_nx,t]
theorem aN3{w:Str}{r':Option (List D)}(hp:(w==Str.ofString "pick")=false)(hw:(w==Str.ofString "table")=false)(hj:decide (w∈jpl)=true)(hx:bY M x r (n+1))(hy:bY M y r' (n+1)\/r.isSome=true):bY M (.tup [.str w,x,y]) (or2 w x y r r') (n+2):=λK hK=>by
 obtain ⟨k,rfl,hk⟩:=le2 hK;have t:=aN1 (b:=none) (r':=r') hw hj (hx (k+1) (by omega)) (hy.imp (λh=>h (k+1) (by omega)) id)
 rw[pD];refine aK rfl ?_;show evB (WT TT (k+1)) (d5.take 1++jA) [some (false,.tup [.str w,x,y]),some (false,.dct M),none,none,none,none]=_;rw[bE,aBA (w:=w) (cD (bF (j:=0) rfl)) hp,aB.thn_nx,t]
theorem aN4{t:D}{r0:Option (List D)}(hb:kI M x t r0 (n+1))(hx:bY M x r (n+1)\/r0.isSome=true):bY M (.tup [.str "pick", x,t]) (orP x t r0 r) (n+2):=λK hK=>by
 obtain ⟨k,rfl,hk⟩:=le2 hK;rw[pD];refine aK rfl ?_;show evB (WT TT (k+1)) (d5.take 1++jA) [some (false,.tup [.str "pick", x,t]),some (false,.dct M),none,none,none,none]=_;have cb:aF 3 ((WT TT (k+1)).Φ "behind_pick") (.ok [(.fz,x),(.fz,t),(.fz,.dct M)])=.ok .fz (rD r0):=gC (hb (k+1) (by omega))
 cases r0 with
 | some d =>
  have h:evB (WT TT (k+1)) (d5.take 1) [some (false,.tup [.str "pick", x,t]),some (false,.dct M),none,none,none,none]=.rt .fz (.tup d):=by simp[d5,j0,j1,j2,cb,rD]
  rw[bE,h];rfl
 | none =>
  have h:evB (WT TT (k+1)) (d5.take 1) [some (false,.tup [.str "pick", x,t]),some (false,.dct M),none,none,none,none]=.nx [some (false,.tup [.str "pick", x,t]),some (false,.dct M),some (false,.non),none,none,none]:=by simp[d5,j0,j1,j2,cb,rD]
  have hx:bY M x r (n+1):=hx.resolve_right (by simp)
  have t':=aBB (w:=Str.ofString "pick") (l:=[t]) (b:=some (false,.non)) (by simp) (by decide +kernel) (by decide +kernel) (hx (k+1) (by omega))
  rw[bE,h,aB.thn_nx,t'];rfl
end
def eI(M:List (Key×D))(x t:D)(r:Option (List D))(n:Nat):Prop:=∀ K,n<=K->(WT TT K).Φ "sunk" [x,t,.dct M]=.ok .fz (rD r)
def sk:Ts->Bool
 | .atom ..=>true
 | .two e _ _=>e
 | .no (.atom ..)=>true
 | .no (.two e _ _)=>!e
 | .no (.no _)=>false
section
variable {M:List (Key×D)}{x y t:D}{r:Option (List D)}{n:Nat}{f:List Str}
theorem bp_nn{u:Ts}:kI M x (tsD f (.no (.no u))) (some [.str "pick", x,tsD f u]) 1:=λK hK=>by obtain ⟨k,rfl,hk⟩:=le1 hK;rw[pE];refine aK rfl ?_;show evB (WT TT k) eG [some (false,x),some (false,.tup [.str "not", .tup [.str "not", tsD f u]]),some (false,.dct M)]=.rt .fz (.tup [.str "pick", x,tsD f u]);generalize tsD f u=d at *;simp[eG,i0,i1,wd (a := "not") (b := "both"),t3]
theorem kJ{k:Nat}{w:Str}(h0:op2 ixD (.ok .fz t) (.ok .fz (.int 0))=.ok .fz (.str w))(hb:(w==Str.ofString "both")=false)(hn:(w==Str.ofString "not")=false\/∃ u v,op2 ixD (.ok .fz t) (.ok .fz (.int 1))=.ok .fz u/\op2 ixD (.ok .fz u) (.ok .fz (.int 0))=.ok .fz (.str v)/\(v==Str.ofString "not")=false/\(v==Str.ofString "either")=false)(hs:(WT TT k).Φ "sunk" [x,t,.dct M]=.ok .fz (rD r)):(WT TT (k+1)).Φ "behind_pick" [x,t,.dct M]=.ok .fz (rD r):=by
 have cs:aF 3 ((WT TT k).Φ "sunk") (.ok [(.fz,x),(.fz,t),(.fz,.dct M)])=.ok .fz (rD r):=gC hs;rw[pE];refine aK rfl ?_;show evB (WT TT k) eG [some (false,x),some (false,t),some (false,.dct M)]=_;rcases hn with hn | ⟨u,v,h1,h2,h3,h4⟩
 . simp[eG,h0,hb,hn,cs]
 . cases hn:(w==Str.ofString "not") with
   | false=>simp[eG,h0,hb,hn,cs]
   | true=>simp[eG,h0,hb,hn,h1,h2,h3,h4,cs]
theorem pP{u:Ts}(hu:sk u=true)(hs:eI M x (tsD f u) r n):kI M x (tsD f u) r (n+1):=λK hK=>by
 obtain ⟨k,rfl,hk⟩:=le1 hK;have hs:=hs k hk
 match u,hu with
 | .atom true p q,_=>exact kJ (w:=Str.ofString "same") j0 (by decide +kernel) (.inl (by decide +kernel)) hs
 | .atom false p q,_=>exact kJ (w:=Str.ofString "under") j0 (by decide +kernel) (.inl (by decide +kernel)) hs
 | .two true a b,_=>exact kJ (w:=Str.ofString "either") j0 (by decide +kernel) (.inl (by decide +kernel)) hs
 | .two false a b,h=>cases h
 | .no (.atom true p q),_=>exact kJ (w:=Str.ofString "not") i0 (by decide +kernel) (.inr ⟨_,Str.ofString "same", i1,j0,by decide +kernel,by decide +kernel⟩) hs
 | .no (.atom false p q),_=>exact kJ (w:=Str.ofString "not") i0 (by decide +kernel) (.inr ⟨_,Str.ofString "under", i1,j0,by decide +kernel,by decide +kernel⟩) hs
 | .no (.two false a b),_=>exact kJ (w:=Str.ofString "not") i0 (by decide +kernel) (.inr ⟨_,Str.ofString "both", i1,j0,by decide +kernel,by decide +kernel⟩) hs
 | .no (.two true a b),h=>cases h
 | .no (.no a),h=>cases h
theorem aN5{w:Str}:eI M (.tup [.str "table", .str w]) t none 1:=λK hK=>by obtain ⟨k,rfl,hk⟩:=le1 hK;rw[iB];refine aK rfl ?_;show evB (WT TT k) bO [some (false,.tup [.str "table", .str w]),some (false,t),some (false,.dct M),none,none,none]=.rt .fz .non;have w0:op2 ixD (.ok .fz (.tup [.str "table", .str w])) (.ok .fz (.int 0))=.ok .fz (.str "table"):=i0;generalize D.tup [.str "table", .str w]=A at *;simp[bO,w0]
theorem tK{W:WD}{C:List Str}:∀ L:List Str,bH (aI (.nm 1)) (λρ=>evF W [] ρ) (λρ=>evE W (.cmp .In (.var 1) (.var 0)) ρ) [some (false,Tp C),none] (L.map .str)=some (L.map λz=>.bl (decide (z∈C)))
 | []=>rfl
 | z::L=>by
  have ih:=tK (W:=W) (C:=C) L;have k:aI (.nm 1) (.str z) [some (false,Tp C),none]=some [some (false,Tp C),some (false,.str z)]:=rfl;have e:=mK (m:=.fz) (m':=.fz) (z:=z) (C:=C);have t:evE W (.cmp .In (.var 1) (.var 0)) [some (false,Tp C),some (false,.str z)]=.ok .fz (.bl (decide (z∈C))):=by generalize Tp C=t at *;simp[e]
  rw[aRG,bH,k];dsimp only;rw[yM];dsimp only;rw[t,ih];rfl
theorem tL{C:List Str}:∀ L:List Str,fB (L.map λz=>D.bl (decide (z∈C)))=some (L.map λz=>decide (z∈C))
 | []=>rfl
 | z::L=>by rw[aRG,fB,tL L];rfl
theorem pQ{k:Nat}{C L:List Str}(hL:L.length<sizeLine)(hc:(WT TT k).Φ "columns_in" [t]=.ok .fr (.lst (L.map .str))):(WT TT (k+1)).Φ "has_all" [Tp C,t]=.ok .fz (.bl (L.all λz=>decide (z∈C))):=by
 have cc:aF 1 ((WT TT k).Φ "columns_in") (.ok [(.fz,t)])=.ok .fr (.lst (L.map .str)):=fM hc;rw[aM7];refine aK rfl ?_;show evB (WT TT k) o8 [some (false,Tp C),some (false,t)]=_;have ei:evE (WT TT k) (.items (.call "columns_in" 1 [(.var 1)])) [some (false,Tp C),some (false,t)]=.ok .fz (.lst (L.map .str)):=by generalize Tp C=u at *;simp[cc]
 have ec:bX (.ok .fz (.lst (L.map .str))) [some (false,Tp C),some (false,t)] [0] 1 (aI (.nm 1)) (λρ=>evF (WT TT k) [] ρ) (λρ=>evE (WT TT k) (.cmp .In (.var 1) (.var 0)) ρ)=.ok .fr (.lst (L.map λz=>.bl (decide (z∈C)))):=by
  show (if (L.map D.str).length<sizeLine then (match bH (aI (.nm 1)) (λρ=>evF (WT TT k) [] ρ) (λρ=>evE (WT TT k) (.cmp .In (.var 1) (.var 0)) ρ) [some (false,Tp C),none] (L.map .str) with | some ys=>Res.ok .fr (.lst ys) | none=>.stuck) else .stuck)=_
  rw[if_pos (by rw[aQR];exact hL),tK]
 have ea:gR [(Md.fr,D.lst (L.map λz=>.bl (decide (z∈C))))]=some (.fz,.bl (L.all λz=>decide (z∈C))):=by show (fB _).map _=_;rw[tL,aR5,List.all_map];rfl
 unfold o8;rw[bI,lY,sD,gB,f9,f8,ei,ec];show (fC (Res.of (gR [(Md.fr,D.lst (L.map λz=>.bl (decide (z∈C))))])) _).thn _=_;rw[ea];rfl
theorem aN6{C C' L:List Str}(hL:L.length<sizeLine)(hc:∀ K,n<=K->(WT TT K).Φ "columns_in" [t]=.ok .fr (.lst (L.map .str)))(hx:∀ K,n+1<=K->(WT TT K).Φ "columns_of" [x,.dct M]=.ok .fz (Tp C))(hy:∀ K,n+1<=K->(WT TT K).Φ "columns_of" [y,.dct M]=.ok .fz (Tp C'))(n1:(L.all λz=>decide (z∈C))=false)(n2:(L.all λz=>decide (z∈C'))=false):eI M (.tup [.str "join", x,y]) t none (n+3):=λK hK=>by
 obtain ⟨k,rfl,hk⟩:∃ k,K=k+3/\n<=k:=⟨K-3,by omega,by omega⟩
 have cx:aF 2 ((WT TT (k+1)).Φ "columns_of") (.ok [(.fz,x),(.fz,.dct M)])=.ok .fz (Tp C):=aR (hx (k+1) (by omega))
 have cy:aF 2 ((WT TT (k+1)).Φ "columns_of") (.ok [(.fz,y),(.fz,.dct M)])=.ok .fz (Tp C'):=aR (hy (k+1) (by omega))
 have h1:aF 2 ((WT TT (k+1)).Φ "has_all") (.ok [(.fz,Tp C),(.fz,t)])=.ok .fz (.bl false):=aR (by rw[<- n1];exact pQ hL (hc k hk))
 have h2:aF 2 ((WT TT (k+1)).Φ "has_all") (.ok [(.fz,Tp C'),(.fz,t)])=.ok .fz (.bl false):=aR (by rw[<- n2];exact pQ hL (hc k hk))
 have w0:op2 ixD (.ok .fz (.tup [.str "join", x,y])) (.ok .fz (.int 0))=.ok .fz (.str "join"):=j0;have w1:op2 ixD (.ok .fz (.tup [.str "join", x,y])) (.ok .fz (.int 1))=.ok .fz x:=j1;have w2:op2 ixD (.ok .fz (.tup [.str "join", x,y])) (.ok .fz (.int 2))=.ok .fz y:=j2;generalize D.tup [.str "join", x,y]=A at *;have sj:(WT TT (k+2)).Φ "sunk_into_join" [A,t,.dct M]=.ok .fz .non:=by
  rw[aAV];refine aK rfl ?_;show evB (WT TT (k+1)) cT [some (false,A),some (false,t),some (false,.dct M),none,none]=_;generalize Tp C=u at *;generalize Tp C'=u' at *;have pr:evB (WT TT (k+1)) (cT.take 1) [some (false,A),some (false,t),some (false,.dct M),none,none]=.nx [some (false,A),some (false,t),some (false,.dct M),some (false,x),some (false,y)]:=by simp[cT,w1,w2,jS]
  rw[show cT=cT.take 1++cT.drop 1 from rfl,bE,pr,aB.thn_nx]
  simp[cT,cx,cy,h1,h2]
 have cj:aF 3 ((WT TT (k+2)).Φ "sunk_into_join") (.ok [(.fz,A),(.fz,t),(.fz,.dct M)])=.ok .fz .non:=gC sj;rw[iB];refine aK rfl ?_;show evB (WT TT (k+2)) bO [some (false,A),some (false,t),some (false,.dct M),none,none,none]=.rt .fz .non;simp[bO,w0,wd (a := "join") (b := "table"),wd (a := "join") (b := "pick"),cj]
end
theorem md{c n:Int}(h:0<n):∃ j:Nat,c % n=(j:Int)/\(j:Int)<n:=by
 have h0:=Int.emod_nonneg c (show n≠0 by omega)
 have h1:=Int.emod_lt_of_pos c h;exact ⟨(c % n).toNat,by omega,by omega⟩
theorem aBC(x:Nat):∀ (k:Nat) (acc:Array Nat),(List.replicate k #[x]).foldl (· ++ ·) acc=acc++(List.replicate k x).toArray
 | 0,acc=>by simp
 | k+1,acc=>by rw[aRT,aRU,aBC x k,aRT];apply Array.ext';simp
theorem aN7(x k:Nat):Txt.mul ⟨#[x]⟩ ((k+1:Nat):Int)=⟨(List.replicate (k+1) x).toArray⟩:=by
 unfold Txt.mul;rw[if_neg (by omega)]
 cases k with
 | zero=>rfl
 | succ k =>
  have h:((((k+1+1:Nat):Int)==1)||((⟨#[x]⟩:Str).length==0))=false:=by have:(⟨#[x]⟩:Str).length=1:=rfl;rw[this,aRV];exact ⟨by simpa using (by omega:¬ ((k+1+1:Nat):Int)=1),rfl⟩
  rw[h];rw[if_neg (by decide),aQY,aBC]
  simp
theorem tM(x n:Nat)(hn:n<=1000){m m':Md}:op2 (aX .Mult) (.ok m (.str ⟨#[x]⟩)) (.ok m' (.int (n:Int)))=.ok .fz (.str ⟨(List.replicate n x).toArray⟩):=by
 have hs:sizeLine=16777216:=aQD;have l1:(⟨#[x]⟩:Str).length=1:=rfl;refine bN ?_;show orO (orO _ iJ) nW m (.str ⟨#[x]⟩) m' (.int (n:Int))=_;unfold orO;cases n with
 | zero =>
  have e1:iJ m (.str ⟨#[x]⟩) m' (.int ((0:Nat):Int))=none:=by simp[iJ]
  rw[e1];rfl
 | succ k =>
  have e1:iJ m (.str ⟨#[x]⟩) m' (.int ((k+1:Nat):Int))=some (.fz,.str ⟨(List.replicate (k+1) x).toArray⟩):=by show (if (decide ((1:Int)<=((k+1:Nat):Int))&&decide (((k+1:Nat):Int)<=1000000)&&decide ((⟨#[x]⟩:Str).length * (((k+1:Nat):Int)).toNat<=sizeLine))=true then some (Md.fz,D.str (Txt.mul ⟨#[x]⟩ ((k+1:Nat):Int))) else none)=_;rw[if_pos (by rw[l1,aQY];simp only[aQ8,aRL];omega),aN7]
  rw[e1];rfl
theorem app_l(a b:List Nat):(⟨a.toArray⟩:Str)++⟨b.toArray⟩=⟨(a++b).toArray⟩:=by refine PySem.Str.ext' ?_;rw[PySem.Str.cps_append];simp
theorem aBD{a b:List Nat}(h:a.length+b.length<=2000){m m':Md}:op2 (aX .Add) (.ok m (.str ⟨a.toArray⟩)) (.ok m' (.str ⟨b.toArray⟩))=.ok .fz (.str ⟨(a++b).toArray⟩):=by have hs:sizeLine=16777216:=aQD;rw[aMI (by show a.toArray.size+b.toArray.size<=_;simp;omega),app_l]
theorem aBE{f:Nat->Str}{n:Nat}(h:∀ i j,i<n->j<n->f i=f j->i=j):((List.range n).map f).Nodup:=by unfold List.Nodup;rw[List.pairwise_map];exact List.Pairwise.imp_of_mem (λ{a b} ha hb hab e=>hab (h a b (aPM.mp ha) (aPM.mp hb) e)) List.nodup_range
theorem aBF{a b:List Nat}(h:(⟨a.toArray⟩:Str)=⟨b.toArray⟩):a=b:=by
 have:a.toArray=b.toArray:=by injection h
 simpa using this
def tN:List Nat:=[107,109,113,98,122,119,104,118,99,106,120,102]
theorem aN8:(Str.ofString "kmqbzwhvcjxf").cps.toList=tN:=by decide +kernel
def lt(k:Nat):Nat:=tN.getD k 0
theorem aN9:∀ i,i<12->∀ j,j<12->lt i=lt j->i=j:=by decide
theorem lt_ix{k:Nat}(hk:k<12){m m':Md}:op2 ixD (.ok m (.str (Str.ofString "kmqbzwhvcjxf"))) (.ok m' (.int (k:Int)))=.ok .fz (.str ⟨[lt k].toArray⟩):=ix_s (bF (by
 rw[aN8];unfold lt;rw[aR0,aR1 (show k<tN.length from hk)];rfl))
def nA(k:Nat):Str:=⟨(List.replicate (k+1) 112).toArray⟩
def nB(a e t k:Nat):Str:=⟨((List.replicate a 114++[lt k])++List.replicate t e).toArray⟩
theorem nA_nd{n:Nat}:((List.range n).map nA).Nodup:=aBE λi j _ _ h=>by have:=congrArg List.length (aBF h);simp at this;exact this
theorem nB_nd{a e t n:Nat}(hn:n<=12):((List.range n).map (nB a e t)).Nodup:=aBE λi j hi hj h=>by
 have h:=congrArg (λl=>l[a]?) (aBF h);have q:∀ x:Nat,((List.replicate a 114++[x])++List.replicate t e)[a]? = some x:=λx=>by
  rw[aQM (by simp),aQK (by simp)]
  simp
 simp only[q] at h;exact aN9 i (by omega) j (by omega) (aPE h)
def fvI(f:Nat->Str):D->D
 | .int i=>.str (f i.toNat)
 | d=>d
theorem aBG(f:Nat->Str)(n:Nat):(bM 0 (n:Int)).map (fvI f)=((List.range n).map f).map D.str:=by unfold bM;rw[List.map_map,List.map_map];simp[Function.comp_def,fvI]
section
variable {W:WD}{c:Int}{n:Nat}
theorem n_pre:∃ s:Nat,0<s/\s<=40/\evB W (hX.take 2) [some (false,.int c),some (false,.int (n:Int)),none,none]=.nx [some (false,.int c),some (false,.int (n:Int)),some (false,.int (s:Int)),none]:=by
 by_cases h:c / 6 % 9=4
 . exact ⟨40,by decide,by decide,by simp[hX,h]⟩
 . obtain ⟨j,ej,hj⟩:=md (c:=c) (n:=6) (by decide)
   refine ⟨1+j,by omega,by omega,?_⟩
   have h':(c / 6 % 9==4)=false:=aPC.mpr h;simp[hX,h',ej]
theorem n_A(hn:n<=12)(ρ:Rho):bX (.ok .fz (.lst (bM 0 (n:Int)))) ρ [] 1 (aI (.nm 0)) (λρ=>evF W [] ρ) (λρ=>evE W (.bin .Mult (.str "p") (.bin .Add (.var 0) (.int 1))) ρ)=.ok .fr (.lst (((List.range n).map nA).map .str)):=by
 have hs:sizeLine=16777216:=aQD;rw[<- aBG];refine yX _ (by rw[aA0];omega) λd hd=>?_
 obtain ⟨i,hi,rfl⟩:=mem_range hd;have ml:=tM 112 (i+1) (by omega) (m:=.fz) (m':=.fz)
 rw[show (⟨#[112]⟩:Str) = "p" from rfl] at ml
 refine ⟨[some (false,.int (i:Int))],.fz,rfl,by simp,.fz,?_⟩
 show _=Res.ok Md.fz (.str (nA i));unfold nA;generalize (⟨(List.replicate (i+1) 112).toArray⟩:Str)=Z at *;simp at ml;simp[ml]
theorem n_B(hn:n<=12){a s e:Nat}(ha:a<s)(hs:s<=40)(he:op2 ixD (.ok .fz (.str "r7")) (.ok .fz (.int (c % 2)))=.ok .fz (.str ⟨#[e]⟩))(ρ:Rho)(hρ:cF [3,0,2] ρ=[some (false,.int (a:Int)),some (false,.int c),some (false,.int (s:Int))]):bX (.ok .fz (.lst (bM 0 (n:Int)))) ρ [3,0,2] 1 (aI (.nm 3)) (λρ=>evF W [] ρ) (λρ=>evE W (.bin .Add (.bin .Add (.bin .Mult (.str "r") (.var 0)) (.ix (.str "kmqbzwhvcjxf") (.var 3))) (.bin .Mult (.ix (.str "r7") (.bin .Mod (.var 1) (.int 2))) (.bin .Sub (.bin .Sub (.var 2) (.var 0)) (.int 1)))) ρ)=.ok .fr (.lst (((List.range n).map (nB a e (s-a-1))).map .str)):=by
 have hsz:sizeLine=16777216:=aQD;rw[<- aBG];refine yX _ (by rw[aA0];omega) λd hd=>?_
 obtain ⟨i,hi,rfl⟩:=mem_range hd;have m1:=tM 114 a (by omega) (m:=.fz) (m':=.fz)
 rw[show (⟨#[114]⟩:Str) = "r" from rfl] at m1
 have m2:=tM e (s-a-1) (by omega) (m:=.fz) (m':=.fz)
 rw[show ((s-a-1:Nat):Int)=(s:Int)-(a:Int)-1 by omega] at m2
 have l1:=lt_ix (k:=i) (by omega) (m:=.fz) (m':=.fz)
 have a1:=aBD (a:=List.replicate a 114) (b:=[lt i]) (m:=.fz) (m':=.fz) (by simp;omega)
 have a2:=aBD (a:=List.replicate a 114++[lt i]) (b:=List.replicate (s-a-1) e) (m:=.fz) (m':=.fz) (by simp;omega)
 refine ⟨[some (false,.int (a:Int)),some (false,.int c),some (false,.int (s:Int)),some (false,.int (i:Int))],.fz,by rw[hρ];rfl,by simp,.fz,?_⟩
 show _=Res.ok Md.fz (.str (nB a e (s-a-1) i));unfold nB;generalize (⟨((List.replicate a 114++[lt i])++List.replicate (s-a-1) e).toArray⟩:Str)=Z at *;generalize (⟨(List.replicate a 114++[lt i]).toArray⟩:Str)=Z1 at *;generalize (⟨(List.replicate (s-a-1) e).toArray⟩:Str)=Z2 at *;generalize (⟨(List.replicate a 114).toArray⟩:Str)=Z3 at *;generalize (⟨[lt i].toArray⟩:Str)=Z4 at *;simp[m1,he,m2,l1,a1,a2]
theorem c_A(hn:n<=12){s:Int}:evE W (.comp (.bin .Mult (.str "p") (.bin .Add (.var 0) (.int 1))) (.rng1 (.var 1)) [] [] (.nm 0) 1) [some (false,.int c),some (false,.int (n:Int)),some (false,.int s),none]=.ok .fr (.lst (((List.range n).map nA).map .str)):=by
 have er:=sX (m:=.fz) (n:=(n:Int)) (by omega) (by omega)
 have cA:=n_A (W:=W) hn [some (false,.int c),some (false,.int (n:Int)),some (false,.int s),none];have ei:evE W (.rng1 (.var 1)) [some (false,.int c),some (false,.int (n:Int)),some (false,.int s),none]=.ok .fz (.lst (bM 0 (n:Int))):=by rw[sH,bK,<- er,g_1,g_0];rw[jL]
 rw[f8,ei];exact cA
theorem c_B(hn:n<=12){a s e:Nat}(ha:a<s)(hs:s<=40)(he:op2 ixD (.ok .fz (.str "r7")) (.ok .fz (.int (c % 2)))=.ok .fz (.str ⟨#[e]⟩)):evE W (.comp (.bin .Add (.bin .Add (.bin .Mult (.str "r") (.var 0)) (.ix (.str "kmqbzwhvcjxf") (.var 3))) (.bin .Mult (.ix (.str "r7") (.bin .Mod (.var 1) (.int 2))) (.bin .Sub (.bin .Sub (.var 2) (.var 0)) (.int 1)))) (.rng1 (.var 1)) [] [3,0,2] (.nm 3) 1) [some (false,.int c),some (false,.int (n:Int)),some (false,.int (s:Int)),some (false,.int (a:Int))]=.ok .fr (.lst (((List.range n).map (nB a e (s-a-1))).map .str)):=by
 have er:=sX (m:=.fz) (n:=(n:Int)) (by omega) (by omega)
 have cB:=n_B (W:=W) hn ha hs he [some (false,.int c),some (false,.int (n:Int)),some (false,.int (s:Int)),some (false,.int (a:Int))] rfl;have ei:evE W (.rng1 (.var 1)) [some (false,.int c),some (false,.int (n:Int)),some (false,.int (s:Int)),some (false,.int (a:Int))]=.ok .fz (.lst (bM 0 (n:Int))):=by rw[sH,bK,<- er,g_1,g_0];rw[jL]
 rw[f8,ei];exact cB
def xA:E:=.comp (.bin .Mult (.str "p") (.bin .Add (.var 0) (.int 1))) (.rng1 (.var 1)) [] [] (.nm 0) 1
def xB:E:=.comp (.bin .Add (.bin .Add (.bin .Mult (.str "r") (.var 0)) (.ix (.str "kmqbzwhvcjxf") (.var 3))) (.bin .Mult (.ix (.str "r7") (.bin .Mod (.var 1) (.int 2))) (.bin .Sub (.bin .Sub (.var 2) (.var 0)) (.int 1)))) (.rng1 (.var 1)) [] [3,0,2] (.nm 3) 1
def kK:List D3.S:=[.ite (.cmp .Eq (.bin .Mod (.bin .FloorDiv (.var 0) (.int 54)) (.int 4)) (.int 1)) [.ret xA] [],.set 3 (.frz (.bin .Mod (.bin .FloorDiv (.var 0) (.int 216)) (.var 2))),.ret xB]
theorem aOA:hX=hX.take 2++kK:=rfl
theorem t_A{d:D}{s:Int}(h:c / 54 % 4=1)(hx:evE W xA [some (false,.int c),some (false,.int (n:Int)),some (false,.int s),none]=.ok .fr d):evB W kK [some (false,.int c),some (false,.int (n:Int)),some (false,.int s),none]=.rt .fr d:=by unfold kK;generalize xA=X at *;generalize xB=Y at *;simp[h,hx]
theorem t_B{d:D}{s a:Int}(h:¬ c / 54 % 4=1)(em:op2 (aX .Mod) (.ok .fz (.int (c / 216))) (.ok .fz (.int s))=.ok .fz (.int a))(hx:evE W xB [some (false,.int c),some (false,.int (n:Int)),some (false,.int s),some (false,.int a)]=.ok .fr d):evB W kK [some (false,.int c),some (false,.int (n:Int)),some (false,.int s),none]=.rt .fr d:=by
 have h':(c / 54 % 4==1)=false:=aPC.mpr h;have g1:evE W (.cmp .Eq (.bin .Mod (.bin .FloorDiv (.var 0) (.int 54)) (.int 4)) (.int 1)) [some (false,.int c),some (false,.int (n:Int)),some (false,.int s),none]=.ok .fz (.bl false):=by simp[h']
 have g2:evE W (.frz (.bin .Mod (.bin .FloorDiv (.var 0) (.int 216)) (.var 2))) [some (false,.int c),some (false,.int (n:Int)),some (false,.int s),none]=.ok .fz (.int a):=by simp[em]
 unfold kK;rw[bI,oE,g1,yT,dY,aB.thn_nx,bI,oD,g2,yU,aB.thn_nx];show evB W [.ret xB] [some (false,.int c),some (false,.int (n:Int)),some (false,.int s),some (false,.int a)]=_;rw[bI,lY,hx];rfl
end
theorem names(k:Nat)(c:Int){n:Nat}(hn:n<=12):∃ N:List Str,N.length=n/\N.Nodup/\(WT TT (k+1)).Φ "_law_names" [.int c,.int (n:Int)]=.ok .fr (.lst (N.map .str)):=by
 obtain ⟨s,s0,s1,pre⟩:=n_pre (W:=WT TT k) (c:=c) (n:=n)
 suffices q:∃ N:List Str,N.length=n/\N.Nodup/\evB (WT TT k) kK [some (false,.int c),some (false,.int (n:Int)),some (false,.int (s:Int)),none]=.rt .fr (.lst (N.map .str)) by obtain ⟨N,h1,h2,h3⟩:=q;refine ⟨N,h1,h2,?_⟩;rw[aNA];refine aK rfl ?_;show evB (WT TT k) hX [some (false,.int c),some (false,.int (n:Int)),none,none]=_;rw[aOA,bE,pre,aB.thn_nx,h3]
 by_cases h:c / 54 % 4=1
 . exact ⟨(List.range n).map nA,by simp,nA_nd,t_A h (c_A hn)⟩
 . obtain ⟨a,ea,ha⟩:=md (c:=c / 216) (n:=(s:Int)) (by omega)
   obtain ⟨e,_,he⟩:=aAX (Str.ofString "r7").cps.toList c 2 (by decide +kernel) (by decide)
   exact ⟨(List.range n).map (nB a e (s-a-1)),by simp,nB_nd hn,t_B h (by rw[fG (by omega),ea]) (c_B hn (by omega) s1 (ix_s he))⟩
theorem mixed(k:Nat)(c:Int){p:Int}(hp:0<p):∃ v:Int,(WT TT (k+1)).Φ "_law_mixed" [.int c,.int p]=.ok .fz (.int v):=by
 obtain ⟨j,ej,hj⟩:=md (c:=(c+7) * 48271) (n:=2147483647) (by decide)
 refine ⟨(j:Int) * (j:Int) % p,?_⟩;rw[aM9];refine aK rfl ?_;show evB (WT TT k) o9 [some (false,.int c),some (false,.int p),none]=_;have m1:op2 (aX .Mult) (.ok .fz (.int (c+7))) (.ok .fz (.int 48271))=.ok .fz (.int ((c+7) * 48271)):=oF (by decide)
 have m2:op2 (aX .Mult) (.ok .fz (.int (j:Int))) (.ok .fz (.int (j:Int)))=.ok .fz (.int ((j:Int) * (j:Int))):=oF (by omega)
 have m3:op2 (aX .Mod) (.ok .fz (.int ((j:Int) * (j:Int)))) (.ok .fz (.int p))=.ok .fz (.int ((j:Int) * (j:Int) % p)):=fG hp;have m4:op2 (aX .Mod) (.ok .fz (.int ((c+7) * 48271))) (.ok .fz (.int 2147483647))=.ok .fz (.int (j:Int)):=by rw[fG (by decide),ej]
 simp[o9,m1,m4,m2,m3]
theorem pow12:op2 (aX .Pow) (.ok .fz (.int 10)) (.ok .fz (.int 12))=.ok .fz (.int 1000000000000):=by rfl
theorem pow50:op2 (aX .Pow) (.ok .fz (.int 10)) (.ok .fz (.int 50))=.ok .fz (.int 100000000000000000000000000000000000000000000000000):=by rfl
theorem pow5{i:Int}(h:i.natAbs<2 ^ 64):op2 (aX .Pow) (.ok .fz (.int i)) (.ok .fz (.int 5))=.ok .fz (.int (i ^ 5)):=bN (by
 show (if (decide ((0:Int)<=5)&&decide ((5:Int)<=1000000)&&decide (i.natAbs<2 ^ 64))=true then some (Md.fz,D.int (i ^ (5:Int).toNat)) else none)=_
 rw[if_pos (by rw[aRE h];rfl)];rfl)
theorem aOB(k:Nat)(c:Int):∃ (a b:Int) (z:Str),(WT TT (k+2)).Φ "_law_values" [.int c]=.ok .fr (.lst [.int a,.int b,.str z]):=by
 obtain ⟨N,n1,n2,n3⟩:=names k (c / 6) (n:=1) (by decide)
 obtain ⟨z,rfl⟩:∃ z,N=[z]:=by
  match N,n1 with
  | [z],_=>exact ⟨z,rfl⟩
 have cn:aF 2 ((WT TT (k+1)).Φ "_law_names") (.ok [(.fz,.int (c / 6)),(.fz,.int 1)])=.ok .fr (.lst [.str z]):=i7 (ds:=[.int (c / 6),.int 1]) rfl rfl n3;obtain ⟨j,ej,hj⟩:=md (c:=c) (n:=1000000000000) (by decide)
 have p5:=pow5 (i:=(j:Int)) (by omega)
 have e1:op2 (aX .Mod) (.ok .fz (.int c)) (.ok .fz (.int 1000000000000))=.ok .fz (.int (j:Int)):=by rw[fG (by decide),ej]
 have e2:op2 (aX .Mod) (.ok .fz (.int ((j:Int) ^ 5))) (.ok .fz (.int 100000000000000000000000000000000000000000000000000))=.ok .fz (.int ((j:Int) ^ 5 % 100000000000000000000000000000000000000000000000000)):=fG (by decide)
 have h0':op2 ixD (.ok .fr (.lst [.str z])) (.ok .fz (.int 0))=.ok .fz (.str z):=h0;have l3:∀ {a b c:D},iL (.ok [(.fz,a),(.fz,b),(.fz,c)])=.ok .fr (.lst [a,b,c]):=by intros;rfl
 generalize (j:Int) ^ 5 % 100000000000000000000000000000000000000000000000000=q at *;have pre:evB (WT TT (k+1)) (hZ.take 1) [some (false,.int c),none]=.nx [some (false,.int c),some (false,.int (3+q))]:=by generalize (j:Int) ^ 5=q' at *;simp[hZ,pow12,e1,p5,pow50,e2]
 refine ⟨c / 2 % 3,if c % 2=1 then 0-(3+q) else 3+q,z,?_⟩;rw[aNB];refine aK rfl ?_;show evB (WT TT (k+1)) (hZ.take 1++hZ.drop 1) [some (false,.int c),none]=_;rw[bE,pre,aB.thn_nx];generalize 3+q=q' at *;by_cases h:c % 2=1
 . simp[hZ,h,cn,h0',l3]
 . have h':(c % 2==1)=false:=aPC.mpr h;simp[hZ,h,h',cn,h0',l3]
def Vs(vs:List D):Prop:=vs.length=3/\∀ d∈vs,(∃ i,d=.int i)\/∃ z,d=.str z
def Pt.ok(vs:List D)(n:List Str):Pt->Prop
 | .of k=>k∈n
 | .just v=>v∈vs
def Ts.ok(vs:List D)(n:List Str):Ts->Prop
 | .atom _ p q=>p.ok vs n/\q.ok vs n
 | .no t=>t.ok vs n
 | .two _ a b=>a.ok vs n/\b.ok vs n
theorem part(k:Nat)(c:Int){C:List Str}{vs:List D}(hv:Vs vs):∃ p:Pt,p.ok vs C/\(WT TT (k+1)).Φ "_law_part" [.int c,Tp C,.lst vs]=.ok .fz (ptD C p):=by
 have lt:=mL (C:=C) (m:=.fz);by_cases h0:0<C.length/\c % 3<2
 . obtain ⟨j,ej,hj⟩:=md (c:=c / 3) (n:=(C.length:Int)) (by omega)
   have hj':j<C.length:=by omega
   refine ⟨.of C[j],aR2 hj',?_⟩;rw[aAW];refine aK rfl ?_;show evB (WT TT k) i3 [some (false,.int c),some (false,Tp C),some (false,.lst vs)]=.rt .fz (.tup [.str "of", .str C[j]]);have em:op2 (aX .Mod) (.ok .fz (.int (c / 3))) (.ok .fz (.int (C.length:Int)))=.ok .fz (.int (j:Int)):=by rw[fG (by omega),ej]
   have ea:=tE hj' (m:=.fz) (m':=.fz);have g0:(0:Int)<(C.length:Int):=by omega
   generalize C[j]=z at *;generalize Tp C=u at *;simp[i3,lt,h0.1,h0.2,em,ea,t2]
 . obtain ⟨v,hv',ev⟩:=aAX vs (c / 3) 3 (by rw[hv.1];rfl) (by decide)
   refine ⟨.just v,hv',?_⟩;rw[aAW];refine aK rfl ?_;show evB (WT TT k) i3 [some (false,.int c),some (false,Tp C),some (false,.lst vs)]=.rt .fz (.tup [.str "just", v]);have ex:op2 ixD (.ok .fz (.lst vs)) (.ok .fz (.int (c / 3 % 3)))=.ok .fz v:=d8 ev;by_cases g:0<C.length
   . have g0:(0:Int)<(C.length:Int):=by omega
     have h1:¬ c % 3<2:=λq=>h0 ⟨g,q⟩;generalize Tp C=u at *;simp[i3,lt,g,h1,ex,t2]
   . have g0:¬ (0:Int)<(C.length:Int):=by omega
     generalize Tp C=u at *;simp[i3,lt,g,ex,t2]
theorem pk2{a b:D}{m m':Md}(c:Int):∃ s:Bool,op2 ixD (.ok m (.lst [a,b])) (.ok m' (.int (c % 2)))=.ok .fz (if s=true then b else a):=by
 have h:c % 2=0\/c % 2=1:=by omega
 rcases h with h | h
 . exact ⟨false,by rw[h];exact d8 (bF (j:=0) rfl)⟩
 . exact ⟨true,by rw[h];exact d8 (bF (j:=1) rfl)⟩
theorem l2{a b:D}:iL (.ok [(.fz,a),(.fz,b)])=.ok .fr (.lst [a,b]):=by rfl
theorem bare(k:Nat)(c n:Int){C:List Str}{vs:List D}(hv:Vs vs)(h:n=0\/c % 5<2):∃ (s:Bool) (p q:Pt),p.ok vs C/\q.ok vs C/\(WT TT (k+2)).Φ "_law_test" [.int c,.int n,Tp C,.lst vs]=.ok .fz (tsD C (.atom s p q)):=by
 obtain ⟨p,hp,ep⟩:=part k (c / 5) (C:=C) hv;obtain ⟨q,hq,eq⟩:=part k (c / 5 / 19) (C:=C) hv;obtain ⟨s,es⟩:=pk2 (a:=.str "same") (b:=.str "under") (m:=.fr) (m':=.fz) c;have cp:aF 3 ((WT TT (k+1)).Φ "_law_part") (.ok [(.fz,.int (c / 5)),(.fz,Tp C),(.fz,.lst vs)])=.ok .fz (ptD C p):=gC ep;have cq:aF 3 ((WT TT (k+1)).Φ "_law_part") (.ok [(.fz,.int (c / 5 / 19)),(.fz,Tp C),(.fz,.lst vs)])=.ok .fz (ptD C q):=gC eq;refine ⟨!s,p,q,hp,hq,?_⟩;rw[mJ];refine aK rfl ?_;show evB (WT TT (k+1)) bL [some (false,.int c),some (false,.int n),some (false,Tp C),some (false,.lst vs),none,none,none]=.rt .fz (.tup [.str (if (!s)=true then "same" else "under"),ptD C p,ptD C q]);have hw:(if s=true then D.str "under" else .str "same")=.str (if (!s)=true then "same" else "under"):=by cases s <;> rfl
 rw[hw] at es;generalize (if (!s)=true then ("same" : Str) else "under")=w at *;have hc:((n==0)||decide (c % 5<2))=true:=by rcases h with h | h <;> simp[h]
 generalize ptD C p=d1 at *;generalize ptD C q=d2 at *;generalize Tp C=u at *;have p1:evB (WT TT (k+1)) (bL.take 1) [some (false,.int c),some (false,.int n),some (false,u),some (false,.lst vs),none,none,none]=.nx [some (false,.int c),some (false,.int n),some (false,u),some (false,.lst vs),some (false,.int (c / 5)),none,none]:=by simp[bL]
 rw[show bL=bL.take 1++bL.drop 1 from rfl,bE,p1,aB.thn_nx]
 rw[show bL.drop 1=.ite (.orL [(.cmp .Eq (.var 1) (.int 0)),(.cmp .Lt (.bin .Mod (.var 0) (.int 5)) (.int 2))]) [.set 5 (.ix (.lst [(.str "same"),(.str "under")]) (.bin .Mod (.var 0) (.int 2))),.ret (.tup [(.var 5),(.frz (.call "_law_part" 3 [(.var 4),(.var 2),(.var 3)])),(.frz (.call "_law_part" 3 [(.frz (.bin .FloorDiv (.var 4) (.int 19))),(.var 2),(.var 3)]))])] []::bL.drop 2 from rfl]
 generalize bL.drop 2=Y;simp[hc,l2,es,cp,cq,t3]
theorem tO(k:Nat)(c:Int){C:List Str}{vs:List D}(hv:Vs vs):∃ t:Ts,t.dep<=1/\t.ok vs C/\(WT TT (k+3)).Φ "_law_test" [.int c,.int 1,Tp C,.lst vs]=.ok .fz (tsD C t):=by
 by_cases h:c % 5<2
 . obtain ⟨s,p,q,hp,hq,e⟩:=bare (k+1) c 1 (C:=C) hv (.inr h);exact ⟨.atom s p q,aRK _,⟨hp,hq⟩,e⟩
 . obtain ⟨s,p,q,hp,hq,e⟩:=bare k (c / 5) 0 (C:=C) hv (.inl rfl);obtain ⟨s',p',q',hp',hq',e'⟩:=bare k ((c / 5+5) * 69621 % 998244353) 0 (C:=C) hv (.inl rfl);have c1:aF 4 ((WT TT (k+2)).Φ "_law_test") (.ok [(.fz,.int (c / 5)),(.fz,.int 0),(.fz,Tp C),(.fz,.lst vs)])=.ok .fz (tsD C (.atom s p q)):=kB e;have c2:aF 4 ((WT TT (k+2)).Φ "_law_test") (.ok [(.fz,.int ((c / 5+5) * 69621 % 998244353)),(.fz,.int 0),(.fz,Tp C),(.fz,.lst vs)])=.ok .fz (tsD C (.atom s' p' q')):=kB e';have m1:op2 (aX .Mult) (.ok .fz (.int (c / 5+5))) (.ok .fz (.int 69621))=.ok .fz (.int ((c / 5+5) * 69621)):=oF (by decide)
   have hh:decide (c % 5<2)=false:=aPB h;by_cases h2:c % 5=2
   . refine ⟨.no (.atom s p q),aP8 _,⟨hp,hq⟩,?_⟩;rw[mJ];refine aK rfl ?_;show evB (WT TT (k+2)) bL [some (false,.int c),some (false,.int 1),some (false,Tp C),some (false,.lst vs),none,none,none]=.rt .fz (.tup [.str "not", tsD C (.atom s p q)]);generalize tsD C (.atom s p q)=d1 at *;generalize Tp C=u at *;simp[bL,h2,c1,t2]
   . have h2':(c % 5==2)=false:=aPC.mpr h2;obtain ⟨g,eg⟩:=pk2 (a:=.str "both") (b:=.str "either") (m:=.fr) (m':=.fz) c;refine ⟨.two g (.atom s p q) (.atom s' p' q'),aP8 _,⟨⟨hp,hq⟩,⟨hp',hq'⟩⟩,?_⟩;rw[mJ];refine aK rfl ?_;show evB (WT TT (k+2)) bL [some (false,.int c),some (false,.int 1),some (false,Tp C),some (false,.lst vs),none,none,none]=.rt .fz (.tup [.str (if g=true then "either" else "both"),tsD C (.atom s p q),tsD C (.atom s' p' q')]);have hw:(if g=true then D.str "either" else .str "both")=.str (if g=true then "either" else "both"):=by cases g <;> rfl
     rw[hw] at eg;generalize (if g=true then ("either" : Str) else "both")=w at *;generalize tsD C (.atom s p q)=d1 at *;generalize tsD C (.atom s' p' q')=d2 at *;generalize Tp C=u at *;have p1:evB (WT TT (k+2)) (bL.take 3) [some (false,.int c),some (false,.int 1),some (false,u),some (false,.lst vs),none,none,none]=.nx [some (false,.int c),some (false,.int 1),some (false,u),some (false,.lst vs),some (false,.int (c / 5)),none,none]:=by simp[bL,hh,h2']
     rw[show bL=bL.take 3++bL.drop 3 from rfl,bE,p1,aB.thn_nx]
     simp[bL,l2,eg,c1,m1,c2,t3]
theorem test2(k:Nat)(c:Int){C:List Str}{vs:List D}(hv:Vs vs):∃ t:Ts,t.dep<=2/\t.ok vs C/\(WT TT (k+4)).Φ "_law_test" [.int c,.int 2,Tp C,.lst vs]=.ok .fz (tsD C t):=by
 by_cases h:c % 5<2
 . obtain ⟨s,p,q,hp,hq,e⟩:=bare (k+2) c 2 (C:=C) hv (.inr h);exact ⟨.atom s p q,aRK _,⟨hp,hq⟩,e⟩
 . obtain ⟨a,ha,ha',e⟩:=tO k (c / 5) (C:=C) hv;obtain ⟨b,hb,hb',e'⟩:=tO k ((c / 5+5) * 69621 % 998244353) (C:=C) hv;have c1:aF 4 ((WT TT (k+3)).Φ "_law_test") (.ok [(.fz,.int (c / 5)),(.fz,.int 1),(.fz,Tp C),(.fz,.lst vs)])=.ok .fz (tsD C a):=kB e;have c2:aF 4 ((WT TT (k+3)).Φ "_law_test") (.ok [(.fz,.int ((c / 5+5) * 69621 % 998244353)),(.fz,.int 1),(.fz,Tp C),(.fz,.lst vs)])=.ok .fz (tsD C b):=kB e';have m1:op2 (aX .Mult) (.ok .fz (.int (c / 5+5))) (.ok .fz (.int 69621))=.ok .fz (.int ((c / 5+5) * 69621)):=oF (by decide)
   have hh:decide (c % 5<2)=false:=aPB h;by_cases h2:c % 5=2
   . refine ⟨.no a,by show a.dep+1<=2;omega,ha',?_⟩
     rw[mJ];refine aK rfl ?_;show evB (WT TT (k+3)) bL [some (false,.int c),some (false,.int 2),some (false,Tp C),some (false,.lst vs),none,none,none]=.rt .fz (.tup [.str "not", tsD C a]);generalize tsD C a=d1 at *;generalize Tp C=u at *;simp[bL,h2,c1,t2]
   . have h2':(c % 5==2)=false:=aPC.mpr h2;obtain ⟨g,eg⟩:=pk2 (a:=.str "both") (b:=.str "either") (m:=.fr) (m':=.fz) c;refine ⟨.two g a b,by show max a.dep b.dep+1<=2;omega,⟨ha',hb'⟩,?_⟩
     rw[mJ];refine aK rfl ?_;show evB (WT TT (k+3)) bL [some (false,.int c),some (false,.int 2),some (false,Tp C),some (false,.lst vs),none,none,none]=.rt .fz (.tup [.str (if g=true then "either" else "both"),tsD C a,tsD C b]);have hw:(if g=true then D.str "either" else .str "both")=.str (if g=true then "either" else "both"):=by cases g <;> rfl
     rw[hw] at eg;generalize (if g=true then ("either" : Str) else "both")=w at *;generalize tsD C a=d1 at *;generalize tsD C b=d2 at *;generalize Tp C=u at *;have p1:evB (WT TT (k+3)) (bL.take 3) [some (false,.int c),some (false,.int 2),some (false,u),some (false,.lst vs),none,none,none]=.nx [some (false,.int c),some (false,.int 2),some (false,u),some (false,.lst vs),some (false,.int (c / 5)),none,none]:=by simp[bL,hh,h2']
     rw[show bL=bL.take 3++bL.drop 3 from rfl,bE,p1,aB.thn_nx]
     simp[bL,l2,eg,c1,m1,c2,t3]
section
variable {W:WD}{c e:E}{x y r:List D3.S}{ρ ρ':Rho}{m:Md}{d:D}{i:Nat}
theorem cU(h:evE W c ρ=.ok .fz (.bl false)):evB W (.ite c x []::r) ρ=evB W r ρ:=by rw[bI,oE,h,yT,dY,aB.thn_nx]
theorem gG(h:evE W c ρ=.ok .fz (.bl true))(h':evB W x ρ=.rt m d):evB W (.ite c x y::r) ρ=.rt m d:=by rw[bI,oE,h,yS,h',aB.thn_rt]
theorem aBH(h:evE W c ρ=.ok .fz (.bl true))(h':evB W x ρ=.nx ρ'):evB W (.ite c x y::r) ρ=evB W r ρ':=by rw[bI,oE,h,yS,h',aB.thn_nx]
theorem cM(h:evE W e ρ=.ok .fz d)(hρ:ρ.set i (some (false,d))=ρ'):evB W (.set i e::r) ρ=evB W r ρ':=by rw[bI,oD,h,yU,aB.thn_nx,hρ]
theorem dH(h:evE W e ρ=.ok .fz d):evB W (.ret e::r) ρ=.rt .fz d:=by rw[bI,lY,h,x_ret,aB.thn_rt]
end
def Dp(n:Nat)(d:D):Prop:=∃ p,aV d=some p/\p.depth<=n
theorem Dp.mono{n n':Nat}{d:D}(h:Dp n d)(hn:n<=n'):Dp n' d:=by obtain ⟨p,h1,h2⟩:=h;exact ⟨p,h1,aPN h2 hn⟩
theorem cN{n:Nat}{z:Str}:Dp n (.str z):=⟨.str z,rfl,by simp[PyData.depth]⟩
theorem aOC{n:Nat}{z:Int}:Dp n (.int z):=⟨.int z,rfl,by simp[PyData.depth]⟩
theorem tP{n:Nat}:∀ ds:List D,(∀ d∈ds,Dp n d)->∃ ps,cG ds=some ps/\PyData.depthAll ps<=n
 | [],_=>⟨[],rfl,by simp[PyData.depthAll]⟩
 | d::ds,h=>by
  obtain ⟨p,h1,h2⟩:=h d mcs;obtain ⟨ps,h3,h4⟩:=tP ds λd hd=>h d (mcm hd);refine ⟨p::ps,?_,?_⟩
  . show (match aV d,cG ds with | some p,some ps=>some (p::ps) | _,_=>none)=_
    rw[h1,h3]
  . simp[PyData.depthAll];omega
theorem pR{n:Nat}{ds:List D}(h:∀ d∈ds,Dp n d):Dp (n+1) (.tup ds):=by
 obtain ⟨ps,h1,h2⟩:=tP ds h;refine ⟨.tuple ps,?_,?_⟩
 . rw[aV,h1];rfl
 . simp[PyData.depth];omega
theorem pS{n:Nat}{C:List Str}:Dp (n+1) (Tp C):=pR λd hd=>by obtain ⟨z,_,rfl⟩:=aTB.mp hd;exact cN
theorem pT{n:Nat}{a b:D}(h1:Dp n a)(h2:Dp n b):Dp (n+1) (.tup [a,b]):=pR λd hd=>by simp only[aPP,aTG,aSW] at hd;rcases hd with rfl | rfl <;> assumption
theorem iD{n:Nat}{a b c:D}(h1:Dp n a)(h2:Dp n b)(h3:Dp n c):Dp (n+1) (.tup [a,b,c]):=pR λd hd=>by simp only[aPP,aTG,aSW] at hd;rcases hd with rfl | rfl | rfl <;> assumption
theorem dp_4{n:Nat}{a b c e:D}(h1:Dp n a)(h2:Dp n b)(h3:Dp n c)(h4:Dp n e):Dp (n+1) (.tup [a,b,c,e]):=pR λd hd=>by simp only[aPP,aTG,aSW] at hd;rcases hd with rfl | rfl | rfl | rfl <;> assumption
theorem aBI{vs:List D}(hv:Vs vs){f n:List Str}{p:Pt}(h:p.ok vs n):Dp 1 (ptD f p):=by
 cases p with
 | of k=>exact pT cN cN
 | just v =>
  refine pT cN ?_;rcases hv.2 v h with ⟨i,rfl⟩ | ⟨z,rfl⟩
  . exact aOC
  . exact cN
theorem pU{vs:List D}(hv:Vs vs){f n:List Str}:∀ t:Ts,t.ok vs n->Dp (t.dep+2) (tsD f t)
 | .atom s p q,h=>iD cN (aBI hv h.1) (aBI hv h.2)
 | .no t,h=>pT cN (pU hv t h)
 | .two e a b,h=>iD (n:=max a.dep b.dep+2) cN ((pU hv a h.1).mono (by omega)) ((pU hv b h.2).mono (by omega))
mutual
theorem tQ:∀ (d:D) (p:PyData),aV d=some p->PyData.eqv p p=true
 | .non,p,h=>by cases h;rfl
 | .bl _,p,h=>by cases h;simp[PyData.eqv]
 | .int _,p,h=>by cases h;simp[PyData.eqv]
 | .str _,p,h=>by cases h;simp[PyData.eqv]
 | .tup ds,p,h=>by
  rw[aV] at h;cases e:cG ds with
  | none=>rw[e] at h;cases h
  | some ps=>rw[e] at h;cases h;rw[PyData.eqv];exact tR ds ps e
 | .lst ds,p,h=>by
  rw[aV] at h;cases e:cG ds with
  | none=>rw[e] at h;cases h
  | some ps=>rw[e] at h;cases h;rw[PyData.eqv];exact tR ds ps e
 | .dct _,p,h=>by simp[aV] at h
 | .ty _,p,h=>by simp[aV] at h
 | .fn _,p,h=>by simp[aV] at h
 | .ins _ _,p,h=>by simp[aV] at h
 | .exn _,p,h=>by simp[aV] at h
theorem tR:∀ (ds:List D) (ps:List PyData),cG ds=some ps->PyData.eqvAll ps ps=true
 | [],ps,h=>by cases h;simp[PyData.eqvAll]
 | d::ds,ps,h=>by
  have h:(match aV d,cG ds with | some p,some ps=>some (p::ps) | _,_=>none)=some ps:=h
  cases e:aV d with
  | none=>rw[e] at h;cases h
  | some p =>
   cases e':cG ds with
   | none=>rw[e,e'] at h;cases h
   | some qs=>rw[e,e'] at h;cases h;rw[PyData.eqvAll,tQ d p e,tR ds qs e'];rfl
end
theorem aBJ{d:D}{n:Nat}(h:Dp n d)(hn:n<=50){m m':Md}:op2 (bB .Eq) (.ok m d) (.ok m' d)=.ok .fz (.bl true):=by
 obtain ⟨p,h1,h2⟩:=h;refine bN ?_;have hs:fE p=true:=aRE (by omega)
 show orO (eqF false) _ m d m' d=_;unfold orO eqF;rw[h1];dsimp only;rw[hs];simp[tQ d p h1]
theorem aOD{W:WD}{ρ:Rho}{C:List Str}{e:E}{i:Nat}{m:Md}(h:evE W e ρ=.ok m (.int (i:Int))):slP (.ok .fz (Tp C)) (evO W none) (evO W (some e)) ρ=.ok .fz (Tp (C.take i)):=by rw[pI h,<- List.map_take]
theorem aOE{W:WD}{ρ:Rho}{C:List Str}{e:E}{i:Nat}{m:Md}(h:evE W e ρ=.ok m (.int (i:Int))):slP (.ok .fz (Tp C)) (evO W (some e)) (evO W none) ρ=.ok .fz (Tp (C.drop i)):=by rw[pJ h,<- List.map_drop]
theorem gH{W:WD}{ρ:Rho}{C:List Str}{a e:E}{i:Nat}{m:Md}(ha:evE W a ρ=.ok .fz (Tp C))(h:evE W e ρ=.ok m (.int (i:Int))):evE W (.slice a none (some e)) ρ=.ok .fz (Tp (C.take i)):=by rw[hU,ha];exact aOD h
theorem tU{W:WD}{ρ:Rho}{C:List Str}{a e:E}{i:Nat}{m:Md}(ha:evE W a ρ=.ok .fz (Tp C))(h:evE W e ρ=.ok m (.int (i:Int))):evE W (.slice a (some e) none) ρ=.ok .fz (Tp (C.drop i)):=by rw[hU,ha];exact aOE h
theorem aOF{W:WD}{ρ:Rho}{C:List Str}{a e:E}{i:Nat}{m:Md}(hb:C.length<=900)(ha:evE W a ρ=.ok .fz (Tp C))(h:evE W e ρ=.ok m (.int (i:Int))):evE W (.frz (.bin .Add (.slice a (some e) none) (.slice a none (some e)))) ρ=.ok .fz (Tp (C.drop i++C.take i)):=by have hsz:sizeLine=16777216:=aQD;rw[hG,dS,gH ha h,tU ha h,i8 (by rw[aQ2,aQI];omega),iU]
theorem fN{W:WD}{ρ:Rho}{C:List Str}{a:E}(ha:evE W a ρ=.ok .fz (Tp C)):evE W (.bcall .len [a]) ρ=.ok .fz (.int (C.length:Int)):=by rw[sD,gB,f9,ha,jL,aMJ,aMK,mL];rfl
theorem tV{C:List Str}(hn:C.Nodup)(j:Nat):(C.drop j++C.take j).Nodup:=by
 have:(C.drop j++C.take j).Perm C:=List.perm_append_comm.trans (by rw[List.take_append_drop])
 exact this.symm.nodup hn
theorem tW{C:List Str}{j:Nat}{z:Str}(h:z∈C.drop j++C.take j):z∈C:=by
 rcases aPQ.mp h with h | h
 . exact List.mem_of_mem_drop h
 . exact aTH h
theorem tX{C:List Str}{j:Nat}:(C.drop j++C.take j).length=C.length:=by rw[aQQ,aQ2,aQI];omega
theorem aBK(k:Nat){C:List Str}(hn:C.Nodup)(hb:C.length<=900)(c:Int):∃ K:List Str,K.Nodup/\(∀ z∈K,z∈C)/\K.length<=C.length/\(WT TT (k+1)).Φ "_law_some" [.int c,Tp C]=.ok .fz (Tp K):=by
 generalize hW:WT TT k=W;have hu:=aNC k;rw[hW] at hu;by_cases h0:C.length=0
 . refine ⟨C,hn,λ_ h=>h,aP8 _,?_⟩;rw[hu];refine aK rfl ?_;show evB W kG [some (false,.int c),some (false,Tp C),none,none]=_;have lt:=mL (C:=C) (m:=.fz);rw[h0] at lt;generalize Tp C=u at *;simp[kG,lt]
 . obtain ⟨j,ej,hj⟩:=md (c:=c) (n:=(C.length:Int)) (by omega)
   obtain ⟨i,ei,hi⟩:=md (c:=c / 7) (n:=2) (by omega)
   refine ⟨(C.drop j++C.take j).take (C.length-i),(tV hn j).sublist (aQO _ _),λz hz=>tW (aTH hz),by rw[aQI];omega,?_⟩
   rw[hu];refine aK rfl ?_;show evB W kG [some (false,.int c),some (false,Tp C),none,none]=_;have h0':((C.length:Int)==0)=false:=aPC.mpr (by omega)
   have g1:evE W (.cmp .Eq (.bcall .len [(.var 1)]) (.int 0)) [some (false,.int c),some (false,Tp C),none,none]=.ok .fz (.bl false):=by rw[eU,fN (C:=C) rfl,bS,sK,h0']
   have g2:evE W (.frz (.bin .Mod (.var 0) (.bcall .len [(.var 1)]))) [some (false,.int c),some (false,Tp C),none,none]=.ok .fz (.int (j:Int)):=by rw[hG,dS,fN (C:=C) rfl,bK,g_0,fG (by omega),ej,iU]
   have g3:evE W (.frz (.bin .Add (.slice (.var 1) (some (.var 2)) none) (.slice (.var 1) none (some (.var 2))))) [some (false,.int c),some (false,Tp C),some (false,.int (j:Int)),none]=.ok .fz (Tp (C.drop j++C.take j)):=aOF hb rfl (m:=.fz) rfl;have g4:evE W (.slice (.var 3) none (some (.bin .Sub (.bcall .len [(.var 3)]) (.bin .Mod (.bin .FloorDiv (.var 0) (.int 7)) (.int 2))))) [some (false,.int c),some (false,Tp C),some (false,.int (j:Int)),some (false,Tp (C.drop j++C.take j))]=.ok .fz (Tp ((C.drop j++C.take j).take (C.length-i))):=by
    refine gH rfl (m:=.fz) ?_;rw[dS,fN (C:=C.drop j++C.take j) rfl,tX];have:evE W (.bin .Mod (.bin .FloorDiv (.var 0) (.int 7)) (.int 2)) [some (false,.int c),some (false,Tp C),some (false,.int (j:Int)),some (false,Tp (C.drop j++C.take j))]=.ok .fz (.int (i:Int)):=by rw[<- ei];generalize Tp (C.drop j++C.take j)=u1;generalize Tp C=u;simp
    rw[this,x_sub,show ((C.length-i:Nat):Int)=(C.length:Int)-(i:Int) by omega]
   unfold kG;rw[cU g1,cM g2 (ρ':=[some (false,.int c),some (false,Tp C),some (false,.int (j:Int)),none]) rfl,cM g3 (ρ':=[some (false,.int c),some (false,Tp C),some (false,.int (j:Int)),some (false,Tp (C.drop j++C.take j))]) rfl,dH g4]
def tY(M:List (Key×D))(d:D)(C:List Str)(n:Nat):Prop:=∃ m,Ask M d C m/\m<=n
theorem tY.cols{M:List (Key×D)}{d:D}{C:List Str}{n:Nat}(h:tY M d C n):∀ K,n+7<=K->(WT TT K).Φ "columns_of" [d,.dct M]=.ok .fz (Tp C):=λK hK=>by
 obtain ⟨m,h1,h2⟩:=h;have:=aNZ h1 (K-m-7);rw[show K-m-7+m+7=K by omega] at this
 exact this
theorem nw(w:Str)(h:(w==Str.ofString "pick")=false/\(w==Str.ofString "table")=false/\decide (w∈jpl)=false:=by decide +kernel):(w==Str.ofString "pick")=false/\(w==Str.ofString "table")=false/\decide (w∈jpl)=false:=h
theorem nj(w:Str)(h:(w==Str.ofString "pick")=false/\(w==Str.ofString "table")=false/\decide (w∈jpl)=true:=by decide +kernel):(w==Str.ofString "pick")=false/\(w==Str.ofString "table")=false/\decide (w∈jpl)=true:=h
theorem tZ{M:List (Key×D)}{x:D}{r:Option (List D)}{n:Nat}(w:Str){l:List D}(hl:l.length<=800)(hx:bY M x r (n+1))(h:(w==Str.ofString "pick")=false/\(w==Str.ofString "table")=false/\decide (w∈jpl)=false):bY M (.tup (.str w::x::l)) (r.map λd=>.str w :: .tup d::l) (n+2):=aN2 hl h.1 h.2.1 h.2.2 hx
theorem aOG{M:List (Key×D)}{x y:D}{r r':Option (List D)}{n:Nat}(w:Str)(hx:bY M x r (n+1))(hy:bY M y r' (n+1)\/r.isSome=true)(h:(w==Str.ofString "pick")=false/\(w==Str.ofString "table")=false/\decide (w∈jpl)=true):bY M (.tup [.str w,x,y]) (or2 w x y r r') (n+2):=aN3 h.1 h.2.1 h.2.2 hx hy
theorem aBL{C S:List Str}{z:Str}(h:z∈dif S C):z∈S/\¬ z∈C:=by unfold dif at h;rw[aPL] at h;exact ⟨h.1,by simpa using h.2⟩
theorem aBM{C S:List Str}(hC:C.Nodup)(hS:S.Nodup):(C++dif S C).Nodup :=
 List.nodup_append.mpr ⟨hC,hS.sublist List.filter_sublist,λa ha b hb e=>(aBL hb).2 (e ▸ ha)⟩
theorem aBN{C S N:List Str}(hC:∀ z∈C,z∈N)(hS:∀ z∈S,z∈N):∀ z∈C++dif S C,z∈N:=λz h=>by
 rcases aPQ.mp h with h | h
 . exact hC z h
 . exact hS z (aBL h).1
theorem t5{W:WD}{X:D}{ts:List E}{C:List Str}(ht:∀ z:Str,evF W ts [some (false,X),some (false,.str z)]=.ok .fz (.bl (!decide (z∈C)))):∀ C':List Str,bH (aI (.nm 1)) (λρ=>evF W ts ρ) (λρ=>evE W (.var 1) ρ) [some (false,X),none] (C'.map .str)=some ((dif C' C).map .str)
 | []=>rfl
 | z::C'=>by
  have ih:=t5 ht C';have k:aI (.nm 1) (.str z) [some (false,X),none]=some [some (false,X),some (false,.str z)]:=rfl;rw[aRG,bH,k];dsimp only;rw[ht,ih];unfold dif;rw[List.filter_cons];cases decide (z∈C) with
  | true=>rfl
  | false=>rfl
theorem aBO{W:WD}{ρ:Rho}{X:D}{ts:List E}{C S:List Str}{i j:Nat}(ht:∀ z:Str,evF W ts [some (false,X),some (false,.str z)]=.ok .fz (.bl (!decide (z∈C))))(hj:dC ρ j=.ok .fz (Tp S))(hi:cF [i] ρ=[some (false,X)])(hs:S.length<sizeLine):evE W (.tcall .tuple [(.comp (.var 1) (.items (.var j)) ts [i] (.nm 1) 1)]) ρ=.ok .fz (Tp (dif S C)):=by
 have e1:bX (.ok .fz (.lst (S.map .str))) ρ [i] 1 (aI (.nm 1)) (λρ=>evF W ts ρ) (λρ=>evE W (.var 1) ρ)=.ok .fr (.lst ((dif S C).map .str)):=by
  show (if (S.map D.str).length<sizeLine then (match bH (aI (.nm 1)) (λρ=>evF W ts ρ) (λρ=>evE W (.var 1) ρ) (cF [i] ρ++[none]) (S.map .str) with | some ys=>Res.ok .fr (.lst ys) | none=>.stuck) else .stuck)=_
  rw[hi,if_pos (by rw[aQR];exact hs)]
  show (match bH (aI (.nm 1)) (λρ=>evF W ts ρ) (λρ=>evE W (.var 1) ρ) [some (false,X),none] (S.map .str) with | some ys=>Res.ok .fr (.lst ys) | none=>.stuck)=_
  rw[t5 ht]
 rw[sJ,gB,f9,f8,j9,bK,hj];show eO (Ty.f .tuple) (cC (bX (.ok .fz (.lst (S.map .str))) _ [i] 1 (aI (.nm 1)) _ _) (.ok []))=_;rw[e1];rfl
theorem t7{W:WD}{C:List Str}(z:Str):evF W [.cmp .NotIn (.var 1) (.var 0)] [some (false,Tp C),some (false,.str z)]=.ok .fz (.bl (!decide (z∈C))):=by have e:=pH (m:=.fz) (m':=.fz) (z:=z) (C:=C);generalize Tp C=t at *;simp[e]
theorem mQ:∀ (l N:List Str),l.Nodup->(∀ x∈l,x∈N)->l.length<=N.length
 | [],N,_,_=>aRK _
 | x::l,N,hn,hs=>by
  rw[aQG] at hn;have hx:=hs x mcs;have:=mQ l (N.erase x) hn.2 λy hy=>(List.mem_erase_of_ne (show y≠x from λe=>hn.1 (e ▸ hy))).mpr (hs y (mcm hy))
  rw[List.length_erase_of_mem hx] at this;have:=List.length_pos_of_mem hx;rw[aRF];omega
theorem aBP{Φ:List D->Res}{a b c e f g h d:D}(q:Φ [a,b,c,e,f,g,h]=.ok .fz d):aF 7 Φ (.ok [(.fz,a),(.fz,b),(.fz,c),(.fz,e),(.fz,f),(.fz,g),(.fz,h)])=.ok .fz d:=kA (ds:=[a,b,c,e,f,g,h]) rfl rfl q
theorem pV{M:List (Key×D)}{k:Key}{d:D}(h:∀ kv∈M,kv.1≠k):eD M k d=M++[(k,d)]:=by unfold eD;rw[if_neg];rw[List.any_eq_true];rintro ⟨kv,hkv,e⟩;exact h kv hkv (aRM e)
theorem aBQ{kb:List (Key×D)}:∀ r:List (Key×D),(∀ kv∈r,bC kb kv.1=some kv.2/\∃ S,kv.2=Tp S)->eE kb r=some true
 | [],_=>rfl
 | (k,d)::r,h=>by obtain ⟨h1,S,h2⟩:=h (k,d) mcs;have ih:=aBQ r λkv hkv=>h kv (mcm hkv);dsimp only at h1 h2;subst h2;unfold eE;rw[h1,ih];simp[aV,sZ,aA5,PyData.eqv,tB]
def sh3(w0 w1 w2:Str)(S0 S1 S2:List Str):List (Key×D):=[(.inr w0,Tp S0),(.inr w1,Tp S1),(.inr w2,Tp S2)]
theorem aOH{w0 w1 w2:Str}{S0 S1 S2:List Str}(h01:w0≠w1)(h02:w0≠w2)(h12:w1≠w2):bC (sh3 w0 w1 w2 S0 S1 S2) (.inr w0)=some (Tp S0)/\bC (sh3 w0 w1 w2 S0 S1 S2) (.inr w1)=some (Tp S1)/\bC (sh3 w0 w1 w2 S0 S1 S2) (.inr w2)=some (Tp S2):=by refine ⟨?_,?_,?_⟩ <;> simp[bC,sh3,aRD,h01,h02,h12]
theorem t9{W:WD}{i:Nat}{e e':E}{r:List D3.S}{ρ ρ':Rho}{M:List (Key×D)}{z:Str}{d:D}(hi:ρ[i]? = some (some (true,.dct M)))(hk:evE W e ρ=.ok .fz (.str z))(hv:evE W e' ρ=.ok .fz d)(hl:M.length<sizeLine)(hρ:ρ.set i (some (true,.dct (eD M (.inr z) d)))=ρ'):evB W (.dput i e e'::r) ρ=evB W r ρ':=by rw[bI,aMD,hk,hv];unfold fY;rw[hi];show (if M.length<sizeLine then aB.nx (ρ.set i (some (true,.dct (eD M (.inr z) d)))) else .stuck).thn _=_;rw[if_pos hl,aB.thn_nx,hρ]
theorem aOI(k:Nat){w0 w1 w2 n0 n1 n2 n3 n4 n5 n6:Str}(h01:w0≠w1)(h02:w0≠w2)(h12:w1≠w2):(WT TT (k+1)).Φ "_law_shapes" [.lst ([w0,w1,w2].map .str),Tp [n0,n1,n2,n3,n4,n5,n6]]=.ok .fr (.dct (sh3 w0 w1 w2 [n0,n1] [n1,n2] [n3,n4])):=by
 have hsz:sizeLine=16777216:=aQD;rw[aNE];refine aK rfl ?_;show evB (WT TT k) pB [some (false,.lst [.str w0,.str w1,.str w2]),some (false,.tup [.str n0,.str n1,.str n2,.str n3,.str n4,.str n5,.str n6]),none]=_;generalize WT TT k=W;have kx:∀ (j:Nat) (x:D) (y:Option (Bool×D)),[D.str w0,.str w1,.str w2][j]? = some x->evE W (.ix (.var 0) (.int (j:Int))) [some (false,.lst [.str w0,.str w1,.str w2]),some (false,.tup [.str n0,.str n1,.str n2,.str n3,.str n4,.str n5,.str n6]),y]=.ok .fz x:=λj x y h=>by rw[eV,bK,bS,g_0];exact d8 (bF h)
 have px:∀ (j:Nat) (x:D) (y:Option (Bool×D)),[D.str n0,.str n1,.str n2,.str n3,.str n4,.str n5,.str n6][j]? = some x->evE W (.ix (.var 1) (.int (j:Int))) [some (false,.lst [.str w0,.str w1,.str w2]),some (false,.tup [.str n0,.str n1,.str n2,.str n3,.str n4,.str n5,.str n6]),y]=.ok .fz x:=λj x y h=>by rw[eV,bK,bS,g_1,g_0];exact cD (bF h)
 have tx:∀ (i j:Nat) (a b:D) (y:Option (Bool×D)),[D.str n0,.str n1,.str n2,.str n3,.str n4,.str n5,.str n6][i]? = some a->[D.str n0,.str n1,.str n2,.str n3,.str n4,.str n5,.str n6][j]? = some b->evE W (.tup [(.ix (.var 1) (.int (i:Int))),(.ix (.var 1) (.int (j:Int)))]) [some (false,.lst [.str w0,.str w1,.str w2]),some (false,.tup [.str n0,.str n1,.str n2,.str n3,.str n4,.str n5,.str n6]),y]=.ok .fz (.tup [a,b]):=λi j a b y h h'=>by rw[e_tup,gB,gB,f9,px i a y h,px j b y h',jL,jL,t2]
 have q1:eD [] (.inr w0) (Tp [n0,n1])=[(.inr w0,Tp [n0,n1])]:=rfl;have q2:eD [(.inr w0,Tp [n0,n1])] (.inr w1) (Tp [n1,n2])=[(.inr w0,Tp [n0,n1]),(.inr w1,Tp [n1,n2])]:=pV (by simp[h01])
 have q3:eD [(.inr w0,Tp [n0,n1]),(.inr w1,Tp [n1,n2])] (.inr w2) (Tp [n3,n4])=sh3 w0 w1 w2 [n0,n1] [n1,n2] [n3,n4]:=pV (by simp[h02,h12])
 have st:∀ y:D,([some (false,.lst [.str w0,.str w1,.str w2]),some (false,.tup [.str n0,.str n1,.str n2,.str n3,.str n4,.str n5,.str n6]),none]:Rho).set 2 (some (true,y))=[some (false,.lst [.str w0,.str w1,.str w2]),some (false,.tup [.str n0,.str n1,.str n2,.str n3,.str n4,.str n5,.str n6]),some (true,y)]:=λ_=>rfl;unfold pB;rw[bI,oD,aL9,yV,aB.thn_nx,st];refine (t9 (M:=[]) rfl (kx 0 _ _ rfl) (tx 0 1 _ _ _ rfl rfl) (by simp;omega) (ρ':=[some (false,.lst [.str w0,.str w1,.str w2]),some (false,.tup [.str n0,.str n1,.str n2,.str n3,.str n4,.str n5,.str n6]),some (true,.dct [(.inr w0,Tp [n0,n1])])]) (by rw[show (D.tup [.str n0,.str n1])=Tp [n0,n1] from rfl,q1];rfl)).trans ?_
 refine (t9 (M:=[(.inr w0,Tp [n0,n1])]) rfl (kx 1 _ _ rfl) (tx 1 2 _ _ _ rfl rfl) (by simp;omega) (ρ':=[some (false,.lst [.str w0,.str w1,.str w2]),some (false,.tup [.str n0,.str n1,.str n2,.str n3,.str n4,.str n5,.str n6]),some (true,.dct [(.inr w0,Tp [n0,n1]),(.inr w1,Tp [n1,n2])])]) (by rw[show (D.tup [.str n1,.str n2])=Tp [n1,n2] from rfl,q2];rfl)).trans ?_
 refine (t9 (M:=[(.inr w0,Tp [n0,n1]),(.inr w1,Tp [n1,n2])]) rfl (kx 2 _ _ rfl) (tx 3 4 _ _ _ rfl rfl) (by simp;omega) (ρ':=[some (false,.lst [.str w0,.str w1,.str w2]),some (false,.tup [.str n0,.str n1,.str n2,.str n3,.str n4,.str n5,.str n6]),some (true,.dct (sh3 w0 w1 w2 [n0,n1] [n1,n2] [n3,n4]))]) (by rw[show (D.tup [.str n3,.str n4])=Tp [n3,n4] from rfl,q3];rfl)).trans ?_
 rw[bI,oC];rfl
def Nm(M:List (Key×D))(σ:Str->Str)(S:List Str):Prop:=∀ z∈S,bC M (.inr z)=some (.str (σ z))
def cH:List Str->List Str->Str->Str
 | a::f,b::g,z=>if z=a then b else cH f g z
 | _,_,z=>z
def Frs(f:List Str)(M:List (Key×D)):Prop:=∀ x∈f,∀ kv∈M,kv.1≠Sum.inr x
theorem aBR{M:List (Key×D)}{k k':Key}{d:D}(hn:∀ kv∈M,kv.1≠k):bC (M++[(k,d)]) k'=if k'=k then some d else bC M k':=by
 unfold bC;rw[List.find?_append];by_cases hk:k'=k
 . subst hk;have:M.find? (λkv=>decide (kv.1=k'))=none:=List.find?_eq_none.mpr λkv hkv=>by simpa using hn kv hkv
   simp[this]
 . have:¬ k=k':=λe=>hk e.symm;simp[hk,this]
theorem Frs.step{a:Str}{f:List Str}{M:List (Key×D)}{d:D}(h:Frs (a::f) M)(hn:¬ a∈f):Frs f (M++[(.inr a,d)]):=λx hx kv hkv=>by
 rcases aPQ.mp hkv with q | q
 . exact h x (mcm hx) kv q
 . rw[aSI] at q;subst q;exact λe=>hn (by injection e with e;exact e ▸ hx)
theorem aBS{x:Str}:∀ (f:List Str) (ds:List D) (M:List (Key×D)),f.Nodup->Frs f M -> ¬ x∈f->bC (cS f ds M) (.inr x)=bC M (.inr x)
 | [],_,_,_,_,_=>by unfold cS;rfl
 | _::_,[],_,_,_,_=>by unfold cS;rfl
 | a::f,d::ds,M,hn,hf,h=>by rw[aPP,not_or] at h;rw[aQG] at hn;rw[cS,pV (hf a mcs),aBS f ds _ hn.2 (hf.step hn.1) h.2,aBR (hf a mcs),if_neg (λe=>h.1 (by injection e))]
theorem aBT:∀ (f g:List Str) (M:List (Key×D)),f.Nodup->Frs f M->f.length<=g.length->∀ z∈f,bC (cS f (g.map .str) M) (.inr z)=some (.str (cH f g z))
 | [],_,_,_,_,_,z,hz=>absurd hz (by simp)
 | _::_,[],_,_,_,h,_,_=>absurd h (by simp)
 | a::f,b::g,M,hn,hf,hl,z,hz=>by
  rw[aQG] at hn;rw[aRG,cS,pV (hf a mcs)];by_cases e:z=a
  . subst e;rw[aBS f _ _ hn.2 (hf.step hn.1) hn.1,aBR (hf z mcs),if_pos rfl];show _=some (D.str (if z=z then b else _));rw[if_pos rfl]
  . have hz:z∈f:=by
      rcases aPP.mp hz with h | h
      . exact absurd h e
      . exact h
    rw[aBT f g _ hn.2 (hf.step hn.1) (by simpa using hl) z hz]
    show _=some (D.str (if z=a then b else cH f g z));rw[if_neg e]
theorem aBU:∀ (f g:List Str) (z:Str),f.length<=g.length->z∈f->cH f g z∈g
 | [],_,_,_,hz=>absurd hz (by simp)
 | _::_,[],_,h,_=>absurd h (by simp)
 | a::f,b::g,z,hl,hz=>by
  show (if z=a then b else cH f g z)∈b::g;by_cases e:z=a
  . rw[if_pos e];exact mcs
  . rw[if_neg e];refine mcm (aBU f g z (by simpa using hl) ?_)
    rcases aPP.mp hz with h | h
    . exact absurd h e
    . exact h
theorem aOJ{f g:List Str}(hn:f.Nodup)(hl:f.length<=g.length):Nm (cS f (g.map .str) []) (cH f g) f:=aBT f g [] hn (λ_ _ _ h=>absurd h (by simp)) hl
def Pt.ren(σ:Str->Str):Pt->Pt
 | .of z=>.of (σ z)
 | .just v=>.just v
def Ts.ren(σ:Str->Str):Ts->Ts
 | .atom s p q=>.atom s (p.ren σ) (q.ren σ)
 | .no t=>.no (t.ren σ)
 | .two e a b=>.two e (a.ren σ) (b.ren σ)
theorem aBV:∀ f:List Str,txD (f.map D.str)=some f
 | []=>rfl
 | a::f=>by rw[aRG,txD,aBV f];rfl
theorem aOK{f g:List Str}{m m':Md}:iS (.ok m (Tp f)) (.ok m' (Tp g))=.ok .fr (.dct (cS f (g.map .str) [])):=by
 show (match txD (f.map D.str) with | some ns=>Res.ok .fr (.dct (cS ns (g.map .str) [])) | none=>.stuck)=_
 rw[aBV]
section
variable {f g:List Str}{M:List (Key×D)}{vs:List D}{S:List Str}{σ:Str->Str}
theorem aBW(k:Nat){p:Pt}(hp:p.ok vs S)(hm:Nm M σ S):(WT TT (k+1)).Φ "called_part" [ptD f p,.dct M]=.ok .fz (ptD f (p.ren σ)):=by
 rw[aMS];refine aK rfl ?_;show evB _ l9 [some (false,ptD f p),some (false,.dct M)]=_;cases p with
 | of j=>have hx:=mO (hm j hp) (m:=.fz) (m':=.fz);show _=aB.rt .fz (.tup [.str "of", .str (σ j)]);simp[l9,ptD,i0,i1,hx,t2]
 | just v=>simp[l9,ptD,Pt.ren,i0,wd (a := "just") (b := "of")]
theorem aOL(k:Nat){s:Bool}{p q:Pt}(hp:p.ok vs S)(hq:q.ok vs S)(hm:Nm M σ S):(WT TT (k+2)).Φ "called" [tsD f (.atom s p q),.dct M]=.ok .fz (tsD f (Ts.ren σ (.atom s p q))):=by
 have c1:aF 2 ((WT TT (k+1)).Φ "called_part") (.ok [(.fz,ptD f p),(.fz,.dct M)])=.ok .fz (ptD f (p.ren σ)):=aR (aBW k hp hm);have c2:aF 2 ((WT TT (k+1)).Φ "called_part") (.ok [(.fz,ptD f q),(.fz,.dct M)])=.ok .fz (ptD f (q.ren σ)):=aR (aBW k hq hm);rw[sR];refine aK rfl ?_;show evB (WT TT (k+1)) fJ [some (false,.tup [.str (if s then "same" else "under"),ptD f p,ptD f q]),some (false,.dct M),none]=.rt .fz (.tup [.str (if s then "same" else "under"),ptD f (p.ren σ),ptD f (q.ren σ)]);generalize ptD f p=d1 at *;generalize ptD f q=d2 at *;generalize ptD f (p.ren σ)=d3 at *;generalize ptD f (q.ren σ)=d4 at *;cases s with
 | true=>simp[fJ,j0,j1,j2,wd (a := "same") (b := "not"),be,iC,w1,c1,c2,t3]
 | false=>simp[fJ,j0,j1,j2,wd (a := "under") (b := "not"),be,iC,w2,c1,c2,t3]
theorem cd_no(k:Nat){t:Ts}(h:(WT TT k).Φ "called" [tsD f t,.dct M]=.ok .fz (tsD f (t.ren σ))):(WT TT (k+1)).Φ "called" [tsD f (.no t),.dct M]=.ok .fz (tsD f (Ts.ren σ (.no t))):=by have c1:aF 2 ((WT TT k).Φ "called") (.ok [(.fz,tsD f t),(.fz,.dct M)])=.ok .fz (tsD f (t.ren σ)):=aR h;rw[sR];refine aK rfl ?_;show evB (WT TT k) fJ [some (false,.tup [.str "not", tsD f t]),some (false,.dct M),none]=.rt .fz (.tup [.str "not", tsD f (t.ren σ)]);generalize tsD f t=d1 at *;generalize tsD f (t.ren σ)=d2 at *;simp[fJ,i0,i1,c1,t2]
theorem aOM(k:Nat){e:Bool}{t u:Ts}(h:(WT TT k).Φ "called" [tsD f t,.dct M]=.ok .fz (tsD f (t.ren σ)))(h':(WT TT k).Φ "called" [tsD f u,.dct M]=.ok .fz (tsD f (u.ren σ))):(WT TT (k+1)).Φ "called" [tsD f (.two e t u),.dct M]=.ok .fz (tsD f (Ts.ren σ (.two e t u))):=by
 have c1:aF 2 ((WT TT k).Φ "called") (.ok [(.fz,tsD f t),(.fz,.dct M)])=.ok .fz (tsD f (t.ren σ)):=aR h;have c2:aF 2 ((WT TT k).Φ "called") (.ok [(.fz,tsD f u),(.fz,.dct M)])=.ok .fz (tsD f (u.ren σ)):=aR h';rw[sR];refine aK rfl ?_;show evB (WT TT k) fJ [some (false,.tup [.str (if e then "either" else "both"),tsD f t,tsD f u]),some (false,.dct M),none]=.rt .fz (.tup [.str (if e then "either" else "both"),tsD f (t.ren σ),tsD f (u.ren σ)]);generalize tsD f t=d1 at *;generalize tsD f (t.ren σ)=d2 at *;generalize tsD f u=d3 at *;generalize tsD f (u.ren σ)=d4 at *;cases e with
 | true=>simp[fJ,j0,j1,j2,wd (a := "either") (b := "not"),be,iC,w4,c1,c2,t3]
 | false=>simp[fJ,j0,j1,j2,wd (a := "both") (b := "not"),be,iC,w3,c1,c2,t3]
theorem pW(hm:Nm M σ S):∀ (t:Ts),t.ok vs S->∀ K,t.dep+2<=K->(WT TT K).Φ "called" [tsD f t,.dct M]=.ok .fz (tsD f (t.ren σ))
 | .atom s p q,h,K,hK=>by
  obtain ⟨k,rfl,_⟩:=le2 (n:=0) (show 0+2<=K from hK)
  exact aOL k h.1 h.2 hm
 | .no t,h,K,hK=>by
  have hK:t.dep+1+2<=K:=hK;obtain ⟨k,rfl,hk⟩:=le1 (n:=t.dep+2) (show t.dep+2+1<=K by omega)
  exact cd_no k (pW hm t h k hk)
 | .two e a b,h,K,hK=>by
  have hK:max a.dep b.dep+1+2<=K:=hK;obtain ⟨k,rfl,hk⟩:=le1 (n:=max a.dep b.dep+2) (show max a.dep b.dep+2+1<=K by omega)
  exact aOM k (pW hm a h.1 k (by omega)) (pW hm b h.2 k (by omega))
end
section
variable {M:List (Key×D)}{x y t b:D}{r:Option (List D)}{n:Nat}{f:List Str}{vs:List D}
theorem aON{u v:D}:kI M x (.tup [.str "both", u,v]) (some [.str "pick", .tup [.str "pick", x,u],v]) 1:=λK hK=>by obtain ⟨k,rfl,hk⟩:=le1 hK;rw[pE];refine aK rfl ?_;show evB (WT TT k) eG [some (false,x),some (false,.tup [.str "both", u,v]),some (false,.dct M)]=.rt .fz (.tup [.str "pick", .tup [.str "pick", x,u],v]);simp[eG,j0,j1,j2,t3]
theorem bp_ne{u v:D}:kI M x (.tup [.str "not", .tup [.str "either", u,v]]) (some [.str "pick", x,.tup [.str "both", .tup [.str "not", u],.tup [.str "not", v]]]) 1:=λK hK=>by obtain ⟨k,rfl,hk⟩:=le1 hK;rw[pE];refine aK rfl ?_;show evB (WT TT k) eG [some (false,x),some (false,.tup [.str "not", .tup [.str "either", u,v]]),some (false,.dct M)]=.rt .fz (.tup [.str "pick", x,.tup [.str "both", .tup [.str "not", u],.tup [.str "not", v]]]);simp[eG,i0,i1,j0,j1,j2,wd (a := "not") (b := "both"),wd (a := "either") (b := "not"),t2,t3]
theorem kL{W:WD}{A:D}{w:Str}(h:op2 ixD (.ok .fz A) (.ok .fz (.int 0))=.ok .fz (.str w)):evB W bO [some (false,A),some (false,t),some (false,.dct M),none,none,none]=evB W (bO.drop 1) [some (false,A),some (false,t),some (false,.dct M),some (false,.str w),none,none]:=by
 have q:bO=[.set 3 (.ix (.var 0) (.int 0))]++bO.drop 1:=rfl;have p:evB W [.set 3 (.ix (.var 0) (.int 0))] [some (false,A),some (false,t),some (false,.dct M),none,none,none]=.nx [some (false,A),some (false,t),some (false,.dct M),some (false,.str w),none,none]:=by simp[h]
 rw[q,bE,p,aB.thn_nx];rfl
def skw(w:Str):Bool:=!(w==Str.ofString "table")&&!(w==Str.ofString "pick")&&!(w==Str.ofString "join")&&!(w==Str.ofString "pour")&&!(w==Str.ofString "call")
theorem uA(w:Str){l:List D}(hw:skw w=true)(hl:l.length<=800):eI M (.tup (.str w::x::l)) t (some (.str w :: .tup [.str "pick", x,t]::l)) 2:=λK hK=>by
 obtain ⟨k,rfl,hk⟩:=le2 (n:=0) hK;have rb:aF 2 ((WT TT (k+1)).Φ "rebuilt") (.ok [(.fz,.tup (.str w::x::l)),(.fz,.tup [.tup [.str "pick", x,t]])])=.ok .fz (.tup (.str w :: .tup [.str "pick", x,t]::l)):=aR (pO k (a:=.str w) (l:=x::l) (xs:=[.tup [.str "pick", x,t]]) (by simp;omega))
 rw[iB];refine aK rfl ?_;show evB (WT TT (k+1)) bO [some (false,.tup (.str w::x::l)),some (false,t),some (false,.dct M),none,none,none]=.rt .fz (.tup (.str w :: .tup [.str "pick", x,t]::l));have w0:op2 ixD (.ok .fz (.tup (.str w::x::l))) (.ok .fz (.int 0))=.ok .fz (.str w):=cD (bF (j:=0) rfl);have w1:op2 ixD (.ok .fz (.tup (.str w::x::l))) (.ok .fz (.int 1))=.ok .fz x:=cD (bF (j:=1) rfl);unfold skw at hw;simp only[aQ8,aTA] at hw;obtain ⟨⟨⟨⟨h1,h2⟩,h3⟩,h4⟩,h5⟩:=hw;rw[kL w0];generalize D.tup (.str w::x::l)=A at *;simp[bO,w1,h1,h2,h3,h4,h5,t3,tu1,rb]
theorem aOO:eI M (.tup [.str "pour", x,y]) t (some [.str "pour", .tup [.str "pick", x,t],.tup [.str "pick", y,t]]) 1:=λK hK=>by obtain ⟨k,rfl,hk⟩:=le1 hK;rw[iB];refine aK rfl ?_;show evB (WT TT k) bO [some (false,.tup [.str "pour", x,y]),some (false,t),some (false,.dct M),none,none,none]=.rt .fz (.tup [.str "pour", .tup [.str "pick", x,t],.tup [.str "pick", y,t]]);have w0:op2 ixD (.ok .fz (.tup [.str "pour", x,y])) (.ok .fz (.int 0))=.ok .fz (.str "pour"):=j0;have w1:op2 ixD (.ok .fz (.tup [.str "pour", x,y])) (.ok .fz (.int 1))=.ok .fz x:=j1;have w2:op2 ixD (.ok .fz (.tup [.str "pour", x,y])) (.ok .fz (.int 2))=.ok .fz y:=j2;rw[kL w0];generalize D.tup [.str "pour", x,y]=A at *;simp[bO,w1,w2,wd (a := "pour") (b := "table"),wd (a := "pour") (b := "pick"),wd (a := "pour") (b := "join"),t3]
theorem aOP{l:List D}(h:eI M x t (some l) n):eI M (.tup [.str "pick", x,b]) t (some [.str "pick", .tup l,b]) (n+1):=λK hK=>by obtain ⟨k,rfl,hk⟩:=le1 hK;have cs:aF 3 ((WT TT k).Φ "sunk") (.ok [(.fz,x),(.fz,t),(.fz,.dct M)])=.ok .fz (.tup l):=gC (h k hk);rw[iB];refine aK rfl ?_;show evB (WT TT k) bO [some (false,.tup [.str "pick", x,b]),some (false,t),some (false,.dct M),none,none,none]=.rt .fz (.tup [.str "pick", .tup l,b]);have w0:op2 ixD (.ok .fz (.tup [.str "pick", x,b])) (.ok .fz (.int 0))=.ok .fz (.str "pick"):=j0;have w1:op2 ixD (.ok .fz (.tup [.str "pick", x,b])) (.ok .fz (.int 1))=.ok .fz x:=j1;have w2:op2 ixD (.ok .fz (.tup [.str "pick", x,b])) (.ok .fz (.int 2))=.ok .fz b:=j2;rw[kL w0];generalize D.tup [.str "pick", x,b]=A at *;simp[bO,w1,w2,wd (a := "pick") (b := "table"),cs,t3]
theorem aOQ{g:List Str}{u:Ts}(hf:f.Nodup)(hl:f.length<=g.length)(hx:∀ K,n<=K->(WT TT K).Φ "columns_of" [x,.dct M]=.ok .fz (Tp g))(hu:u.ok vs f)(hd:u.dep+2<=n):eI M (.tup [.str "call", x,Tp f]) (tsD [] u) (some [.str "call", .tup [.str "pick", x,tsD [] (u.ren (cH f g))],Tp f]) (n+1):=λK hK=>by
 obtain ⟨k,rfl,hk⟩:=le1 hK;have cx:aF 2 ((WT TT k).Φ "columns_of") (.ok [(.fz,x),(.fz,.dct M)])=.ok .fz (Tp g):=aR (hx k hk);have cc:aF 2 ((WT TT k).Φ "called") (.ok [(.fz,tsD [] u),(.fz,.dct (cS f (g.map .str) []))])=.ok .fz (tsD [] (u.ren (cH f g))):=aR (pW (f:=[]) (aOJ hf hl) u hu k (by omega))
 have dz:=aOK (f:=f) (g:=g) (m:=.fz) (m':=.fz);rw[iB];refine aK rfl ?_;show evB (WT TT k) bO [some (false,.tup [.str "call", x,Tp f]),some (false,tsD [] u),some (false,.dct M),none,none,none]=.rt .fz (.tup [.str "call", .tup [.str "pick", x,tsD [] (u.ren (cH f g))],Tp f]);have w0:op2 ixD (.ok .fz (.tup [.str "call", x,Tp f])) (.ok .fz (.int 0))=.ok .fz (.str "call"):=j0;have w1:op2 ixD (.ok .fz (.tup [.str "call", x,Tp f])) (.ok .fz (.int 1))=.ok .fz x:=j1;have w2:op2 ixD (.ok .fz (.tup [.str "call", x,Tp f])) (.ok .fz (.int 2))=.ok .fz (Tp f):=j2;rw[kL w0];generalize D.tup [.str "call", x,Tp f]=A at *;generalize D.dct (cS f (g.map .str) [])=Z at *;generalize tsD [] u=d1 at *;generalize tsD [] (u.ren (cH f g))=d2 at *;generalize Tp f=u1 at *;generalize Tp g=u2 at *;generalize WT TT k=W at *;have p:evB W ((bO.drop 1).take 4) [some (false,A),some (false,d1),some (false,.dct M),some (false,.str "call"),none,none]=.nx [some (false,A),some (false,d1),some (false,.dct M),some (false,.str "call"),none,none]:=by simp[bO,wd (a := "call") (b := "table"),wd (a := "call") (b := "pick"),wd (a := "call") (b := "join"),wd (a := "call") (b := "pour")]
 rw[show bO.drop 1=(bO.drop 1).take 4++bO.drop 5 from rfl,bE,p,aB.thn_nx]
 simp[bO,w1,w2,cx,dz,cc,t3]
theorem aOR{k:Nat}{A:D}{C C' L:List Str}(w1:op2 ixD (.ok .fz A) (.ok .fz (.int 1))=.ok .fz x)(w2:op2 ixD (.ok .fz A) (.ok .fz (.int 2))=.ok .fz y)(hL:L.length<sizeLine)(hc:(WT TT k).Φ "columns_in" [t]=.ok .fr (.lst (L.map .str)))(hx:(WT TT (k+1)).Φ "columns_of" [x,.dct M]=.ok .fz (Tp C))(hy:(WT TT (k+1)).Φ "columns_of" [y,.dct M]=.ok .fz (Tp C'))(r:D)(hr:(L.all λz=>decide (z∈C))=true/\r=.tup [.str "join", .tup [.str "pick", x,t],y]\/(L.all λz=>decide (z∈C))=false/\(L.all λz=>decide (z∈C'))=true/\r=.tup [.str "join", x,.tup [.str "pick", y,t]]):(WT TT (k+2)).Φ "sunk_into_join" [A,t,.dct M]=.ok .fz r:=by
 have cx:aF 2 ((WT TT (k+1)).Φ "columns_of") (.ok [(.fz,x),(.fz,.dct M)])=.ok .fz (Tp C):=aR hx;have cy:aF 2 ((WT TT (k+1)).Φ "columns_of") (.ok [(.fz,y),(.fz,.dct M)])=.ok .fz (Tp C'):=aR hy;have h1:aF 2 ((WT TT (k+1)).Φ "has_all") (.ok [(.fz,Tp C),(.fz,t)])=.ok .fz (.bl (L.all λz=>decide (z∈C))):=aR (pQ hL hc);have h2:aF 2 ((WT TT (k+1)).Φ "has_all") (.ok [(.fz,Tp C'),(.fz,t)])=.ok .fz (.bl (L.all λz=>decide (z∈C'))):=aR (pQ hL hc);rw[aAV];refine aK rfl ?_;show evB (WT TT (k+1)) cT [some (false,A),some (false,t),some (false,.dct M),none,none]=_;generalize Tp C=u at *;generalize Tp C'=u' at *;have pr:evB (WT TT (k+1)) (cT.take 1) [some (false,A),some (false,t),some (false,.dct M),none,none]=.nx [some (false,A),some (false,t),some (false,.dct M),some (false,x),some (false,y)]:=by simp[cT,w1,w2,jS]
 rw[show cT=cT.take 1++cT.drop 1 from rfl,bE,pr,aB.thn_nx]
 rcases hr with ⟨e,rfl⟩ | ⟨e,e',rfl⟩
 . rw[e] at h1;simp[cT,cx,h1,t3]
 . rw[e] at h1;rw[e'] at h2;simp[cT,cx,cy,h1,h2,t3]
theorem aBX{C C' L:List Str}(hL:L.length<sizeLine)(hc:∀ K,n<=K->(WT TT K).Φ "columns_in" [t]=.ok .fr (.lst (L.map .str)))(hx:∀ K,n+1<=K->(WT TT K).Φ "columns_of" [x,.dct M]=.ok .fz (Tp C))(hy:∀ K,n+1<=K->(WT TT K).Φ "columns_of" [y,.dct M]=.ok .fz (Tp C'))(l:List D)(hr:(L.all λz=>decide (z∈C))=true/\l=[.str "join", .tup [.str "pick", x,t],y]\/(L.all λz=>decide (z∈C))=false/\(L.all λz=>decide (z∈C'))=true/\l=[.str "join", x,.tup [.str "pick", y,t]]):eI M (.tup [.str "join", x,y]) t (some l) (n+3):=λK hK=>by
 obtain ⟨k,rfl,hk⟩:∃ k,K=k+3/\n<=k:=⟨K-3,by omega,by omega⟩
 have w0:op2 ixD (.ok .fz (.tup [.str "join", x,y])) (.ok .fz (.int 0))=.ok .fz (.str "join"):=j0;have w1:op2 ixD (.ok .fz (.tup [.str "join", x,y])) (.ok .fz (.int 1))=.ok .fz x:=j1;have w2:op2 ixD (.ok .fz (.tup [.str "join", x,y])) (.ok .fz (.int 2))=.ok .fz y:=j2;have sj:=aOR (M:=M) (t:=t) (k:=k) w1 w2 hL (hc k hk) (hx (k+1) (by omega)) (hy (k+1) (by omega)) (.tup l) (hr.imp (λh=>⟨h.1,by rw[h.2]⟩) (λh=>⟨h.1,h.2.1,by rw[h.2.2]⟩))
 generalize D.tup [.str "join", x,y]=A at *;have cj:aF 3 ((WT TT (k+2)).Φ "sunk_into_join") (.ok [(.fz,A),(.fz,t),(.fz,.dct M)])=.ok .fz (.tup l):=gC sj;rw[iB];refine aK rfl ?_;show evB (WT TT (k+2)) bO [some (false,A),some (false,t),some (false,.dct M),none,none,none]=.rt .fz (.tup l);rw[kL w0];simp[bO,wd (a := "join") (b := "table"),wd (a := "join") (b := "pick"),cj]
end
inductive Aq where
 | table (w:Str) | pick (x:Aq) (t:Ts) | keep (x:Aq) (K:List Str) | call (x:Aq) (K:List Str) | total (x:Aq) (z:Str) (K:List Str)
 | join (x y:Aq) | pour (x y:Aq) | leave (x y:Aq)
def aL:Aq->List D
 | .table w=>[.str "table", .str w]
 | .pick x t=>[.str "pick", .tup (aL x),tsD [] t]
 | .keep x K=>[.str "keep", .tup (aL x),Tp K]
 | .call x K=>[.str "call", .tup (aL x),Tp K]
 | .total x z K=>[.str "total", .tup (aL x),.str z,Tp K]
 | .join x y=>[.str "join", .tup (aL x),.tup (aL y)]
 | .pour x y=>[.str "pour", .tup (aL x),.tup (aL y)]
 | .leave x y=>[.str "leave", .tup (aL x),.tup (aL y)]
abbrev aD(a:Aq):D:=.tup (aL a)
def up:Pt->List Str
 | .of z=>[z]
 | .just _=>[]
def us:Ts->List Str
 | .atom _ p q=>up p++up q
 | .no t=>us t
 | .two _ a b=>us a++us b
theorem aBY{f:List Str}:∀ p:Pt,cl f p=(up p).map .str
 | .of z=>rfl
 | .just _=>rfl
theorem kM{f:List Str}:∀ t:Ts,cols f t=(us t).map .str
 | .atom s p q=>by rw[cols,us,aBY,aBY,aTE]
 | .no t=>kM t
 | .two e a b=>by rw[cols,us,kM a,kM b,aTE]
theorem pX:∀ p:Pt,(up p).length<=1
 | .of z=>aP8 _
 | .just _=>aRK _
theorem pY:∀ t:Ts,(us t).length<=2 ^ (t.dep+1)
 | .atom s p q=>by have:=pX p;have:=pX q;rw[us,aQQ];show _<=2 ^ (0+1);omega
 | .no t=>by have:=pY t;show (us t).length<=2 ^ (t.dep+1+1);rw[aTI];omega
 | .two e a b=>by
  have h1:=pY a;have h2:=pY b;rw[us,aQQ];show _<=2 ^ (max a.dep b.dep+1+1);have q1:2 ^ (a.dep+1)<=2 ^ (max a.dep b.dep+1):=aTJ (by decide) (by omega)
  have q2:2 ^ (b.dep+1)<=2 ^ (max a.dep b.dep+1):=aTJ (by decide) (by omega)
  rw[aTI];omega
theorem kN{t:Ts}(h:t.dep<=5):(us t).length<=900:=by
 have:=pY t;have:2 ^ (t.dep+1)<=2 ^ 6:=aTJ (by decide) (by omega)
 omega
theorem aBZ{vs:List D}{C:List Str}:∀ {p:Pt},p.ok vs C->∀ z∈up p,z∈C
 | .of z,h,y,hy=>by
  rw[show up (.of z)=[z] from rfl,aSI] at hy
  subst hy;exact h
 | .just _,_,_,hy=>absurd hy (by simp[up])
theorem kP{vs:List D}{C:List Str}:∀ {t:Ts},t.ok vs C->∀ z∈us t,z∈C
 | .atom s p q,h,z,hz=>by
  rcases aPQ.mp hz with q | q
  . exact aBZ h.1 z q
  . exact aBZ h.2 z q
 | .no t,h,z,hz=>kP (t:=t) h z hz
 | .two e a b,h,z,hz=>by
  rcases aPQ.mp hz with q | q
  . exact kP h.1 z q
  . exact kP h.2 z q
theorem aB0{vs:List D}{C C':List Str}:∀ {p:Pt},p.ok vs C->(∀ z∈up p,z∈C')->p.ok vs C'
 | .of z,_,h=>h z (by simp[up])
 | .just _,h,_=>h
theorem jB{vs:List D}{C C':List Str}:∀ {t:Ts},t.ok vs C->(∀ z∈us t,z∈C')->t.ok vs C'
 | .atom s p q,h,g=>⟨aB0 h.1 λz hz=>g z (aPR _ hz),aB0 h.2 λz hz=>g z (aQC _ hz)⟩
 | .no t,h,g=>jB (t:=t) h g
 | .two e a b,h,g=>⟨jB h.1 λz hz=>g z (aPR _ hz),jB h.2 λz hz=>g z (aQC _ hz)⟩
theorem pZ{σ:Str->Str}:∀ t:Ts,(t.ren σ).dep=t.dep
 | .atom s p q=>rfl
 | .no t=>congrArg (·+1) (pZ t)
 | .two e a b=>by show max _ _+1=max _ _+1;rw[pZ a,pZ b]
theorem aB1{σ:Str->Str}{vs:List D}{C C':List Str}(h:∀ z∈C,σ z∈C'):∀ {p:Pt},p.ok vs C->(p.ren σ).ok vs C'
 | .of z,q=>h z q
 | .just _,q=>q
theorem qA{σ:Str->Str}{vs:List D}{C C':List Str}(h:∀ z∈C,σ z∈C'):∀ {t:Ts},t.ok vs C->(t.ren σ).ok vs C'
 | .atom s p q,g=>⟨aB1 h g.1,aB1 h g.2⟩
 | .no t,g=>qA (t:=t) h g
 | .two e a b,g=>⟨qA h g.1,qA h g.2⟩
def wt:Ts->Nat
 | .atom ..=>1
 | .no t=>3 * wt t
 | .two _ a b=>wt a+wt b+1
def lv:Ts->Nat
 | .atom ..=>1
 | .no t=>lv t
 | .two _ a b=>lv a+lv b
theorem iE:∀ t:Ts,1<=wt t
 | .atom ..=>aP8 _
 | .no t=>by have:=iE t;show 1<=3 * wt t;omega
 | .two e a b=>by show 1<=wt a+wt b+1;omega
theorem gI:∀ t:Ts,1<=lv t
 | .atom ..=>aP8 _
 | .no t=>gI t
 | .two e a b=>by have:=gI a;show 1<=lv a+lv b;omega
theorem qB{σ:Str->Str}:∀ t:Ts,wt (t.ren σ)=wt t
 | .atom s p q=>rfl
 | .no t=>by show 3 * _=3 * _;rw[qB t]
 | .two e a b=>by show _+_+1=_+_+1;rw[qB a,qB b]
theorem qC{σ:Str->Str}:∀ t:Ts,lv (t.ren σ)=lv t
 | .atom s p q=>rfl
 | .no t=>qC t
 | .two e a b=>by show _+_=_+_;rw[qC a,qC b]
section
variable (S:Str->List Str)
def co:Aq->List Str
 | .table w=>S w
 | .pick x _=>co x
 | .keep _ K=>K
 | .call _ K=>K
 | .total _ _ K=>K
 | .join x y=>co x++dif (co y) (co x)
 | .pour x _=>co x
 | .leave x _=>co x
def sub(L C:List Str):Bool:=L.all λz=>decide (z∈C)
def dU:Aq->Ts->Option Aq
 | .table _,_=>none
 | .pick x b,t=>(dU x t).map λy=>.pick y b
 | .keep x K,t=>some (.keep (.pick x t) K)
 | .call x K,t=>some (.call (.pick x (t.ren (cH K (co S x)))) K)
 | .total x z K,t=>some (.total (.pick x t) z K)
 | .join x y,t=>if sub (us t) (co S x)=true then some (.join (.pick x t) y) else if sub (us t) (co S y)=true then some (.join x (.pick y t)) else none
 | .pour x y,t=>some (.pour (.pick x t) (.pick y t))
 | .leave x y,t=>some (.leave (.pick x t) y)
def bp(x:Aq):Ts->Option Aq
 | .two false a b=>some (.pick (.pick x a) b)
 | .no (.no t)=>some (.pick x t)
 | .no (.two true a b)=>some (.pick x (.two false (.no a) (.no b)))
 | t=>dU S x t
def two(c:Aq->Aq->Aq)(x y:Aq)(r r':Option Aq):Option Aq:=match r with
 | some x'=>some (c x' y)
 | none=>r'.map λy'=>c x y'
def stp:Aq->Option Aq
 | .table _=>none
 | .pick x t=>match bp S x t with
  | some d=>some d
  | none=>(stp x).map λy=>.pick y t
 | .keep x K=>(stp x).map λy=>.keep y K
 | .call x K=>(stp x).map λy=>.call y K
 | .total x z K=>(stp x).map λy=>.total y z K
 | .join x y=>two .join x y (stp x) (stp y)
 | .pour x y=>two .pour x y (stp x) (stp y)
 | .leave x y=>two .leave x y (stp x) (stp y)
end
def hw:Aq->Nat
 | .table _=>0
 | .pick x t=>hw x+lv t
 | .keep x _=>hw x+1
 | .call x _=>hw x+1
 | .total x _ _=>hw x+1
 | .join x y=>max (hw x) (hw y)+1
 | .pour x y=>max (hw x) (hw y)+1
 | .leave x y=>max (hw x) (hw y)+1
def sz:Aq->Nat
 | .table _=>1
 | .pick x _=>sz x
 | .keep x _=>sz x+1
 | .call x _=>sz x+1
 | .total x _ _=>sz x+1
 | .join x y=>sz x+sz y+1
 | .pour x y=>sz x+sz y+1
 | .leave x y=>sz x+sz y+1
def po:Aq->Nat
 | .table _=>0
 | .pick x t=>wt t * sz x+po x
 | .keep x _=>po x
 | .call x _=>po x
 | .total x _ _=>po x
 | .join x y=>po x+po y
 | .pour x y=>po x+po y
 | .leave x y=>po x+po y
theorem qD:∀ a:Aq,1<=sz a
 | .table _=>aP8 _
 | .pick x _=>qD x
 | .keep x _=>aTC _ _
 | .call x _=>aTC _ _
 | .total x _ _=>aTC _ _
 | .join x y=>aTC _ _
 | .pour x y=>aTC _ _
 | .leave x y=>aTC _ _
section
variable (M:List (Key×D))(S:Str->List Str)(vs:List D)
def ok:Aq->Prop
 | .table w=>bC M (.inr w)=some (Tp (S w))
 | .pick x t=>ok x/\t.dep<=5/\t.ok vs (co S x)
 | .keep x K=>ok x/\K.Nodup/\∀ z∈K,z∈co S x
 | .call x K=>ok x/\K.Nodup/\K.length=(co S x).length/\K.length<=900
 | .total x z K=>ok x/\z∈co S x/\K.Nodup/\∀ z∈K,z∈co S x
 | .join x y=>ok x/\ok y/\(co S x).length+(co S y).length<900
 | .pour x y=>ok x/\ok y/\co S y=co S x
 | .leave x y=>ok x/\ok y/\∀ z∈co S y,z∈co S x
end
section
variable {M:List (Key×D)}{S:Str->List Str}{vs:List D}
theorem ask:∀ a:Aq,ok M S vs a->tY M (aD a) (co S a) (hw a)
 | .table w,h=>⟨0,.table h,aP8 _⟩
 | .pick x t,h=>by obtain ⟨m,h1,h2⟩:=ask x h.1;have:=gI t;exact ⟨m+1,.pick h1 h.2.1 (kM t) (kN h.2.1) (kP h.2.2),by show m+1<=hw x+lv t;omega⟩
 | .keep x K,h=>by obtain ⟨m,h1,h2⟩:=ask x h.1;exact ⟨m+1,.keep h1 h.2.1 h.2.2,aTF h2⟩
 | .call x K,h=>by obtain ⟨m,h1,h2⟩:=ask x h.1;exact ⟨m+1,.call h1 h.2.1 h.2.2.1 h.2.2.2,aTF h2⟩
 | .total x z K,h=>by obtain ⟨m,h1,h2⟩:=ask x h.1;exact ⟨m+1,.total h1 h.2.1 h.2.2.1 h.2.2.2,aTF h2⟩
 | .join x y,h=>by have hsz:sizeLine=16777216:=aQD;obtain ⟨m,h1,h2⟩:=ask x h.1;obtain ⟨m',h3,h4⟩:=ask y h.2.1;have h5:=h.2.2;exact ⟨_,.join h1 h3 (by omega),by show max m m'+1<=max (hw x) (hw y)+1;omega⟩
 | .pour x y,h=>by obtain ⟨m,h1,h2⟩:=ask x h.1;obtain ⟨m',h3,h4⟩:=ask y h.2.1;rw[h.2.2] at h3;exact ⟨_,.pour h1 h3,by show max m m'+1<=max (hw x) (hw y)+1;omega⟩
 | .leave x y,h=>by obtain ⟨m,h1,h2⟩:=ask x h.1;obtain ⟨m',h3,h4⟩:=ask y h.2.1;exact ⟨_,.leave h1 h3 h.2.2,by show max m m'+1<=max (hw x) (hw y)+1;omega⟩
theorem mR{a:Aq}(h:ok M S vs a):∀ K,hw a+7<=K->(WT TT K).Φ "columns_of" [aD a,.dct M]=.ok .fz (Tp (co S a)):=(ask a h).cols
theorem aOS{t:Ts}(h:t.dep<=5):∀ K,6<=K->(WT TT K).Φ "columns_in" [tsD [] t]=.ok .fr (.lst ((us t).map .str)):=λK hK=>by have hsz:sizeLine=16777216:=aQD;have:=kN h;rw[<- kM (f:=[])];exact aAZ t K (by omega) (by rw[kM,aQR];omega)
theorem aOT{x t b:D}{n:Nat}(h:eI M x t none n):eI M (.tup [.str "pick", x,b]) t none (n+1):=λK hK=>by obtain ⟨k,rfl,hk⟩:=le1 hK;have cs:aF 3 ((WT TT k).Φ "sunk") (.ok [(.fz,x),(.fz,t),(.fz,.dct M)])=.ok .fz .non:=gC (h k hk);rw[iB];refine aK rfl ?_;show evB (WT TT k) bO [some (false,.tup [.str "pick", x,b]),some (false,t),some (false,.dct M),none,none,none]=.rt .fz .non;have w0:op2 ixD (.ok .fz (.tup [.str "pick", x,b])) (.ok .fz (.int 0))=.ok .fz (.str "pick"):=j0;have w1:op2 ixD (.ok .fz (.tup [.str "pick", x,b])) (.ok .fz (.int 1))=.ok .fz x:=j1;rw[kL w0];generalize D.tup [.str "pick", x,b]=A at *;simp[bO,w1,wd (a := "pick") (b := "table"),cs]
theorem mS{t:Ts}(hd:t.dep<=5):∀ x:Aq,ok M S vs x->t.ok vs (co S x)->eI M (aD x) (tsD [] t) ((dU S x t).map aL) (hw x+12)
 | .table w,h,ht=>λK hK=>aN5 K (by omega)
 | .pick x b,h,ht=>by
  have ih:=mS hd x h.1 ht;have:=gI b;intro K hK;have hK:hw x+lv b+12<=K:=hK;cases e:dU S x t with
  | none=>rw[e] at ih;show _=Res.ok .fz (rD (((dU S x t).map λy=>Aq.pick y b).map aL));rw[e];exact aOT (b:=tsD [] b) ih K (by omega)
  | some y=>rw[e] at ih;show _=Res.ok .fz (rD (((dU S x t).map λy=>Aq.pick y b).map aL));rw[e];exact aOP (b:=tsD [] b) ih K (by omega)
 | .keep x K',h,ht=>λK hK=>uA (Str.ofString "keep") (l:=[Tp K']) (by decide +kernel) (by simp) K (by omega)
 | .call x K',h,ht=>λK hK=>by have hK:hw x+1+12<=K:=hK;exact aOQ (n:=hw x+12) h.2.1 (Nat.le_of_eq h.2.2.1) (λK hK=>mR h.1 K (by omega)) ht (by omega) K (by omega)
 | .total x z K',h,ht=>λK hK=>uA (Str.ofString "total") (l:=[.str z,Tp K']) (by decide +kernel) (by simp) K (by omega)
 | .join x y,h,ht=>by
  have hsz:sizeLine=16777216:=aQD;have hl:=kN hd;intro K hK;have hK:max (hw x) (hw y)+1+12<=K:=hK;have c0:∀ K,max (hw x) (hw y)+9<=K->(WT TT K).Φ "columns_in" [tsD [] t]=.ok .fr (.lst ((us t).map .str)):=λK hK=>aOS hd K (by omega)
  have cx:∀ K,max (hw x) (hw y)+9+1<=K->(WT TT K).Φ "columns_of" [aD x,.dct M]=.ok .fz (Tp (co S x)):=λK hK=>mR h.1 K (by omega)
  have cy:∀ K,max (hw x) (hw y)+9+1<=K->(WT TT K).Φ "columns_of" [aD y,.dct M]=.ok .fz (Tp (co S y)):=λK hK=>mR h.2.1 K (by omega)
  show _=Res.ok .fz (rD ((if sub (us t) (co S x)=true then some (Aq.join (.pick x t) y) else if sub (us t) (co S y)=true then some (.join x (.pick y t)) else none).map aL));cases e1:sub (us t) (co S x) with
  | true=>rw[if_pos rfl];exact aBX (n:=max (hw x) (hw y)+9) (by omega) c0 cx cy _ (.inl ⟨e1,rfl⟩) K (by omega)
  | false =>
   rw[if_neg aP5];cases e2:sub (us t) (co S y) with
   | true=>rw[if_pos rfl];exact aBX (n:=max (hw x) (hw y)+9) (by omega) c0 cx cy _ (.inr ⟨e1,e2,rfl⟩) K (by omega)
   | false=>rw[if_neg aP5];exact aN6 (n:=max (hw x) (hw y)+9) (by omega) c0 cx cy e1 e2 K (by omega)
 | .pour x y,h,ht=>λK hK=>aOO K (by omega)
 | .leave x y,h,ht=>λK hK=>uA (Str.ofString "leave") (l:=[.tup (aL y)]) (by decide +kernel) (by simp) K (by omega)
theorem bp_ok{x:Aq}(h:ok M S vs x):∀ t:Ts,t.dep<=5->t.ok vs (co S x)->kI M (aD x) (tsD [] t) ((bp S x t).map aL) (hw x+13)
 | .atom s p q,hd,ht=>pP (u:=.atom s p q) rfl (mS hd x h ht)
 | .two true a b,hd,ht=>pP (u:=.two true a b) rfl (mS hd x h ht)
 | .two false a b,hd,ht=>λK hK=>aON K (by omega)
 | .no (.no t),hd,ht=>λK hK=>bp_nn K (by omega)
 | .no (.two true a b),hd,ht=>λK hK=>bp_ne K (by omega)
 | .no (.two false a b),hd,ht=>pP (u:=.no (.two false a b)) rfl (mS hd x h ht)
 | .no (.atom s p q),hd,ht=>pP (u:=.no (.atom s p q)) rfl (mS hd x h ht)
theorem uB{x y:Aq}{n m:Nat}(w:Str)(c:Aq->Aq->Aq)(hc:∀ a b,aL (c a b)=[.str w,.tup (aL a),.tup (aL b)])(hw':(w==Str.ofString "pick")=false/\(w==Str.ofString "table")=false/\decide (w∈jpl)=true)(hx:bY M (aD x) ((stp S x).map aL) (n+16))(hy:bY M (aD y) ((stp S y).map aL) (m+16)):bY M (.tup (aL (c x y))) ((two c x y (stp S x) (stp S y)).map aL) (max n m+17):=by
 have:=aOG (n:=max n m+15) (r:=(stp S x).map aL) (r':=(stp S y).map aL) w (hx.mono (by omega)) (.inl (hy.mono (by omega))) hw'
 rw[hc];have e:or2 w (.tup (aL x)) (.tup (aL y)) ((stp S x).map aL) ((stp S y).map aL)=(two c x y (stp S x) (stp S y)).map aL:=by
  cases e1:stp S x with
  | some x'=>show some _=some (aL (c x' y));rw[hc]
  | none =>
   cases e2:stp S y with
   | some y'=>show some _=some (aL (c x y'));rw[hc]
   | none=>rfl
 rw[e] at this;exact this
theorem eJ:∀ a:Aq,ok M S vs a->bY M (aD a) ((stp S a).map aL) (hw a+16)
 | .table w,h=>aN0.mono (by omega)
 | .pick x t,h=>by
  have ih:=eJ x h.1;have b:=bp_ok h.1 t h.2.1 h.2.2;have:=gI t;have q:=aN4 (n:=hw x+15) (r:=(stp S x).map aL) (r0:=(bp S x t).map aL) (λK hK=>b K (by omega)) (.inl ih)
  have e:orP (aD x) (tsD [] t) ((bp S x t).map aL) ((stp S x).map aL)=(stp S (.pick x t)).map aL:=by
   show _=(match bp S x t with | some d=>some d | none=>(stp S x).map λy=>Aq.pick y t).map aL
   cases bp S x t with
   | some d=>rfl
   | none=>cases stp S x <;> rfl
  rw[e] at q;exact q.mono (by show hw x+15+2<=hw x+lv t+16;omega)
 | .keep x K,h=>by
  have q:=tZ (n:=hw x+15) (Str.ofString "keep") (l:=[Tp K]) (by simp) (eJ x h.1) (nw _)
  have e:(((stp S x).map aL).map λd=>D.str (Str.ofString "keep") :: .tup d::[Tp K])=((stp S x).map λy=>Aq.keep y K).map aL:=by cases stp S x <;> rfl
  rw[e] at q;exact q
 | .call x K,h=>by
  have q:=tZ (n:=hw x+15) (Str.ofString "call") (l:=[Tp K]) (by simp) (eJ x h.1) (nw _)
  have e:(((stp S x).map aL).map λd=>D.str (Str.ofString "call") :: .tup d::[Tp K])=((stp S x).map λy=>Aq.call y K).map aL:=by cases stp S x <;> rfl
  rw[e] at q;exact q
 | .total x z K,h=>by
  have q:=tZ (n:=hw x+15) (Str.ofString "total") (l:=[.str z,Tp K]) (by simp) (eJ x h.1) (nw _)
  have e:(((stp S x).map aL).map λd=>D.str (Str.ofString "total") :: .tup d::[.str z,Tp K])=((stp S x).map λy=>Aq.total y z K).map aL:=by cases stp S x <;> rfl
  rw[e] at q;exact q
 | .join x y,h=>uB (Str.ofString "join") .join (λ_ _=>rfl) (nj _) (eJ x h.1) (eJ y h.2.1)
 | .pour x y,h=>uB (Str.ofString "pour") .pour (λ_ _=>rfl) (nj _) (eJ x h.1) (eJ y h.2.1)
 | .leave x y,h=>uB (Str.ofString "leave") .leave (λ_ _=>rfl) (nj _) (eJ x h.1) (eJ y h.2.1)
end
section
variable {M:List (Key×D)}{S:Str->List Str}{vs:List D}
structure Pr(M:List (Key×D))(S:Str->List Str)(vs:List D)(a b:Aq):Prop where
 ok:ok M S vs b
 co:co S b=co S a
 hw:hw b<=hw a
 sz:sz b=sz a
 po:po b<po a
theorem aB2{L C:List Str}(h:sub L C=true):∀ z∈L,z∈C:=λz hz=>by unfold sub at h;rw[aRZ] at h;simpa using h z hz
theorem uC{a b c:Nat}(h:1<=a):a * b+c<a * (b+1)+c:=by rw[aTK];omega
theorem mU{t:Ts}(hd:t.dep<=5):∀ (x y:Aq),dU S x t=some y->ok M S vs x->t.ok vs (co S x)->Pr M S vs (.pick x t) y
 | .table w,y,e,h,ht=>by cases e
 | .pick x b,y,e,h,ht=>by
  have e:(dU S x t).map (λy=>Aq.pick y b)=some y:=e;cases e1:dU S x t with
  | none=>rw[e1] at e;cases e
  | some z =>
   rw[e1] at e;cases e;have p:=mU hd x z e1 h.1 ht;have q1:=p.co;have q2:=p.hw;have q3:=p.sz;have q4:=p.po;refine ⟨⟨p.ok,h.2.1,by rw[p.co];exact h.2.2⟩,p.co,?_,p.sz,?_⟩
   . show hw z+lv b<=hw x+lv b+lv t;have:hw z<=hw x+lv t:=q2;omega
   . show wt b * sz z+po z<wt t * sz x+(wt b * sz x+po x);have q3:sz z=sz x:=q3;have q4:po z<wt t * sz x+po x:=q4;rw[q3];generalize wt b * sz x=u at *;generalize wt t * sz x=v at *;omega
 | .keep x K,y,e,h,ht=>by cases e;exact ⟨⟨⟨h.1,hd,jB ht λz hz=>h.2.2 z (kP ht z hz)⟩,h.2.1,h.2.2⟩,rfl,by show hw x+lv t+1<=hw x+1+lv t;omega,rfl,uC (iE t)⟩
 | .call x K,y,e,h,ht=>by
  cases e;refine ⟨⟨⟨h.1,by rw[pZ];exact hd,qA (λz hz=>aBU K (co S x) z (Nat.le_of_eq h.2.2.1) hz) ht⟩,h.2.1,h.2.2.1,h.2.2.2⟩,rfl,?_,rfl,?_⟩
  . show hw x+lv (t.ren _)+1<=hw x+1+lv t;rw[qC];omega
  . show wt (t.ren _) * sz x+po x<wt t * (sz x+1)+po x;rw[qB];exact uC (iE t)
 | .total x z K,y,e,h,ht=>by cases e;exact ⟨⟨⟨h.1,hd,jB ht λz hz=>h.2.2.2 z (kP ht z hz)⟩,h.2.1,h.2.2.1,h.2.2.2⟩,rfl,by show hw x+lv t+1<=hw x+1+lv t;omega,rfl,uC (iE t)⟩
 | .join x y',y,e,h,ht=>by
  have e:(if sub (us t) (co S x)=true then some (Aq.join (.pick x t) y') else if sub (us t) (co S y')=true then some (.join x (.pick y' t)) else none)=some y:=e;have w1:=iE t;cases e1:sub (us t) (co S x) with
  | true =>
   rw[e1,if_pos rfl] at e;cases e;refine ⟨⟨⟨h.1,hd,jB ht (aB2 e1)⟩,h.2.1,h.2.2⟩,rfl,?_,rfl,?_⟩
   . show max (hw x+lv t) (hw y')+1<=max (hw x) (hw y')+1+lv t;omega
   . show wt t * sz x+po x+po y'<wt t * (sz x+sz y'+1)+(po x+po y');rw[aTK,aTL];generalize wt t * sz x=u at *;generalize wt t * sz y'=v at *;omega
  | false =>
   rw[e1,if_neg aP5] at e;cases e2:sub (us t) (co S y') with
   | false=>rw[e2,if_neg aP5] at e;cases e
   | true =>
    rw[e2,if_pos rfl] at e;cases e;refine ⟨⟨h.1,⟨h.2.1,hd,jB ht (aB2 e2)⟩,h.2.2⟩,rfl,?_,rfl,?_⟩
    . show max (hw x) (hw y'+lv t)+1<=max (hw x) (hw y')+1+lv t;omega
    . show po x+(wt t * sz y'+po y')<wt t * (sz x+sz y'+1)+(po x+po y');rw[aTK,aTL];generalize wt t * sz x=u at *;generalize wt t * sz y'=v at *;omega
 | .pour x y',y,e,h,ht=>by
  cases e;have w1:=iE t;refine ⟨⟨⟨h.1,hd,ht⟩,⟨h.2.1,hd,by rw[h.2.2];exact ht⟩,h.2.2⟩,rfl,?_,rfl,?_⟩
  . show max (hw x+lv t) (hw y'+lv t)+1<=max (hw x) (hw y')+1+lv t;omega
  . show wt t * sz x+po x+(wt t * sz y'+po y')<wt t * (sz x+sz y'+1)+(po x+po y');rw[aTK,aTL];generalize wt t * sz x=u at *;generalize wt t * sz y'=v at *;omega
 | .leave x y',y,e,h,ht=>by
  cases e;have w1:=iE t;refine ⟨⟨⟨h.1,hd,ht⟩,h.2.1,h.2.2⟩,rfl,?_,rfl,?_⟩
  . show max (hw x+lv t) (hw y')+1<=max (hw x) (hw y')+1+lv t;omega
  . show wt t * sz x+po x+po y'<wt t * (sz x+sz y'+1)+(po x+po y');rw[aTK,aTL];generalize wt t * sz x=u at *;generalize wt t * sz y'=v at *;omega
theorem bp_pr{x:Aq}(h:ok M S vs x):∀ (t:Ts) (y:Aq),bp S x t=some y->t.dep<=5->t.ok vs (co S x)->Pr M S vs (.pick x t) y
 | .atom s p q,y,e,hd,ht=>mU hd x y e h ht
 | .two true a b,y,e,hd,ht=>mU hd x y e h ht
 | .two false a b,y,e,hd,ht=>by
  cases e;have hd:max a.dep b.dep+1<=5:=hd;have s1:=qD x;refine ⟨⟨⟨h,by omega,ht.1⟩,by omega,ht.2⟩,rfl,?_,rfl,?_⟩
  . show hw x+lv a+lv b<=hw x+(lv a+lv b);omega
  . show wt b * sz x+(wt a * sz x+po x)<(wt a+wt b+1) * sz x+po x;rw[Nat.succ_mul,Nat.add_mul];generalize wt a * sz x=u at *;generalize wt b * sz x=v at *;omega
 | .no (.no t),y,e,hd,ht=>by
  cases e;have hd:t.dep+1+1<=5:=hd;have s1:=qD x;have w1:=iE t;refine ⟨⟨h,by omega,ht⟩,rfl,aP8 _,rfl,?_⟩
  show wt t * sz x+po x<3 * (3 * wt t) * sz x+po x;have:wt t * sz x<3 * (3 * wt t) * sz x:=aTM (by omega) s1
  omega
 | .no (.two true a b),y,e,hd,ht=>by
  cases e;have hd:max a.dep b.dep+1+1<=5:=hd;have s1:=qD x;refine ⟨⟨h,by show max (a.dep+1) (b.dep+1)+1<=5;omega,⟨ht.1,ht.2⟩⟩,rfl,aP8 _,rfl,?_⟩
  show (3 * wt a+3 * wt b+1) * sz x+po x<3 * (wt a+wt b+1) * sz x+po x;have:(3 * wt a+3 * wt b+1) * sz x<3 * (wt a+wt b+1) * sz x:=aTM (by omega) s1
  omega
 | .no (.two false a b),y,e,hd,ht=>mU hd x y e h ht
 | .no (.atom s p q),y,e,hd,ht=>mU hd x y e h ht
theorem uD{c:Aq->Aq->Aq}{x y z:Aq}(e:two c x y (stp S x) (stp S y)=some z)(h1:∀ x',stp S x=some x'->Pr M S vs (c x y) (c x' y))(h2:∀ y',stp S y=some y'->Pr M S vs (c x y) (c x y')):Pr M S vs (c x y) z:=by
 unfold two at e;cases e1:stp S x with
 | some x'=>rw[e1] at e;cases e;exact h1 x' e1
 | none =>
  rw[e1] at e;cases e2:stp S y with
  | none=>rw[e2] at e;cases e
  | some y'=>rw[e2] at e;cases e;exact h2 y' e2
theorem dJ:∀ (a b:Aq),stp S a=some b->ok M S vs a->Pr M S vs a b
 | .table w,b,e,h=>by cases e
 | .pick x t,b,e,h=>by
  have e:(match bp S x t with | some d=>some d | none=>(stp S x).map λy=>Aq.pick y t)=some b:=e
  cases e1:bp S x t with
  | some d=>rw[e1] at e;cases e;exact bp_pr h.1 t _ e1 h.2.1 h.2.2
  | none =>
   rw[e1] at e;cases e2:stp S x with
   | none=>rw[e2] at e;cases e
   | some y =>
    rw[e2] at e;cases e;have p:=dJ x y e2 h.1;have q4:=p.po;refine ⟨⟨p.ok,h.2.1,by rw[p.co];exact h.2.2⟩,p.co,Nat.add_le_add_right p.hw _,p.sz,?_⟩
    show wt t * sz y+po y<wt t * sz x+po x;rw[p.sz];omega
 | .keep x K,b,e,h=>by
  have e:((stp S x).map λy=>Aq.keep y K)=some b:=e;cases e2:stp S x with
  | none=>rw[e2] at e;cases e
  | some y=>rw[e2] at e;cases e;have p:=dJ x y e2 h.1;exact ⟨⟨p.ok,h.2.1,by rw[p.co];exact h.2.2⟩,rfl,aTF p.hw,congrArg (·+1) p.sz,p.po⟩
 | .call x K,b,e,h=>by
  have e:((stp S x).map λy=>Aq.call y K)=some b:=e;cases e2:stp S x with
  | none=>rw[e2] at e;cases e
  | some y=>rw[e2] at e;cases e;have p:=dJ x y e2 h.1;exact ⟨⟨p.ok,h.2.1,by rw[p.co];exact h.2.2⟩,rfl,aTF p.hw,congrArg (·+1) p.sz,p.po⟩
 | .total x z K,b,e,h=>by
  have e:((stp S x).map λy=>Aq.total y z K)=some b:=e;cases e2:stp S x with
  | none=>rw[e2] at e;cases e
  | some y=>rw[e2] at e;cases e;have p:=dJ x y e2 h.1;exact ⟨⟨p.ok,by rw[p.co];exact h.2⟩,rfl,aTF p.hw,congrArg (·+1) p.sz,p.po⟩
 | .join x y, b, e, h => uD (c := .join) e (fun x' e' => by
     have p:=dJ x x' e' h.1;have q1:=p.hw;have q2:=p.sz;have q3:=p.po;exact ⟨⟨p.ok,h.2.1,by rw[p.co];exact h.2.2⟩,by show co S x'++dif (co S y) (co S x')=co S x++dif (co S y) (co S x);rw[p.co],by show max (hw x') (hw y)+1<=max (hw x) (hw y)+1;omega,by show sz x'+sz y+1=sz x+sz y+1;omega,by show po x'+po y<po x+po y;omega⟩) λy' e'=>by
     have p:=dJ y y' e' h.2.1;have q1:=p.hw;have q2:=p.sz;have q3:=p.po;exact ⟨⟨h.1,p.ok,by rw[p.co];exact h.2.2⟩,by show co S x++dif (co S y') (co S x)=co S x++dif (co S y) (co S x);rw[p.co],by show max (hw x) (hw y')+1<=max (hw x) (hw y)+1;omega,by show sz x+sz y'+1=sz x+sz y+1;omega,by show po x+po y'<po x+po y;omega⟩
 | .pour x y, b, e, h => uD (c := .pour) e (fun x' e' => by
     have p:=dJ x x' e' h.1;have q1:=p.hw;have q2:=p.sz;have q3:=p.po;exact ⟨⟨p.ok,h.2.1,by rw[p.co];exact h.2.2⟩,p.co,by show max (hw x') (hw y)+1<=max (hw x) (hw y)+1;omega,by show sz x'+sz y+1=sz x+sz y+1;omega,by show po x'+po y<po x+po y;omega⟩) λy' e'=>by
     have p:=dJ y y' e' h.2.1;have q1:=p.hw;have q2:=p.sz;have q3:=p.po;exact ⟨⟨h.1,p.ok,by rw[p.co];exact h.2.2⟩,rfl,by show max (hw x) (hw y')+1<=max (hw x) (hw y)+1;omega,by show sz x+sz y'+1=sz x+sz y+1;omega,by show po x+po y'<po x+po y;omega⟩
 | .leave x y, b, e, h => uD (c := .leave) e (fun x' e' => by
     have p:=dJ x x' e' h.1;have q1:=p.hw;have q2:=p.sz;have q3:=p.po;exact ⟨⟨p.ok,h.2.1,by rw[p.co];exact h.2.2⟩,p.co,by show max (hw x') (hw y)+1<=max (hw x) (hw y)+1;omega,by show sz x'+sz y+1=sz x+sz y+1;omega,by show po x'+po y<po x+po y;omega⟩) λy' e'=>by
     have p:=dJ y y' e' h.2.1;have q1:=p.hw;have q2:=p.sz;have q3:=p.po;exact ⟨⟨h.1,p.ok,by rw[p.co];exact h.2.2⟩,rfl,by show max (hw x) (hw y')+1<=max (hw x) (hw y)+1;omega,by show sz x+sz y'+1=sz x+sz y+1;omega,by show po x+po y'<po x+po y;omega⟩
def a9(S:Str->List Str):Nat->Aq->List Aq
 | 0,a=>[a]
 | n+1,a=>match stp S a with
  | some b=>a::a9 S n b
  | none=>[a]
theorem eW(hv:Vs vs):∀ a:Aq,ok M S vs a->Dp (hw a+8) (aD a)
 | .table w,h=>(pT cN cN).mono (show 1<=8 by decide)
 | .pick x t,h=>by have:=gI t;have hd:=h.2.1;exact (iD (n:=hw x+8) cN (eW hv x h.1) ((pU hv t h.2.2).mono (by omega))).mono (by show hw x+8+1<=hw x+lv t+8;omega)
 | .keep x K,h=>(iD (n:=hw x+8) cN (eW hv x h.1) (pS.mono (show 1<=hw x+8 by omega))).mono (by show hw x+8+1<=hw x+1+8;omega)
 | .call x K,h=>(iD (n:=hw x+8) cN (eW hv x h.1) (pS.mono (show 1<=hw x+8 by omega))).mono (by show hw x+8+1<=hw x+1+8;omega)
 | .total x z K,h=>(dp_4 (n:=hw x+8) cN (eW hv x h.1) cN (pS.mono (show 1<=hw x+8 by omega))).mono (by show hw x+8+1<=hw x+1+8;omega)
 | .join x y,h=>(iD (n:=max (hw x) (hw y)+8) cN ((eW hv x h.1).mono (by omega)) ((eW hv y h.2.1).mono (by omega))).mono (by show max (hw x) (hw y)+8+1<=max (hw x) (hw y)+1+8;omega)
 | .pour x y,h=>(iD (n:=max (hw x) (hw y)+8) cN ((eW hv x h.1).mono (by omega)) ((eW hv y h.2.1).mono (by omega))).mono (by show max (hw x) (hw y)+8+1<=max (hw x) (hw y)+1+8;omega)
 | .leave x y,h=>(iD (n:=max (hw x) (hw y)+8) cN ((eW hv x h.1).mono (by omega)) ((eW hv y h.2.1).mono (by omega))).mono (by show max (hw x) (hw y)+8+1<=max (hw x) (hw y)+1+8;omega)
end
theorem jm{a b c:D}{m m':Md}:op2 ixD (.ok m (.tup [a,b,c])) (.ok m' (.int (-1)))=.ok .fz c:=cD (by rfl)
theorem fm{a b c d:D}{m m':Md}:op2 ixD (.ok m (.tup [a,b,c,d])) (.ok m' (.int (-1)))=.ok .fz d:=cD (by rfl)
def kct:List Str:=[Str.ofString "keep", Str.ofString "call", Str.ofString "total"]
theorem uE{m m':Md}{z:Str}:op2 (bB .In) (.ok m (.str z)) (.ok m' (.tup [.str (Str.ofString "keep"),.str (Str.ofString "call"),.str (Str.ofString "total")]))=.ok .fz (.bl (decide (z∈kct))):=mK (C:=kct)
theorem aOU{W:WD}{ρ:Rho}{X:D}{ts:List E}{C S:List Str}{i:Nat}{it:E}(ht:∀ z:Str,evF W ts [some (false,X),some (false,.str z)]=.ok .fz (.bl (!decide (z∈C))))(hj:evE W it ρ=.ok .fz (Tp S))(hi:cF [i] ρ=[some (false,X)])(hs:S.length<sizeLine):evE W (.tcall .tuple [(.comp (.var 1) (.items it) ts [i] (.nm 1) 1)]) ρ=.ok .fz (Tp (dif S C)):=by
 have e1:bX (.ok .fz (.lst (S.map .str))) ρ [i] 1 (aI (.nm 1)) (λρ=>evF W ts ρ) (λρ=>evE W (.var 1) ρ)=.ok .fr (.lst ((dif S C).map .str)):=by
  show (if (S.map D.str).length<sizeLine then (match bH (aI (.nm 1)) (λρ=>evF W ts ρ) (λρ=>evE W (.var 1) ρ) (cF [i] ρ++[none]) (S.map .str) with | some ys=>Res.ok .fr (.lst ys) | none=>.stuck) else .stuck)=_
  rw[hi,if_pos (by rw[aQR];exact hs)]
  show (match bH (aI (.nm 1)) (λρ=>evF W ts ρ) (λρ=>evE W (.var 1) ρ) [some (false,X),none] (S.map .str) with | some ys=>Res.ok .fr (.lst ys) | none=>.stuck)=_
  rw[t5 ht]
 rw[sJ,gB,f9,f8,j9,hj];show eO (Ty.f .tuple) (cC (bX (.ok .fz (.lst (S.map .str))) _ [i] 1 (aI (.nm 1)) _ _) (.ok []))=_;rw[e1];rfl
section
variable {M:List (Key×D)}{S:Str->List Str}{vs:List D}
theorem uF(k:Nat){A x:D}{w:Str}{C:List Str}(h0:op2 ixD (.ok .fz A) (.ok .fz (.int 0))=.ok .fz (.str w))(h1:op2 ixD (.ok .fz A) (.ok .fz (.int 1))=.ok .fz x)(hw':((w==Str.ofString "table")=false)/\decide (w∈kct)=false/\(w==Str.ofString "join")=false)(hx:(WT TT k).Φ "_law_columns" [x,.dct M]=.ok .fz (Tp C)):(WT TT (k+1)).Φ "_law_columns" [A,.dct M]=.ok .fz (Tp C):=by
 have cx:aF 2 ((WT TT k).Φ "_law_columns") (.ok [(.fz,x),(.fz,.dct M)])=.ok .fz (Tp C):=aR hx;have ik:=uE (m:=.fz) (m':=.fz) (z:=w);rw[hw'.2.1] at ik;rw[pF];refine aK rfl ?_;show evB (WT TT k) d7 [some (false,A),some (false,.dct M),none,none]=_;have tk:∀ {a b c:D},dW (.ok [(.fz,a),(.fz,b),(.fz,c)])=.ok .fz (.tup [a,b,c]):=by intros;rfl
 generalize Tp C=u at *;simp[d7,h0,h1,hw'.1,hw'.2.2,tk,ik,cx]
theorem uG(k:Nat){A c:D}{w:Str}(h0:op2 ixD (.ok .fz A) (.ok .fz (.int 0))=.ok .fz (.str w))(h1:op2 ixD (.ok .fz A) (.ok .fz (.int (-1)))=.ok .fz c)(hw':((w==Str.ofString "table")=false)/\decide (w∈kct)=true):(WT TT (k+1)).Φ "_law_columns" [A,.dct M]=.ok .fz c:=by
 have ik:=uE (m:=.fz) (m':=.fz) (z:=w);rw[hw'.2] at ik;rw[pF];refine aK rfl ?_;show evB (WT TT k) d7 [some (false,A),some (false,.dct M),none,none]=_;have tk:∀ {a b c:D},dW (.ok [(.fz,a),(.fz,b),(.fz,c)])=.ok .fz (.tup [a,b,c]):=by intros;rfl
 simp[d7,h0,h1,hw'.1,tk,ik]
theorem jC:∀ a:Aq,ok M S vs a->∀ K,hw a+1<=K->(WT TT K).Φ "_law_columns" [aD a,.dct M]=.ok .fz (Tp (co S a))
 | .table w,h,K,hK=>by
  obtain ⟨k,rfl,hk⟩:=le1 hK;rw[pF];refine aK rfl ?_;have gd:=mO (show bC M (.inr w)=some (Tp (S w)) from h) (m:=.fz) (m':=.fz)
  show evB (WT TT k) d7 [some (false,.tup [.str "table", .str w]),some (false,.dct M),none,none]=.rt .fz (Tp (S w));generalize Tp (S w)=u at *;simp[d7,i0,i1,gd]
 | .pick x t,h,K,hK=>by
  have:=gI t;have hK:hw x+lv t+1<=K:=hK;obtain ⟨k,rfl,hk⟩:=le1 (n:=hw x+1) (by omega:hw x+1+1<=K)
  exact uF k (w:=Str.ofString "pick") j0 j1 (by decide +kernel) (jC x h.1 k hk)
 | .keep x K',h,K,hK=>by obtain ⟨k,rfl,hk⟩:=le1 hK;exact uG k (w:=Str.ofString "keep") j0 jm (by decide +kernel)
 | .call x K',h,K,hK=>by obtain ⟨k,rfl,hk⟩:=le1 hK;exact uG k (w:=Str.ofString "call") j0 jm (by decide +kernel)
 | .total x z K',h,K,hK=>by obtain ⟨k,rfl,hk⟩:=le1 hK;exact uG k (w:=Str.ofString "total") f0 fm (by decide +kernel)
 | .join x y,h,K,hK=>by
  have hsz:sizeLine=16777216:=aQD;have hK:max (hw x) (hw y)+1+1<=K:=hK;have hl:=h.2.2;obtain ⟨k,rfl,hk⟩:=le1 (n:=max (hw x) (hw y)+1) hK;have cx:aF 2 ((WT TT k).Φ "_law_columns") (.ok [(.fz,aD x),(.fz,.dct M)])=.ok .fz (Tp (co S x)):=aR (jC x h.1 k (by omega))
  have cy:aF 2 ((WT TT k).Φ "_law_columns") (.ok [(.fz,aD y),(.fz,.dct M)])=.ok .fz (Tp (co S y)):=aR (jC y h.2.1 k (by omega))
  have ik:=uE (m:=.fz) (m':=.fz) (z:=Str.ofString "join");rw[show decide (Str.ofString "join" ∈ kct)=false by decide +kernel] at ik
  have tk:∀ {a b c:D},dW (.ok [(.fz,a),(.fz,b),(.fz,c)])=.ok .fz (.tup [a,b,c]):=by intros;rfl
  have w0:op2 ixD (.ok .fz (aD (.join x y))) (.ok .fz (.int 0))=.ok .fz (.str "join"):=j0;have w1:op2 ixD (.ok .fz (aD (.join x y))) (.ok .fz (.int 1))=.ok .fz (aD x):=j1;have w2:op2 ixD (.ok .fz (aD (.join x y))) (.ok .fz (.int 2))=.ok .fz (aD y):=j2;have dl:=pL (C:=co S x) (C':=co S y);have ct:=i8 (C:=co S x) (C':=dif (co S y) (co S x)) (m:=.fz) (m':=.fz) (by omega)
  rw[pF];refine aK rfl ?_;show evB (WT TT k) d7 [some (false,aD (.join x y)),some (false,.dct M),none,none]=.rt .fz (Tp (co S x++dif (co S y) (co S x)));generalize aD (.join x y)=A at *;generalize WT TT k=W at *;have pre:evB W (d7.take 4) [some (false,A),some (false,.dct M),none,none]=.nx [some (false,A),some (false,.dct M),some (false,.str "join"),some (false,Tp (co S x))]:=by
   clear ct
   generalize Tp (co S x)=u at *;simp[d7,w0,w1,wd (a := "join") (b := "table"),tk,ik,cx]
  have gi:evE W (.call "_law_columns" 2 [(.ix (.var 0) (.int 2)),(.var 1)]) [some (false,A),some (false,.dct M),some (false,.str "join"),some (false,Tp (co S x))]=.ok .fz (Tp (co S y)):=by
   clear ct
   generalize Tp (co S x)=u at *;generalize Tp (co S y)=u' at *;simp[w2,cy]
  have gd:=aOU (W:=W) (C:=co S x) (i:=3) (X:=Tp (co S x)) t7 gi rfl (by omega)
  rw[show d7=d7.take 4++[.ite (.cmp .Eq (.var 2) (.str "join")) [.ret (.bin .Add (.var 3) (.tcall .tuple [(.comp (.var 1) (.items (.call "_law_columns" 2 [(.ix (.var 0) (.int 2)),(.var 1)])) [(.cmp .NotIn (.var 1) (.var 0))] [3] (.nm 1) 1)]))] [],.retV 3] from rfl,bE,pre,aB.thn_nx]
  refine gG ?_ (dH ?_)
  . generalize Tp (co S x)=u at *;simp
  . rw[dS,gd,bK];exact ct
 | .pour x y,h,K,hK=>by have hK:max (hw x) (hw y)+1+1<=K:=hK;obtain ⟨k,rfl,hk⟩:=le1 (n:=max (hw x) (hw y)+1) hK;exact uF k (w:=Str.ofString "pour") j0 j1 (by decide +kernel) (jC x h.1 k (by omega))
 | .leave x y,h,K,hK=>by have hK:max (hw x) (hw y)+1+1<=K:=hK;obtain ⟨k,rfl,hk⟩:=le1 (n:=max (hw x) (hw y)+1) hK;exact uF k (w:=Str.ofString "leave") j0 j1 (by decide +kernel) (jC x h.1 k (by omega))
theorem uH{W:WD}{T d:D}{acc es:List D}(c:aF 1 (W.Φ "_law_asked") (.ok [(.fz,d)])=.ok .fr (.lst es))(hl:acc.length+es.length<=sizeLine):evB W iW [some (false,T),some (true,.lst acc),some (false,d)]=.nx [some (false,T),some (true,.lst (acc++es)),some (false,d)]:=by
 have g:evE W (.call "_law_asked" 1 [(.var 2)]) [some (false,T),some (true,.lst acc),some (false,d)]=.ok .fr (.lst es):=by simp[c]
 rw[show iW=[.extn 1 (.call "_law_asked" 1 [(.var 2)])] from rfl,bI,aMC,g]
 show (if acc.length+es.length<=sizeLine then aB.nx (List.set [some (false,T),some (true,.lst acc),some (false,d)] 1 (some (true,.lst (acc++es)))) else .stuck).thn _=_;rw[if_pos hl,aB.thn_nx,dY];rfl
theorem aB3(k:Nat){f:List Str}:∀ p:Pt,(WT TT (k+1)).Φ "_law_asked" [ptD f p]=.ok .fr (.lst ((up p).map .str))
 | .of z=>by rw[sU];refine aK rfl ?_;show evB (WT TT k) iA [some (false,.tup [.str "of", .str z]),none,none]=.rt .fr (.lst [.str z]);simp[iA,i0,i1,l1]
 | .just v=>by rw[sU];refine aK rfl ?_;show evB (WT TT k) iA [some (false,.tup [.str "just", v]),none,none]=.rt .fr (.lst []);simp[iA,i0,wd (a := "just") (b := "of"),l0]
theorem uI{k:Nat}{w:Str}{xs:List D}{ys:List Str}(h1:(w==Str.ofString "of")=false)(h2:(w==Str.ofString "just")=false)(hf:∃ y,cJ (.ok .fz (.lst xs)) [some (false,.tup (.str w::xs)),some (true,.lst []),none] (aI (.nm 2)) (evB (WT TT k) iW)=.nx [some (false,.tup (.str w::xs)),some (true,.lst (ys.map .str)),y]):(WT TT (k+1)).Φ "_law_asked" [.tup (.str w::xs)]=.ok .fr (.lst (ys.map .str)):=by
 obtain ⟨y,hf⟩:=hf;rw[sU];refine aK rfl ?_;show evB (WT TT k) iA [some (false,.tup (.str w::xs)),none,none]=_;generalize WT TT k=W at *;have x0:op2 ixD (.ok .fz (.tup (.str w::xs))) (.ok .fz (.int 0))=.ok .fz (.str w):=cD (bF (j:=0) rfl);have g1:evE W (.cmp .Eq (.ix (.var 0) (.int 0)) (.str "of")) [some (false,.tup (.str w::xs)),none,none]=.ok .fz (.bl false):=by rw[eU,eV,bK,bS,f7,g_0,x0,l5,h1]
 have g2:evE W (.cmp .Eq (.ix (.var 0) (.int 0)) (.str "just")) [some (false,.tup (.str w::xs)),none,none]=.ok .fz (.bl false):=by rw[eU,eV,bK,bS,f7,g_0,x0,l5,h2]
 have sl:evE W (.items (.slice (.var 0) (some (.int 1)) none)) [some (false,.tup (.str w::xs)),some (true,.lst []),none]=.ok .fz (.lst xs):=by
  rw[j9,hU,bK,g_0,pJ (m:=.fz) (i:=1) (by rw[bS];rfl)]
  rfl
 unfold iA;rw[cU g1,cU g2,bI,oD,yL,f9,l0,yV,aB.thn_nx];show evB W [.for (.items (.slice (.var 0) (some (.int 1)) none)) (.nm 2) iW,.retV 1] [some (false,.tup (.str w::xs)),some (true,.lst []),none]=_;rw[bI,lZ,sl,hf,aB.thn_nx,bI,oC];rfl
theorem as_f1{k:Nat}{T d:D}{ys:List Str}(hl:ys.length<=900)(h:(WT TT k).Φ "_law_asked" [d]=.ok .fr (.lst (ys.map .str))):∃ y,cJ (.ok .fz (.lst [d])) [some (false,T),some (true,.lst []),none] (aI (.nm 2)) (evB (WT TT k) iW)=.nx [some (false,T),some (true,.lst (ys.map .str)),y]:=by
 have hsz:sizeLine=16777216:=aQD;have t:=uH (W:=WT TT k) (T:=T) (acc:=[]) (fM h) (by simp;omega)
 rw[aSZ] at t;refine ⟨some (false,d),?_⟩;rw[fr1 (ρ1:=[some (false,T),some (true,.lst []),some (false,d)]) rfl t,fr0]
theorem aB4{k:Nat}{T d d':D}{ys ys':List Str}(hl:ys.length+ys'.length<=900)(h:(WT TT k).Φ "_law_asked" [d]=.ok .fr (.lst (ys.map .str)))(h':(WT TT k).Φ "_law_asked" [d']=.ok .fr (.lst (ys'.map .str))):∃ y,cJ (.ok .fz (.lst [d,d'])) [some (false,T),some (true,.lst []),none] (aI (.nm 2)) (evB (WT TT k) iW)=.nx [some (false,T),some (true,.lst ((ys++ys').map .str)),y]:=by
 have hsz:sizeLine=16777216:=aQD;have t:=uH (W:=WT TT k) (T:=T) (acc:=[]) (fM h) (by simp;omega)
 rw[aSZ] at t;have t':=uH (W:=WT TT k) (T:=T) (acc:=ys.map .str) (fM h') (by simp;omega)
 rw[<- aTE] at t';refine ⟨some (false,d'),?_⟩;rw[fr1 (ρ1:=[some (false,T),some (true,.lst []),some (false,d)]) rfl t,fr1 (ρ1:=[some (false,T),some (true,.lst (ys.map .str)),some (false,d')]) rfl t',fr0]
theorem qE:∀ (t:Ts),t.dep<=5->∀ K,t.dep+2<=K->(WT TT K).Φ "_law_asked" [tsD [] t]=.ok .fr (.lst ((us t).map .str))
 | .atom s p q,hd,K,hK=>by
  obtain ⟨k,rfl,_⟩:=le2 (n:=0) (show 0+2<=K from hK)
  have h1:=pX p;have h2:=pX q;exact uI (w:=if s then "same" else "under") (xs:=[ptD [] p,ptD [] q]) (ys:=up p++up q) (by cases s <;> decide +kernel) (by cases s <;> decide +kernel) (aB4 (by omega) (aB3 k p) (aB3 k q))
 | .no t,hd,K,hK=>by
  have hd:t.dep+1<=5:=hd;have hK:t.dep+1+2<=K:=hK;obtain ⟨k,rfl,hk⟩:=le1 (n:=t.dep+2) (show t.dep+2+1<=K by omega)
  exact uI (w := "not") (xs:=[tsD [] t]) (ys:=us t) (by decide +kernel) (by decide +kernel) (as_f1 (kN (by omega)) (qE t (by omega) k hk))
 | .two e a b,hd,K,hK=>by
  have hd':max a.dep b.dep+1<=5:=hd;have hK:max a.dep b.dep+1+2<=K:=hK;have hl:=kN hd;rw[us,aQQ] at hl;obtain ⟨k,rfl,hk⟩:=le1 (n:=max a.dep b.dep+2) (show max a.dep b.dep+2+1<=K by omega)
  exact uI (w:=if e then "either" else "both") (xs:=[tsD [] a,tsD [] b]) (ys:=us a++us b) (by cases e <;> decide +kernel) (by cases e <;> decide +kernel) (aB4 hl (qE a (by omega) k (by omega)) (qE b (by omega) k (by omega)))
end
theorem qF{t:Rho->Res}{b:Rho->aB}{n:Nat}{ρ ρ':Rho}{m:Md}(h:t ρ=.ok m (.bl true))(h':b ρ=.nx ρ'):cK t b (n+1) ρ=cK t b n ρ':=by
 show (t ρ).thS ρ _=_;rw[h];show (match b ρ with | .nx ρ'=>cK t b n ρ' | .ct ρ'=>cK t b n ρ' | .bk ρ'=>.nx ρ' | r=>r)=_
 rw[h']
theorem gJ{t:Rho->Res}{b:Rho->aB}{n:Nat}{ρ:Rho}{m:Md}(h:t ρ=.ok m (.bl false)):cK t b (n+1) ρ=.nx ρ:=by show (t ρ).thS ρ _=_;rw[h];rfl
def kQ:Aq->Aq
 | .pick x _=>kQ x
 | a=>a
section
variable {M:List (Key×D)}{S:Str->List Str}{vs:List D}
theorem aOV{x:Aq}:∀ {t:Ts},bp S x t=none->sk t=true/\dU S x t=none
 | .atom s p q,h=>⟨rfl,h⟩
 | .two true a b,h=>⟨rfl,h⟩
 | .two false a b,h=>by cases h
 | .no (.no t),h=>by cases h
 | .no (.two true a b),h=>by cases h
 | .no (.two false a b),h=>⟨rfl,h⟩
 | .no (.atom s p q),h=>⟨rfl,h⟩
theorem aB5{t:Ts}:∀ x:Aq,dU S x t=none->(∃ w,kQ x=.table w)\/∃ u v,kQ x=.join u v/\sub (us t) (co S u)=false/\sub (us t) (co S v)=false
 | .table w,h=>.inl ⟨w,rfl⟩
 | .pick x b,h=>by have h:(dU S x t).map (λy=>Aq.pick y b)=none:=h;exact aB5 x (by cases e:dU S x t with | none=>rfl | some y=>rw[e] at h;cases h)
 | .keep x K,h=>by cases h
 | .call x K,h=>by cases h
 | .total x z K,h=>by cases h
 | .join x y,h=>by
  have h:(if sub (us t) (co S x)=true then some (Aq.join (.pick x t) y) else if sub (us t) (co S y)=true then some (.join x (.pick y t)) else none)=none:=h;refine .inr ⟨x,y,rfl,?_,?_⟩
  . cases e:sub (us t) (co S x) with
    | false=>rfl
    | true=>rw[e,if_pos rfl] at h;cases h
  . cases e:sub (us t) (co S x) with
    | true=>rw[e,if_pos rfl] at h;cases h
    | false =>
     rw[e,if_neg aP5] at h;cases e':sub (us t) (co S y) with
     | false=>rfl
     | true=>rw[e',if_pos rfl] at h;cases h
 | .pour x y,h=>by cases h
 | .leave x y,h=>by cases h
theorem uJ:∀ {x:Aq},ok M S vs x->ok M S vs (kQ x)/\hw (kQ x)<=hw x
 | .table w,h=>⟨h,aP8 _⟩
 | .pick x t,h=>⟨(uJ (x:=x) h.1).1,aPN (uJ (x:=x) h.1).2 (aS5 _ _)⟩
 | .keep x K,h=>⟨h,aP8 _⟩
 | .call x K,h=>⟨h,aP8 _⟩
 | .total x z K,h=>⟨h,aP8 _⟩
 | .join x y,h=>⟨h,aP8 _⟩
 | .pour x y,h=>⟨h,aP8 _⟩
 | .leave x y,h=>⟨h,aP8 _⟩
theorem wo{W:WD}{A T B:D}{x4 x5:Option (Bool×D)}{w:Str}{b:Bool}(h0:op2 ixD (.ok .fz B) (.ok .fz (.int 0))=.ok .fz (.str w))(hb:(w==Str.ofString "pick")=b):evE W (.cmp .Eq (.ix (.var 3) (.int 0)) (.str "pick")) [some (false,A),some (false,.dct M),some (false,T),some (false,B),x4,x5]=.ok .fz (.bl b):=by
 have:evE W (.ix (.var 3) (.int 0)) [some (false,A),some (false,.dct M),some (false,T),some (false,B),x4,x5]=.ok .fz (.str w):=by rw[eV,bK,bS];exact h0
 rw[eU,this,f7,l5,hb]
theorem aB6{W:WD}{A T:D}{x4 x5:Option (Bool×D)}:∀ (x:Aq) (n:Nat),hw x+1<=n->cK (evE W (.cmp .Eq (.ix (.var 3) (.int 0)) (.str "pick"))) (evB W l8) n [some (false,A),some (false,.dct M),some (false,T),some (false,aD x),x4,x5]=.nx [some (false,A),some (false,.dct M),some (false,T),some (false,aD (kQ x)),x4,x5]
 | .pick x t,n,h=>by
  have:=gI t;have h:hw x+lv t+1<=n:=h;obtain ⟨k,rfl,hk⟩:=le1 (n:=hw x+1) (by omega:hw x+1+1<=n)
  have g:evE W (.ix (.var 3) (.int 1)) [some (false,A),some (false,.dct M),some (false,T),some (false,aD (.pick x t)),x4,x5]=.ok .fz (aD x):=by rw[eV,bK,bS];exact j1
  have g':evB W l8 [some (false,A),some (false,.dct M),some (false,T),some (false,aD (.pick x t)),x4,x5]=.nx [some (false,A),some (false,.dct M),some (false,T),some (false,aD x),x4,x5]:=by rw[show l8=[.set 3 (.ix (.var 3) (.int 1))] from rfl,cM g rfl,dY];rfl
  have c:evE W (.cmp .Eq (.ix (.var 3) (.int 0)) (.str "pick")) [some (false,A),some (false,.dct M),some (false,T),some (false,aD (.pick x t)),x4,x5]=.ok .fz (.bl true):=wo (b:=true) (w:=Str.ofString "pick") j0 (by decide +kernel)
  exact (qF c g').trans (aB6 x k hk)
 | .table w,n,h=>by obtain ⟨k,rfl,_⟩:=le1 h;exact gJ (wo (b:=false) (w:=Str.ofString "table") i0 (by decide +kernel))
 | .keep x K,n,h=>by obtain ⟨k,rfl,_⟩:=le1 h;exact gJ (wo (b:=false) (w:=Str.ofString "keep") j0 (by decide +kernel))
 | .call x K,n,h=>by obtain ⟨k,rfl,_⟩:=le1 h;exact gJ (wo (b:=false) (w:=Str.ofString "call") j0 (by decide +kernel))
 | .total x z K,n,h=>by obtain ⟨k,rfl,_⟩:=le1 h;exact gJ (wo (b:=false) (w:=Str.ofString "total") f0 (by decide +kernel))
 | .join x y,n,h=>by obtain ⟨k,rfl,_⟩:=le1 h;exact gJ (wo (b:=false) (w:=Str.ofString "join") j0 (by decide +kernel))
 | .pour x y,n,h=>by obtain ⟨k,rfl,_⟩:=le1 h;exact gJ (wo (b:=false) (w:=Str.ofString "pour") j0 (by decide +kernel))
 | .leave x y,n,h=>by obtain ⟨k,rfl,_⟩:=le1 h;exact gJ (wo (b:=false) (w:=Str.ofString "leave") j0 (by decide +kernel))
def stC:E:=.orL [(.cmp .Eq (.ix (.var 2) (.int 0)) (.str "both")),(.andL [(.cmp .Eq (.ix (.var 2) (.int 0)) (.str "not")),(.cmp .In (.ix (.ix (.var 2) (.int 1)) (.int 0)) (.tup [(.str "not"),(.str "either")]))])]
def nte:List Str:=[Str.ofString "not", Str.ofString "either"]
theorem aOW{m m':Md}{z:Str}:op2 (bB .In) (.ok m (.str z)) (.ok m' (.tup [.str (Str.ofString "not"),.str (Str.ofString "either")]))=.ok .fz (.bl (decide (z∈nte))):=mK (C:=nte)
theorem kR{W:WD}{A T:D}{w:Str}{x3 x4 x5:Option (Bool×D)}(h0:op2 ixD (.ok .fz T) (.ok .fz (.int 0))=.ok .fz (.str w))(hb:(w==Str.ofString "both")=false)(hn:(w==Str.ofString "not")=false\/∃ u v,op2 ixD (.ok .fz T) (.ok .fz (.int 1))=.ok .fz u/\op2 ixD (.ok .fz u) (.ok .fz (.int 0))=.ok .fz (.str v)/\decide (v∈nte)=false):evE W stC [some (false,A),some (false,.dct M),some (false,T),x3,x4,x5]=.ok .fz (.bl false):=by
 unfold stC;rcases hn with hn | ⟨u,v,h1,h2,h3⟩
 . simp[h0,hb,hn]
 . have e:=aOW (m:=.fz) (m':=.fz) (z:=v);rw[h3] at e;cases hn:(w==Str.ofString "not") with
   | false=>simp[h0,hb,hn]
   | true=>simp[h0,hb,hn,h1,h2,t2,e]
theorem aOX{W:WD}{A:D}{x3 x4 x5:Option (Bool×D)}:∀ {t:Ts},sk t=true->evE W stC [some (false,A),some (false,.dct M),some (false,tsD [] t),x3,x4,x5]=.ok .fz (.bl false)
 | .atom true p q,_=>kR (w:=Str.ofString "same") j0 (by decide +kernel) (.inl (by decide +kernel))
 | .atom false p q,_=>kR (w:=Str.ofString "under") j0 (by decide +kernel) (.inl (by decide +kernel))
 | .two true a b,_=>kR (w:=Str.ofString "either") j0 (by decide +kernel) (.inl (by decide +kernel))
 | .two false a b,h=>by cases h
 | .no (.atom true p q),_=>kR (w:=Str.ofString "not") i0 (by decide +kernel) (.inr ⟨_,Str.ofString "same", i1,j0,by decide +kernel⟩)
 | .no (.atom false p q),_=>kR (w:=Str.ofString "not") i0 (by decide +kernel) (.inr ⟨_,Str.ofString "under", i1,j0,by decide +kernel⟩)
 | .no (.two false a b),_=>kR (w:=Str.ofString "not") i0 (by decide +kernel) (.inr ⟨_,Str.ofString "both", i1,j0,by decide +kernel⟩)
 | .no (.two true a b),h=>by cases h
 | .no (.no a),h=>by cases h
theorem aB7{k:Nat}{A:D}{t:Ts}{B:D}{u:Aq}{x4 x5:Option (Bool×D)}(hu:ok M S vs u)(hk:hw u+1<=k)(hd:t.dep<=5)(hk':7<=k)(hs:sub (us t) (co S u)=false):evB (WT TT k) oO [some (false,A),some (false,.dct M),some (false,tsD [] t),some (false,B),some (false,aD u),x5]=.nx [some (false,A),some (false,.dct M),some (false,tsD [] t),some (false,B),some (false,aD u),some (false,Tp (co S u))]:=by
 have hsz:sizeLine=16777216:=aQD;have hl:=kN hd;have ca:aF 1 ((WT TT k).Φ "_law_asked") (.ok [(.fz,tsD [] t)])=.ok .fr (.lst ((us t).map .str)):=fM (qE t hd k (by omega))
 have cc:aF 2 ((WT TT k).Φ "_law_columns") (.ok [(.fz,aD u),(.fz,.dct M)])=.ok .fz (Tp (co S u)):=aR (jC u hu k hk);generalize WT TT k=W at *;generalize us t=L at *;generalize tsD [] t=T at *;generalize aD u=U at *;generalize hC:co S u=C at *;have g5:evE W (.frz (.call "_law_columns" 2 [(.var 4),(.var 1)])) [some (false,A),some (false,.dct M),some (false,T),some (false,B),some (false,U),x5]=.ok .fz (Tp C):=by generalize Tp C=u at *;simp[cc]
 have ei:evE W (.items (.call "_law_asked" 1 [(.var 2)])) [some (false,A),some (false,.dct M),some (false,T),some (false,B),some (false,U),some (false,Tp C)]=.ok .fz (.lst (L.map .str)):=by generalize Tp C=u at *;simp[ca]
 have ec:bX (.ok .fz (.lst (L.map .str))) [some (false,A),some (false,.dct M),some (false,T),some (false,B),some (false,U),some (false,Tp C)] [5] 1 (aI (.nm 1)) (λρ=>evF W [] ρ) (λρ=>evE W (.cmp .In (.var 1) (.var 0)) ρ)=.ok .fr (.lst (L.map λz=>.bl (decide (z∈C)))):=by
  show (if (L.map D.str).length<sizeLine then (match bH (aI (.nm 1)) (λρ=>evF W [] ρ) (λρ=>evE W (.cmp .In (.var 1) (.var 0)) ρ) [some (false,Tp C),none] (L.map .str) with | some ys=>Res.ok .fr (.lst ys) | none=>.stuck) else .stuck)=_
  rw[if_pos (by rw[aQR];omega),tK]
 have ea:gR [(Md.fr,D.lst (L.map λz=>.bl (decide (z∈C))))]=some (.fz,.bl false):=by show (fB _).map _=_;rw[tL,aR5,List.all_map];congr 2;exact congrArg D.bl hs
 have g6:evE W (.tru (.bcall .all [(.comp (.cmp .In (.var 1) (.var 0)) (.items (.call "_law_asked" 1 [(.var 2)])) [] [5] (.nm 1) 1)])) [some (false,A),some (false,.dct M),some (false,T),some (false,B),some (false,U),some (false,Tp C)]=.ok .fz (.bl false):=by rw[e_tru,sD,gB,f9,f8,ei,ec];show jJ (Res.of (gR [(Md.fr,D.lst (L.map λz=>.bl (decide (z∈C))))]))=_;rw[ea];rfl
 rw[show oO=[.set 5 (.frz (.call "_law_columns" 2 [(.var 4),(.var 1)])),.ite (.tru (.bcall .all [(.comp (.cmp .In (.var 1) (.var 0)) (.items (.call "_law_asked" 1 [(.var 2)])) [] [5] (.nm 1) 1)])) [.ret (.bl false)] []] from rfl]
 rw[cM g5 (ρ':=[some (false,A),some (false,.dct M),some (false,T),some (false,B),some (false,U),some (false,Tp C)]) rfl,cU g6,dY]
theorem stays{x:Aq}{t:Ts}(h:ok M S vs (.pick x t))(hk:sk t=true)(hs:dU S x t=none)(hx:hw x<=1000):∀ K,hw x+9<=K->(WT TT K).Φ "_law_stays" [aD (.pick x t),.dct M]=.ok .fz (.bl true):=λK hK=>by
 obtain ⟨k,rfl,hk'⟩:=le1 (n:=hw x+8) hK;obtain ⟨so,sh⟩:=uJ h.1;have hd:=h.2.1;rw[aNI];refine aK rfl ?_;show evB (WT TT k) pC [some (false,aD (.pick x t)),some (false,.dct M),none,none,none,none]=_;have w1:op2 ixD (.ok .fz (aD (.pick x t))) (.ok .fz (.int 1))=.ok .fz (aD x):=j1;have w2:op2 ixD (.ok .fz (aD (.pick x t))) (.ok .fz (.int 2))=.ok .fz (tsD [] t):=j2;generalize aD (.pick x t)=A at *;have g2:evE (WT TT k) (.ix (.var 0) (.int 2)) [some (false,A),some (false,.dct M),none,none,none,none]=.ok .fz (tsD [] t):=by rw[eV,bK,bS,g_0,w2]
 have g3:evE (WT TT k) (.ix (.var 0) (.int 1)) [some (false,A),some (false,.dct M),some (false,tsD [] t),none,none,none]=.ok .fz (aD x):=by rw[eV,bK,bS,g_0,w1]
 have gw:=aB6 (W:=WT TT k) (M:=M) (A:=A) (T:=tsD [] t) (x4:=none) (x5:=none) x 1000000 (by omega)
 rw[show pC=.set 2 (.ix (.var 0) (.int 2)) :: .ite stC [.ret (.bl false)] [] :: .set 3 (.ix (.var 0) (.int 1)) :: .whl 1000000 (.cmp .Eq (.ix (.var 3) (.int 0)) (.str "pick")) l8 :: .ite (.cmp .NotEq (.ix (.var 3) (.int 0)) (.str "join")) [.ret (.cmp .Eq (.ix (.var 3) (.int 0)) (.str "table"))] [] :: .for (.items (.slice (.var 3) (some (.int 1)) none)) (.nm 4) oO::[.ret (.bl true)] from rfl]
 rw[cM g2 (ρ':=[some (false,A),some (false,.dct M),some (false,tsD [] t),none,none,none]) rfl,cU (aOX hk),cM g3 (ρ':=[some (false,A),some (false,.dct M),some (false,tsD [] t),some (false,aD x),none,none]) rfl,bI,yN,gw,aB.thn_nx]
 clear gw g2 g3 w1 w2
 rcases aB5 x hs with ⟨w,e⟩ | ⟨u,v,e,e1,e2⟩
 . rw[e];have z0:evE (WT TT k) (.ix (.var 3) (.int 0)) [some (false,A),some (false,.dct M),some (false,tsD [] t),some (false,aD (.table w)),none,none]=.ok .fz (.str "table"):=by rw[eV,bK,bS];exact i0
   refine gG ?_ (dH ?_)
   . rw[eU,z0,f7,yQ];congr 2
   . rw[eU,z0,f7,l5];congr 2
 . rw[e] at so sh ⊢;have sh:max (hw u) (hw v)+1<=hw x:=sh;have z0:evE (WT TT k) (.ix (.var 3) (.int 0)) [some (false,A),some (false,.dct M),some (false,tsD [] t),some (false,aD (.join u v)),none,none]=.ok .fz (.str "join"):=by rw[eV,bK,bS];exact j0
   have sl:evE (WT TT k) (.items (.slice (.var 3) (some (.int 1)) none)) [some (false,A),some (false,.dct M),some (false,tsD [] t),some (false,aD (.join u v)),none,none]=.ok .fz (.lst [aD u,aD v]):=by
    rw[j9,hU,bK];show fU (bG (slP (.ok .fz (aD (.join u v))) _ _ _))=_;rw[pJ (m:=.fz) (i:=1) (by rw[bS];rfl)]
    rfl
   have gn:evE (WT TT k) (.cmp .NotEq (.ix (.var 3) (.int 0)) (.str "join")) [some (false,A),some (false,.dct M),some (false,tsD [] t),some (false,aD (.join u v)),none,none]=.ok .fz (.bl false):=by rw[eU,z0,f7,yQ];congr 2
   have s1:=aB7 (k:=k) (M:=M) (S:=S) (vs:=vs) (A:=A) (t:=t) (u:=u) (B:=aD (.join u v)) (x4:=none) (x5:=none) so.1 (by omega) hd (by omega) e1
   have s2:=aB7 (k:=k) (M:=M) (S:=S) (vs:=vs) (A:=A) (t:=t) (u:=v) (B:=aD (.join u v)) (x4:=none) (x5:=some (false,Tp (co S u))) so.2.1 (by omega) hd (by omega) e2
   rw[cU gn,bI,lZ,sl,fr1 (ρ1:=[some (false,A),some (false,.dct M),some (false,tsD [] t),some (false,aD (.join u v)),some (false,aD u),none]) rfl s1,fr1 (ρ1:=[some (false,A),some (false,.dct M),some (false,tsD [] t),some (false,aD (.join u v)),some (false,aD v),some (false,Tp (co S u))]) rfl s2,fr0,aB.thn_nx,dH (by rw[e_bl])]
theorem qG(k:Nat){A x:D}{w:Str}(h0:op2 ixD (.ok .fz A) (.ok .fz (.int 0))=.ok .fz (.str w))(h1:op2 ixD (.ok .fz A) (.ok .fz (.int 1))=.ok .fz x)(hw':(w==Str.ofString "table")=false/\decide (w∈jpl)=false)(hp:(w==Str.ofString "pick")=false\/(WT TT k).Φ "_law_stays" [A,.dct M]=.ok .fz (.bl true))(hx:(WT TT k).Φ "_law_settled" [x,.dct M]=.ok .fz (.bl true)):(WT TT (k+1)).Φ "_law_settled" [A,.dct M]=.ok .fz (.bl true):=by
 have cx:aF 2 ((WT TT k).Φ "_law_settled") (.ok [(.fz,x),(.fz,.dct M)])=.ok .fz (.bl true):=aR hx;have e3:=in3 (m:=.fz) (m':=.fz) (z:=w);rw[hw'.2] at e3;rw[sV];refine aK rfl ?_;show evB (WT TT k) fL [some (false,A),some (false,.dct M)]=_;rcases hp with hp | hp
 . simp[fL,h0,h1,hw'.1,hp,t3,e3,cx]
 . have cs:aF 2 ((WT TT k).Φ "_law_stays") (.ok [(.fz,A),(.fz,.dct M)])=.ok .fz (.bl true):=aR hp;cases hq:(w==Str.ofString "pick") with
   | false=>simp[fL,h0,h1,hw'.1,hq,t3,e3,cx]
   | true=>simp[fL,h0,h1,hw'.1,hq,cs,t3,e3,cx]
theorem uK(k:Nat){x y:D}{w:Str}(hw':(w==Str.ofString "pick")=false/\(w==Str.ofString "table")=false/\decide (w∈jpl)=true)(hx:(WT TT k).Φ "_law_settled" [x,.dct M]=.ok .fz (.bl true))(hy:(WT TT k).Φ "_law_settled" [y,.dct M]=.ok .fz (.bl true)):(WT TT (k+1)).Φ "_law_settled" [.tup [.str w,x,y],.dct M]=.ok .fz (.bl true):=by have cx:aF 2 ((WT TT k).Φ "_law_settled") (.ok [(.fz,x),(.fz,.dct M)])=.ok .fz (.bl true):=aR hx;have cy:aF 2 ((WT TT k).Φ "_law_settled") (.ok [(.fz,y),(.fz,.dct M)])=.ok .fz (.bl true):=aR hy;have e3:=in3 (m:=.fz) (m':=.fz) (z:=w);rw[hw'.2.2] at e3;have w0:op2 ixD (.ok .fz (.tup [.str w,x,y])) (.ok .fz (.int 0))=.ok .fz (.str w):=j0;have w1:op2 ixD (.ok .fz (.tup [.str w,x,y])) (.ok .fz (.int 1))=.ok .fz x:=j1;have w2:op2 ixD (.ok .fz (.tup [.str w,x,y])) (.ok .fz (.int 2))=.ok .fz y:=j2;rw[sV];refine aK rfl ?_;show evB (WT TT k) fL [some (false,.tup [.str w,x,y]),some (false,.dct M)]=_;generalize D.tup [.str w,x,y]=A at *;simp[fL,w0,w1,w2,hw'.1,hw'.2.1,t3,e3,cx,cy]
theorem mV{r:Option Aq}{f:Aq->Aq}(h:r.map f=none):r=none:=by
 cases r with
 | none=>rfl
 | some _=>cases h
theorem kS{c:Aq->Aq->Aq}{x y:Aq}{r r':Option Aq}(h:two c x y r r'=none):r=none/\r'=none:=by
 cases r with
 | some _=>cases h
 | none=>exact ⟨rfl,mV h⟩
theorem eX:∀ a:Aq,ok M S vs a->stp S a=none->hw a<=1000->∀ K,hw a+9<=K->(WT TT K).Φ "_law_settled" [aD a,.dct M]=.ok .fz (.bl true)
 | .table w,h,e,hl,K,hK=>by
  obtain ⟨k,rfl,hk⟩:=le1 (n:=0) (by omega:0+1<=K)
  rw[sV];refine aK rfl ?_;show evB (WT TT k) fL [some (false,.tup [.str "table", .str w]),some (false,.dct M)]=_;simp[fL,i0]
 | .pick x t,h,e,hl,K,hK=>by
  have:=gI t;have hl:hw x+lv t<=1000:=hl;have hK:hw x+lv t+9<=K:=hK;have e:(match bp S x t with | some d=>some d | none=>(stp S x).map λy=>Aq.pick y t)=none:=e
  cases e1:bp S x t with
  | some d=>rw[e1] at e;cases e
  | none =>
   rw[e1] at e;obtain ⟨q1,q2⟩:=aOV e1;obtain ⟨k,rfl,hk⟩:=le1 (n:=hw x+9) (by omega:hw x+9+1<=K)
   exact qG k (w:=Str.ofString "pick") j0 j1 (by decide +kernel) (.inr (stays h q1 q2 (by omega) k (by omega))) (eX x h.1 (mV e) (by omega) k hk)
 | .keep x K',h,e,hl,K,hK=>by
  have hl:hw x+1<=1000:=hl;have hK:hw x+1+9<=K:=hK;obtain ⟨k,rfl,hk⟩:=le1 (n:=hw x+9) (by omega:hw x+9+1<=K)
  exact qG k (w:=Str.ofString "keep") j0 j1 (by decide +kernel) (.inl (by decide +kernel)) (eX x h.1 (mV e) (by omega) k hk)
 | .call x K',h,e,hl,K,hK=>by
  have hl:hw x+1<=1000:=hl;have hK:hw x+1+9<=K:=hK;obtain ⟨k,rfl,hk⟩:=le1 (n:=hw x+9) (by omega:hw x+9+1<=K)
  exact qG k (w:=Str.ofString "call") j0 j1 (by decide +kernel) (.inl (by decide +kernel)) (eX x h.1 (mV e) (by omega) k hk)
 | .total x z K',h,e,hl,K,hK=>by
  have hl:hw x+1<=1000:=hl;have hK:hw x+1+9<=K:=hK;obtain ⟨k,rfl,hk⟩:=le1 (n:=hw x+9) (by omega:hw x+9+1<=K)
  exact qG k (w:=Str.ofString "total") f0 f1 (by decide +kernel) (.inl (by decide +kernel)) (eX x h.1 (mV e) (by omega) k hk)
 | .join x y,h,e,hl,K,hK=>by
  have hl:max (hw x) (hw y)+1<=1000:=hl;have hK:max (hw x) (hw y)+1+9<=K:=hK;obtain ⟨k,rfl,hk⟩:=le1 (n:=max (hw x) (hw y)+9) (by omega)
  exact uK k (nj (Str.ofString "join")) (eX x h.1 (kS e).1 (by omega) k (by omega)) (eX y h.2.1 (kS e).2 (by omega) k (by omega))
 | .pour x y,h,e,hl,K,hK=>by
  have hl:max (hw x) (hw y)+1<=1000:=hl;have hK:max (hw x) (hw y)+1+9<=K:=hK;obtain ⟨k,rfl,hk⟩:=le1 (n:=max (hw x) (hw y)+9) (by omega)
  exact uK k (nj (Str.ofString "pour")) (eX x h.1 (kS e).1 (by omega) k (by omega)) (eX y h.2.1 (kS e).2 (by omega) k (by omega))
 | .leave x y,h,e,hl,K,hK=>by
  have hl:max (hw x) (hw y)+1<=1000:=hl;have hK:max (hw x) (hw y)+1+9<=K:=hK;obtain ⟨k,rfl,hk⟩:=le1 (n:=max (hw x) (hw y)+9) (by omega)
  exact uK k (nj (Str.ofString "leave")) (eX x h.1 (kS e).1 (by omega) k (by omega)) (eX y h.2.1 (kS e).2 (by omega) k (by omega))
theorem mW{k:Nat}{A:D}:∀ (n:Nat) (a:Aq) (acc:List D) (m:Nat),ok M S vs a->po a<=n->n+2<=m->acc.length+n<2000000->hw a+16<=k->cK (evE (WT TT k) (.cmp .IsNot (.var 3) .non)) (evB (WT TT k) l7) m [some (false,A),some (false,.dct M),some (true,.lst acc),some (false,aD a)]=.nx [some (false,A),some (false,.dct M),some (true,.lst (acc++(a9 S n a).map aD)),some (false,.non)]:=by
 have hsz:sizeLine=16777216:=aQD;have body:∀ (a:Aq) (acc:List D),ok M S vs a->acc.length<16777216->hw a+16<=k->evB (WT TT k) l7 [some (false,A),some (false,.dct M),some (true,.lst acc),some (false,aD a)]=.nx [some (false,A),some (false,.dct M),some (true,.lst (acc++[aD a])),some (false,rD ((stp S a).map aL))]:=λa acc h hl hk=>by
  have cs:aF 2 ((WT TT k).Φ "stepped") (.ok [(.fz,aD a),(.fz,.dct M)])=.ok .fz (rD ((stp S a).map aL)):=aR (eJ a h k hk);rw[show l7=[.app 2 (.var 3),.set 3 (.frz (.call "stepped" 2 [(.var 3),(.var 1)]))] from rfl,bI,yO,bK]
  show (if acc.length<sizeLine then aB.nx (List.set [some (false,A),some (false,.dct M),some (true,.lst acc),some (false,aD a)] 2 (some (true,.lst (acc++[aD a])))) else .stuck).thn _=_;rw[if_pos (by omega),aB.thn_nx]
  have g:evE (WT TT k) (.frz (.call "stepped" 2 [(.var 3),(.var 1)])) [some (false,A),some (false,.dct M),some (true,.lst (acc++[aD a])),some (false,aD a)]=.ok .fz (rD ((stp S a).map aL)):=by generalize rD ((stp S a).map aL)=R at *;generalize aD a=u at *;simp[cs]
  exact (cM g rfl).trans (by rw[dY];rfl)
 have ct:∀ {l:List D} {x2:Option (Bool×D)},evE (WT TT k) (.cmp .IsNot (.var 3) .non) [some (false,A),some (false,.dct M),x2,some (false,.tup l)]=.ok .fz (.bl true):=by intros;simp
 have cf:∀ {x2:Option (Bool×D)},evE (WT TT k) (.cmp .IsNot (.var 3) .non) [some (false,A),some (false,.dct M),x2,some (false,.non)]=.ok .fz (.bl false):=by intros;simp
 intro n
 induction n with
 | zero =>
  intro a acc m h hp hm hl hk;obtain ⟨m',rfl,hm'⟩:=le2 hm;have e:stp S a=none:=by
   cases e:stp S a with
   | none=>rfl
   | some b=>have:=(dJ a b e h).po;omega
  have b:=body a acc h (by omega) hk
  rw[e] at b;rw[qF ct b];exact gJ cf
 | succ n ih =>
  intro a acc m h hp hm hl hk;obtain ⟨m',rfl,hm'⟩:=le2 hm;have b:=body a acc h (by omega) hk
  show _=aB.nx [some (false,A),some (false,.dct M),some (true,.lst (acc++(match stp S a with | some b=>a::a9 S n b | none=>[a]).map aD)),some (false,.non)]
  cases e:stp S a with
  | none=>rw[e] at b;rw[qF ct b];exact gJ cf
  | some c =>
   rw[e] at b;have p:=dJ a c e h;have q1:=p.po;have q2:=p.hw;rw[qF ct b];have:=ih c (acc++[aD a]) (m'+1) p.ok (by omega) (by omega) (by simp;omega) (by omega)
   rw[List.append_assoc] at this;exact this
theorem aB8{a:Aq}(h:ok M S vs a)(hp:po a<=999000):∀ K,hw a+17<=K->(WT TT K).Φ "steps" [aD a,.dct M]=.ok .fr (.lst ((a9 S (po a) a).map aD)):=λK hK=>by
 obtain ⟨k,rfl,hk⟩:=le1 (n:=hw a+16) hK;have c1:aF 2 ((WT TT k).Φ "columns_of") (.ok [(.fz,aD a),(.fz,.dct M)])=.ok .fz (Tp (co S a)):=aR (mR h k (by omega))
 have lp:=mW (M:=M) (S:=S) (vs:=vs) (k:=k) (A:=aD a) (po a) a [] 1000000 h (aP8 _) (by omega) (by simp;omega) hk
 rw[aSZ] at lp;rw[aM6];refine aK rfl ?_;show evB (WT TT k) iZ [some (false,aD a),some (false,.dct M),none,none]=_;have pre:evB (WT TT k) (iZ.take 3) [some (false,aD a),some (false,.dct M),none,none]=.nx [some (false,aD a),some (false,.dct M),some (true,.lst []),some (false,aD a)]:=by
  clear lp
  generalize Tp (co S a)=u at *;generalize aD a=A at *;simp[iZ,c1,l0,Res.thS]
 rw[show iZ=iZ.take 3++[.whl 1000000 (.cmp .IsNot (.var 3) .non) l7,.retV 2] from rfl,bE,pre,aB.thn_nx,bI,yN,lp,aB.thn_nx,bI,oC]
 rfl
end
theorem qH:∀ t:Ts,wt t<=3 ^ t.dep
 | .atom ..=>aP8 _
 | .no t=>by have:=qH t;show 3 * wt t<=3 ^ (t.dep+1);rw[aTI];omega
 | .two e a b=>by
  have h1:=qH a;have h2:=qH b;show wt a+wt b+1<=3 ^ (max a.dep b.dep+1);have q1:3 ^ a.dep<=3 ^ max a.dep b.dep:=aTJ (by decide) (by omega)
  have q2:3 ^ b.dep<=3 ^ max a.dep b.dep:=aTJ (by decide) (by omega)
  have q3:1<=3 ^ max a.dep b.dep:=Nat.pow_pos (by decide)
  rw[aTI];omega
theorem qI:∀ t:Ts,lv t<=2 ^ t.dep
 | .atom ..=>aP8 _
 | .no t=>by have:=qI t;show lv t<=2 ^ (t.dep+1);rw[aTI];omega
 | .two e a b=>by
  have h1:=qI a;have h2:=qI b;show lv a+lv b<=2 ^ (max a.dep b.dep+1);have q1:2 ^ a.dep<=2 ^ max a.dep b.dep:=aTJ (by decide) (by omega)
  have q2:2 ^ b.dep<=2 ^ max a.dep b.dep:=aTJ (by decide) (by omega)
  rw[aTI];omega
theorem wt9{t:Ts}(h:t.dep<=2):wt t<=9:=aPN (qH t) (aTJ (by decide) h)
theorem lv4{t:Ts}(h:t.dep<=2):lv t<=4:=aPN (qI t) (aTJ (by decide) h)
structure Gr(M:List (Key×D))(S:Str->List Str)(vs:List D)(N:List Str)(a:Aq)(i:Nat):Prop where
 ok:ok M S vs a
 nd:(co S a).Nodup
 sub:∀ z∈co S a,z∈N
 hw:hw a<=4 * i
 sz:sz a<=1+5 * i
 po:po a<=500 * i
structure Tb(M:List (Key×D))(S:Str->List Str)(ws N:List Str):Prop where
 len:ws.length=3
 get:∀ w∈ws,bC M (.inr w)=some (Tp (S w))/\(S w).Nodup/\(S w).length=2/\∀ z∈S w,z∈N
 nd:N.Nodup
 nl:N.length=7
section
variable {M:List (Key×D)}{S:Str->List Str}{vs:List D}{ws N C:List Str}
theorem uL{W:WD}{k:Nat}(hW:W=WT TT (k+1))(T:Tb M S ws N)(hC:C.Nodup)(hl:C.length<=2)(c:Int):∃ a:Aq,ok M S vs a/\co S a=C/\hw a=2/\sz a=3/\po a=0/\aF 4 (W.Φ "_law_like") (.ok [(.fz,.int (c % 3)),(.fz,Tp C),(.fz,.lst (ws.map .str)),(.fz,.dct M)])=.ok .fz (aD a):=by
 subst hW;obtain ⟨j,ej,hj⟩:=md (c:=c) (n:=3) (by decide)
 have hj':j<ws.length:=by have:=T.len;omega
 obtain ⟨s1,s2,s3,s4⟩:=T.get ws[j] (aR2 hj');have kn:((S ws[j]).take C.length).Nodup:=s2.sublist (aQO _ _);have km:∀ z∈(S ws[j]).take C.length,z∈S ws[j]:=λz hz=>aTH hz;refine ⟨.call (.keep (.table ws[j]) ((S ws[j]).take C.length)) C,⟨⟨s1,kn,km⟩,hC,?_,by omega⟩,rfl,rfl,rfl,rfl,kB ?_⟩
 . show C.length=((S ws[j]).take C.length).length;rw[aQI];omega
 rw[ej];rw[aND];refine aK rfl ?_;show evB (WT TT k) pA [some (false,.int (j:Int)),some (false,Tp C),some (false,.lst (ws.map .str)),some (false,.dct M),none]=.rt .fz (.tup [.str "call", .tup [.str "keep", .tup [.str "table", .str ws[j]],Tp ((S ws[j]).take C.length)],Tp C]);have ew:op2 ixD (.ok .fz (.lst (ws.map .str))) (.ok .fz (.int (j:Int)))=.ok .fz (.str ws[j]):=d8 (bF (by rw[aQN,aR1 hj'];rfl))
 generalize ws[j]=w at *;have e1:=mO s1 (m:=.fz) (m':=.fz);have g1:evE (WT TT k) (.slice (.dix (.var 3) (.ix (.var 2) (.var 0))) none (some (.bcall .len [(.var 1)]))) [some (false,.int (j:Int)),some (false,Tp C),some (false,.lst (ws.map .str)),some (false,.dct M),none]=.ok .fz (Tp ((S w).take C.length)):=by refine gH (m:=.fz) ?_ (fN rfl);generalize Tp (S w)=u1 at *;generalize Tp C=u at *;generalize ws.map D.str=v at *;simp[ew,e1]
 unfold pA;generalize E.slice (.dix (.var 3) (.ix (.var 2) (.var 0))) none (some (.bcall .len [(.var 1)]))=X at *
 clear e1
 generalize Tp ((S w).take C.length)=u1 at *;generalize Tp C=u at *;generalize ws.map D.str=v at *;simp[ew,g1,t2,t3]
abbrev N1(w:Str)(n:Int)(a:D)(C:D)(N vs:D)(x6 x7:Option (Bool×D)):Rho:=[some (false,.str w),some (false,.int n),some (false,a),some (false,C),some (false,N),some (false,vs),x6,x7]
theorem eqw{W:WD}{t:Bool}{w z:Str}{r:Rho}(h:(w==z)=t):evE W (.cmp .Eq (.var 0) (.str z)) (some (false,.str w)::r)=.ok .fz (.bl t):=by rw[eU,bK,f7,g_0,l5,h]
theorem testD(k:Nat)(c:Int)(hv:Vs vs):∃ t:Ts,t.dep<=2/\t.ok vs C/\(WT TT (k+4)).Φ "_law_test" [.int (c / 3),.int (1+c % 3 / 2),Tp C,.lst vs]=.ok .fz (tsD [] t):=by
 have h:c % 3 / 2=0\/c % 3 / 2=1:=by omega
 have dd:∀ t:Ts,tsD C t=tsD [] t:=λt=>by
  have dp:∀ p:Pt,ptD C p=ptD [] p:=λp=>by cases p <;> rfl
  induction t with
  | atom s p q=>rw[tsD,tsD,dp,dp]
  | no t ih=>rw[tsD,tsD,ih]
  | two e a b ih1 ih2=>rw[tsD,tsD,ih1,ih2]
 rcases h with h | h
 . obtain ⟨t,t1,t2,e⟩:=tO (k+1) (c / 3) (C:=C) hv;exact ⟨t,by omega,t2,by rw[h,<- dd];exact e⟩
 . obtain ⟨t,t1,t2,e⟩:=test2 k (c / 3) (C:=C) hv;exact ⟨t,t1,t2,by rw[h,<- dd];exact e⟩
theorem aOY(k:Nat)(T:Tb M S ws N)(hv:Vs vs){a:Aq}{i:Nat}(hi:i<=8)(g:Gr M S vs N a i){w:Str}(hw':w=Str.ofString "pick" \/ w=Str.ofString "call" \/ w=Str.ofString "keep" \/ w=Str.ofString "total")(c:Int):∃ b,Gr M S vs N b (i+1)/\(WT TT (k+5)).Φ "_law_narrowed" [.str w,.int c,aD a,Tp (co S a),Tp N,.lst vs]=.ok .fz (.tup [aD b,Tp (co S b)]):=by
 have hsz:sizeLine=16777216:=aQD;have g1:=g.hw;have g2:=g.sz;have g3:=g.po;have hl:(co S a).length<=7:=by rw[<- T.nl];exact mQ _ N g.nd g.sub
 suffices q:∃ b,Gr M S vs N b (i+1)/\evB (WT TT (k+4)) fK (N1 w c (aD a) (Tp (co S a)) (Tp N) (.lst vs) none none)=.rt .fz (.tup [aD b,Tp (co S b)]) by obtain ⟨b,h1,h2⟩:=q;refine ⟨b,h1,?_⟩;rw[aNF];refine aK rfl ?_;exact h2
 have up1:∀ {b:Aq},ok M S vs b->(co S b).Nodup->(∀ z∈co S b,z∈N)->hw b=hw a+1->sz b=sz a+1->po b=po a->Gr M S vs N b (i+1):=λh1 h2 h3 h4 h5 h6=>⟨h1,h2,h3,by omega,by omega,by omega⟩
 rcases hw' with h | h | h
 . obtain ⟨t,t1,t2',et⟩:=testD k c (C:=co S a) hv;have ct:aF 4 ((WT TT (k+4)).Φ "_law_test") (.ok [(.fz,.int (c / 3)),(.fz,.int (1+c % 3 / 2)),(.fz,Tp (co S a)),(.fz,.lst vs)])=.ok .fz (tsD [] t):=kB et;have w9:=wt9 t1;have l4:=lv4 t1;have pm:wt t * sz a<=9 * 46:=Nat.mul_le_mul w9 (by omega)
   refine ⟨.pick a t,⟨⟨g.ok,by omega,t2'⟩,g.nd,g.sub,?_,?_,?_⟩,?_⟩
   . show hw a+lv t<=4 * (i+1);omega
   . show sz a<=1+5 * (i+1);omega
   . show wt t * sz a+po a<=500 * (i+1);omega
   rw[show fK=.ite (.cmp .Eq (.var 0) (.str "pick")) [.ret (.tup [(.tup [(.str "pick"),(.var 2),(.frz (.call "_law_test" 4 [(.frz (.bin .FloorDiv (.var 1) (.int 3))),(.frz (.bin .Add (.int 1) (.bin .FloorDiv (.bin .Mod (.var 1) (.int 3)) (.int 2)))),(.var 3),(.var 5)]))]),(.var 3)])] []::fK.drop 1 from rfl]
   generalize fK.drop 1=Y;refine gG (eqw (t:=true) (by rw[h];decide +kernel)) (dH ?_)
   show _=Res.ok .fz (.tup [.tup [.str "pick", aD a,tsD [] t],Tp (co S a)]);generalize tsD [] t=d1 at *;generalize Tp (co S a)=u1 at *;generalize Tp N=u2 at *;generalize aD a=A at *;simp[ct,t2,t3]
 . obtain ⟨j,ej,hj⟩:=md (c:=c) (n:=7) (by decide)
   have lN:=T.nl;have fn:((N.drop j++N.take j).take (co S a).length).Nodup:=(tV T.nd j).sublist (aQO _ _);have fl:((N.drop j++N.take j).take (co S a).length).length=(co S a).length:=by rw[aQI,tX];omega
   refine ⟨.call a ((N.drop j++N.take j).take (co S a).length),up1 ⟨g.ok,fn,fl,by omega⟩ fn (λz hz=>tW (aTH hz)) rfl rfl rfl,?_⟩
   have g6:evE (WT TT (k+4)) (.frz (.bin .Mod (.var 1) (.bcall .len [(.var 4)]))) (N1 w c (aD a) (Tp (co S a)) (Tp N) (.lst vs) none none)=.ok .fz (.int (j:Int)):=by rw[hG,dS,fN (C:=N) rfl,lN,bK];show bG (op2 (aX .Mod) (.ok .fz (.int c)) (.ok .fz (.int 7)))=_;rw[fG (by decide),ej,iU]
   have gb:evE (WT TT (k+4)) (.bin .Add (.slice (.var 4) (some (.var 6)) none) (.slice (.var 4) none (some (.var 6)))) (N1 w c (aD a) (Tp (co S a)) (Tp N) (.lst vs) (some (false,.int (j:Int))) none)=.ok .fz (Tp (N.drop j++N.take j)):=by rw[dS,gH (C:=N) (i:=j) (m:=.fz) rfl rfl,tU (C:=N) (i:=j) (m:=.fz) rfl rfl,i8 (by rw[aQ2,aQI];omega)]
   have g7:evE (WT TT (k+4)) (.frz (.slice (.bin .Add (.slice (.var 4) (some (.var 6)) none) (.slice (.var 4) none (some (.var 6)))) none (some (.bcall .len [(.var 3)])))) (N1 w c (aD a) (Tp (co S a)) (Tp N) (.lst vs) (some (false,.int (j:Int))) none)=.ok .fz (Tp ((N.drop j++N.take j).take (co S a).length)):=by rw[hG,gH gb (m:=.fz) (fN (C:=co S a) rfl),iU]
   rw[show fK=.ite (.cmp .Eq (.var 0) (.str "pick")) [.ret (.tup [(.tup [(.str "pick"),(.var 2),(.frz (.call "_law_test" 4 [(.frz (.bin .FloorDiv (.var 1) (.int 3))),(.frz (.bin .Add (.int 1) (.bin .FloorDiv (.bin .Mod (.var 1) (.int 3)) (.int 2)))),(.var 3),(.var 5)]))]),(.var 3)])] [] :: .ite (.cmp .Eq (.var 0) (.str "call")) [.set 6 (.frz (.bin .Mod (.var 1) (.bcall .len [(.var 4)]))),.set 3 (.frz (.slice (.bin .Add (.slice (.var 4) (some (.var 6)) none) (.slice (.var 4) none (some (.var 6)))) none (some (.bcall .len [(.var 3)])))),.ret (.tup [(.tup [(.str "call"),(.var 2),(.var 3)]),(.var 3)])] []::fK.drop 2 from rfl]
   generalize fK.drop 2=Y;rw[cU (eqw (t:=false) (by rw[h];decide +kernel))]
   refine gG (eqw (t:=true) (by rw[h];decide +kernel)) ?_
   rw[cM g6 (ρ':=N1 w c (aD a) (Tp (co S a)) (Tp N) (.lst vs) (some (false,.int (j:Int))) none) rfl,cM g7 (ρ':=N1 w c (aD a) (Tp ((N.drop j++N.take j).take (co S a).length)) (Tp N) (.lst vs) (some (false,.int (j:Int))) none) rfl];refine dH ?_;show _=Res.ok .fz (.tup [.tup [.str "call", aD a,Tp ((N.drop j++N.take j).take (co S a).length)],Tp ((N.drop j++N.take j).take (co S a).length)])
   clear g6 g7 gb
   generalize Tp ((N.drop j++N.take j).take (co S a).length)=u1 at *;generalize Tp N=u2 at *;generalize aD a=A at *;simp[t2,t3]
 . obtain ⟨K,k1,k2,k3,ek⟩:=aBK (k+3) g.nd (by omega) c
   have ck:aF 2 ((WT TT (k+4)).Φ "_law_some") (.ok [(.fz,.int c),(.fz,Tp (co S a))])=.ok .fz (Tp K):=aR ek;have hp:(w==Str.ofString "pick")=false:=by rcases h with h | h <;> rw[h] <;> decide +kernel
   have hc:(w==Str.ofString "call")=false:=by rcases h with h | h <;> rw[h] <;> decide +kernel
   have g7:evE (WT TT (k+4)) (.frz (.call "_law_some" 2 [(.var 1),(.var 3)])) (N1 w c (aD a) (Tp (co S a)) (Tp N) (.lst vs) none none)=.ok .fz (Tp K):=by generalize Tp K=u0 at *;generalize Tp (co S a)=u1 at *;generalize Tp N=u2 at *;generalize aD a=A at *;simp[ck]
   have gc:evE (WT TT (k+4)) (.orL [(.cmp .Eq (.var 0) (.str "keep")),(.cmp .Eq (.bcall .len [(.var 3)]) (.int 0))]) (N1 w c (aD a) (Tp (co S a)) (Tp N) (.lst vs) none (some (false,Tp K)))=.ok .fz (.bl ((w==Str.ofString "keep")||(((co S a).length:Int)==0))):=by rw[e_orL,aMB,aMA,eqw (t:=w==Str.ofString "keep") rfl,eU,fN (C:=co S a) rfl,bS,sK,x_or]
   rw[show fK=.ite (.cmp .Eq (.var 0) (.str "pick")) [.ret (.tup [(.tup [(.str "pick"),(.var 2),(.frz (.call "_law_test" 4 [(.frz (.bin .FloorDiv (.var 1) (.int 3))),(.frz (.bin .Add (.int 1) (.bin .FloorDiv (.bin .Mod (.var 1) (.int 3)) (.int 2)))),(.var 3),(.var 5)]))]),(.var 3)])] [] :: .ite (.cmp .Eq (.var 0) (.str "call")) [.set 6 (.frz (.bin .Mod (.var 1) (.bcall .len [(.var 4)]))),.set 3 (.frz (.slice (.bin .Add (.slice (.var 4) (some (.var 6)) none) (.slice (.var 4) none (some (.var 6)))) none (some (.bcall .len [(.var 3)])))),.ret (.tup [(.tup [(.str "call"),(.var 2),(.var 3)]),(.var 3)])] [] :: .set 7 (.frz (.call "_law_some" 2 [(.var 1),(.var 3)])) :: .ite (.orL [(.cmp .Eq (.var 0) (.str "keep")),(.cmp .Eq (.bcall .len [(.var 3)]) (.int 0))]) [.ret (.tup [(.tup [(.str "keep"),(.var 2),(.var 7)]),(.var 7)])] []::[.ret (.tup [(.tup [(.str "total"),(.var 2),(.ix (.var 3) (.bin .Mod (.bin .FloorDiv (.var 1) (.int 14)) (.bcall .len [(.var 3)]))),(.var 7)]),(.var 7)])] from rfl]
   rw[cU (eqw (t:=false) hp),cU (eqw (t:=false) hc),cM g7 (ρ':=N1 w c (aD a) (Tp (co S a)) (Tp N) (.lst vs) none (some (false,Tp K))) rfl];cases hq:((w==Str.ofString "keep")||(((co S a).length:Int)==0)) with
   | true =>
    rw[hq] at gc;refine ⟨.keep a K,up1 ⟨g.ok,k1,k2⟩ k1 (λz hz=>g.sub z (k2 z hz)) rfl rfl rfl,?_⟩;refine gG gc (dH ?_);show _=Res.ok .fz (.tup [.tup [.str "keep", aD a,Tp K],Tp K])
    clear gc g7 ck ek
    generalize Tp K=u0 at *;generalize Tp (co S a)=u1 at *;generalize Tp N=u2 at *;generalize aD a=A at *;simp[t2,t3]
   | false =>
    rw[hq] at gc;rw[aRV,aPC,aPC] at hq;have h0:0<(co S a).length:=by have:=hq.2;omega
    obtain ⟨j,ej,hj⟩:=md (c:=c / 14) (n:=((co S a).length:Int)) (by omega)
    have hj':j<(co S a).length:=by omega
    refine ⟨.total a (co S a)[j] K,up1 ⟨g.ok,aR2 hj',k1,k2⟩ k1 (λz hz=>g.sub z (k2 z hz)) rfl rfl rfl,?_⟩;rw[cU gc];have gx:evE (WT TT (k+4)) (.ix (.var 3) (.bin .Mod (.bin .FloorDiv (.var 1) (.int 14)) (.bcall .len [(.var 3)]))) (N1 w c (aD a) (Tp (co S a)) (Tp N) (.lst vs) none (some (false,Tp K)))=.ok .fz (.str (co S a)[j]):=by
     rw[eV,dS,fN (C:=co S a) rfl];have:evE (WT TT (k+4)) (.bin .FloorDiv (.var 1) (.int 14)) (N1 w c (aD a) (Tp (co S a)) (Tp N) (.lst vs) none (some (false,Tp K)))=.ok .fz (.int (c / 14)):=by rw[dS,bK,bS];exact yP (by decide) (by decide)
     rw[this,fG (by omega),ej,bK]
     exact tE hj'
    have t4:∀ {a b c d:D},dW (.ok [(.fz,a),(.fz,b),(.fz,c),(.fz,d)])=.ok .fz (.tup [a,b,c,d]):=by intros;rfl
    refine dH ?_;show _=Res.ok .fz (.tup [.tup [.str "total", aD a,.str (co S a)[j],Tp K],Tp K]);generalize E.ix (.var 3) (.bin .Mod (.bin .FloorDiv (.var 1) (.int 14)) (.bcall .len [(.var 3)]))=X at *
    clear gc g7 ck ek
    generalize (co S a)[j]=z at *;generalize Tp K=u0 at *;generalize Tp (co S a)=u1 at *;generalize Tp N=u2 at *;generalize aD a=A at *;simp[gx,t2,t4]
end
abbrev Wd(w:Str)(n:Int)(a C N ws M:D)(x7 x8 x9 x10 x11:Option (Bool×D)):Rho:=[some (false,.str w),some (false,.int n),some (false,a),some (false,C),some (false,N),some (false,ws),some (false,M),x7,x8,x9,x10,x11]
section
variable {M:List (Key×D)}{S:Str->List Str}{vs:List D}{ws N C:List Str}{W:WD}{k:Nat}{w:Str}{c:Int}
theorem eq8{t:Bool}{v:Int}{x9 x10 x11:Option (Bool×D)}{a' C' N' ws' M':D}{x7:Option (Bool×D)}(h:(v==1)=t):evE W (.cmp .Eq (.var 8) (.int 1)) (Wd w c a' C' N' ws' M' x7 (some (false,.int v)) x9 x10 x11)=.ok .fz (.bl t):=by rw[eU,bK,bS];show op2 (bB .Eq) (.ok .fz (.int v)) (.ok .fz (.int 1))=_;rw[sK,h]
theorem aOZ{a:D}:evB W (i4.take 2) (Wd w c a (Tp C) (Tp N) (.lst (ws.map .str)) (.dct M) none none none none none)=.nx (Wd w c a (Tp C) (Tp N) (.lst (ws.map .str)) (.dct M) (some (false,.int (c % 3))) (some (false,.int (c / 3 % 2))) none none none):=by generalize Tp C=u1;generalize Tp N=u2;generalize ws.map D.str=u3;simp[i4]
def wJ:List D3.S:=[.set 9 (.frz (.bin .Mod (.bin .FloorDiv (.var 1) (.int 6)) (.bcall .len [(.var 4)]))),.set 10 (.frz (.slice (.bin .Add (.slice (.var 4) (some (.var 9)) none) (.slice (.var 4) none (some (.var 9)))) none (some (.int 2)))),.set 11 (.frz (.call "_law_like" 4 [(.var 7),(.var 10),(.var 5),(.var 6)])),.ite (.cmp .Eq (.var 8) (.int 1)) [.ret (.tup [(.tup [(.str "join"),(.var 11),(.var 2)]),(.frz (.bin .Add (.var 10) (.tcall .tuple [(.comp (.var 1) (.items (.var 3)) [(.cmp .NotIn (.var 1) (.var 0))] [10] (.nm 1) 1)])))])] [],.ret (.tup [(.tup [(.str "join"),(.var 2),(.var 11)]),(.frz (.bin .Add (.var 3) (.tcall .tuple [(.comp (.var 1) (.items (.var 10)) [(.cmp .NotIn (.var 1) (.var 0))] [3] (.nm 1) 1)])))])]
def wL:List D3.S:=[.ret (.tup [(.tup [(.str "leave"),(.var 2),(.frz (.call "_law_like" 4 [(.var 7),(.frz (.slice (.call "_law_some" 2 [(.var 1),(.var 3)]) none (some (.int 2)))),(.var 5),(.var 6)]))]),(.var 3)])]
def wP:List D3.S:=[.ite (.cmp .Gt (.bcall .len [(.var 3)]) (.int 2)) [.set 3 (.frz (.slice (.var 3) none (some (.int 2)))),.set 2 (.tup [(.str "keep"),(.var 2),(.var 3)])] [],.set 11 (.frz (.call "_law_like" 4 [(.var 7),(.var 3),(.var 5),(.var 6)])),.ite (.cmp .Eq (.var 8) (.int 1)) [.ret (.tup [(.tup [(.str "pour"),(.var 11),(.var 2)]),(.var 3)])] [],.ret (.tup [(.tup [(.str "pour"),(.var 2),(.var 11)]),(.var 3)])]
theorem aO0:i4=i4.take 2++(.ite (.cmp .Eq (.var 0) (.str "join")) wJ [] :: .ite (.cmp .Eq (.var 0) (.str "leave")) wL []::wP):=rfl
theorem aO1(hW:W=WT TT (k+1))(T:Tb M S ws N){a:Aq}{i:Nat}(g:Gr M S vs N a i)(hi:i<=8):∃ b,Gr M S vs N b (i+1)/\evB W wJ (Wd w c (aD a) (Tp (co S a)) (Tp N) (.lst (ws.map .str)) (.dct M) (some (false,.int (c % 3))) (some (false,.int (c / 3 % 2))) none none none)=.rt .fz (.tup [aD b,Tp (co S b)]):=by
 have hsz:sizeLine=16777216:=aQD;have g1:=g.hw;have g2:=g.sz;have g3:=g.po;have lN:=T.nl;have hl:(co S a).length<=7:=by rw[<- T.nl];exact mQ _ N g.nd g.sub
 obtain ⟨j,ej,hj⟩:=md (c:=c / 6) (n:=7) (by decide)
 have fn:((N.drop j++N.take j).take 2).Nodup:=(tV T.nd j).sublist (aQO _ _);have fm:∀ z∈(N.drop j++N.take j).take 2,z∈N:=λz hz=>tW (aTH hz);have fl:((N.drop j++N.take j).take 2).length=2:=by rw[aQI,tX];omega
 have g9:evE W (.frz (.bin .Mod (.bin .FloorDiv (.var 1) (.int 6)) (.bcall .len [(.var 4)]))) (Wd w c (aD a) (Tp (co S a)) (Tp N) (.lst (ws.map .str)) (.dct M) (some (false,.int (c % 3))) (some (false,.int (c / 3 % 2))) none none none)=.ok .fz (.int (j:Int)):=by
  rw[hG,dS,fN (C:=N) rfl,lN];have:evE W (.bin .FloorDiv (.var 1) (.int 6)) (Wd w c (aD a) (Tp (co S a)) (Tp N) (.lst (ws.map .str)) (.dct M) (some (false,.int (c % 3))) (some (false,.int (c / 3 % 2))) none none none)=.ok .fz (.int (c / 6)):=by rw[dS,bK,bS];exact yP (by decide) (by decide)
  rw[this];show bG (op2 (aX .Mod) (.ok .fz (.int (c / 6))) (.ok .fz (.int 7)))=_;rw[fG (by decide),ej,iU]
 have gb:evE W (.bin .Add (.slice (.var 4) (some (.var 9)) none) (.slice (.var 4) none (some (.var 9)))) (Wd w c (aD a) (Tp (co S a)) (Tp N) (.lst (ws.map .str)) (.dct M) (some (false,.int (c % 3))) (some (false,.int (c / 3 % 2))) (some (false,.int (j:Int))) none none)=.ok .fz (Tp (N.drop j++N.take j)):=by rw[dS,gH (C:=N) (i:=j) (m:=.fz) rfl rfl,tU (C:=N) (i:=j) (m:=.fz) rfl rfl,i8 (by rw[aQ2,aQI];omega)]
 have g10:evE W (.frz (.slice (.bin .Add (.slice (.var 4) (some (.var 9)) none) (.slice (.var 4) none (some (.var 9)))) none (some (.int 2)))) (Wd w c (aD a) (Tp (co S a)) (Tp N) (.lst (ws.map .str)) (.dct M) (some (false,.int (c % 3))) (some (false,.int (c / 3 % 2))) (some (false,.int (j:Int))) none none)=.ok .fz (Tp ((N.drop j++N.take j).take 2)):=by rw[hG,gH gb (m:=.fz) (i:=2) (by rw[bS];rfl),iU]
 generalize (N.drop j++N.take j).take 2=F at *;obtain ⟨o,o1,o2,o3,o4,o5,co'⟩:=uL (vs:=vs) hW T fn (by omega) c
 have g11:evE W (.frz (.call "_law_like" 4 [(.var 7),(.var 10),(.var 5),(.var 6)])) (Wd w c (aD a) (Tp (co S a)) (Tp N) (.lst (ws.map .str)) (.dct M) (some (false,.int (c % 3))) (some (false,.int (c / 3 % 2))) (some (false,.int (j:Int))) (some (false,Tp F)) none)=.ok .fz (aD o):=by generalize Tp (co S a)=u1 at *;generalize Tp N=u2 at *;generalize Tp F=u3 at *;generalize ws.map D.str=u4 at *;generalize aD o=O at *;generalize aD a=A at *;simp[co']
 have pre : ∀ Y, evB W (.set 9 (.frz (.bin .Mod (.bin .FloorDiv (.var 1) (.int 6)) (.bcall .len [(.var 4)]))) :: .set 10 (.frz (.slice (.bin .Add (.slice (.var 4) (some (.var 9)) none) (.slice (.var 4) none (some (.var 9)))) none (some (.int 2)))) :: .set 11 (.frz (.call "_law_like" 4 [(.var 7), (.var 10), (.var 5), (.var 6)])) :: Y) (Wd w c (aD a) (Tp (co S a)) (Tp N) (.lst (ws.map .str)) (.dct M) (some (false, .int (c % 3))) (some (false, .int (c / 3 % 2))) none none none)
     = evB W Y (Wd w c (aD a) (Tp (co S a)) (Tp N) (.lst (ws.map .str)) (.dct M) (some (false,.int (c % 3))) (some (false,.int (c / 3 % 2))) (some (false,.int (j:Int))) (some (false,Tp F)) (some (false,aD o))):=λY=>by
  rw[cM g9 (ρ':=Wd w c (aD a) (Tp (co S a)) (Tp N) (.lst (ws.map .str)) (.dct M) (some (false,.int (c % 3))) (some (false,.int (c / 3 % 2))) (some (false,.int (j:Int))) none none) rfl,cM g10 (ρ':=Wd w c (aD a) (Tp (co S a)) (Tp N) (.lst (ws.map .str)) (.dct M) (some (false,.int (c % 3))) (some (false,.int (c / 3 % 2))) (some (false,.int (j:Int))) (some (false,Tp F)) none) rfl,cM g11 (ρ':=Wd w c (aD a) (Tp (co S a)) (Tp N) (.lst (ws.map .str)) (.dct M) (some (false,.int (c % 3))) (some (false,.int (c / 3 % 2))) (some (false,.int (j:Int))) (some (false,Tp F)) (some (false,aD o))) rfl]
 have dl1:=pL (C:=F) (C':=co S a);have dl2:=pL (C:=co S a) (C':=F);unfold wJ;rw[pre]
 clear pre g9 g10 g11 gb
 have h:c / 3 % 2=1\/¬ c / 3 % 2=1:=Classical.em _;rcases h with h | h
 . refine ⟨.join o a,⟨⟨o1,g.ok,by rw[o2];omega⟩,?_,?_,?_,?_,?_⟩,?_⟩
   . show (co S o++dif (co S a) (co S o)).Nodup;rw[o2];exact aBM fn g.nd
   . show ∀ z∈co S o++dif (co S a) (co S o),z∈N;rw[o2];exact aBN fm g.sub
   . show max (hw o) (hw a)+1<=4 * (i+1);omega
   . show sz o+sz a+1<=1+5 * (i+1);omega
   . show po o+po a<=500 * (i+1);omega
   refine gG (eq8 (t:=true) (by rw[h];rfl)) (dH ?_)
   show _=Res.ok .fz (.tup [.tup [.str "join", aD o,aD a],Tp (co S o++dif (co S a) (co S o))]);rw[o2];have gd:=aBO (W:=W) (ρ:=Wd w c (aD a) (Tp (co S a)) (Tp N) (.lst (ws.map .str)) (.dct M) (some (false,.int (c % 3))) (some (false,.int (c / 3 % 2))) (some (false,.int (j:Int))) (some (false,Tp F)) (some (false,aD o))) (X:=Tp F) (C:=F) (S:=co S a) (i:=10) (j:=3) t7 rfl rfl (by omega)
   have ct:=i8 (C:=F) (C':=dif (co S a) F) (m:=.fz) (m':=.fz) (by omega)
   clear co' h
   generalize E.tcall .tuple [(.comp (.var 1) (.items (.var 3)) [(.cmp .NotIn (.var 1) (.var 0))] [10] (.nm 1) 1)]=X at *;generalize Tp (F++dif (co S a) F)=u5 at *;generalize Tp (dif (co S a) F)=u6 at *;generalize Tp (co S a)=u1 at *;generalize Tp N=u2 at *;generalize Tp F=u3 at *;generalize ws.map D.str=u4 at *;generalize aD o=O at *;generalize aD a=A at *;simp[gd,ct,t2,t3]
 . have h':(c / 3 % 2==1)=false:=aPC.mpr h;refine ⟨.join a o,⟨⟨g.ok,o1,by rw[o2];omega⟩,?_,?_,?_,?_,?_⟩,?_⟩
   . show (co S a++dif (co S o) (co S a)).Nodup;rw[o2];exact aBM g.nd fn
   . show ∀ z∈co S a++dif (co S o) (co S a),z∈N;rw[o2];exact aBN g.sub fm
   . show max (hw a) (hw o)+1<=4 * (i+1);omega
   . show sz a+sz o+1<=1+5 * (i+1);omega
   . show po a+po o<=500 * (i+1);omega
   rw[cU (eq8 (t:=false) h')];refine dH ?_;show _=Res.ok .fz (.tup [.tup [.str "join", aD a,aD o],Tp (co S a++dif (co S o) (co S a))]);rw[o2];have gd:=aBO (W:=W) (ρ:=Wd w c (aD a) (Tp (co S a)) (Tp N) (.lst (ws.map .str)) (.dct M) (some (false,.int (c % 3))) (some (false,.int (c / 3 % 2))) (some (false,.int (j:Int))) (some (false,Tp F)) (some (false,aD o))) (X:=Tp (co S a)) (C:=co S a) (S:=F) (i:=3) (j:=10) t7 rfl rfl (by omega)
   have ct:=i8 (C:=co S a) (C':=dif F (co S a)) (m:=.fz) (m':=.fz) (by omega)
   clear co' h h'
   generalize E.tcall .tuple [(.comp (.var 1) (.items (.var 10)) [(.cmp .NotIn (.var 1) (.var 0))] [3] (.nm 1) 1)]=X at *;generalize Tp (co S a++dif F (co S a))=u5 at *;generalize Tp (dif F (co S a))=u6 at *;generalize Tp (co S a)=u1 at *;generalize Tp N=u2 at *;generalize Tp F=u3 at *;generalize ws.map D.str=u4 at *;generalize aD o=O at *;generalize aD a=A at *;simp[gd,ct,t2,t3]
theorem aO2(hW:W=WT TT (k+1))(T:Tb M S ws N){a:Aq}{i:Nat}(g:Gr M S vs N a i)(hi:i<=8):∃ b,Gr M S vs N b (i+1)/\evB W wL (Wd w c (aD a) (Tp (co S a)) (Tp N) (.lst (ws.map .str)) (.dct M) (some (false,.int (c % 3))) (some (false,.int (c / 3 % 2))) none none none)=.rt .fz (.tup [aD b,Tp (co S b)]):=by
 have g1:=g.hw;have g2:=g.sz;have g3:=g.po;have hl:(co S a).length<=7:=by rw[<- T.nl];exact mQ _ N g.nd g.sub
 obtain ⟨K,k1,k2,k3,ek⟩:=aBK k g.nd (by omega) c
 have kn:(K.take 2).Nodup:=k1.sublist (aQO _ _);obtain ⟨o,o1,o2,o3,o4,o5,co'⟩:=uL (vs:=vs) hW T kn (by rw[aQI];omega) c
 subst hW;have ck:aF 2 ((WT TT (k+1)).Φ "_law_some") (.ok [(.fz,.int c),(.fz,Tp (co S a))])=.ok .fz (Tp K):=aR ek;generalize WT TT (k+1)=W at *;refine ⟨.leave a o,⟨⟨g.ok,o1,by rw[o2];exact λz hz=>k2 z (aTH hz)⟩,g.nd,g.sub,?_,?_,?_⟩,?_⟩
 . show max (hw a) (hw o)+1<=4 * (i+1);omega
 . show sz a+sz o+1<=1+5 * (i+1);omega
 . show po a+po o<=500 * (i+1);omega
 have gk:evE W (.call "_law_some" 2 [(.var 1),(.var 3)]) (Wd w c (aD a) (Tp (co S a)) (Tp N) (.lst (ws.map .str)) (.dct M) (some (false,.int (c % 3))) (some (false,.int (c / 3 % 2))) none none none)=.ok .fz (Tp K):=by
  clear co'
  generalize Tp K=u0 at *;generalize Tp (co S a)=u1 at *;generalize Tp N=u2 at *;generalize ws.map D.str=u4 at *;generalize aD a=A at *;simp[ck]
 have gs:=gH gk (m:=.fz) (e:=.int 2) (i:=2) (by rw[bS];rfl)
 unfold wL;refine dH ?_;show _=Res.ok .fz (.tup [.tup [.str "leave", aD a,aD o],Tp (co S a)]);generalize E.slice (.call "_law_some" 2 [(.var 1),(.var 3)]) none (some (.int 2))=X at *
 clear gk ck ek
 generalize Tp (K.take 2)=u0 at *;generalize Tp (co S a)=u1 at *;generalize Tp N=u2 at *;generalize ws.map D.str=u4 at *;generalize aD o=O at *;generalize aD a=A at *;simp[gs,co',t2,t3]
theorem aO3(hW:W=WT TT (k+1))(T:Tb M S ws N){a:Aq}{i:Nat}(g:Gr M S vs N a i)(hi:i<=8):∃ b,Gr M S vs N b (i+1)/\evB W wP (Wd w c (aD a) (Tp (co S a)) (Tp N) (.lst (ws.map .str)) (.dct M) (some (false,.int (c % 3))) (some (false,.int (c / 3 % 2))) none none none)=.rt .fz (.tup [aD b,Tp (co S b)]):=by
 have g1:=g.hw;have g2:=g.sz;have g3:=g.po;have hl:(co S a).length<=7:=by rw[<- T.nl];exact mQ _ N g.nd g.sub
 have g0:evE W (.cmp .Gt (.bcall .len [(.var 3)]) (.int 2)) (Wd w c (aD a) (Tp (co S a)) (Tp N) (.lst (ws.map .str)) (.dct M) (some (false,.int (c % 3))) (some (false,.int (c / 3 % 2))) none none none)=.ok .fz (.bl (decide (2<(co S a).length))):=by rw[eU,fN (C:=co S a) rfl,bS,x_gt];congr 2;rw[decide_eq_decide];omega
 obtain ⟨b,b1,b2,b3,b4,b5,b6,b7,eb⟩:∃ b:Aq,ok M S vs b/\(co S b).Nodup/\(∀ z∈co S b,z∈N)/\(co S b).length<=2/\hw b<=hw a+1/\sz b<=sz a+1/\po b=po a/\∀ Y,evB W (.ite (.cmp .Gt (.bcall .len [(.var 3)]) (.int 2)) [.set 3 (.frz (.slice (.var 3) none (some (.int 2)))),.set 2 (.tup [(.str "keep"),(.var 2),(.var 3)])] []::Y) (Wd w c (aD a) (Tp (co S a)) (Tp N) (.lst (ws.map .str)) (.dct M) (some (false,.int (c % 3))) (some (false,.int (c / 3 % 2))) none none none)=evB W Y (Wd w c (aD b) (Tp (co S b)) (Tp N) (.lst (ws.map .str)) (.dct M) (some (false,.int (c % 3))) (some (false,.int (c / 3 % 2))) none none none):=by
  by_cases h:2<(co S a).length
  . rw[aRE h] at g0;have kn:((co S a).take 2).Nodup:=g.nd.sublist (aQO _ _);refine ⟨.keep a ((co S a).take 2),⟨g.ok,kn,λz hz=>aTH hz⟩,kn,λz hz=>g.sub z (aTH hz),by show ((co S a).take 2).length<=2;rw[aQI];omega,aP8 _,aP8 _,rfl,λY=>?_⟩
    have q1:evE W (.frz (.slice (.var 3) none (some (.int 2)))) (Wd w c (aD a) (Tp (co S a)) (Tp N) (.lst (ws.map .str)) (.dct M) (some (false,.int (c % 3))) (some (false,.int (c / 3 % 2))) none none none)=.ok .fz (Tp ((co S a).take 2)):=by rw[hG,gH (C:=co S a) rfl (m:=.fz) (i:=2) (by rw[bS];rfl),iU]
    have q2:evE W (.tup [(.str "keep"),(.var 2),(.var 3)]) (Wd w c (aD a) (Tp ((co S a).take 2)) (Tp N) (.lst (ws.map .str)) (.dct M) (some (false,.int (c % 3))) (some (false,.int (c / 3 % 2))) none none none)=.ok .fz (.tup [.str "keep", aD a,Tp ((co S a).take 2)]):=by generalize Tp ((co S a).take 2)=u;generalize Tp N=u2;generalize ws.map D.str=u4;generalize aD a=A;simp[t3]
    rw[aBH g0 (ρ':=Wd w c (.tup [.str "keep", aD a,Tp ((co S a).take 2)]) (Tp ((co S a).take 2)) (Tp N) (.lst (ws.map .str)) (.dct M) (some (false,.int (c % 3))) (some (false,.int (c / 3 % 2))) none none none) ?_]
    . rfl
    . rw[cM q1 (ρ':=Wd w c (aD a) (Tp ((co S a).take 2)) (Tp N) (.lst (ws.map .str)) (.dct M) (some (false,.int (c % 3))) (some (false,.int (c / 3 % 2))) none none none) rfl,cM q2 rfl,dY];rfl
  . rw[aPB h] at g0;exact ⟨a,g.ok,g.nd,g.sub,by omega,by omega,by omega,rfl,λY=>by rw[cU g0]⟩
 obtain ⟨o,o1,o2,o3,o4,o5,co'⟩:=uL (vs:=vs) hW T b2 b4 c;have g11:evE W (.frz (.call "_law_like" 4 [(.var 7),(.var 3),(.var 5),(.var 6)])) (Wd w c (aD b) (Tp (co S b)) (Tp N) (.lst (ws.map .str)) (.dct M) (some (false,.int (c % 3))) (some (false,.int (c / 3 % 2))) none none none)=.ok .fz (aD o):=by
  clear eb
  generalize Tp (co S b)=u1 at *;generalize Tp N=u2 at *;generalize ws.map D.str=u4 at *;generalize aD o=O at *;generalize aD b=A at *;simp[co']
 unfold wP;rw[eb,cM g11 (ρ':=Wd w c (aD b) (Tp (co S b)) (Tp N) (.lst (ws.map .str)) (.dct M) (some (false,.int (c % 3))) (some (false,.int (c / 3 % 2))) none none (some (false,aD o))) rfl]
 clear eb g11 co' g0
 have h:c / 3 % 2=1\/¬ c / 3 % 2=1:=Classical.em _;rcases h with h | h
 . refine ⟨.pour o b,⟨⟨o1,b1,o2.symm⟩,by show (co S o).Nodup;rw[o2];exact b2,by show ∀ z∈co S o,z∈N;rw[o2];exact b3,?_,?_,?_⟩,?_⟩
   . show max (hw o) (hw b)+1<=4 * (i+1);omega
   . show sz o+sz b+1<=1+5 * (i+1);omega
   . show po o+po b<=500 * (i+1);omega
   refine gG (eq8 (t:=true) (by rw[h];rfl)) (dH ?_)
   show _=Res.ok .fz (.tup [.tup [.str "pour", aD o,aD b],Tp (co S o)]);rw[o2];generalize Tp (co S b)=u1 at *;generalize Tp N=u2 at *;generalize ws.map D.str=u4 at *;generalize aD o=O at *;generalize aD b=A at *;simp[t2,t3]
 . have h':(c / 3 % 2==1)=false:=aPC.mpr h;refine ⟨.pour b o,⟨⟨b1,o1,o2⟩,b2,b3,?_,?_,?_⟩,?_⟩
   . show max (hw b) (hw o)+1<=4 * (i+1);omega
   . show sz b+sz o+1<=1+5 * (i+1);omega
   . show po b+po o<=500 * (i+1);omega
   rw[cU (eq8 (t:=false) h')];refine dH ?_;show _=Res.ok .fz (.tup [.tup [.str "pour", aD b,aD o],Tp (co S b)]);generalize Tp (co S b)=u1 at *;generalize Tp N=u2 at *;generalize ws.map D.str=u4 at *;generalize aD o=O at *;generalize aD b=A at *;simp[t2,t3]
theorem aO4(k:Nat)(T:Tb M S ws N){a:Aq}{i:Nat}(g:Gr M S vs N a i)(hi:i<=8){w:Str}(hw':w=Str.ofString "join" \/ w=Str.ofString "pour" \/ w=Str.ofString "leave")(c:Int):∃ b,Gr M S vs N b (i+1)/\(WT TT (k+2)).Φ "_law_widened" [.str w,.int c,aD a,Tp (co S a),Tp N,.lst (ws.map .str),.dct M]=.ok .fz (.tup [aD b,Tp (co S b)]):=by
 suffices q:∃ b,Gr M S vs N b (i+1)/\evB (WT TT (k+1)) (.ite (.cmp .Eq (.var 0) (.str "join")) wJ [] :: .ite (.cmp .Eq (.var 0) (.str "leave")) wL []::wP) (Wd w c (aD a) (Tp (co S a)) (Tp N) (.lst (ws.map .str)) (.dct M) (some (false,.int (c % 3))) (some (false,.int (c / 3 % 2))) none none none)=.rt .fz (.tup [aD b,Tp (co S b)]) by obtain ⟨b,h1,h2⟩:=q;refine ⟨b,h1,?_⟩;rw[aNG];refine aK rfl ?_;show evB (WT TT (k+1)) i4 (Wd w c (aD a) (Tp (co S a)) (Tp N) (.lst (ws.map .str)) (.dct M) none none none none none)=_;rw[aO0,bE,aOZ,aB.thn_nx,h2]
 rcases hw' with h | h | h
 . obtain ⟨b,b1,b2⟩:=aO1 (w:=w) (c:=c) (k:=k) rfl T g hi;exact ⟨b,b1,gG (eqw (t:=true) (by rw[h];decide +kernel)) b2⟩
 . obtain ⟨b,b1,b2⟩:=aO3 (w:=w) (c:=c) (k:=k) rfl T g hi;exact ⟨b,b1,by rw[cU (eqw (t:=false) (by rw[h];decide +kernel)),cU (eqw (t:=false) (by rw[h];decide +kernel)),b2]⟩
 . obtain ⟨b,b1,b2⟩:=aO2 (w:=w) (c:=c) (k:=k) rfl T g hi;exact ⟨b,b1,by rw[cU (eqw (t:=false) (by rw[h];decide +kernel)),gG (eqw (t:=true) (by rw[h];decide +kernel)) b2]⟩
end
def WL:List Str:=[Str.ofString "pick", Str.ofString "keep", Str.ofString "pick", Str.ofString "call", Str.ofString "join", Str.ofString "pick", Str.ofString "pour", Str.ofString "total", Str.ofString "leave", Str.ofString "call"]
abbrev G1(cs ws' M N vs a C:D)(m p:Int)(x11 x12 x13:Option (Bool×D)):Rho:=[some (false,cs),some (false,.lst (WL.map .str)),some (false,.int 2),some (false,ws'),some (false,M),some (false,N),some (false,vs),some (false,a),some (false,C),some (false,.int m),some (false,.int p),x11,x12,x13]
theorem call6{Φ:List D->Res}{a b c e f g d:D}(q:Φ [a,b,c,e,f,g]=.ok .fz d):aF 6 Φ (.ok [(.fz,a),(.fz,b),(.fz,c),(.fz,e),(.fz,f),(.fz,g)])=.ok .fz d:=kA (ds:=[a,b,c,e,f,g]) rfl rfl q
section
variable {M:List (Key×D)}{S:Str->List Str}{vs:List D}{ws N C:List Str}
theorem gr_a{W:WD}{cs ws' m' n' vs' a C:D}{m p c v:Int}{w:Str}{x12 x13:Option (Bool×D)}(cv:aF 2 (W.Φ "_law_mixed") (.ok [(.fz,.int c),(.fz,.int 2147483629)])=.ok .fz (.int v))(ex:op2 ixD (.ok .fz (.lst (WL.map .str))) (.ok .fz (.int (v % 10)))=.ok .fz (.str w)):evB W (dG.take 3) (G1 cs ws' m' n' vs' a C m p (some (false,.int c)) x12 x13)=.nx (G1 cs ws' m' n' vs' a C m p (some (false,.int c)) (some (false,.int (v / 10))) (some (false,.str w))):=by have ln:fA [(Md.fz,D.lst (WL.map .str))]=some (.fz,.int 10):=rfl;dsimp only[G1];generalize WL.map D.str=L at *;simp[dG,cv,ln,ex]
theorem gr_b{W:WD}{cs ws' m' n' vs' a C:D}{m p:Int}{w:Str}{x11 x12:Option (Bool×D)}(hw':w∈WL):∃ w'∈WL,evB W ((dG.drop 3).take 1) (G1 cs ws' m' n' vs' a C m p x11 x12 (some (false,.str w)))=.nx (G1 cs ws' m' n' vs' a C m p x11 x12 (some (false,.str w'))):=by
 have e3:=in3 (m:=.fz) (m':=.fz) (z:=w);have gc:evE W (.orL [(.andL [(.cmp .Eq (.var 13) (.str "pick")),(.cmp .Eq (.var 10) (.int 3))]),(.andL [(.cmp .In (.var 13) (.tup [(.str "join"),(.str "pour"),(.str "leave")])),(.cmp .Eq (.var 9) (.var 2))])]) (G1 cs ws' m' n' vs' a C m p x11 x12 (some (false,.str w)))=.ok .fz (.bl (((w==Str.ofString "pick")&&(p==3))||(decide (w∈jpl)&&(m==2)))):=by dsimp only[G1];generalize WL.map D.str=L at *;generalize decide (w∈jpl)=B at *;simp[t3,e3]
 rw[show (dG.drop 3).take 1=[.ite (.orL [(.andL [(.cmp .Eq (.var 13) (.str "pick")),(.cmp .Eq (.var 10) (.int 3))]),(.andL [(.cmp .In (.var 13) (.tup [(.str "join"),(.str "pour"),(.str "leave")])),(.cmp .Eq (.var 9) (.var 2))])]) [.set 13 (.str "call")] []] from rfl]
 cases hb:(((w==Str.ofString "pick")&&(p==3))||(decide (w∈jpl)&&(m==2))) with
 | false=>rw[hb] at gc;exact ⟨w,hw',by rw[cU gc,dY]⟩
 | true =>
  rw[hb] at gc;refine ⟨Str.ofString "call", by simp[WL],?_⟩
  rw[aBH gc (ρ':=G1 cs ws' m' n' vs' a C m p x11 x12 (some (false,.str "call"))) ?_,dY];rw[cM (f7 (W:=W)) rfl,dY];rfl
theorem aO5{w:Str}(h:w∈WL):(decide (w∈jpl)=true/\(w=Str.ofString "join" \/ w=Str.ofString "pour" \/ w=Str.ofString "leave"))\/(decide (w∈jpl)=false/\(w=Str.ofString "pick" \/ w=Str.ofString "call" \/ w=Str.ofString "keep" \/ w=Str.ofString "total")):=by
 simp only[WL,aPP,aTG,aSW] at h;rcases h with rfl | rfl | rfl | rfl | rfl | rfl | rfl | rfl | rfl | rfl
 . exact .inr ⟨by decide +kernel,.inl rfl⟩
 . exact .inr ⟨by decide +kernel,.inr (.inr (.inl rfl))⟩
 . exact .inr ⟨by decide +kernel,.inl rfl⟩
 . exact .inr ⟨by decide +kernel,.inr (.inl rfl)⟩
 . exact .inl ⟨by decide +kernel,.inl rfl⟩
 . exact .inr ⟨by decide +kernel,.inl rfl⟩
 . exact .inl ⟨by decide +kernel,.inr (.inl rfl)⟩
 . exact .inr ⟨by decide +kernel,.inr (.inr (.inr rfl))⟩
 . exact .inl ⟨by decide +kernel,.inr (.inr rfl)⟩
 . exact .inr ⟨by decide +kernel,.inr (.inl rfl)⟩
theorem gr_c(k:Nat)(T:Tb M S ws N)(hv:Vs vs){cs:D}{a:Aq}{i:Nat}(hi:i<=8)(g:Gr M S vs N a i){m p n:Int}{w:Str}{x11:Option (Bool×D)}(hw':w∈WL):∃ b m' p',Gr M S vs N b (i+1)/\evB (WT TT (k+5)) (dG.drop 4) (G1 cs (.lst (ws.map .str)) (.dct M) (Tp N) (.lst vs) (aD a) (Tp (co S a)) m p x11 (some (false,.int n)) (some (false,.str w)))=.nx (G1 cs (.lst (ws.map .str)) (.dct M) (Tp N) (.lst vs) (aD b) (Tp (co S b)) m' p' x11 (some (false,.int n)) (some (false,.str w))):=by
 have e3:=in3 (m:=.fz) (m':=.fz) (z:=w);rcases aO5 hw' with ⟨h1,h2⟩ | ⟨h1,h2⟩
 . obtain ⟨b,b1,b2⟩:=aO4 (k+3) T g hi h2 n;have cb:aF 7 ((WT TT (k+5)).Φ "_law_widened") (.ok [(.fz,.str w),(.fz,.int n),(.fz,aD a),(.fz,Tp (co S a)),(.fz,Tp N),(.fz,.lst (ws.map .str)),(.fz,.dct M)])=.ok .fz (.tup [aD b,Tp (co S b)]):=aBP b2;refine ⟨b,m+1,p,b1,?_⟩;rw[h1] at e3
   clear b2
   dsimp only[G1];generalize WL.map D.str=L at *;generalize Tp (co S b)=u0 at *;generalize Tp (co S a)=u1 at *;generalize Tp N=u2 at *;generalize ws.map D.str=u4 at *;generalize aD b=O at *;generalize aD a=A at *;simp[dG,t3,e3,fF,cb]
 . obtain ⟨b,b1,b2⟩:=aOY k T hv hi g h2 n;have cb:aF 6 ((WT TT (k+5)).Φ "_law_narrowed") (.ok [(.fz,.str w),(.fz,.int n),(.fz,aD a),(.fz,Tp (co S a)),(.fz,Tp N),(.fz,.lst vs)])=.ok .fz (.tup [aD b,Tp (co S b)]):=call6 b2;refine ⟨b,m,p+(if (w==Str.ofString "pick")=true then 1 else 0),b1,?_⟩;rw[h1] at e3
   clear b2
   dsimp only[G1];generalize WL.map D.str=L at *;generalize Tp (co S b)=u0 at *;generalize Tp (co S a)=u1 at *;generalize Tp N=u2 at *;generalize ws.map D.str=u4 at *;generalize aD b=O at *;generalize aD a=A at *;simp[dG,t3,e3,fF,cb]
theorem aB9{k:D->Rho->Option Rho}{body:Rho->aB}(I:Nat->Rho->Prop):∀ {ds:List D} {ρ:Rho},(∀ n,∀ d∈ds,∀ ρ,I (n+1) ρ->∃ ρ1 ρ2,k d ρ=some ρ1/\body ρ1=.nx ρ2/\I n ρ2)->I ds.length ρ->∃ ρ',cZ k body ds ρ=.nx ρ'/\I 0 ρ'
 | [],ρ,_,h=>⟨ρ,rfl,h⟩
 | d::ds,ρ,hs,h=>by obtain ⟨ρ1,ρ2,e1,e2,h2⟩:=hs ds.length d mcs ρ h;obtain ⟨ρ',e3,h3⟩:=aB9 I (λn d hd=>hs n d (mcm hd)) h2;refine ⟨ρ',?_,h3⟩;unfold cZ;rw[e1];dsimp only;rw[e2];exact e3
theorem grown(k:Nat)(T:Tb M S ws N)(hv:Vs vs){w0:Str}{aZ:List Str}(hws:ws=w0::aZ){cs:List Int}(hl:cs.length<=9):∃ a m,Gr M S vs N a 9/\(WT TT (k+6)).Φ "_law_grown" [.lst (cs.map .int),.lst (WL.map .str),.int 2,.lst (ws.map .str),.dct M,Tp N,.lst vs]=.ok .fz (.tup [aD a,Tp (co S a),.int m]):=by
 have h0:w0∈ws:=by rw[hws];simp
 obtain ⟨s1,s2,s3,s4⟩:=T.get w0 h0;have x0:op2 ixD (.ok .fz (.lst (ws.map .str))) (.ok .fz (.int 0))=.ok .fz (.str w0):=by rw[hws];exact d8 (bF (j:=0) rfl)
 have gd:=mO s1 (m:=.fz) (m':=.fz);have g0:Gr M S vs N (.table w0) 0:=⟨s1,s2,s4,aP8 _,aP8 _,aP8 _⟩;obtain ⟨ρ',e,I⟩:=aB9 (k:=aI (.nm 11)) (body:=evB (WT TT (k+5)) dG) (ds:=cs.map D.int) (ρ:=G1 (.lst (cs.map .int)) (.lst (ws.map .str)) (.dct M) (Tp N) (.lst vs) (aD (.table w0)) (Tp (S w0)) 0 0 none none none)
  (λr ρ=>∃ a i m p x11 x12 x13,Gr M S vs N a i/\i+r<=9/\ρ=G1 (.lst (cs.map .int)) (.lst (ws.map .str)) (.dct M) (Tp N) (.lst vs) (aD a) (Tp (co S a)) m p x11 x12 x13)
  (λr d hd ρ hρ=>by
   obtain ⟨a,i,m,p,x11,x12,x13,h1,h2,rfl⟩:=hρ;obtain ⟨c,_,rfl⟩:=aTB.mp hd;obtain ⟨v,ev⟩:=mixed (k+4) c (p:=2147483629) (by decide)
   obtain ⟨j,ej,hj⟩:=md (c:=v) (n:=10) (by decide)
   have hj':j<WL.length:=by show j<10;omega
   have ex:op2 ixD (.ok .fz (.lst (WL.map .str))) (.ok .fz (.int (v % 10)))=.ok .fz (.str WL[j]):=by rw[ej];exact d8 (bF (by rw[aQN,aR1 hj'];rfl))
   obtain ⟨w',hw',eb⟩:=gr_b (W:=WT TT (k+5)) (cs:=.lst (cs.map .int)) (ws':=.lst (ws.map .str)) (m':=.dct M) (n':=Tp N) (vs':=.lst vs) (a:=aD a) (C:=Tp (co S a)) (m:=m) (p:=p) (x11:=some (false,.int c)) (x12:=some (false,.int (v / 10))) (aR2 hj');obtain ⟨b,m',p',b1,b2⟩:=gr_c k T hv (cs:=.lst (cs.map .int)) (by omega) h1 (m:=m) (p:=p) (n:=v / 10) (x11:=some (false,.int c)) hw'
   refine ⟨G1 (.lst (cs.map .int)) (.lst (ws.map .str)) (.dct M) (Tp N) (.lst vs) (aD a) (Tp (co S a)) m p (some (false,.int c)) x12 x13,G1 (.lst (cs.map .int)) (.lst (ws.map .str)) (.dct M) (Tp N) (.lst vs) (aD b) (Tp (co S b)) m' p' (some (false,.int c)) (some (false,.int (v / 10))) (some (false,.str w')),rfl,?_,b,i+1,m',p',_,_,_,b1,by omega,rfl⟩
   rw[show dG=dG.take 3++((dG.drop 3).take 1++dG.drop 4) from rfl,bE,gr_a (aR ev) ex,aB.thn_nx,bE,eb,aB.thn_nx,b2])
  ⟨.table w0,0,0,0,none,none,none,g0,by rw[aQR];omega,rfl⟩
 obtain ⟨a,i,m,p,x11,x12,x13,q1,q2,rfl⟩:=I;have q3:=q1.hw;have q4:=q1.sz;have q5:=q1.po;refine ⟨a,m,⟨q1.ok,q1.nd,q1.sub,by omega,by omega,by omega⟩,?_⟩
 rw[aNH];refine aK rfl ?_;show evB (WT TT (k+5)) i6 [some (false,.lst (cs.map .int)),some (false,.lst (WL.map .str)),some (false,.int 2),some (false,.lst (ws.map .str)),some (false,.dct M),some (false,Tp N),some (false,.lst vs),none,none,none,none,none,none,none]=_;have pre:evB (WT TT (k+5)) (i6.take 4) [some (false,.lst (cs.map .int)),some (false,.lst (WL.map .str)),some (false,.int 2),some (false,.lst (ws.map .str)),some (false,.dct M),some (false,Tp N),some (false,.lst vs),none,none,none,none,none,none,none]=.nx (G1 (.lst (cs.map .int)) (.lst (ws.map .str)) (.dct M) (Tp N) (.lst vs) (.tup [.str "table", .str w0]) (Tp (S w0)) 0 0 none none none):=by
  clear e
  dsimp only[G1];generalize WL.map D.str=L at *;generalize Tp (S w0)=u1 at *;generalize Tp N=u2 at *;generalize ws.map D.str=u4 at *;generalize cs.map D.int=u5 at *;simp[i6,x0,gd,t2]
 have ei:evE (WT TT (k+5)) (.items (.var 0)) (G1 (.lst (cs.map .int)) (.lst (ws.map .str)) (.dct M) (Tp N) (.lst vs) (.tup [.str "table", .str w0]) (Tp (S w0)) 0 0 none none none)=.ok .fz (.lst (cs.map .int)):=rfl;have e':cJ (.ok .fz (.lst (cs.map .int))) (G1 (.lst (cs.map .int)) (.lst (ws.map .str)) (.dct M) (Tp N) (.lst vs) (.tup [.str "table", .str w0]) (Tp (S w0)) 0 0 none none none) (aI (.nm 11)) (evB (WT TT (k+5)) dG)=_:=e;rw[show i6=i6.take 4++[.for (.items (.var 0)) (.nm 11) dG,.ret (.tup [(.var 7),(.var 8),(.var 9)])] from rfl,bE,pre,aB.thn_nx,bI,lZ,ei,e',aB.thn_nx]
 refine dH ?_
 clear e e' pre ei
 dsimp only[G1];generalize WL.map D.str=L at *;generalize Tp (co S a)=u1 at *;generalize Tp N=u2 at *;generalize ws.map D.str=u4 at *;generalize cs.map D.int=u5 at *;generalize aD a=A at *;simp[t3]
theorem aCA:∀ (n:Nat) (a:Aq),ok M S vs a->∀ b∈a9 S n a,ok M S vs b/\co S b=co S a/\hw b<=hw a/\po b<=po a
 | 0,a,h,b,hb=>by
  rw[show a9 S 0 a=[a] from rfl,aSI] at hb
  subst hb;exact ⟨h,rfl,aP8 _,aP8 _⟩
 | n+1,a,h,b,hb=>by
  have hb:b∈(match stp S a with | some b=>a::a9 S n b | none=>[a]):=hb
  cases e:stp S a with
  | none=>rw[e] at hb;rw[aSI] at hb;subst hb;exact ⟨h,rfl,aP8 _,aP8 _⟩
  | some c =>
   rw[e] at hb;have p:=dJ a c e h;rcases aPP.mp hb with rfl | hb
   . exact ⟨h,rfl,aP8 _,aP8 _⟩
   . obtain ⟨q1,q2,q3,q4⟩:=aCA n c p.ok b hb;have r1:=p.hw;have r2:=p.po;exact ⟨q1,q2.trans p.co,by omega,by omega⟩
theorem uM{n:Nat}{a:Aq}:∃ r,a9 S n a=a::r:=by
 cases n with
 | zero=>exact ⟨[],rfl⟩
 | succ n =>
  show ∃ r,(match stp S a with | some b=>a::a9 S n b | none=>[a])=a::r
  cases stp S a with
  | none=>exact ⟨[],rfl⟩
  | some b=>exact ⟨_,rfl⟩
theorem aCB:∀ (n:Nat) (a:Aq) (i:Nat) (b c:Aq),(a9 S n a)[i]? = some b->(a9 S n a)[i+1]? = some c->stp S b=some c
 | 0,a,i,b,c,h1,h2=>by simp[a9] at h2
 | n+1,a,i,b,c,h1,h2=>by
  have h1:(match stp S a with | some b=>a::a9 S n b | none=>[a])[i]? = some b:=h1
  have h2:(match stp S a with | some b=>a::a9 S n b | none=>[a])[i+1]? = some c:=h2
  cases e:stp S a with
  | none=>rw[e] at h2;simp at h2
  | some d =>
   rw[e] at h1 h2;cases i with
   | zero=>obtain ⟨r,er⟩:=uM (S:=S) (n:=n) (a:=d);rw[aTD,er] at h2;simp at h1 h2;subst h1;subst h2;exact e
   | succ i=>rw[aTD] at h1 h2;exact aCB n d i b c h1 h2
theorem aCC:∀ (n:Nat) (a:Aq),ok M S vs a->po a<=n->∀ b,(a9 S n a).getLast? = some b->stp S b=none
 | 0,a,h,hp,b,hb=>by
  have:a=b:=by simpa[a9] using hb
  subst this;cases e:stp S a with
  | none=>rfl
  | some c=>have:=(dJ a c e h).po;omega
 | n+1,a,h,hp,b,hb=>by
  have hb:(match stp S a with | some b=>a::a9 S n b | none=>[a]).getLast? = some b:=hb
  cases e:stp S a with
  | none =>
   rw[e] at hb;have:a=b:=by simpa using hb
   subst this;exact e
  | some c =>
   rw[e] at hb;have p:=dJ a c e h;have:=p.po;obtain ⟨r,er⟩:=uM (S:=S) (n:=n) (a:=c);refine aCC n c p.ok (by omega) b ?_
   have hb:(a::a9 S n c).getLast? = some b:=hb;rw[er] at hb ⊢;rw[List.getLast?_cons_cons] at hb;exact hb
theorem aO6{n:Nat}{a:Aq}(e:stp S a=none):a9 S n a=[a]:=by
 cases n with
 | zero=>rfl
 | succ n =>
  show (match stp S a with | some b=>a::a9 S n b | none=>[a])=[a]
  rw[e]
end
theorem aCD{n:Nat}{ds:List D}(h:∀ d∈ds,Dp n d):Dp (n+1) (.lst ds):=by
 obtain ⟨ps,h1,h2⟩:=tP ds h;refine ⟨.list ps,?_,?_⟩
 . rw[aV,h1];rfl
 . simp[PyData.depth];omega
theorem uN{d:D}{n:Nat}(h:Dp n d)(hn:n<=50){m m':Md}:op2 (bB .NotEq) (.ok m d) (.ok m' d)=.ok .fz (.bl false):=by
 obtain ⟨p,h1,h2⟩:=h;refine bN ?_;have hs:fE p=true:=aRE (by omega)
 show orO (eqF true) _ m d m' d=_;unfold orO eqF;rw[h1];dsimp only;rw[hs];simp[tQ d p h1]
theorem aO7{α:Type}{xs:List α}{x:α}(h:xs.getLast? = some x):atI xs (-1)=some x:=by
 have hl:0<xs.length:=by
  cases xs with
  | nil=>simp at h
  | cons _ _=>simp
 have e:ixN xs.length (-1)=some (xs.length-1):=by
  unfold ixN;rw[if_neg (by omega),if_pos (by omega)]
  congr 1;omega
 unfold atI;rw[e];show xs[xs.length-1]? = some x;rw[<- h,List.getLast?_eq_getElem?]
abbrev LR(S0 N ws vs M WLd a C:D)(m:D)(H:D)(x10 x11 x12 x13:Option (Bool×D)):Rho:=[some (false,S0),some (false,N),some (false,ws),some (false,vs),some (false,M),some (false,WLd),some (false,a),some (false,C),some (false,m),some (false,H),x10,x11,x12,x13]
section
variable {M:List (Key×D)}{S:Str->List Str}{vs:List D}
theorem aCE{a:Aq}(h:ok M S vs a){K:Nat}(hK:hw a+17<=K):(WT TT K).Φ "step" [aD a,.dct M]=.ok .fz (rD ((stp S a).map aL)):=by
 obtain ⟨k,rfl,hk⟩:=le1 (n:=hw a+16) hK;have c1:aF 2 ((WT TT k).Φ "columns_of") (.ok [(.fz,aD a),(.fz,.dct M)])=.ok .fz (Tp (co S a)):=aR (mR h k (by omega))
 have c2:aF 2 ((WT TT k).Φ "stepped") (.ok [(.fz,aD a),(.fz,.dct M)])=.ok .fz (rD ((stp S a).map aL)):=aR (eJ a h k hk);rw[aM5];refine aK rfl ?_;show evB (WT TT k) o7 [some (false,aD a),some (false,.dct M)]=_;generalize Tp (co S a)=u at *;generalize rD ((stp S a).map aL)=R at *;generalize aD a=A at *;simp[o7,c1,c2,Res.thS]
theorem aO8{W:WD}{S0 N ws vs' M' WLd A C m:D}{F:List D}{x y:D}{j:Nat}{x12 x13:Option (Bool×D)}(h1:F[j]? = some x)(h2:F[j+1]? = some y)(c1:aF 2 (W.Φ "step") (.ok [(.fz,x),(.fz,.dct M)])=.ok .fz y)(c2:aF 2 (W.Φ "_law_columns") (.ok [(.fz,y),(.fz,M')])=.ok .fz C)(n1:op2 (bB .NotEq) (.ok .fz y) (.ok .fz y)=.ok .fz (.bl false))(n2:op2 (bB .NotEq) (.ok .fz C) (.ok .fz C)=.ok .fz (.bl false)):evB W iX (LR S0 N ws vs' M' WLd A C m (.dct M) (some (true,.lst F)) (some (false,.int ((j+1:Nat):Int))) x12 x13)=.nx (LR S0 N ws vs' M' WLd A C m (.dct M) (some (true,.lst F)) (some (false,.int ((j+1:Nat):Int))) x12 x13):=by
 have i1:op2 ixD (.ok .bo (.lst F)) (.ok .fz (.int (((j+1:Nat):Int)-1)))=.ok .fz x:=by
  rw[show ((j+1:Nat):Int)-1=(j:Int) by omega]
  exact d8 (bF h1)
 have i2:op2 ixD (.ok .bo (.lst F)) (.ok .fz (.int ((j+1:Nat):Int)))=.ok .fz y:=d8 (bF h2);generalize ((j+1:Nat):Int)=v at *;simp[iX,i1,i2,c1,c2,n1,n2]
theorem rngF{n:Nat}(h:n<=10000000){m m':Md}:jO (.ok [(m,.int 1),(m',.int (n:Int))])=.ok .fz (.lst (bM 1 (n:Int))):=by
 unfold jO;rw[aT.thn_ok];dsimp only;rw[if_pos];simp only[aQ8,aRL];refine ⟨⟨⟨by decide,by decide⟩,?_⟩,?_⟩
 . have:(-(2 ^ 62):Int)<=0:=by decide
   omega
 . have:(10000000:Int)<2 ^ 62:=by decide
   omega
theorem aO9{d:D}{n:Nat}(h:d∈bM 1 (n:Int)):∃ j:Nat,j+1<n/\d=.int ((j+1:Nat):Int):=by simp only[bM,aTB,aPM] at h;obtain ⟨i,hi,rfl⟩:=h;exact ⟨i,by omega,by congr 1;omega⟩
theorem lawD{W:WD}{S0 N ws vs' WLd A C m B:D}{F:List D}(hd:(WT TT 0).cl=(WT TT 0).cl)(cs:aF 2 (W.Φ "steps") (.ok [(.fz,A),(.fz,.dct M)])=.ok .fr (.lst F))(cs':aF 2 (W.Φ "steps") (.ok [(.fz,B),(.fz,.dct M)])=.ok .fr (.lst [B]))(cp:aF 2 (W.Φ "step") (.ok [(.fz,B),(.fz,.dct M)])=.ok .fz .non)(ce:aF 2 (W.Φ "_law_settled") (.ok [(.fz,B),(.fz,.dct M)])=.ok .fz (.bl true))(hF:F[0]? = some A)(hB:F.getLast? = some B)(hl:F.length<=1000000)(nA:op2 (bB .NotEq) (.ok .fz A) (.ok .fz A)=.ok .fz (.bl false))(fl:∃ y,cJ (.ok .fz (.lst (bM 1 (F.length:Int)))) (LR S0 N ws vs' (.dct M) WLd A C m (.dct M) (some (true,.lst F)) none none none) (aI (.nm 11)) (evB W iX)=.nx (LR S0 N ws vs' (.dct M) WLd A C m (.dct M) (some (true,.lst F)) y none none))(q1:op2 (bB .Eq) (.ok .fr (.lst [B])) (.ok .fr (.lst [B]))=.ok .fz (.bl true))(q2:op2 (bB .Eq) (.ok .fr (.lst F)) (.ok .fz (.lst F))=.ok .fz (.bl true))(hq:op2 (eqN false) (.ok .fz (.dct M)) (.ok .fz (.dct M))=.ok .fz (.bl true)):evB W (bD.drop 6) [some (false,S0),some (false,N),some (false,ws),some (false,vs'),some (false,.dct M),some (false,WLd),some (false,A),some (false,C),some (false,m),none,none,none,none,none]=.rt .fz (.bl true):=by
 have hsz:sizeLine=16777216:=aQD;obtain ⟨y,fl⟩:=fl;have hl0:0<F.length:=by
  cases F with
  | nil=>simp at hF
  | cons _ _=>simp
 have dc:lP [(.fz,.dct M)]=some (.fr,.dct M):=rfl;have ea:bD.drop 6=(bD.drop 6).take 2++((bD.drop 8).take 1++([.for (.rng2 (.int 1) (.bcall .len [(.var 10)])) (.nm 11) iX]++((bD.drop 10).take 3++bD.drop 13))):=rfl;have p1:evB W ((bD.drop 6).take 2) [some (false,S0),some (false,N),some (false,ws),some (false,vs'),some (false,.dct M),some (false,WLd),some (false,A),some (false,C),some (false,m),none,none,none,none,none]=.nx (LR S0 N ws vs' (.dct M) WLd A C m (.dct M) (some (true,.lst F)) none none none):=by simp[bD,dc,cs]
 have il:lF [(Md.bo,.lst F),(.fz,.ty Ty.list.id)]=some (.fz,.bl true):=rfl;have i0:op2 ixD (.ok .bo (.lst F)) (.ok .fz (.int 0))=.ok .fz A:=d8 (bF (j:=0) hF);have l0':((F.length:Int)==0)=false:=aPC.mpr (by omega)
 have ln:fA [(Md.bo,D.lst F)]=some (.fz,.int (F.length:Int)):=rfl;have p2:evB W ((bD.drop 8).take 1) (LR S0 N ws vs' (.dct M) WLd A C m (.dct M) (some (true,.lst F)) none none none)=.nx (LR S0 N ws vs' (.dct M) WLd A C m (.dct M) (some (true,.lst F)) none none none):=by
  clear cs fl q2 hB hF
  generalize (F.length:Int)=n at *;generalize D.lst F=FL at *;simp[bD,il,ln,l0',i0,nA]
 have ei:evE W (.rng2 (.int 1) (.bcall .len [(.var 10)])) (LR S0 N ws vs' (.dct M) WLd A C m (.dct M) (some (true,.lst F)) none none none)=.ok .fz (.lst (bM 1 (F.length:Int))):=by
  have er:=rngF (n:=F.length) (by omega) (m:=.fz) (m':=.fz)
  rw[<- er]
  clear er cs fl q2 hB hF p1 p2 hl hl0
  generalize (F.length:Int)=n at *;generalize D.lst F=FL at *;simp[ln]
 have im:op2 ixD (.ok .bo (.lst F)) (.ok .fz (.int (-1)))=.ok .fz B:=d8 (aO7 hB);have tl:iO [(Md.bo,D.lst F)]=some (.fr,.lst F):=rfl;have p4:evB W ((bD.drop 10).take 3) (LR S0 N ws vs' (.dct M) WLd A C m (.dct M) (some (true,.lst F)) y none none)=.nx (LR S0 N ws vs' (.dct M) WLd A C m (.dct M) (some (true,.lst F)) y (some (false,B)) (some (false,.lst F))):=by
  clear cs fl q2 hB hF p1 p2 ei hl hl0 i0 il ln
  generalize D.lst F=FL at *;simp[bD,im,cp,ce,tl]
 have p5:evB W (bD.drop 13) (LR S0 N ws vs' (.dct M) WLd A C m (.dct M) (some (true,.lst F)) y (some (false,B)) (some (false,.lst F)))=.rt .fz (.bl true):=by
  rw[show bD.drop 13=[.app 10 (.var 6),.ret (.andL [(.cmp .Eq (.call "steps" 2 [(.var 12),(.var 9)]) (.lst [(.var 12)])),(.cmp .Eq (.call "steps" 2 [(.var 6),(.var 9)]) (.var 13)),(.deq false (.var 9) (.var 4))])] from rfl,bI,yO,bK]
  show (if F.length<sizeLine then aB.nx (List.set (LR S0 N ws vs' (.dct M) WLd A C m (.dct M) (some (true,.lst F)) y (some (false,B)) (some (false,.lst F))) 10 (some (true,.lst (F++[A])))) else .stuck).thn _=_;rw[if_pos (by omega),aB.thn_nx]
  show evB W [.ret (.andL [(.cmp .Eq (.call "steps" 2 [(.var 12),(.var 9)]) (.lst [(.var 12)])),(.cmp .Eq (.call "steps" 2 [(.var 6),(.var 9)]) (.var 13)),(.deq false (.var 9) (.var 4))])] (LR S0 N ws vs' (.dct M) WLd A C m (.dct M) (some (true,.lst (F++[A]))) y (some (false,B)) (some (false,.lst F)))=_;refine dH ?_
  clear fl hB hF p1 p2 p4 ei hl hl0 i0 il ln im tl
  generalize D.lst (F++[A])=FA at *;generalize D.lst F=FL at *;simp[cs,cs',l1,q1,q2,hq]
 rw[ea,bE,p1,aB.thn_nx,bE,p2,aB.thn_nx,bE,bI,lZ,ei,fl,aB.thn_nx,dY,aB.thn_nx,bE,p4,aB.thn_nx,p5]
theorem lawA{W:WD}{S0:D}{c0 c1 c2:Int}{L1 L2 vs':List D}{M':D}(e0:aF 2 (W.Φ "_law_cell_at") (.ok [(.fz,S0),(.fz,.int 0)])=.ok .fz (.int c0))(e1:aF 2 (W.Φ "_law_cell_at") (.ok [(.fz,S0),(.fz,.int 1)])=.ok .fz (.int c1))(e2:aF 2 (W.Φ "_law_cell_at") (.ok [(.fz,S0),(.fz,.int 2)])=.ok .fz (.int c2))(n1:aF 2 (W.Φ "_law_names") (.ok [(.fz,.int c0),(.fz,.int 7)])=.ok .fr (.lst L1))(n2:aF 2 (W.Φ "_law_names") (.ok [(.fz,.int c1),(.fz,.int 3)])=.ok .fr (.lst L2))(n3:aF 1 (W.Φ "_law_values") (.ok [(.fz,.int c2)])=.ok .fr (.lst vs'))(n4:aF 2 (W.Φ "_law_shapes") (.ok [(.fz,.lst L2),(.fz,.tup L1)])=.ok .fr M'):evB W (bD.take 5) [some (false,S0),none,none,none,none,none,none,none,none,none,none,none,none,none]=.nx [some (false,S0),some (false,.tup L1),some (false,.lst L2),some (false,.lst vs'),some (false,M'),some (false,.lst (WL.map .str)),none,none,none,none,none,none,none,none]:=by
 have ea:bD.take 5=bD.take 3++((bD.drop 3).take 1++(bD.drop 4).take 1):=rfl;have p1:evB W (bD.take 3) [some (false,S0),none,none,none,none,none,none,none,none,none,none,none,none,none]=.nx [some (false,S0),some (false,.tup L1),some (false,.lst L2),some (false,.lst vs'),none,none,none,none,none,none,none,none,none,none]:=by simp[bD,e0,e1,e2,n1,n2,n3]
 have p2:evB W ((bD.drop 3).take 1) [some (false,S0),some (false,.tup L1),some (false,.lst L2),some (false,.lst vs'),none,none,none,none,none,none,none,none,none,none]=.nx [some (false,S0),some (false,.tup L1),some (false,.lst L2),some (false,.lst vs'),some (false,M'),none,none,none,none,none,none,none,none,none]:=by simp[bD,n4]
 have g:∀ ρ,evE W (.frz (.lst [(.str "pick"),(.str "keep"),(.str "pick"),(.str "call"),(.str "join"),(.str "pick"),(.str "pour"),(.str "total"),(.str "leave"),(.str "call")])) ρ=.ok .fz (.lst (WL.map .str)):=λρ=>by rw[hG,yL];simp only[gB,f9,f7,jL];rfl
 rw[ea,bE,p1,aB.thn_nx,bE,p2,aB.thn_nx];rw[show (bD.drop 4).take 1=[.set 5 (.frz (.lst [(.str "pick"),(.str "keep"),(.str "pick"),(.str "call"),(.str "join"),(.str "pick"),(.str "pour"),(.str "total"),(.str "leave"),(.str "call")]))] from rfl,cM (g _) rfl,dY]
 rfl
theorem sll{W:WD}{ρ:Rho}{ds:List D}{e e':E}{i j:Nat}{m m':Md}(h:evE W e ρ=.ok m (.int (i:Int)))(h':evE W e' ρ=.ok m' (.int (j:Int))){m0:Md}:slP (.ok m0 (.lst ds)) (evO W (some e)) (evO W (some e')) ρ=.ok .fr (.lst (c9 ds (some (i:Int)) (some (j:Int)))):=by simp only[evO,slP,Res.thn_ok,cP,h,h']
theorem aPA(ns:List Int):∃ cs:List Int,cs.length<=9/\c9 (ns.map D.int) (some ((3:Nat):Int)) (some ((12:Nat):Int))=cs.map D.int:=by unfold c9;have e1:HT.sIx (ns.map D.int).length 0 (some ((3:Nat):Int))=min 3 (ns.map D.int).length:=HT.nE _ _ 3;have e2:HT.sIx (ns.map D.int).length (ns.map D.int).length (some ((12:Nat):Int))=min 12 (ns.map D.int).length:=HT.nE _ _ 12;rw[e1,e2,<- List.map_drop,<- List.map_take];refine ⟨_,?_,rfl⟩;rw[aQI,aQR];omega
theorem l6{W:WD}{S0:List D}{N ws vs' M' WLd A C m:D}{cs:List Int}(hc:c9 S0 (some ((3:Nat):Int)) (some ((12:Nat):Int))=cs.map D.int)(cg:aF 7 (W.Φ "_law_grown") (.ok [(.fz,.lst (cs.map .int)),(.fz,WLd),(.fz,.int 2),(.fz,ws),(.fz,M'),(.fz,N),(.fz,vs')])=.ok .fz (.tup [A,C,m])):evB W ((bD.drop 5).take 1) [some (false,.lst S0),some (false,N),some (false,ws),some (false,vs'),some (false,M'),some (false,WLd),none,none,none,none,none,none,none,none]=.nx [some (false,.lst S0),some (false,N),some (false,ws),some (false,vs'),some (false,M'),some (false,WLd),some (false,A),some (false,C),some (false,m),none,none,none,none,none]:=by
 have sl:evE W (.slice (.var 0) (some (.int 3)) (some (.int 12))) [some (false,.lst S0),some (false,N),some (false,ws),some (false,vs'),some (false,M'),some (false,WLd),none,none,none,none,none,none,none,none]=.ok .fr (.lst (cs.map .int)):=by rw[hU,bK,g_0,sll (m:=.fz) (m':=.fz) (i:=3) (j:=12) (by rw[bS];rfl) (by rw[bS];rfl),hc]
 rw[show (bD.drop 5).take 1=[.asg (.tp [(.nm 6),(.nm 7),(.nm 8)]) (.call "_law_grown" 7 [(.frz (.slice (.var 0) (some (.int 3)) (some (.int 12)))),(.var 5),(.int 2),(.var 2),(.var 4),(.var 1),(.var 3)])] from rfl]
 generalize E.slice (.var 0) (some (.int 3)) (some (.int 12))=X at *;generalize cs.map D.int=c at *;simp[sl,cg,fF]
end
def kk:Nat:=60
theorem main(ns:List Int)(hn:ns.length<=63):(WT TT (kk+1)).Φ ("law" : Str) (nP ns)=.ok .fz (.bl true):=by
 rw[u_law];refine aK rfl ?_;show evB (WT TT 60) bD [some (false,.lst (ns.map .int)),none,none,none,none,none,none,none,none,none,none,none,none,none]=_;have c0:=sW 59 ns (i:=0) (by decide)
 have c1:=sW 59 ns (i:=1) (by decide)
 have c2:=sW 59 ns (i:=2) (by decide)
 obtain ⟨N,n1,n2,n4⟩:=names 59 (ce ns 0) (n:=7) (by decide)
 obtain ⟨ws,v1,v2,v4⟩:=names 59 (ce ns 1) (n:=3) (by decide)
 obtain ⟨a,b,z,ev⟩:=aOB 58 (ce ns 2);have m1:aF 2 ((WT TT 60).Φ "_law_names") (.ok [(.fz,.int (ce ns 0)),(.fz,.int 7)])=.ok .fr (.lst (N.map .str)):=i7 (ds:=[.int (ce ns 0),.int 7]) rfl rfl n4;have m2:aF 2 ((WT TT 60).Φ "_law_names") (.ok [(.fz,.int (ce ns 1)),(.fz,.int 3)])=.ok .fr (.lst (ws.map .str)):=i7 (ds:=[.int (ce ns 1),.int 3]) rfl rfl v4;have m3:aF 1 ((WT TT 60).Φ "_law_values") (.ok [(.fz,.int (ce ns 2))])=.ok .fr (.lst [.int a,.int b,.str z]):=fM ev;have hv:Vs [.int a,.int b,.str z]:=⟨rfl,λd hd=>by
  simp only[aPP,aTG,aSW] at hd;rcases hd with rfl | rfl | rfl
  . exact .inl ⟨_,rfl⟩
  . exact .inl ⟨_,rfl⟩
  . exact .inr ⟨_,rfl⟩⟩
 obtain ⟨w0,w1,w2,rfl⟩:∃ w0 w1 w2,ws=[w0,w1,w2]:=by
  match ws,v1 with
  | [a,b,c],_=>exact ⟨a,b,c,rfl⟩
 obtain ⟨p0,p1,p2,p3,p4,p5,p6,rfl⟩:∃ p0 p1 p2 p3 p4 p5 p6,N=[p0,p1,p2,p3,p4,p5,p6]:=by
  match N,n1 with
  | [a,b,c,d,e,f,g],_=>exact ⟨a,b,c,d,e,f,g,rfl⟩
 have nd:w0≠w1/\w0≠w2/\w1≠w2:=by simp[aQG] at v2;exact ⟨v2.1.1,v2.1.2,v2.2⟩
 obtain ⟨h01,h02,h12⟩:=nd;have es:=aOI 59 (n0:=p0) (n1:=p1) (n2:=p2) (n3:=p3) (n4:=p4) (n5:=p5) (n6:=p6) h01 h02 h12;have m4:aF 2 ((WT TT 60).Φ "_law_shapes") (.ok [(.fz,.lst ([w0,w1,w2].map .str)),(.fz,Tp [p0,p1,p2,p3,p4,p5,p6])])=.ok .fr (.dct (sh3 w0 w1 w2 [p0,p1] [p1,p2] [p3,p4])):=i7 (ds:=[.lst ([w0,w1,w2].map .str),Tp [p0,p1,p2,p3,p4,p5,p6]]) rfl rfl es;obtain ⟨g0,g1,g2⟩:=aOH (S0:=[p0,p1]) (S1:=[p1,p2]) (S2:=[p3,p4]) h01 h02 h12;have hq:op2 (eqN false) (.ok .fz (.dct (sh3 w0 w1 w2 [p0,p1] [p1,p2] [p3,p4]))) (.ok .fz (.dct (sh3 w0 w1 w2 [p0,p1] [p1,p2] [p3,p4])))=.ok .fz (.bl true):=bN (by
  have:eE (sh3 w0 w1 w2 [p0,p1] [p1,p2] [p3,p4]) (sh3 w0 w1 w2 [p0,p1] [p1,p2] [p3,p4])=some true:=aBQ _ λkv hkv=>by
   simp only[sh3,aPP,aTG,aSW] at hkv;rcases hkv with rfl | rfl | rfl
   . exact ⟨g0,_,rfl⟩
   . exact ⟨g1,_,rfl⟩
   . exact ⟨g2,_,rfl⟩
  show (eE _ _).map _=_;rw[this];simp)
 generalize sh3 w0 w1 w2 [p0,p1] [p1,p2] [p3,p4]=M at *;have nd2:[p0,p1].Nodup/\[p1,p2].Nodup/\[p3,p4].Nodup:=by simp[aQG] at n2 ⊢;exact ⟨n2.1.1,n2.2.1.1,n2.2.2.2.1.1⟩
 have T:Tb M (λw=>if w=w0 then [p0,p1] else if w=w1 then [p1,p2] else [p3,p4]) [w0,w1,w2] [p0,p1,p2,p3,p4,p5,p6]:=⟨rfl,λw hw=>by
  simp only[aPP,aTG,aSW] at hw;rcases hw with rfl | rfl | rfl
  . rw[if_pos rfl];exact ⟨g0,nd2.1,rfl,by simp⟩
  . rw[if_neg (Ne.symm h01),if_pos rfl];exact ⟨g1,nd2.2.1,rfl,by simp⟩
  . rw[if_neg (Ne.symm h02),if_neg (Ne.symm h12)];exact ⟨g2,nd2.2.2,rfl,by simp⟩,n2,rfl⟩
 generalize (λw=>if w=w0 then [p0,p1] else if w=w1 then [p1,p2] else [p3,p4])=S at *;have e1:=lawA c0 c1 c2 m1 m2 m3 m4;obtain ⟨cs,lc,hc⟩:=aPA ns;obtain ⟨q,mm,gr,eg⟩:=grown 54 T hv rfl lc;have e2:=l6 (W:=WT TT 60) (S0:=ns.map .int) hc (aBP eg);have r1:=gr.hw;have r2:=gr.po;have okq:=gr.ok;have st:=aB8 okq (by omega) 60 (by omega)
 obtain ⟨rt,er⟩:=uM (S:=S) (n:=po q) (a:=q);have all:=aCA (S:=S) (M:=M) (vs:=[.int a,.int b,.str z]) (po q) q okq;obtain ⟨bl,hbl⟩:∃ bl,(a9 S (po q) q).getLast? = some bl:=by rw[er];exact ⟨_,List.getLast?_eq_some_getLast (by simp)⟩
 have nl:=aCC (po q) q okq (aP8 _) bl hbl;obtain ⟨ok1,co1,hw1,po1⟩:=all bl (List.mem_of_getLast? hbl);have sl:(WT TT 60).Φ "steps" [aD bl,.dct M]=.ok .fr (.lst [aD bl]):=by
  have:=aB8 ok1 (by omega) 60 (by omega)
  rw[aO6 nl] at this;exact this
 have s1:(WT TT 60).Φ "step" [aD bl,.dct M]=.ok .fz .non:=by
  have:=aCE ok1 (K:=60) (by omega)
  rw[nl] at this;exact this
 have se:=eX bl ok1 nl (by omega) 60 (by omega)
 have dq:∀ c∈a9 S (po q) q,Dp 44 (aD c):=λc hc=>by obtain ⟨x1,x2,x3,x4⟩:=all c hc;exact (eW hv c x1).mono (by omega)
 have lr:(a9 S (po q) q).length<=5000:=by
  have:∀ (n:Nat) (a:Aq),(a9 S n a).length<=n+1:=λn=>by
   induction n with
   | zero=>intro a;exact aP8 _
   | succ n ih =>
    intro a;show (match stp S a with | some b=>a::a9 S n b | none=>[a]).length<=n+1+1
    cases stp S a with
    | none=>simp
    | some b=>rw[aRF];exact aTF (ih b)
  have:=this (po q) q;omega
 have dF:Dp 45 (.lst ((a9 S (po q) q).map aD)):=aCD λd hd=>by obtain ⟨c,hc,rfl⟩:=aTB.mp hd;exact dq c hc
 have fl : ∃ y, cJ (.ok .fz (.lst (bM 1 (((a9 S (po q) q).map aD).length : Int)))) (LR (.lst (ns.map .int)) (Tp [p0, p1, p2, p3, p4, p5, p6]) (.lst ([w0, w1, w2].map .str)) (.lst [.int a, .int b, .str z]) (.dct M) (.lst (WL.map .str)) (aD q) (Tp (co S q)) (.int mm) (.dct M) (some (true, .lst ((a9 S (po q) q).map aD))) none none none) (aI (.nm 11)) (evB (WT TT 60) iX)
     = .nx (LR (.lst (ns.map .int)) (Tp [p0,p1,p2,p3,p4,p5,p6]) (.lst ([w0,w1,w2].map .str)) (.lst [.int a,.int b,.str z]) (.dct M) (.lst (WL.map .str)) (aD q) (Tp (co S q)) (.int mm) (.dct M) (some (true,.lst ((a9 S (po q) q).map aD))) y none none):=by
  obtain ⟨ρ',e,y,rfl⟩:=pK (k:=aI (.nm 11)) (body:=evB (WT TT 60) iX) (ds:=bM 1 (((a9 S (po q) q).map aD).length:Int)) (ρ:=LR (.lst (ns.map .int)) (Tp [p0,p1,p2,p3,p4,p5,p6]) (.lst ([w0,w1,w2].map .str)) (.lst [.int a,.int b,.str z]) (.dct M) (.lst (WL.map .str)) (aD q) (Tp (co S q)) (.int mm) (.dct M) (some (true,.lst ((a9 S (po q) q).map aD))) none none none)
   (λρ=>∃ y,ρ=LR (.lst (ns.map .int)) (Tp [p0,p1,p2,p3,p4,p5,p6]) (.lst ([w0,w1,w2].map .str)) (.lst [.int a,.int b,.str z]) (.dct M) (.lst (WL.map .str)) (aD q) (Tp (co S q)) (.int mm) (.dct M) (some (true,.lst ((a9 S (po q) q).map aD))) y none none)
   (λd hd ρ hρ=>by
    obtain ⟨y,rfl⟩:=hρ;obtain ⟨j,hj,rfl⟩:=aO9 hd;rw[aQR] at hj;have j1:(a9 S (po q) q)[j]? = some (a9 S (po q) q)[j]:=aR1 (by omega)
    have j2:(a9 S (po q) q)[j+1]? = some (a9 S (po q) q)[j+1]:=aR1 hj;have sp:=aCB (po q) q j _ _ j1 j2;have m1':=aR2 (l:=a9 S (po q) q) (n:=j) (by omega)
    have m2':=aR2 (l:=a9 S (po q) q) (n:=j+1) hj;generalize (a9 S (po q) q)[j]=u at *;generalize (a9 S (po q) q)[j+1]=v at *;obtain ⟨x1,x2,x3,x4⟩:=all u m1';obtain ⟨y1,y2,y3,y4⟩:=all v m2';have k1:=aCE x1 (K:=60) (by omega)
    rw[sp] at k1;have k2:=jC v y1 60 (by omega)
    rw[y2] at k2
    exact ⟨_,_,rfl,aO8 (x:=aD u) (y:=aD v) (by rw[aQN,j1];rfl) (by rw[aQN,j2];rfl) (aR k1) (aR k2) (uN (dq v m2') (by decide)) (uN (pS (n:=0)) (by decide)),_,rfl⟩)
   ⟨none,rfl⟩
  exact ⟨y,e⟩
 have e3:=lawD (M:=M) (W:=WT TT 60) (S0:=.lst (ns.map .int)) (N:=Tp [p0,p1,p2,p3,p4,p5,p6]) (ws:=.lst ([w0,w1,w2].map .str)) (vs':=.lst [.int a,.int b,.str z]) (WLd:=.lst (WL.map .str)) (A:=aD q) (C:=Tp (co S q)) (m:=.int mm) (B:=aD bl) (F:=(a9 S (po q) q).map aD) rfl (i7 (ds:=[aD q,.dct M]) rfl rfl st) (i7 (ds:=[aD bl,.dct M]) rfl rfl sl) (aR s1) (aR se) (by rw[er];rfl) (by rw[List.getLast?_map,hbl];rfl) (by rw[aQR];omega) (uN (dq q (by rw[er];simp)) (by decide)) fl (aBJ (aCD (n:=44) λd hd=>by rw[aSI] at hd;subst hd;exact dq bl (List.mem_of_getLast? hbl)) (by decide)) (aBJ dF (by decide)) hq
 have ea:bD=bD.take 5++((bD.drop 5).take 1++bD.drop 6):=rfl;rw[ea,bE,e1,aB.thn_nx,bE,e2,aB.thn_nx];exact e3
end K62
namespace K62
open PySem PySem.W Tp
theorem tw:Prod.fst (true,PySem.Challenge.pw_whencewise_k62_settled)=true:=by k_qdec
def as:List Addr:=[2,3,15,22,23,24,25,28,35,36,37,40,47,48,49,52,59,60,61,64,71,72,73,76,78,79,81,82,83,86,87,88,90,91,93,94,95,97,98,100,101,102,104,105,107,108,109,111,112,114,115,116,118,119,121,122,123,125,126,128,129,130,132,133,135,136,137,139,140,142,143,144,146,147,149,150,151,153,154,156,157,158,160,161,163,164,165,168,169,170,172,173,175,176,177,179,180,182,183,184,185,188,189,190,192,193,195,196,197,199,200,202,203,204,206,207,209,210,211,213,214,216,217,218,220,221,223,224,225,227,228,230,231,232,234,235,237,238,239,242,243,244,246,247,249,250,251,253,254,256,257,258,261,262,263,265,266,268,269,270,272,273,275,276,277,279,280,282,283,284,286,287,289,290,291,293,294,296,297,298,300,301,303,304,305,307,308,310,311,312,315,316,317,319,320,322,323,324,327,328,329,331,332,334,335,336,339,340,341,343,344,346,347,348,350,351,353,354]
theorem pre(w:World)(os:OsState):topGo treeTable PySem.Challenge.pw_whencewise_k62_settled w 11 an 12 ⟨boot_heap w.params,#[],boot_drawn,boot_toks,os⟩ (topStub PySem.Challenge.pw_whencewise_k62_settled)=some ((sh w.params (sA w.params) 15 187 os).abs,⟨denote treeTable (cd PySem.Challenge.pw_whencewise_k62_settled),cd PySem.Challenge.pw_whencewise_k62_settled,z0,[topFrame z0]⟩):=by
 rw[Fast.te6633317633115497640,Fast.te203182992438928480,Fast.te13144403056285818395,Fast.te15667345088766844465,Fast.te14364793385576792824,Fast.te11892475500146522536]
 kernel_rfl
theorem blk(w:World)(s:Shared):segRun treeTable PySem.Challenge.pw_whencewise_k62_settled w 11 an 1 1 s (blockOf PySem.Challenge.pw_whencewise_k62_settled.main.body (ev PySem.Challenge.pw_whencewise_k62_settled) (cd PySem.Challenge.pw_whencewise_k62_settled) z0 [topFrame z0])=some (.next,s,cd PySem.Challenge.pw_whencewise_k62_settled,z0):=by kernel_rfl
theorem run(w:World)(os:OsState):go treeTable PySem.Challenge.pw_whencewise_k62_settled w 1000 PySem.Challenge.pw_whencewise_k62_settled.main.body (sh w.params (sA w.params) 15 187 os) (cd PySem.Challenge.pw_whencewise_k62_settled) z0=some (sh w.params (lay w.params PySem.Challenge.pw_whencewise_k62_settled.main.body (sA w.params)) 355 685 os,cd PySem.Challenge.pw_whencewise_k62_settled,⟨291,0,310,144⟩) :=
 byRow2 "special-get-raises" (P:=λw=>∀ os:OsState,go treeTable PySem.Challenge.pw_whencewise_k62_settled w 1000 PySem.Challenge.pw_whencewise_k62_settled.main.body (sh w.params (sA w.params) 15 187 os) (cd PySem.Challenge.pw_whencewise_k62_settled) z0=some (sh w.params (lay w.params PySem.Challenge.pw_whencewise_k62_settled.main.body (sA w.params)) 355 685 os,cd PySem.Challenge.pw_whencewise_k62_settled,⟨291,0,310,144⟩))
  (λw os=>by
   rw[Fast.te6633317633115497640,Fast.te203182992438928480,Fast.te13144403056285818395,Fast.te5678740263434597267,Fast.te14364793385576792824,Fast.te10212481707522018265]
   kernel_rfl)
  (λw os=>by
   rw[Fast.te6633317633115497640,Fast.te203182992438928480,Fast.te13144403056285818395,Fast.te5678740263434597267,Fast.te14364793385576792824,Fast.te10212481707522018265]
   kernel_rfl) w os
def tabs:=@D3.aMQ K62.GG (KK PySem.Challenge.pw_whencewise_k62_settled.main.body as) "DEEDS" [("pick", "columns_of_pick"),("keep", "columns_of_keep"),("call", "columns_of_call"),("join", "columns_of_join"),("pour", "columns_of_pour"),("total", "columns_of_total"),("leave", "columns_of_leave")] (by decide +kernel) (λP=>by kernel_rfl) (λP=>by kernel_rfl) (by decide) (by decide)
theorem uO(w:World):(λos=>((staticsOk (importedModules PySem.Challenge.pw_whencewise_k62_settled.main.body) (boot_heap w.params) (H1 PySem.Challenge.pw_whencewise_k62_settled.main.body 355 w.params)&&namesBound PySem.Challenge.pw_whencewise_k62_settled (H1 PySem.Challenge.pw_whencewise_k62_settled.main.body 355 w.params)&&gensDone (S1 PySem.Challenge.pw_whencewise_k62_settled.main.body 355 685 w.params os)&&laidKept (boot_heap w.params) (H1 PySem.Challenge.pw_whencewise_k62_settled.main.body 355 w.params)),openSeen (vw PySem.Challenge.pw_whencewise_k62_settled) (los PySem.Challenge.pw_whencewise_k62_settled.main.body) (importedModules PySem.Challenge.pw_whencewise_k62_settled.main.body) (xt PySem.Challenge.rw_whencewise_k62_settled.row) true (S1 PySem.Challenge.pw_whencewise_k62_settled.main.body 355 685 w.params os),(hk PySem.Challenge.pw_whencewise_k62_settled.main.body as).obs (S1 PySem.Challenge.pw_whencewise_k62_settled.main.body 355 685 w.params os)))=λ_=>(true,openGood (vw PySem.Challenge.pw_whencewise_k62_settled) (los PySem.Challenge.pw_whencewise_k62_settled.main.body),(hk PySem.Challenge.pw_whencewise_k62_settled.main.body as).val w):=by
 rw[Fast.te14387180822208032119,Fast.te6633317633115497640,Fast.te5923862056798008813,Fast.te9407923862454927560,Fast.te15884229538025494872,Fast.te4187177175401517315,Fast.te18076920544200396443,Fast.te9318435048543301240,Fast.te17808466708180730929,Fast.te2368527892694137696]
 kernel_rfl
theorem gf(P:Params):D3.l6 (KK PySem.Challenge.pw_whencewise_k62_settled.main.body as P) GG TT=true:=by
 kernel_rfl
abbrev dl:DefRec:=⟨"law", L2.nK sP,L2.jG sP,L2.eL sP,⟨291,0,310,144⟩⟩
end K62
open PySem PySem.W PyProof.Rows
set_option maxRecDepth 100000 in
set_option maxHeartbeats 0 in
theorem PySem.Challenge.cw_whencewise_k62_settled_holds : PySem.Challenge.rw_whencewise_k62_settled.Holds := by
 w_on;o_law
 exact Tp.head (p:=PySem.Challenge.rw_whencewise_k62_settled) (d:=K62.dl) (Tp.left (by kernel_rfl) K62.pre K62.blk K62.run (by kernel_rfl) (by kernel_rfl) (λ_=>by kernel_rfl) K62.uO) (by assumption) (by kernel_rfl) (by kernel_rfl) rfl rfl (by decide +kernel) ⟨rfl,rfl,rfl,rfl,rfl,by decide +kernel⟩ (by w_witness2)
  (D3.walkG (K:=Tp.KK PySem.Challenge.pw_whencewise_k62_settled.main.body K62.as) (kk:=K62.kk) (e:=K62.sO) rfl rfl rfl (λw h Y=>PySem.W.kIn_of Y) K62.gf K62.tabs rfl rfl ⟨rfl,by decide,by decide⟩ K62.main)
