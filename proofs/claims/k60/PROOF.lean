import PyProof.Rows.All
import Wide.All
import OpenK.AllK
import Wide.FinOn
import Lean
import PyProof.EqAt
import PyProof.EqKinds
import PyProof.TupleCall
import PySem.Challenge.RW_whencewise_k60_a_step
set_option linter.all false
section
open PySem PySem.Spec PyProof.Rows
def aMM:=@decide_eq_false
def aMN:=@beq_eq_false_iff_ne
def aMO:=@PySem.Paired.length
def aMP:=@Option.some.inj
def aMQ:=@PySem.Heap.get?_push_size
def aMR:=@PySem.Heap.lt_size
def aMS:=@Nat.lt_of_lt_of_le
def aMT:=@Nat.lt_irrefl
def aMU:=@Nat.ne_of_lt
def aMV:=@PySem.W.hideAll_get
def aMW:=@List.mem_filter
def aMX:=@List.mem_range
def aMY:=@Nat.le_trans
def aMZ:=@List.filterMap_cons
def aM0:=@List.mem_cons
def aM1:=@List.mem_append
def aM2:=@List.mem_append_left
def aM3:=@List.getElem?_eq_some_iff
def aM4:=@List.getElem_inj
def aM5:=@List.getElem?_set_self
def aM6:=@List.getElem?_set_ne
def aM7:=@PySem.wpAny_mono
def aM8:=@PySem.wpAny_truthy_bool
def aM9:=@Array.length_toList
def aNA:=@PySem.wpAny_bind
def aNB:=@PySem.wpAny_standAt
def aNC:=@PySem.wpAny_pure
def aND:=@PySem.wpAny_newObj_type
def aNE:=@PySem.wpAny_rule
def aNF:=@Nat.ne_of_gt
def aNG:=@PySem.wpAny_pyIter_list
def aNH:=@Nat.le_refl
def aNI:=@PySem.wpAny_pyIter_tuple
def aNJ:=@PyProof.Rows.callWith_type1
def aNK:=@List.mem_filterMap
def aNL:=@List.mem_append_right
def aNM:=@PySem.wpAny_passesOwn
def aNN:=@PySem.sizeLine_eq
def aNO:=@List.size_toArray
def aNP:=@List.append_nil
def aNQ:=@List.nodup_cons
def aNR:=@List.of_mem_zip
def aNS:=@List.length_take
def aNT:=@PySem.mem_of_lookup
def aNU:=@List.getElem?_append_right
def aNV:=@List.getElem?_replicate
def aNW:=@List.getElem?_append_left
def aNX:=@List.getElem?_map
def aNY:=@List.take_sublist
def aNZ:=@List.mem_of_getElem?
def aN0:=@List.length_append
def aN1:=@List.length_map
def aN2:=@PySem.wpAny_Call_Name_kw
def aN3:=@PySem.concat_meets
def aN4:=@PySem.noFill_tuple_add
def aN5:=@PySem.F.slot_tuple_add
def aN6:=@PySem.F.entry_tuple_add
def aN7:=@PySem.F.args_tuple_add_2
def aN8:=@Int.toNat_natCast
def aN9:=@if_false
def aOA:=@if_true
def aOB:=@PySem.wpAny_field
def aOC:=@List.length_drop
def aOD:=@PySem.wpAny_holding
def aOE:=@PySem.wpAny_callSpecial?_slot
def aOF:=@PyProof.Rows.slot_tuple_getitem
def aOG:=@PySem.wpAny_call_entry
def aOH:=@PySem.wpAny_typeOf
def aOI:=@Bool.and_eq_true
def aOJ:=@Option.getD_none
def aOK:=@Bool.false_ne_true
def aOL:=@List.all_cons
def aOM:=@List.any_cons
def aON:=@List.length_singleton
def aOO:=@List.find?_cons
def aOP:=@decide_eq_true
def aOQ:=@List.length_cons
def aOR:=@List.map_cons
def aOS:=@Option.isSome_map
def aOT:=@PySem.tupleKind_room_in1
def aOU:=@PySem.wpAny_specialOf
def aOV:=@Nat.zero_le
def aOW:=@decide_eq_true_eq
def aOX:=@of_decide_eq_true
def aOY:=@Bool.or_eq_true
def aOZ:=@Array.all_eq_true_iff_forall_mem
def aO0:=@Array.mem_toList_iff
def aO1:=@PySem.wpAny_getItem_str_slice
def aO2:=@PySem.post_val_or_str
def aO3:=@PySem.Txt.slice_le
def aO4:=@List.replicate_succ
def aO5:=@List.foldl_cons
def aO6:=@Bool.or_eq_false_iff
def aO7:=@beq_iff_eq
def aO8:=@PySem.W.kia_one
def aO9:=@Bool.eq_iff_iff
def aPA:=@List.all_eq_true
def aPB:=@List.getD_eq_getElem?_getD
def aPC:=@List.getElem?_eq_getElem
def aPD:=@List.getElem_mem
def aPE:=@List.length_set
def aPF:=@List.getElem?_set
def aPG:=@Option.map_some
def aPH:=@List.drop_eq_getElem_cons
def aPI:=@List.drop_length
def aPJ:=@List.forIn_nil
def aPK:=@List.forIn_cons
def aPL:=@LawfulMonad.pure_bind
def aPM:=@List.lookup_cons
def aPN:=@beq_self_eq_true
def aPO:=@Bool.false_eq_true
def aPP:=@PySem.Heap.size_push
def aPQ:=@Nat.lt_succ_of_lt
def aPR:=@List.drop_zero
def aPS:=@List.take_of_length_le
def aPT:=@Nat.zero_add
def aPU:=@List.mem_singleton
def aPV:=@not_or
def aPW:=@PySem.F.slot_tuple_iterator_next
def aPX:=@PySem.F.entry_tuple_iterator_next
def aPY:=@PySem.F.args_tuple_iterator_next_1
def aPZ:=@PySem.wpAny_seqItems
def aP0:=@PySem.wpAny_setField_rec
def aP1:=@PySem.wpAny_onRaise
def aP2:=@PySem.wpAny_updateSeq_pair
def aP3:=@PySem.wpAny_attempt
def aP4:=@PySem.F.slot_zip_next
def aP5:=@PySem.F.entry_zip_next
def aP6:=@PySem.F.args_zip_next_1
def aP7:=@PySem.wpAny_isInstance
def aP8:=@List.mem_nil_iff
def aP9:=@or_false
def aQA:=@PySem.wpAny_pyIter_enum
def aQB:=@List.take_length
def aQC:=@PySem.W.mg_of
def aQD:=@PySem.codeAny_builtin
def aQE:=@PySem.Around.under_plainId
def aQF:=@Array.getElem?_eq_none_iff
def aQG:=@Array.getElem?_eq_getElem
def aQH:=@bne_iff_ne
def aQI:=@List.contains_iff_mem
def aQJ:=@Nat.lt_of_le_of_lt
def aQK:=@Nat.add_le_add_left
def aQL:=@Bool.not_eq_true'
def aQM:=@List.mem_map
def aQN:=@List.getElem?_cons_succ
def aQO:=@List.map_append
def aQP:=@List.not_mem_nil
def aQQ:=@List.mem_of_mem_take
def aQR:=@Nat.pow_le_pow_right
end
abbrev VSP := PySem.Value -> PySem.Shared -> Prop
abbrev Fg := PySem.W.Frag
abbrev LAO := List (PySem.Addr × PySem.Obj)
abbrev SOV := PySem.Str -> Option PySem.Value
theorem mcm {α : Type} {a b : α} {l : List α} (h : a ∈ l) : a ∈ b :: l := List.mem_cons_of_mem _ h
theorem mcs {α : Type} {a : α} {l : List α} : a ∈ a :: l := List.mem_cons_self
theorem hps {h : PySem.Heap} {o p : PySem.Obj} {b : PySem.Addr} (e : h.get? b = some o) : (h.push p).get? b = some o := PySem.Heap.get?_push_of_some _ e
set_option Elab.async false
set_option linter.all false
set_option maxRecDepth 100000
namespace L2
open PySem PySem.Spec PyProof.Rows
abbrev Key:=Sum Int Str
def iR:Key->Value->Bool
 | .inl k,v=>Value.isInt k v
 | .inr x,v=>Value.isStrOf x v
def keyH(w:World):Key->Int
 | .inl k=>hashInt k
 | .inr x=>hashStr w x
theorem fE:∀ {k:Key} {v:Value},iR k v=true->(∃ i t,k=Sum.inl i/\v=Value.int i t)\/(∃ x t,k=Sum.inr x/\v=Value.str x t)
 | .inl i,v,h=>by obtain ⟨t,e⟩:=Value.isInt_shape (k:=i) (v:=v) h;exact .inl ⟨i,t,rfl,e⟩
 | .inr x,v,h=>by obtain ⟨t,e⟩:=Value.isStrOf_shape (x:=x) (v:=v) h;exact .inr ⟨x,t,rfl,e⟩
theorem aAG(i:Int)(t:Tok):iR (.inl i) (.int i t)=true:=by simp[iR,Value.isInt]
theorem aAH(x:Str)(t:Tok):iR (.inr x) (.str x t)=true:=by simp[iR,Value.isStrOf]
theorem aAI(a b:Int):decide ((Sum.inl a:Key)=Sum.inl b)=(a==b):=by
 by_cases e:a=b
 . subst e;simp
 . have h:¬ (Sum.inl a:Key)=Sum.inl b:=λq=>e (Sum.inl.inj q);rw[aMM h];exact (aMN.mpr e).symm
theorem aAJ(a b:Str):decide ((Sum.inr a:Key)=Sum.inr b)=decide (a=b):=by
 by_cases e:a=b
 . subst e;simp
 . have h:¬ (Sum.inr a:Key)=Sum.inr b:=λq=>e (Sum.inr.inj q);rw[aMM h,aMM e]
theorem aAK(a:Int)(b:Str):decide ((Sum.inl a:Key)=Sum.inr b)=false:=aMM (λq=>nomatch q)
theorem aAL(a:Str)(b:Int):decide ((Sum.inr a:Key)=Sum.inl b)=false:=aMM (λq=>nomatch q)
def bO(prog:Program)(w:World):PySem.KeyKind prog w Key where
 is:=iR
 hash:=keyH w
 inj:=λv a b ha hb=>by
  rcases fE ha with ⟨i,t,rfl,rfl⟩ | ⟨x,t,rfl,rfl⟩
  . rcases fE hb with ⟨j,u,rfl,e⟩ | ⟨y,u,rfl,e⟩
    . injection e with e1 _;rw[e1]
    . exact nomatch e
  . rcases fE hb with ⟨j,u,rfl,e⟩ | ⟨y,u,rfl,e⟩
    . exact nomatch e
    . injection e with e1 _;rw[e1]
 byValue:=λk v h=>by rcases fE h with ⟨i,t,rfl,rfl⟩ | ⟨x,t,rfl,rfl⟩ <;> rfl
 pyHash:=λhv h=>by
  rcases fE hv with ⟨i,t,rfl,rfl⟩ | ⟨x,t,rfl,rfl⟩
  . exact wpAny_pyHash_int h
  . exact wpAny_pyHash_str h
 eqBool:=λhu hv h=>by
  rcases fE hu with ⟨i,t,rfl,rfl⟩ | ⟨x,t,rfl,rfl⟩
  . rcases fE hv with ⟨j,u,rfl,rfl⟩ | ⟨y,u,rfl,rfl⟩
    . rw[aAI] at h;exact wpAny_eqBool_int h
    . rw[aAK] at h;exact SeqAt.EqAt.int_str i t y u _ _ _ _ h
  . rcases fE hv with ⟨j,u,rfl,rfl⟩ | ⟨y,u,rfl,rfl⟩
    . rw[aAL] at h;exact SeqAt.EqAt.str_int x t j u _ _ _ _ h
    . rw[aAJ] at h;exact wpAny_eqBool_str h
 «strs»:=λk x t v h=>by
  rcases fE h with ⟨i,u,rfl,e⟩ | ⟨y,u,rfl,e⟩
  . exact nomatch e
  . injection e with e1 _
    subst e1;cases v <;> rfl
theorem aAM(prog:Program)(w:World)(i:Int)(t:Tok):(bO prog w).is (.inl i) (.int i t)=true:=aAG i t
theorem aAN(prog:Program)(w:World)(x:Str)(t:Tok):(bO prog w).is (.inr x) (.str x t)=true:=aAH x t
inductive V where
 | non | bl (b:Bool) | int (i:Int) | str (x:Str) | byt (b:Array UInt8) | flt (b:UInt64) | ref (a:Addr) | ty (n:String)
 deriving DecidableEq
def aN:V->Value->Prop
 | .non,u=>u=Value.none
 | .bl b,u=>u=Value.bool b
 | .int i,u=>∃ t,u=Value.int i t
 | .str x,u=>∃ t,u=Value.str x t
 | .byt b,u=>∃ t,u=Value.bytes b t
 | .flt b,u=>∃ t,u=Value.float b t
 | .ref a,u=>u=Value.ref a
 | .ty n,u=>u=Value.type n
abbrev aO:List V->List Value->Prop:=Paired aN
theorem aO.length{xs:List V}{us:List Value}(r:aO xs us):xs.length=us.length:=aMO r
theorem aO.get:∀ {xs:List V} {us:List Value} {i:Nat} {x:V},aO xs us->xs[i]? = some x->∃ u,us[i]? = some u/\aN x u
 | _,_,_,_,.nil,e=>by simp at e
 | _,_,0,_,.cons r _,e=>by simp at e;subst e;exact ⟨_,rfl,r⟩
 | _,_,i+1,x,.cons _ t,e=>by
  obtain ⟨u,h1,h2⟩:=aO.get (i:=i) (x:=x) t (by simpa using e)
  exact ⟨u,by simpa using h1,h2⟩
theorem aO.append:∀ {xs ys:List V} {us ws:List Value},aO xs us->aO ys ws->aO (xs++ys) (us++ws)
 | _,_,_,_,.nil,s=>s
 | _,_,_,_,.cons r t,s=>.cons r (aO.append t s)
theorem aO.take:∀ {xs:List V} {us:List Value} (n:Nat),aO xs us->aO (xs.take n) (us.take n)
 | _,_,0,_=>.nil
 | _,_,_+1,.nil=>.nil
 | _,_,n+1,.cons r t=>.cons r (aO.take n t)
theorem aO.drop:∀ {xs:List V} {us:List Value} (n:Nat),aO xs us->aO (xs.drop n) (us.drop n)
 | _,_,0,r=>r
 | _,_,_+1,.nil=>.nil
 | _,_,n+1,.cons _ t=>aO.drop n t
def dF:Option V->Option Value->Prop
 | some v,some u=>aN v u
 | none,none=>True
 | _,_=>False
def KV{κ:Type}:List (κ×V)->List (κ×Value)->Prop:=Paired λ(p:κ×V) (q:κ×Value)=>p.1=q.1/\aN p.2 q.2
def kV:Key->V
 | .inl i=>.int i
 | .inr x=>.str x
inductive HO where
 /-- a list -/
 | lst (xs:List V)
 /-- a tuple (never changes) -/
 | tup (xs:List V)
 /-- a dict whose keys are ints and texts;one whose keys are tuples of ints and texts (the empty one is both) -/
 | dK (kvs:List (Key×V)) | dT (kvs:List (List Key×V))
 /-- a set of ints: its members,its size -/
 | set (S:Key->Bool) (n:Nat)
 /-- an instance of the class at C,its dict at dx,its attributes -/
 | ins (C dx:Addr) (fs:List (Str×V))
 /-- the dict of the instance at x -/
 | own (x:Addr)
 /-- the dict of an exception -/
 | xd (fs:List (Str×V))
 /-- a bound method,f of x -/
 | met (f x:Addr)
 /-- a range object lo,lo+1,.. below hi -/
 | rng (lo hi:Int)
 /-- a thing that is known to the object (the script;a dict while a loop walks it): read,never written while it is so -/
 | frz (o:Obj) (u:HO)
 /-- a code object's table -/
 | tbl (ps:Array Value)
 /-- any other thing,by what is true of its one object (a def of one's own: SetO a S n:=HO.ext λh=>..) -/
 | ext (φ:Heap->Prop)
abbrev Hp:=Addr->Option HO
def upd(H:Hp)(a:Addr)(o:HO):Hp:=λb=>if b=a then some o else H b
theorem bU{H:Hp}{a:Addr}{o:HO}:upd H a o a=some o:=by unfold upd;rw[if_pos rfl]
theorem aR{H:Hp}{a b:Addr}{o:HO}(h:b≠a):upd H a o b=H b:=by unfold upd;rw[if_neg h]
theorem ne_of{H:Hp}{a b:Addr}{o u:HO}(h:H a=some o)(h':H b=some u)(d:o≠u):a≠b:=by intro e;subst e;rw[h] at h';exact d (aMP h')
theorem cJ{H:Hp}{a b:Addr}{o:HO}(h:H a=some o)(h':H b=none):a≠b:=by intro e;subst e;rw[h] at h';cases h'
def fF(h:Heap)(a:Addr)(items:Array Value):Prop:=∃ o,h.get? a=some o/\o.cls=.type "tuple" /\ o.dict=none/\∃ n,o.data=.seq items n
theorem fF.isTup{h:Heap}{a:Addr}{items:Array Value}(x:fF h a items):IsTup h a items:=by obtain ⟨o,e,c,_,n,d⟩:=x;exact ⟨o,e,c,n,d⟩
theorem fF.new(h:Heap)(items:Array Value):fF (h.push { cls:=.type "tuple", data:=.seq items }) h.objs.size items:=⟨_,aMQ _ rfl,rfl,rfl,_,rfl⟩
section
variable (P:Program)(w:World)
def bR(H:Hp)(h:Heap)(a:Addr):HO->Prop
 | .lst xs=>xs.length<=sizeLine/\∃ (its:List Value) (n:Nat),aO xs its/\h.get? a=some { cls:=.type "list", data:=.seq its.toArray n }
 | .tup xs=>xs.length<=sizeLine/\∃ its:List Value,aO xs its/\fF h a its.toArray
 | .dK kvs=>kvs.length<=sizeLine/\(a==sysModules)=false/\∃ vs,KV kvs vs/\h.DictOf (bO P w) a vs
 | .dT kvs => kvs.length ≤ sizeLine ∧ (a == sysModules) = false ∧ ∃ xs : List (List Key × Addr × Value),
     Paired (λ(p:List Key×V) (q:List Key×Addr×Value)=>p.1=q.1/\H q.2.1=some (.tup (p.1.map kV))/\aN p.2 q.2.2) kvs xs /\
     ∃ o es ep,h.get? a=some o/\o.ExactDict/\o.data=.dict es ep/\es.toList=xs.map (entryOfKey (tupleKind (bO P w)))/\(xs.map (·.1)).Nodup
 | .set S n=>h.SetOf (bO P w) a S n
 | .ins C dx fs => H dx = some (.own a) ∧ fs.length ≤ 1000 ∧ dx ≠ a ∧ h.get? a = some (PySem.W.instObj C dx) ∧
     ∃ mA,h.Ns1 dx mA/\(∀ f,dF (fs.lookup f) (mA f))/\PySem.Within mA (fs.map (·.1))
 | .own _=>∃ o,h.get? a=some o
 | .xd fs=>∃ mA,h.Ns1 a mA/\∀ f,dF (fs.lookup f) (mA f)
 | .rng lo hi=>∃ t u v,h.get? a=some { cls:=.type "range", data:=.fields #[.int lo t,.int hi u,.int 1 v] }
 | .frz o u=>h.get? a=some o/\bR H h a u
 | .tbl ps=>h.get? a=some { cls:=.none,data:=.fields ps }
 | .met f x=>h.get? a=some (PySem.W.methodObj (.ref f) (.ref x))
 | .ext φ=>φ h/\(∃ o,h.get? a=some o)/\∀ h1 h2:Heap,φ h1->(∀ o,h1.get? a=some o->h2.get? a=some o)->φ h2
def HOk(H:Hp)(h:Heap):Prop:=∀ a o,H a=some o->bR P w H h a o
end
section
variable {P:Program}{w:World}{H H':Hp}{h h':Heap}{a:Addr}{o:HO}
theorem bR.lt(x:bR P w H h a o):a<h.objs.size:=by
 cases o with
 | lst xs=>obtain ⟨_,_,_,_,e⟩:=x;exact aMR e
 | tup xs=>obtain ⟨_,_,_,p⟩:=x;exact p.isTup.lt
 | dK kvs=>obtain ⟨_,_,_,_,o,_,_,e,_⟩:=x;exact aMR e
 | dT kvs=>obtain ⟨_,_,_,_,o,_,_,e,_⟩:=x;exact aMR e
 | set S n=>obtain ⟨o,_,_,_,e,_⟩:=x;exact aMR e
 | ins C dx fs=>obtain ⟨_,_,_,e,_⟩:=x;exact aMR e
 | own y=>obtain ⟨_,e⟩:=x;exact aMR e
 | xd fs=>obtain ⟨_,⟨_,_,_,e,_⟩,_⟩:=x;exact aMR e
 | rng lo hi=>obtain ⟨_,_,_,e⟩:=x;exact aMR e
 | frz ob u=>obtain ⟨e,_⟩:=x;exact aMR e
 | tbl ps=>exact aMR (show h.get? a=some _ from x)
 | met f y=>exact aMR (show h.get? a=some _ from x)
 | ext φ=>obtain ⟨_,⟨_,e⟩,_⟩:=x;exact aMR e
theorem Paired.mapP{α β:Type}{F G:α->β->Prop}:∀ {l₁:List α} {l₂:List β},Paired F l₁ l₂->(∀ a b,F a b->G a b)->Paired G l₁ l₂
 | _,_,.nil,_=>.nil
 | _,_,.cons r t,f=>.cons (f _ _ r) (Paired.mapP t f)
theorem bR.stay(x:bR P w H h a o)(k:∀ b u,(b=a\/H b=some (.own a))->h.get? b=some u->h'.get? b=some u)(ho:∀ b,H b=some (.own a)->H' b=some (.own a))(ht:∀ b xs,H b=some (.tup xs)->H' b=some (.tup xs)):bR P w H' h' a o:=by
 induction o with
 | lst xs=>obtain ⟨z,its,n,r,e⟩:=x;exact ⟨z,its,n,r,k _ _ (.inl rfl) e⟩
 | tup xs=>obtain ⟨z,its,r,ob,e,c⟩:=x;exact ⟨z,its,r,ob,k _ _ (.inl rfl) e,c⟩
 | dK kvs=>obtain ⟨z,y,vs,r,ob,es,ep,e,c⟩:=x;exact ⟨z,y,vs,r,ob,es,ep,k _ _ (.inl rfl) e,c⟩
 | dT kvs=>obtain ⟨z,y,xs,r,ob,es,ep,e,c⟩:=x;exact ⟨z,y,xs,Paired.mapP r λp q z=>⟨z.1,ht _ _ z.2.1,z.2.2⟩,ob,es,ep,k _ _ (.inl rfl) e,c⟩
 | set S n=>obtain ⟨ob,es,ep,t,e,c⟩:=x;exact ⟨ob,es,ep,t,k _ _ (.inl rfl) e,c⟩
 | ins C dx fs=>obtain ⟨d,z,ne,e,mA,⟨od,es,ep,e2,c⟩,r⟩:=x;exact ⟨ho _ d,z,ne,k _ _ (.inl rfl) e,mA,⟨od,es,ep,k _ _ (.inr d) e2,c⟩,r⟩
 | own y=>obtain ⟨ob,e⟩:=x;exact ⟨ob,k _ _ (.inl rfl) e⟩
 | xd fs=>obtain ⟨mA,⟨od,es,ep,e,c⟩,r⟩:=x;exact ⟨mA,⟨od,es,ep,k _ _ (.inl rfl) e,c⟩,r⟩
 | rng lo hi=>obtain ⟨t,u,v,e⟩:=x;exact ⟨t,u,v,k _ _ (.inl rfl) e⟩
 | frz ob u ih=>obtain ⟨e,q⟩:=x;exact ⟨k _ _ (.inl rfl) e,ih q⟩
 | tbl ps=>have e:h.get? a=some { cls:=.none,data:=.fields ps }:=x;show h'.get? a=some { cls:=.none,data:=.fields ps };exact k a _ (.inl rfl) e
 | met f y=>have e:h.get? a=some (PySem.W.methodObj (.ref f) (.ref y)):=x;show h'.get? a=some (PySem.W.methodObj (.ref f) (.ref y));exact k a _ (.inl rfl) e
 | ext φ=>obtain ⟨p,⟨o,e⟩,st⟩:=x;exact ⟨st _ _ p λo q=>k _ _ (.inl rfl) q,⟨o,k _ _ (.inl rfl) e⟩,st⟩
theorem HOk.lt(x:HOk P w H h)(e:H a=some o):a<h.objs.size:=(x a o e).lt
theorem HOk.fresh(x:HOk P w H h)(e:h.objs.size<=a):H a=none:=by
 cases q:H a with
 | none=>rfl
 | some u=>exact absurd (aMS (x.lt q) e) (aMT _)
theorem HOk.kept(x:HOk P w H h)(k:∀ b u,h.get? b=some u->h'.get? b=some u):HOk P w H h':=λa o e =>
 (x a o e).stay (λb u _ q=>k b u q) (λ_ q=>q) λ_ _ q=>q
theorem HOk.laid(x:HOk P w H h)(k:∀ b u,h.get? b=some u->h'.get? b=some u)(hp:h.objs.size<=a)(new:bR P w (upd H a o) h' a o):HOk P w (upd H a o) h':=λb u e=>by
 have hn:=x.fresh hp;by_cases hb:b=a
 . subst hb;rw[bU] at e;cases e;exact new
 . rw[aR hb] at e;exact (x b u e).stay (λc v _ q=>k c v q) (λc q=>by rw[aR (cJ q hn)];exact q) λc xs q=>by rw[aR (cJ q hn)];exact q
end
def Rd(H:Hp)(a:Addr)(u:HO):Prop:=H a=some u\/∃ o,H a=some (.frz o u)
theorem Rd.ok{P:Program}{w:World}{H:Hp}{h:Heap}{a:Addr}{u:HO}(r:Rd H a u)(x:HOk P w H h):bR P w H h a u:=by
 rcases r with r | ⟨o,r⟩
 . exact x a u r
 . obtain ⟨_,q⟩:=x a _ r;exact q
def Mut:Option HO->Prop
 | some (.lst _)=>True
 | some (.dK _)=>True
 | some (.dT _)=>True
 | some (.set _ _)=>True
 | some (.ins _ _ _)=>True
 | some (.ext _)=>True
 | _=>False
section
variable {P:Program}{w:World}{H:Hp}{h h':Heap}{x e:Addr}{o':HO}
theorem HOk.write(ok:HOk P w H h)(mu:Mut (H x))(he:e=x\/H e=some (.own x))(k:∀ b u,b≠e->h.get? b=some u->h'.get? b=some u)(heo:∃ u,h'.get? e=some u)(new:bR P w (upd H x o') h' x o'):HOk P w (upd H x o') h':=λb u q=>by
 have nown:∀ c y,H c=some (.own y)->c≠x:=λc y r z=>by subst z;rw[r] at mu;exact mu
 have ntup:∀ c xs,H c=some (.tup xs)->c≠x:=λc xs r z=>by subst z;rw[r] at mu;exact mu
 by_cases hb:b=x
 . subst hb;rw[bU] at q;cases q;exact new
 . rw[aR hb] at q;by_cases hbe:b=e
   . have q':H b=some (.own x):=by
       rcases he with z | z
       . exact absurd (hbe.trans z) hb
       . rw[hbe];exact z
     rw[q] at q';cases q';obtain ⟨v,hv⟩:=heo;exact ⟨v,by rw[hbe];exact hv⟩
   . refine (ok b u q).stay (λc v hc r=>k c v ?_ r) (λc r=>by rw[aR (nown c b r)];exact r) λc xs r=>by rw[aR (ntup c xs r)];exact r
     rcases hc with rfl | hc
     . exact hbe
     . rintro rfl;rcases he with z | z
       . exact nown c b hc z
       . rw[hc] at z;cases z;exact hb rfl
end
structure Un(fs ex:List Addr)(H H':Hp)(h h':Heap):Prop where
 keep:∀ b o,h.get? b=some o->H b=none->b∉fs->b∉ex->h'.get? b=some o
 slot:∀ b o,h.get? b=some o->H b=none->b∈fs->b∉ex->∃ sl,h'.get? b=some { o with slots:=sl }
 free:∀ b o,h.get? b=some o->H b=none->b∉ex->H' b=none
 there:∀ b o,h.get? b=some o->b∉ex->∃ o',h'.get? b=some o'
 tups:∀ b xs,H b=some (.tup xs)->H' b=some (.tup xs)
 frzs:∀ b o u,H b=some (.frz o u)->H' b=some (.frz o u)
 tbls:∀ b ps,H b=some (.tbl ps)->∃ more,H' b=some (.tbl (ps++more))
section
variable {fs fs' ex ex':List Addr}{H H1 H2:Hp}{h h1 h2 h':Heap}{a x e:Addr}{o:HO}
theorem Un.any(u:Un fs ex H H1 h h1){b:Addr}{ob:Obj}(q:h.get? b=some ob)(n:H b=none)(hx:b∉ex):∃ sl,h1.get? b=some { ob with slots:=sl }:=by
 by_cases hb:b∈fs
 . exact u.slot b ob q n hb hx
 . exact ⟨ob.slots,u.keep b ob q n hb hx⟩
theorem Un.kept(k:∀ b u,h.get? b=some u->h'.get? b=some u):Un fs ex H H h h' :=
 ⟨λb ob q _ _ _=>k b ob q,λb ob q _ _ _=>⟨ob.slots,k b ob q⟩,λ_ _ _ n _=>n,λb ob q _=>⟨ob,k b ob q⟩,λ_ _ q=>q,λ_ _ _ q=>q,λ_ ps q=>⟨#[],by rw[q];simp⟩⟩
theorem Un.refl:Un fs ex H H h h:=Un.kept λ_ _ q=>q
theorem Un.laid(k:∀ b u,h.get? b=some u->h'.get? b=some u)(hp:h.objs.size<=a)(hn:H a=none):Un fs ex H (upd H a o) h h' where
 keep:=λb u q _ _ _=>k b u q
 slot:=λb u q _ _ _=>⟨u.slots,k b u q⟩
 free:=λb u q n _=>by rw[aR (aMU (aMS (aMR q) hp))];exact n
 there:=λb u q _=>⟨u,k b u q⟩
 tups:=λb xs q=>by rw[aR (cJ q hn)];exact q
 frzs:=λb u xs q=>by rw[aR (cJ q hn)];exact q
 tbls:=λb ps q=>⟨#[],by rw[aR (cJ q hn),q];simp⟩
theorem Un.write(mu:Mut (H x))(he:e=x\/H e=some (.own x))(k:∀ b u,b≠e->h.get? b=some u->h'.get? b=some u)(heo:∃ u,h'.get? e=some u):Un fs ex H (upd H x o) h h':=by
 have hx:∀ b,H b=none->b≠x:=λb n z=>by subst z;rw[n] at mu;exact mu
 have hb:∀ b,H b=none->b≠e:=λb n z=>by
  subst z;rcases he with r | r
  . exact hx b n r
  . rw[n] at r;cases r
 have hm:∀ b u,H b=some u -> ¬ Mut (some u)->b≠x:=λb u q nm z=>by subst z;rw[q] at mu;exact nm mu
 refine ⟨λb u q n _ _=>k b u (hb b n) q,λb u q n _ _=>⟨u.slots,k b u (hb b n) q⟩,λb u q n _=>by rw[aR (hx b n)];exact n,λb u q _=>?_,
  λb xs q=>by rw[aR (hm b _ q λz=>z)];exact q,λb u xs q=>by rw[aR (hm b _ q λz=>z)];exact q,λb ps q=>⟨#[],by rw[aR (hm b _ q λz=>z),q];simp⟩⟩
 by_cases hbe:b=e
 . subst hbe;exact heo
 . exact ⟨u,k b u hbe q⟩
end
def trk(h:Heap)(H:Hp):List Addr:=(List.range h.objs.size).filter λa=>(H a).isSome
def fG(h:Heap)(H:Hp):Heap:=PySem.W.hideAll h (trk h H)
theorem aAO(h:Heap)(H:Hp):(fG h H).objs.size=h.objs.size:=PySem.W.hideAll_size _ _
theorem aAP{h:Heap}{H:Hp}{b:Addr}{o:Obj}(e:h.get? b=some o)(n:H b=none):(fG h H).get? b=some o :=
 aMV _ e λhm=>by have q:(H b).isSome=true:=(aMW.mp hm).2;rw[n] at q;simp at q
theorem aAQ{h:Heap}{H:Hp}{b:Addr}{o:Obj}(e:(fG h H).get? b=some o):h.get? b=some o/\H b=none:=by
 have e':h.get? b=some o:=PySem.W.of_hideAll (trk h H) e;refine ⟨e',?_⟩;cases q:H b with
 | none=>rfl
 | some x =>
  have hm:b∈trk h H:=aMW.mpr ⟨aMX.mpr (aMR e'),by simp[q]⟩
  have z:(fG h H).get? b=none:=PySem.W.hideAll_none (trk h H) hm;rw[z] at e;cases e
def aAR(g h:Heap)(L:Addr):LAO:=(List.range h.objs.size).filterMap λa=>if a=L\/(g.get? a).isSome=true then none else (h.get? a).map λo=>(a,o)
def a8(g h:Heap)(L d:Addr):LAO:=(aAR g h L).filter λp=>decide (p.1≠d)
structure Mod(K:Fg)(mg:SOV)(base:Heap):Prop where
 kin:K.In base
 glob:base.Ns mainGlobals mg
 blt:∃ mb,base.Ns builtinsNs mb/\∀ x:Str,x ≠ "__name__" -> mb x=bootBuiltins x
 nolimit:base.NoLimit
structure Cx where
 prog:Program
 w:World
 K:Fg
 mg:SOV
 base:Heap
 A:Around
 N:List Str
 s₀:Shared
 H₀:Hp
 env:Env
 outer:List Env
 stack:List Env
 ex:List Addr
 fn:Str->Bool
 calm:Bool
 pn:LAO
 xe:VSP
def frs(l:List Env):List Addr:=l.filterMap (·.frame)
abbrev Cx.fs(X:Cx):List Addr:=frs X.outer
def Vis(sc:Scope)(x:Str):Prop:=sc.names.lookup x=some .local\/sc.names.lookup x=some .cell\/sc.names.lookup x=some .free
def Loc(sc:Scope)(x:Str):Prop:=sc.names.lookup x=some .local\/sc.names.lookup x=some .cell
def Look(env:Env)(h:Heap)(m:SOV)(x:Str)(u:Value):Prop :=
 (env.kindOf x=some .local/\m x=some u)\/((env.kindOf x=some .cell\/env.kindOf x=some .free)/\∃ c,env.cells.lookup x=some c/\h.IsCell c (some u))
structure Cx.Ok(X:Cx):Prop where
 mod:Mod X.K X.mg X.base
 kind:X.env.scope.kind=.function
 glob:X.env.globals=mainGlobals
 blt:X.env.builtins=builtinsNs
 above:X.s₀.heap.objs.size<=X.env.locals
 inj:∀ x y c,X.env.cells.lookup x=some c->X.env.cells.lookup y=some c->x=y
 has:∀ x,(X.env.kindOf x=some .cell\/X.env.kindOf x=some .free)->∃ c,X.env.cells.lookup x=some c
 cab:∀ x c,X.fn x=true->X.env.cells.lookup x=some c->X.s₀.heap.objs.size<=c
 hd:X.calm=true->X.A.handled=none
 frames:X.A.frames=some X.stack
 stk:X.stack=X.outer\/(X.stack=X.env::X.outer/\X.env.frame=some X.env.locals)
 exf:∀ b∈X.ex,b≠X.env.locals/\∀ x c,X.env.cells.lookup x=some c->c≠b
 bs:∀ b o,X.base.get? b=some o->X.s₀.heap.get? b=some o/\X.H₀ b=none
 bsz:X.base.objs.size<=X.s₀.heap.objs.size
 noex:∀ b o,X.base.get? b=some o->b∉X.ex
 exfs:∀ b∈X.ex,b∉X.fs
 funs:X.s₀.heap.FunFrames X.base X.outer
 frf:∀ b∈X.fs,X.H₀ b=none
structure Inv(X:Cx)(aA:LAO)(σ:List (Option V))(H:Hp)(s:Shared):Prop where
 ok:X.Ok
 os:s.os=X.s₀.os
 bare:AllBare s.gens
 base:Un X.fs X.ex X.H₀ H X.s₀.heap s.heap
 loc:∃ m,s.heap.Ns X.env.locals m/\∀ (i:Nat) (x:Str) (v:V),X.N[i]? = some x->σ[i]? = some (some v)->Vis X.env.scope x->∃ u,aN v u/\Look X.env s.heap m x u
 cell:∀ x c,X.env.cells.lookup x=some c->∃ v,s.heap.IsCell c v
 free:H X.env.locals=none
 freeC:∀ x c,X.env.cells.lookup x=some c->H c=none
 pin:∀ p∈X.pn++aA,s.heap.get? p.1=some p.2/\H p.1=none/\p.1≠X.env.locals/\p.1∉X.fs/\∀ v,p.2.data ≠ .cell v
 hok:HOk X.prog X.w H s.heap
 len:σ.length=X.N.length
section
variable {X:Cx}{aA:LAO}{σ:List (Option V)}{H H':Hp}{s:Shared}{h':Heap}
theorem Cx.Ok.nofr(ok:X.Ok){b:Addr}{o:Obj}(e:X.base.get? b=some o):b∉X.fs:=λhb=>by have:=(ok.funs.mem hb).1;rw[e] at this;cases this
theorem Inv.bs(I:Inv X aA σ H s):∀ b o,X.base.get? b=some o->s.heap.get? b=some o/\H b=none:=λb o e =>
 ⟨I.base.keep b o (I.ok.bs b o e).1 (I.ok.bs b o e).2 (I.ok.nofr e) (I.ok.noex b o e),I.base.free b o (I.ok.bs b o e).1 (I.ok.bs b o e).2 (I.ok.noex b o e)⟩
theorem Inv.bk(I:Inv X aA σ H s):∀ b o,X.base.get? b=some o->s.heap.get? b=some o:=λb o e=>(I.bs b o e).1
theorem Inv.mod(I:Inv X aA σ H s):Mod X.K X.mg X.base:=I.ok.mod
theorem Inv.kIn(I:Inv X aA σ H s):X.K.In s.heap:=I.ok.mod.kin.keeps I.bk
theorem Inv.lt(I:Inv X aA σ H s):X.env.locals<s.heap.objs.size:=let ⟨_,hn,_⟩:=I.loc;hn.lt
theorem Inv.sz(I:Inv X aA σ H s):X.s₀.heap.objs.size<=s.heap.objs.size:=aMY I.ok.above (Nat.le_of_lt I.lt)
theorem Inv.nofs(I:Inv X aA σ H s){a:Addr}(h:s.heap.objs.size<=a):a∉X.fs:=λhb=>by obtain ⟨_,o,ho,_⟩:=I.ok.funs.mem hb;exact absurd (aMS (aMR ho) (aMY I.sz h)) (aMT _)
theorem Inv.cne(I:Inv X aA σ H s):∀ x c,X.env.cells.lookup x=some c->c≠X.env.locals:=λx c e z=>by obtain ⟨v,o,ho,hd⟩:=I.cell x c e;obtain ⟨m,⟨o',es,ep,ho',hd',_⟩,_⟩:=I.loc;rw[z,ho'] at ho;cases ho;rw[hd'] at hd;cases hd
theorem Inv.funs(I:Inv X aA σ H s):s.heap.FunFrames X.base X.outer:=by
 have all:∀ (l:List Env),(∀ b∈frs l,b∈X.fs)->X.s₀.heap.FunFrames X.base l->s.heap.FunFrames X.base l:=by
  intro l
  induction l with
  | nil=>intro _ _;trivial
  | cons env r ih =>
   intro hs hl;obtain ⟨hk,⟨L,o,hf,hn,ho,hd⟩,hr⟩:=hl;have hL:L∈X.fs:=hs L (by unfold frs;rw[aMZ,hf];exact mcs)
   obtain ⟨sl,e⟩:=I.base.slot L o ho (I.ok.frf L hL) hL λz=>I.ok.exfs L z hL;exact ⟨hk,⟨L,_,hf,hn,e,hd⟩,ih (λb hb=>hs b (by unfold frs;rw[aMZ,hf];exact mcm hb)) hr⟩
 exact all X.outer (λ_ hb=>hb) I.ok.funs
theorem Inv.stack(I:Inv X aA σ H s):s.heap.FunFrames X.base X.stack:=by
 rcases I.ok.stk with e | ⟨e,hf⟩
 . rw[e];exact I.funs
 . rw[e];obtain ⟨m,hn,_⟩:=I.loc;refine .cons (by rw[I.ok.kind];decide) hf hn ?_ I.funs
   exact Heap.get?_none_of_le (aMY I.ok.bsz I.ok.above)
theorem Inv.stkSub(I:Inv X aA σ H s):∀ b∈frs X.stack,b∈X.env.locals::X.fs:=λb hb=>by
 rcases I.ok.stk with e | ⟨e,hf⟩
 . rw[e] at hb;exact mcm hb
 . rw[e] at hb;unfold frs at hb;rw[aMZ,hf] at hb;exact hb
theorem Inv.stkFree(I:Inv X aA σ H s):∀ b∈frs X.stack,H b=none:=λb hb=>by
 rcases aM0.mp (I.stkSub b hb) with e | hb
 . rw[e];exact I.free
 . obtain ⟨_,o,ho,_⟩:=I.ok.funs.mem hb;exact I.base.free b o ho (I.ok.frf b hb) λz=>I.ok.exfs b z hb
theorem Inv.step{g':Array GenState}{t':Nat}{d':Drawn}{ch:List Addr}(I:Inv X aA σ H s)(hch:∀ b∈ch,(b∈X.ex\/X.s₀.heap.objs.size<=b)/\b≠X.env.locals/\(∀ x c,X.env.cells.lookup x=some c->c≠b)/\∀ p∈X.pn++aA,p.1≠b)(keep:∀ b o,b≠X.env.locals->b∉X.fs->b∉ch->s.heap.get? b=some o->H b=none->h'.get? b=some o)(slot:∀ b o,b≠X.env.locals->b∈X.fs->b∉ch->s.heap.get? b=some o->H b=none->∃ sl,h'.get? b=some { o with slots:=sl })(free:∀ b o,b∉ch->s.heap.get? b=some o->H b=none->H' b=none)(there:∀ b o,b∉ch->s.heap.get? b=some o->∃ o',h'.get? b=some o')(tups:∀ b xs,H b=some (.tup xs)->H' b=some (.tup xs))(frzs:∀ b o u,H b=some (.frz o u)->H' b=some (.frz o u))(tbls:∀ b ps,H b=some (.tbl ps)->∃ more,H' b=some (.tbl (ps++more)))(ns:∀ m,s.heap.Ns X.env.locals m->h'.Ns X.env.locals m)(hok:HOk X.prog X.w H' h')(hg:AllBare g'):Inv X aA σ H' { s with heap:=h',gens:=g',drawn:=d',toks:=t' }:=by
 have neL:∀ b o,X.s₀.heap.get? b=some o->b≠X.env.locals:=λb o e=>aMU (aMS (aMR e) I.ok.above);have neC:∀ b o,X.s₀.heap.get? b=some o->b∉X.ex->b∉ch:=λb o e hx hb=>by
  rcases (hch b hb).1 with z | z
  . exact hx z
  . exact absurd (aMS (aMR e) z) (aMT _)
 have cellK:∀ x c,X.env.cells.lookup x=some c->∀ v,s.heap.IsCell c v->h'.IsCell c v:=λx c e v ⟨o,ho,hd⟩=>by
  have nch:c∉ch:=λz=>(hch c z).2.2.1 x c e rfl;by_cases hc:c∈X.fs
  . obtain ⟨sl,q⟩:=slot c o (I.cne x c e) hc nch ho (I.freeC x c e);exact ⟨_,q,hd⟩
  . exact ⟨o,keep c o (I.cne x c e) hc nch ho (I.freeC x c e),hd⟩
 refine ⟨I.ok,I.os,hg,⟨λb o e n hb hx=>?_,λb o e n hb hx=>?_,λb o e n hx=>?_,λb o e hx=>?_,λb xs e=>tups b xs (I.base.tups b xs e),λb o xs e=>frzs b o xs (I.base.frzs b o xs e),λb ps e=>?_⟩,?_,λx c e=>?_,?_,λx c e=>?_,λp hp=>?_,hok,I.len⟩
 . exact keep b o (neL b o e) hb (neC b o e hx) (I.base.keep b o e n hb hx) (I.base.free b o e n hx)
 . obtain ⟨sl,e1⟩:=I.base.slot b o e n hb hx;obtain ⟨sl',e2⟩:=slot b _ (neL b o e) hb (neC b o e hx) e1 (I.base.free b o e n hx);exact ⟨sl',e2⟩
 . obtain ⟨o',e1⟩:=I.base.there b o e hx;exact free b o' (neC b o e hx) e1 (I.base.free b o e n hx)
 . obtain ⟨o',e1⟩:=I.base.there b o e hx;exact there b o' (neC b o e hx) e1
 . obtain ⟨m1,e1⟩:=I.base.tbls b ps e;obtain ⟨m2,e2⟩:=tbls b _ e1;exact ⟨m1++m2,by rw[e2,Array.append_assoc]⟩
 . obtain ⟨m,hn,hl⟩:=I.loc;refine ⟨m,ns m hn,λi x v e1 e2 e3=>?_⟩;obtain ⟨u,r,l⟩:=hl i x v e1 e2 e3;refine ⟨u,r,?_⟩;rcases l with l | ⟨k,c,e,z⟩
   . exact .inl l
   . exact .inr ⟨k,c,e,cellK x c e _ z⟩
 . obtain ⟨v,z⟩:=I.cell x c e;exact ⟨v,cellK x c e v z⟩
 . obtain ⟨m,⟨o,_,_,ho,_⟩,_⟩:=I.loc;exact free _ o (λz=>(hch _ z).2.1 rfl) ho I.free
 . obtain ⟨v,o,ho,hd⟩:=I.cell x c e;exact free c o (λz=>(hch c z).2.2.1 x c e rfl) ho (I.freeC x c e)
 . obtain ⟨e,n,ne,nf,d⟩:=I.pin p hp;have nch:p.1∉ch:=λz=>(hch p.1 z).2.2.2 p hp rfl;exact ⟨keep p.1 p.2 ne nf nch e n,free p.1 p.2 nch e n,ne,nf,d⟩
theorem Inv.un{t':Nat}(I:Inv X aA σ H s)(u:Un X.fs [] H H' s.heap h')(hok:HOk X.prog X.w H' h'):Inv X aA σ H' { s with heap:=h',toks:=t' }:=by
 obtain ⟨m,⟨o,es,ep,ho,r⟩,_⟩:=id I.loc;obtain ⟨sl,hL⟩:=u.any ho I.free (by simp)
 exact I.step (g':=s.gens) (d':=s.drawn) (ch:=[]) (λ_ z=>nomatch z) (λb o _ hb _ e n=>u.keep b o e n hb (by simp)) (λb o _ hb _ e n=>u.slot b o e n hb (by simp)) (λb o _ e n=>u.free b o e n (by simp)) (λb o _ e=>u.there b o e (by simp)) u.tups u.frzs u.tbls (λm' hm=>by
  obtain ⟨o',es',ep',ho',r'⟩:=hm;rw[ho] at ho';cases ho';exact ⟨_,es',ep',hL,r'⟩) hok I.bare
theorem Inv.call{g':Array GenState}{t':Nat}{d':Drawn}{ch:List Addr}(I:Inv X aA σ H s)(u:Un (frs X.stack) ch H H' s.heap h')(hok:HOk X.prog X.w H' h')(hg:AllBare g')(hch:∀ b∈ch,(b∈X.ex\/X.s₀.heap.objs.size<=b)/\b≠X.env.locals/\(∀ x c,X.env.cells.lookup x=some c->c≠b)/\∀ p∈X.pn++aA,p.1≠b):Inv X aA σ H' { s with heap:=h',gens:=g',drawn:=d',toks:=t' }:=by
 obtain ⟨m,⟨o,es,ep,ho,r⟩,_⟩:=id I.loc;obtain ⟨sl,hL⟩:=u.any ho I.free λz=>(hch _ z).2.1 rfl;exact I.step (ch:=ch) hch (λb o hL hb hc e n=>u.keep b o e n (λz=>(aM0.mp (I.stkSub b z)).elim hL hb) hc) (λb o _ _ hc e n=>u.any e n hc) (λb o hc e n=>u.free b o e n hc) (λb o hc e=>u.there b o e hc) u.tups u.frzs u.tbls (λm' hm=>by
  obtain ⟨o',es',ep',ho',r'⟩:=hm;rw[ho] at ho';cases ho';exact ⟨_,es',ep',hL,r'⟩) hok hg
theorem Inv.turned{t':Nat}{it:Addr}(I:Inv X aA σ H s)(k:∀ b o,b≠it->s.heap.get? b=some o->h'.get? b=some o)(hn:H it=none)(hL:it≠X.env.locals)(h1:it∈X.ex\/X.s₀.heap.objs.size<=it)(h2:∀ x c,X.env.cells.lookup x=some c->c≠it)(h3:∀ p∈X.pn++aA,p.1≠it):Inv X aA σ H { s with heap:=h',toks:=t' }:=by
 have nit:∀ b u,H b=some u->b≠it:=λb u e z=>by rw[z,hn] at e;cases e
 refine I.step (g':=s.gens) (d':=s.drawn) (ch:=[it]) (λb hb=>?_) (λb o _ _ hc e _=>k b o (λz=>hc (by simp[z])) e) (λb o _ _ hc e _=>⟨o.slots,k b o (λz=>hc (by simp[z])) e⟩) (λ_ _ _ _ n=>n)
  (λb o hc e=>⟨o,k b o (λz=>hc (by simp[z])) e⟩) (λ_ _ e=>e) (λ_ _ _ e=>e) (λb ps e=>⟨#[],by rw[e];simp⟩) (λm hm=>?_) (λb u e=>?_) I.bare
 . have e:b=it:=by simpa using hb
   subst e;exact ⟨h1,hL,h2,h3⟩
 . obtain ⟨o,es,ep,ho,r⟩:=hm;exact ⟨o,es,ep,k _ o (Ne.symm hL) ho,r⟩
 . refine (I.hok b u e).stay (λc v hc q=>k c v ?_ q) (λ_ q=>q) λ_ _ q=>q;rcases hc with z | z
   . rw[z];exact nit b u e
   . exact nit c _ z
theorem Inv.tok(I:Inv X aA σ H s)(t:Nat):Inv X aA σ H { s with toks:=t }:=I.un (h':=s.heap) (t':=t) Un.refl I.hok
theorem Inv.kept{t':Nat}(I:Inv X aA σ H s)(k:∀ b u,s.heap.get? b=some u->h'.get? b=some u):Inv X aA σ H { s with heap:=h',toks:=t' }:=I.un (Un.kept k) (I.hok.kept k)
theorem Inv.laid{a:Addr}{o:HO}{t':Nat}(I:Inv X aA σ H s)(k:∀ b u,s.heap.get? b=some u->h'.get? b=some u)(hp:s.heap.objs.size<=a)(new:bR X.prog X.w (upd H a o) h' a o):Inv X aA σ (upd H a o) { s with heap:=h',toks:=t' }:=I.un (Un.laid k hp (I.hok.fresh hp)) (I.hok.laid k hp new)
theorem Inv.write{x e:Addr}{o:HO}{t':Nat}(I:Inv X aA σ H s)(mu:Mut (H x))(he:e=x\/H e=some (.own x))(k:∀ b u,b≠e->s.heap.get? b=some u->h'.get? b=some u)(heo:∃ u,h'.get? e=some u)(new:bR X.prog X.w (upd H x o) h' x o):Inv X aA σ (upd H x o) { s with heap:=h',toks:=t' }:=I.un (Un.write mu he k heo) (I.hok.write mu he k heo new)
theorem Inv.weak{σ':List (Option V)}(I:Inv X aA σ H s)(hl:σ'.length=σ.length)(w:∀ (i:Nat) v,σ'[i]? = some (some v)->σ[i]? = some (some v)):Inv X aA σ' H s :=
 ⟨I.ok,I.os,I.bare,I.base,let ⟨m,hn,hl'⟩:=I.loc;⟨m,hn,λi x v e1 e2 e3=>hl' i x v e1 (w i v e2) e3⟩,I.cell,I.free,I.freeC,I.pin,I.hok,hl.trans I.len⟩
theorem Inv.pins_of{pins':LAO}(I:Inv X aA σ H s)(h:∀ p∈pins',s.heap.get? p.1=some p.2/\H p.1=none/\p.1≠X.env.locals/\p.1∉X.fs/\∀ v,p.2.data ≠ .cell v):Inv X pins' σ H s :=
 ⟨I.ok,I.os,I.bare,I.base,I.loc,I.cell,I.free,I.freeC,λp hp=>(aM1.mp hp).elim (λz=>I.pin p (aM2 _ z)) (h p),I.hok,I.len⟩
theorem sJ{N:List Str}(hN:N.Nodup){i j:Nat}{x:Str}(a:N[i]? = some x)(b:N[j]? = some x):i=j:=by obtain ⟨h1,e1⟩:=aM3.mp a;obtain ⟨h2,e2⟩:=aM3.mp b;exact (aM4 hN).mp (e1.trans e2.symm)
theorem sK{M:Model}{A:Around}{E:VSP}{i:Nat}{x:Str}{v:V}{u:Value}{Q:Unit->Shared->Prop}(I:Inv X aA σ H s)(hN:X.N.Nodup)(hi:X.N[i]? = some x)(hx:Loc X.env.scope x)(r:aN v u)(h:∀ s',Inv X aA (σ.set i (some v)) H s'->(∃ a,Heap.SameBut a s.heap s'.heap/\(a=X.env.locals\/X.env.cells.lookup x=some a))->Q () s')(hf:X.fn x=true\/X.env.scope.names.lookup x=some .local:=by first | exact .inl rfl | exact .inr rfl | assumption):wpAny M A (storeName X.env x u) Q E s:=by
 obtain ⟨m,hn,hl⟩:=id I.loc;have hcls:(X.env.scope.kind == .class||(X.env.scope.kind == .module&&X.env.locals != X.env.globals))=false:=by rw[I.ok.kind];rfl
 have hiσ:i<σ.length:=by rw[I.len];exact (aM3.mp hi).1
 have cne:=I.cne;have tracked:∀ {a:Addr} {h':Heap},(∃ o,s.heap.get? a=some o/\H a=none)->Heap.SameBut a s.heap h'->HOk X.prog X.w H h':=λ{a h'} ha hs b ob e=>by
  obtain ⟨_,_,dE⟩:=ha;refine (I.hok b ob e).stay (λc w' hc q=>(hs.2 c ?_).trans q) (λ_ q=>q) λ_ _ q=>q;rintro rfl;rcases hc with rfl | hc
  . rw[dE] at e;cases e
  . rw[dE] at hc;cases hc
 rcases hx with hk | hk
 . refine wpAny_storeName_local hk hn (λh' hn' hs=>?_) hcls;obtain ⟨oL,_,_,hoL,_⟩:=id hn;refine h _ ⟨I.ok,I.os,I.bare,⟨λb o e n hb hx=>?_,λb o e n hb hx=>?_,I.base.free,λb o e hx=>?_,I.base.tups,I.base.frzs,I.base.tbls⟩,⟨_,hn',λj y v' e1 e2 e3=>?_⟩,λy c e=>?_,I.free,I.freeC,λp hp=>?_,tracked ⟨oL,hoL,I.free⟩ hs,by simpa using I.len⟩ ⟨_,hs,.inl rfl⟩
   . exact (hs.2 b (aMU (aMS (aMR e) I.ok.above))).trans (I.base.keep b o e n hb hx)
   . obtain ⟨sl,e1⟩:=I.base.slot b o e n hb hx;exact ⟨sl,(hs.2 b (aMU (aMS (aMR e) I.ok.above))).trans e1⟩
   . obtain ⟨o',e1⟩:=I.base.there b o e hx;exact ⟨o',(hs.2 b (aMU (aMS (aMR e) I.ok.above))).trans e1⟩
   . by_cases hj:j=i
     . subst hj;rw[hi] at e1;cases e1;rw[aM5 hiσ] at e2;cases e2;exact ⟨u,r,.inl ⟨hk,by simp⟩⟩
     . rw[aM6 (Ne.symm hj)] at e2;obtain ⟨u',r',q⟩:=hl j y v' e1 e2 e3;refine ⟨u',r',?_⟩;rcases q with ⟨k,e⟩ | ⟨k,c,e,z⟩
       . refine .inl ⟨k,?_⟩;have:y≠x:=λe=>hj (sJ hN e1 (e ▸ hi));simp[this,e]
       . exact .inr ⟨k,c,e,z.sameBut hs (cne y c e)⟩
   . obtain ⟨w',z⟩:=I.cell y c e;exact ⟨w',z.sameBut hs (cne y c e)⟩
   . obtain ⟨e,n,ne,nf,d⟩:=I.pin p hp;exact ⟨(hs.2 p.1 ne).trans e,n,ne,nf,d⟩
 . have hfn:X.fn x=true:=by
     rcases hf with z | z
     . exact z
     . rw[z] at hk;cases hk
   obtain ⟨c,hc⟩:=I.ok.has x (.inl hk);obtain ⟨w',z⟩:=I.cell x c hc;refine wpAny_storeName_cell I.ok.kind hk hc z (λh' hc' hs=>?_);obtain ⟨oc,hoc,hocd⟩:=id z;refine h { s with heap:=h' } ⟨I.ok,I.os,I.bare,⟨λb o e n hb hx=>?_,λb o e n hb hx=>?_,I.base.free,λb o e hx=>?_,I.base.tups,I.base.frzs,I.base.tbls⟩,⟨m,hn.sameBut hs (Ne.symm (cne x c hc)),λj y v' e1 e2 e3=>?_⟩,λy c' e=>?_,I.free,I.freeC,λp hp=>?_,tracked ⟨oc,hoc,I.freeC x c hc⟩ hs,by simpa using I.len⟩ ⟨c,hs,.inr hc⟩
   . exact (hs.2 b (aMU (aMS (aMR e) (I.ok.cab x c hfn hc)))).trans (I.base.keep b o e n hb hx)
   . obtain ⟨sl,e1⟩:=I.base.slot b o e n hb hx;exact ⟨sl,(hs.2 b (aMU (aMS (aMR e) (I.ok.cab x c hfn hc)))).trans e1⟩
   . obtain ⟨o',e1⟩:=I.base.there b o e hx;exact ⟨o',(hs.2 b (aMU (aMS (aMR e) (I.ok.cab x c hfn hc)))).trans e1⟩
   . by_cases hj:j=i
     . subst hj;rw[hi] at e1;cases e1;rw[aM5 hiσ] at e2;cases e2;exact ⟨u,r,.inr ⟨.inl hk,c,hc,hc'⟩⟩
     . rw[aM6 (Ne.symm hj)] at e2;obtain ⟨u',r',q⟩:=hl j y v' e1 e2 e3;refine ⟨u',r',?_⟩;rcases q with q | ⟨k,c',e,z'⟩
       . exact .inl q
       . refine .inr ⟨k,c',e,z'.sameBut hs ?_⟩;rintro rfl;exact hj (sJ hN e1 (I.ok.inj _ _ _ e hc ▸ hi))
   . by_cases hcc:c'=c
     . subst hcc;exact ⟨_,hc'⟩
     . obtain ⟨w2,z2⟩:=I.cell y c' e;exact ⟨w2,z2.sameBut hs hcc⟩
   . obtain ⟨e,n,ne,nf,d⟩:=I.pin p hp;refine ⟨(hs.2 p.1 ?_).trans e,n,ne,nf,d⟩;intro q;rw[q,hoc] at e;have q':oc=p.2:=aMP e;exact d w' (by rw[<- q'];exact hocd)
theorem lV{M:Model}{A:Around}{E:VSP}{i:Nat}{x:Str}{v:V}{u:Value}{Q:Unit->Shared->Prop}(I:Inv X aA σ H s)(hN:X.N.Nodup)(hi:X.N[i]? = some x)(hx:Loc X.env.scope x)(r:aN v u)(h:∀ s',Inv X aA (σ.set i (some v)) H s'->Q () s')(hf:X.fn x=true\/X.env.scope.names.lookup x=some .local:=by first | exact .inl rfl | exact .inr rfl | assumption):wpAny M A (storeName X.env x u) Q E s :=
 sK I hN hi hx r (λs' I' _=>h s' I') hf
theorem Inv.call'{s':Shared}{ch:List Addr}(I:Inv X aA σ H s)(ho:s'.os=s.os)(u:Un (frs X.stack) ch H H' s.heap s'.heap)(hok:HOk X.prog X.w H' s'.heap)(hg:AllBare s'.gens)(hch:∀ b∈ch,(b∈X.ex\/X.s₀.heap.objs.size<=b)/\b≠X.env.locals/\(∀ x c,X.env.cells.lookup x=some c->c≠b)/\∀ p∈X.pn++aA,p.1≠b):Inv X aA σ H' s':=by obtain ⟨h',g',d',t',o'⟩:=s';have e:o'=s.os:=ho;subst e;exact I.call (g':=g') (t':=t') (d':=d') u hok hg hch
end
abbrev XK:=Value->Option Addr->Hp->Prop
abbrev St:=List (Option V)
abbrev VK:=V->Hp->Prop
abbrev TE:=St->Hp->VK->Prop
abbrev TT:=St->Hp->(Bool->Hp->Prop)->Prop
abbrev TA:=St->Hp->(List V->Hp->Prop)->Prop
structure eV where
 nx:St->Hp->Prop
 rt:VK
 bk:St->Hp->Prop:=λ_ _=>False
 ct:St->Hp->Prop:=λ_ _=>False
abbrev TS:=eV->St->Hp->Prop
def EP(X:Cx)(aA:LAO)(σ:St)(Q:VK)(u:Value)(s':Shared):Prop:=∃ v H',Inv X aA σ H' s'/\aN v u/\Q v H'
def TP(X:Cx)(aA:LAO)(σ:St)(Q:Bool->Hp->Prop)(b:Bool)(s':Shared):Prop:=∃ H',Inv X aA σ H' s'/\Q b H'
def AP(X:Cx)(aA:LAO)(σ:St)(Q:List V->Hp->Prop)(us:List Value)(s':Shared):Prop:=∃ vs H',Inv X aA σ H' s'/\aO vs us/\Q vs H'
def SP(X:Cx)(aA:LAO)(D:eV)(f:Flow)(s':Shared):Prop :=
 match f with
 | .next=>∃ σ' H',Inv X aA σ' H' s'/\D.nx σ' H'
 | .brk=>∃ σ' H',Inv X aA σ' H' s'/\D.bk σ' H'
 | .cont=>∃ σ' H',Inv X aA σ' H' s'/\D.ct σ' H'
 | .ret u=>∃ v σ' H',Inv X aA σ' H' s'/\aN v u/\D.rt v H'
def PE(X:Cx)(e:Expr)(t:TE):Prop :=
 ∀ (aA:LAO) (s:Shared) (σ:St) (H:Hp) (Q:VK),Inv X aA σ H s->t σ H Q->wpAny (model X.prog X.w) X.A (eval e X.env) (EP X aA σ Q) X.xe s
def PT(X:Cx)(e:Expr)(t:TT):Prop :=
 ∀ (aA:LAO) (s:Shared) (σ:St) (H:Hp) (Q:Bool->Hp->Prop),Inv X aA σ H s->t σ H Q->wpAny (model X.prog X.w) X.A (isTrue e X.env (eval e X.env)) (TP X aA σ Q) X.xe s
def PW(X:Cx)(e:Expr)(t:TT):Prop :=
 ∀ (whole:Sem Value) (aA:LAO) (s:Shared) (σ:St) (H:Hp) (Q:Bool->Hp->Prop),Inv X aA σ H s->t σ H Q->wpAny (model X.prog X.w) X.A (isTrue e X.env whole) (TP X aA σ Q) X.xe s
theorem PW.pt{X:Cx}{e:Expr}{t:TT}(h:PW X e t):PT X e t:=h _
def PA(X:Cx)(es:List Expr)(t:TA):Prop :=
 ∀ (pos:Pos) (aA:LAO) (s:Shared) (σ:St) (H:Hp) (Q:List V->Hp->Prop),Inv X aA σ H s->t σ H Q->wpAny (model X.prog X.w) X.A (spliced (backTo pos (starEach es X.env))) (AP X aA σ Q) X.xe s
def PS(X:Cx)(st:Stmt)(t:TS):Prop :=
 ∀ (aA:LAO) (s:Shared) (σ:St) (H:Hp) (D:eV),Inv X aA σ H s->t D σ H->wpAny (model X.prog X.w) X.A (exec st X.env) (SP X aA D) X.xe s
def PSs(X:Cx)(st:List Stmt)(t:TS):Prop :=
 ∀ (aA:LAO) (s:Shared) (σ:St) (H:Hp) (D:eV),Inv X aA σ H s->t D σ H->wpAny (model X.prog X.w) X.A (execs st X.env) (SP X aA D) X.xe s
theorem thn{α:Type}{t:Sem α}{Q Q':α->Shared->Prop}{M:Model}{A:Around}{E:VSP}{s:Shared}(h:wpAny M A t Q E s)(hQ:∀ a s,Q a s->Q' a s):wpAny M A t Q' E s:=aM7 h hQ λ_ _ x=>x
section
variable {X:Cx}
def jZ(i:Nat):TE:=λσ H Q=>∃ v,σ[i]? = some (some v)/\Q v H
def tC(v:V):TE:=λ_ H Q=>Q v H
theorem lW{i:Nat}{x:Str}{pos:Pos}(hN:X.N[i]? = some x)(hv:Vis X.env.scope x)(hd:(x==("__debug__" : Str))=false:=by decide)(hcd:(x==("__classdict__" : Str))=false:=by decide):PE X (.Name x pos) (jZ i):=by
 intro aA s σ H Q I h;obtain ⟨v,e,h⟩:=h;obtain ⟨m,hn,hl⟩:=I.loc;obtain ⟨u,r,l⟩:=hl i x v hN e hv;have fin:EP X aA σ Q u s:=⟨v,H,I,r,h⟩;rcases l with ⟨hk,hm⟩ | ⟨hk,c,hc,cP⟩
 . exact wpAny_Name (wpAny_loadName_local I.ok.kind hk hn hm fin) hd
 . rcases hk with hk | hk
   . exact wpAny_Name (wpAny_loadName_cell I.ok.kind hk hc cP fin) hd
   . exact wpAny_Name (wpAny_loadName_free I.ok.kind hk hc cP fin hcd) hd
theorem aAS{i j pos}:PE X (.Constant (.int i) j pos) (tC (.int i)):=λ_ _ _ H _ I h=>wpAny_Constant_int ⟨.int i,H,I.tok _,⟨_,rfl⟩,h⟩
theorem pe_bl{b j pos}:PE X (.Constant (.bool b) j pos) (tC (.bl b)):=λ_ _ _ H _ I h=>Constant_bool ⟨.bl b,H,I,rfl,h⟩
theorem aAT{j pos}:PE X (.Constant .none j pos) (tC .non):=λ_ _ _ H _ I h=>Constant_none ⟨.non,H,I,rfl,h⟩
theorem aAU{x j pos}:PE X (.Constant (.str x) j pos) (tC (.str x)):=λ_ _ _ H _ I h=>Calls.Constant_str ⟨.str x,H,I.tok _,⟨_,rfl⟩,h⟩
def Gl(X:Cx)(x:Str):Prop:=X.env.kindOf x=some .globalImplicit
theorem lX{E:VSP}{aA:LAO}{s:Shared}{σ:St}{H:Hp}{x:Str}{u:Value}{pos:Pos}{Q:VSP}(I:Inv X aA σ H s)(hg:Gl X x)(hm:X.mg x=some u)(h:Q u s)(hd:(x==("__debug__" : Str))=false:=by decide):wpAny (model X.prog X.w) X.A (eval (.Name x pos) X.env) Q E s :=
 Calls.Name_function_global I.ok.kind hg (Calls.loadGlobal_global (by rw[I.ok.glob];exact I.mod.glob.keeps I.bk) hm h) hd
theorem gS{E:VSP}{aA:LAO}{s:Shared}{σ:St}{H:Hp}{x:Str}{u:Value}{pos:Pos}{Q:VSP}(I:Inv X aA σ H s)(hg:Gl X x)(hm:X.mg x=none)(hv:bootBuiltins x=some u)(h:Q u s)(hn:x ≠ "__name__" := by decide)(hd:(x==("__debug__" : Str))=false:=by decide):wpAny (model X.prog X.w) X.A (eval (.Name x pos) X.env) Q E s:=by obtain ⟨mb,h1,h2⟩:=I.mod.blt;exact Calls.Name_function_global I.ok.kind hg (Calls.loadGlobal_builtin (by rw[I.ok.glob];exact I.mod.glob.keeps I.bk) hm (by rw[I.ok.blt];exact h1.keeps I.bk) ((h2 x hn).trans hv) h) hd
theorem sL{x:Str}{v:V}{u:Value}{pos:Pos}(hg:Gl X x)(hm:X.mg x=some u)(r:aN v u)(hd:(x==("__debug__" : Str))=false:=by decide):PE X (.Name x pos) (tC v) :=
 λ_ _ _ H _ I h=>lX I hg hm ⟨v,H,I,r,h⟩ hd
theorem aAV{x:Str}{v:V}{u:Value}{pos:Pos}(hg:Gl X x)(hm:X.mg x=none)(hv:bootBuiltins x=some u)(r:aN v u)(hn:x ≠ "__name__" := by decide)(hd:(x==("__debug__" : Str))=false:=by decide):PE X (.Name x pos) (tC v) :=
 λ_ _ _ H _ I h=>gS I hg hm hv ⟨v,H,I,r,h⟩ hn hd
variable {a b:Expr}{ta tb:TE}{pos:Pos}
variable {tA tB':TT}{a8:List Expr}
def o7(t u:TT):TT:=λσ H Q=>t σ H λc H1=>if c=true then u σ H1 Q else Q false H1
def tOr(t u:TT):TT:=λσ H Q=>t σ H λc H1=>if c=true then Q true H1 else u σ H1 Q
def tNot(t:TT):TT:=λσ H Q=>t σ H λc H1=>Q (!c) H1
theorem aAW(ha:PT X a tA):PW X (.BoolOp .And [a] pos) tA:=by
 intro wh aA s σ H Q I h;refine isTrue_and (thn (ha aA s σ H Q I h) λc s1 e=>?_);cases c with
 | true=>exact isTrue_and_nil e
 | false=>exact e
theorem aAX(ha:PT X a tA):PW X (.BoolOp .Or [a] pos) tA:=by
 intro wh aA s σ H Q I h;refine isTrue_or (thn (ha aA s σ H Q I h) λc s1 e=>?_);cases c with
 | false=>exact isTrue_or_nil e
 | true=>exact e
theorem aAY(ha:PT X a tA)(hb:PW X (.BoolOp .And (b::a8) pos) tB'):PW X (.BoolOp .And (a::b::a8) pos) (o7 tA tB'):=by
 intro wh aA s σ H Q I h;refine isTrue_and (thn (ha aA s σ H _ I h) λc s1 ⟨H1,I1,q1⟩=>?_);cases c with
 | true=>exact hb wh aA s1 σ H1 Q I1 q1
 | false=>exact ⟨H1,I1,q1⟩
theorem pw_or(ha:PT X a tA)(hb:PW X (.BoolOp .Or (b::a8) pos) tB'):PW X (.BoolOp .Or (a::b::a8) pos) (tOr tA tB'):=by
 intro wh aA s σ H Q I h;refine isTrue_or (thn (ha aA s σ H _ I h) λc s1 ⟨H1,I1,q1⟩=>?_);cases c with
 | true=>exact ⟨H1,I1,q1⟩
 | false=>exact hb wh aA s1 σ H1 Q I1 q1
theorem aAZ(ha:PT X a tA):PT X (.UnaryOp .Not a pos) (tNot tA):=by intro aA s σ H Q I h;exact isTrue_not (ha aA s σ H (λc H1=>Q (!c) H1) I h)
def sM(ta tb:TE):TE:=λσ H Q=>ta σ H λx H1=>∃ c,x=.bl c/\if c=true then tb σ H1 Q else Q (.bl false) H1
def tOrV(ta tb:TE):TE:=λσ H Q=>ta σ H λx H1=>∃ c,x=.bl c/\if c=true then Q (.bl true) H1 else tb σ H1 Q
def sN(ta:TE):TE:=λσ H Q=>ta σ H λx H1=>∃ c,x=.bl c/\Q (.bl (!c)) H1
theorem aA0{op}{t:TE}(h:PE X a t):PE X (.BoolOp op [a] pos) t:=λaA s σ H Q I hw=>BoolOp_one (h aA s σ H Q I hw)
theorem aA1(ha:PE X a ta)(hb:PE X (.BoolOp .And (b::a8) pos) tb):PE X (.BoolOp .And (a::b::a8) pos) (sM ta tb):=by
 intro aA s σ H Q I h;refine BoolOp_and (thn (ha aA s σ H _ I h) λv s1 ⟨x,H1,I1,r1,q1⟩=>?_);obtain ⟨c,rfl,q1⟩:=q1;cases r1;refine aM8 ?_;cases c with
 | true=>exact hb aA s1 σ H1 Q I1 q1
 | false=>exact ⟨.bl false,H1,I1,rfl,q1⟩
theorem pe_or(ha:PE X a ta)(hb:PE X (.BoolOp .Or (b::a8) pos) tb):PE X (.BoolOp .Or (a::b::a8) pos) (tOrV ta tb):=by
 intro aA s σ H Q I h;refine BoolOp_or (thn (ha aA s σ H _ I h) λv s1 ⟨x,H1,I1,r1,q1⟩=>?_);obtain ⟨c,rfl,q1⟩:=q1;cases r1;refine aM8 ?_;cases c with
 | false=>exact hb aA s1 σ H1 Q I1 q1
 | true=>exact ⟨.bl true,H1,I1,rfl,q1⟩
theorem aA2(ha:PE X a ta):PE X (.UnaryOp .Not a pos) (sN ta):=by intro aA s σ H Q I h;refine UnaryOp_ (thn (ha aA s σ H _ I h) λv s1 ⟨x,H1,I1,r1,q1⟩=>?_);obtain ⟨c,rfl,q1⟩:=q1;cases r1;exact not_of (aM8 ⟨.bl (!c),H1,I1,rfl,q1⟩)
end
def SqL(K:Fg)(H:Hp)(a:Addr)(xs:List V):Prop :=
 Rd H a (.lst xs) \/
  ∃ (o:Obj) (its:Array Value) (n:Nat),K.lookup a=some o/\o.cls=.type "list" /\ o.dict=none/\o.data=.seq its n/\its.size<=sizeLine/\aO xs its.toList
def SqT(K:Fg)(H:Hp)(a:Addr)(xs:List V):Prop :=
 Rd H a (.tup xs) \/
  ∃ (o:Obj) (its:Array Value) (n:Nat),K.lookup a=some o/\o.cls=.type "tuple" /\ o.dict=none/\o.data=.seq its n/\its.size<=sizeLine/\aO xs its.toList
def absV:Value->Option V
 | .none=>some .non
 | .bool b=>some (.bl b)
 | .int i _=>some (.int i)
 | .str x _=>some (.str x)
 | .bytes b _=>some (.byt b)
 | .float b _=>some (.flt b)
 | .ref a=>some (.ref a)
 | .type n=>some (.ty n)
 | _=>none
theorem aN.abs{x:V}{u:Value}(r:aN x u):absV u=some x:=by
 cases x with
 | non=>cases r;rfl
 | bl _=>cases r;rfl
 | int _=>obtain ⟨t,rfl⟩:=r;rfl
 | str _=>obtain ⟨t,rfl⟩:=r;rfl
 | byt _=>obtain ⟨t,rfl⟩:=r;rfl
 | flt _=>obtain ⟨t,rfl⟩:=r;rfl
 | ref _=>cases r;rfl
 | ty _=>cases r;rfl
theorem aN.inj{x y:V}{u:Value}(r:aN x u)(q:aN y u):x=y:=aMP (r.abs.symm.trans q.abs)
theorem aO.inj:∀ {xs ys:List V} {us:List Value},aO xs us->aO ys us->xs=ys
 | _,_,_,.nil,.nil=>rfl
 | _,_,_,.cons r t,.cons r' t'=>by rw[r.inj r',aO.inj t t']
section
variable {X:Cx}{aA:LAO}{σ:St}{H:Hp}{s:Shared}{a:Addr}{xs ys:List V}
theorem SqL.of{K:Fg}(h:H a=some (.lst xs)):SqL K H a xs:=.inl (.inl h)
theorem SqT.of{K:Fg}(h:H a=some (.tup xs)):SqT K H a xs:=.inl (.inl h)
theorem Inv.list(I:Inv X aA σ H s)(h:SqL X.K H a xs):∃ its:List Value,aO xs its/\PlainL s.heap a its.toArray/\xs.length<=sizeLine:=by
 rcases h with h | ⟨o,its,n,hk,hc,hd,hs,hz,r⟩
 . obtain ⟨z,its,n,r,e⟩:=h.ok I.hok;exact ⟨its,r,⟨_,n,e,rfl,rfl,rfl⟩,z⟩
 . refine ⟨its.toList,r,⟨o,n,I.kIn a o hk,hc,hd,by simpa using hs⟩,?_⟩
   have e:=r.length;simp only[aM9] at e;omega
theorem Inv.tuple(I:Inv X aA σ H s)(h:SqT X.K H a xs):∃ its:List Value,aO xs its/\IsTup s.heap a its.toArray/\xs.length<=sizeLine:=by
 rcases h with h | ⟨o,its,n,hk,hc,hdt,hs,hz,r⟩
 . obtain ⟨z,its,r,p⟩:=h.ok I.hok;exact ⟨its,r,p.isTup,z⟩
 . refine ⟨its.toList,r,⟨o,I.kIn a o hk,hc,n,by simpa using hs⟩,?_⟩
   have e:=r.length;simp only[aM9] at e;omega
theorem Inv.list_inj(I:Inv X aA σ H s)(h:SqL X.K H a xs)(h':SqL X.K H a ys):xs=ys:=by
 obtain ⟨its,r,⟨o,n,e,_,_,d⟩,_⟩:=I.list h;obtain ⟨its',r',⟨o',n',e',_,_,d'⟩,_⟩:=I.list h';rw[e] at e';cases e';rw[d] at d';injection d' with d1 _
 have:its=its':=by simpa using congrArg Array.toList d1
 subst this;exact r.inj r'
theorem Inv.tuple_inj(I:Inv X aA σ H s)(h:SqT X.K H a xs)(h':SqT X.K H a ys):xs=ys:=by
 obtain ⟨its,r,⟨o,e,_,n,d⟩,_⟩:=I.tuple h;obtain ⟨its',r',⟨o',e',_,n',d'⟩,_⟩:=I.tuple h';rw[e] at e';cases e';rw[d] at d';injection d' with d1 _
 have:its=its':=by simpa using congrArg Array.toList d1
 subst this;exact r.inj r'
end
abbrev Cx.wish(X:Cx)(E:VSP):Cx:={ X with xe:=E }
section
variable {X:Cx}{aA:LAO}{σ:St}{H:Hp}{s:Shared}{E:VSP}
end
section
variable {X:Cx}{st:Stmt}{a8:List Stmt}{t u:TS}{e:Expr}{te:TE}{pos:Pos}
def tNext:TS:=λD σ H=>D.nx σ H
def tSeq(t u:TS):TS:=λD σ H=>t { D with nx:=u D } σ H
theorem aA3:PSs X [] tNext:=λ_ _ σ H _ I h=>wpAny_execs_nil ⟨σ,H,I,h⟩
theorem aA4(h1:PS X st t)(h2:PSs X a8 u):PSs X (st::a8) (tSeq t u):=by
 intro aA s σ H D I h;refine wpAny_execs_cons (thn (h1 aA s σ H { D with nx:=u D } I h) λf s1 q=>?_)
 cases f with
 | next=>obtain ⟨σ',H',I',q⟩:=q;exact h2 aA s1 σ' H' D I' q
 | ret v=>exact q
 | brk=>exact q
 | cont=>exact q
theorem Inv.quiet{aA:LAO}{σ:St}{H:Hp}{s:Shared}(I:Inv X aA σ H s):interactive X.env=false:=by simp[interactive,I.ok.kind]
def tDrop(te:TE):TS:=λD σ H=>te σ H λ_ H1=>D.nx σ H1
theorem aA5(he:PE X e te)(hs:swapsWith e none pos.line X.env=pure false:=by rfl):PS X (.Expr e pos) (tDrop te):=by intro aA s σ H D I h;exact wpAny_Expr_any (thn (he aA s σ H _ I h) λv s1 ⟨x,H1,I1,r1,q1⟩=>⟨σ,H1,I1,q1⟩) I.quiet hs
def tRet(te:TE):TS:=λD σ H=>te σ H D.rt
theorem sO(he:PE X e te):PS X (.Return (some e) pos) (tRet te):=by intro aA s σ H D I h;exact wpAny_Return_some (thn (he aA s σ H _ I h) λv s1 ⟨x,H1,I1,r1,q1⟩=>⟨x,σ,H1,I1,r1,q1⟩)
def tIfS(c:TT)(t u:TS):TS:=λD σ H=>c σ H λb H1=>if b=true then t D σ H1 else u D σ H1
theorem ps_if{c:Expr}{a b:List Stmt}{tc:TT}(hc:PT X c tc)(ha:PSs X a t)(hb:PSs X b u):PS X (.If c a b pos) (tIfS tc t u):=by
 intro aA s σ H D I h;refine wpAny_If (thn (hc aA s σ H _ I h) λd s1 ⟨H1,I1,q1⟩=>?_);cases d with
 | true=>exact ha aA s1 σ H1 D I1 q1
 | false=>exact hb aA s1 σ H1 D I1 q1
end
abbrev TG:=V->St->Hp->(St->Hp->Prop)->Prop
abbrev TGs:=List V->St->Hp->(St->Hp->Prop)->Prop
def PG(X:Cx)(target:Expr)(t:TG):Prop :=
 ∀ (aA:LAO) (s:Shared) (σ:St) (H:Hp) (v:V) (u:Value) (Q:St->Hp->Prop),Inv X aA σ H s->aN v u->t v σ H Q ->
  wpAny (model X.prog X.w) X.A (assign target X.env u) (λ_ s'=>∃ σ' H',Inv X aA σ' H' s'/\Q σ' H') X.xe s
def PGs(X:Cx)(ts:List Expr)(t:TGs):Prop :=
 ∀ (aA:LAO) (s:Shared) (σ:St) (H:Hp) (vs:List V) (us:List Value) (Q:St->Hp->Prop),Inv X aA σ H s->aO vs us->t vs σ H Q ->
  wpAny (model X.prog X.w) X.A (assignInOrder ((assignEach ts X.env).map (·.2)) us) (λ_ s'=>∃ σ' H',Inv X aA σ' H' s'/\Q σ' H') X.xe s
section
variable {X:Cx}{pos:Pos}
def j6(i:Nat):TG:=λv σ H Q=>Q (σ.set i (some v)) H
theorem aA6{i:Nat}{x:Str}(hN:X.N.Nodup)(hi:X.N[i]? = some x)(hx:Loc X.env.scope x)(hf:X.fn x=true\/X.env.scope.names.lookup x=some .local:=by first | exact .inl rfl | exact .inr rfl | assumption):PG X (.Name x pos) (j6 i):=by intro aA s σ H v u Q I r h;exact wpAny_assign_Name (lV I hN hi hx r (λs' I'=>⟨_,H,I',h⟩) hf)
def gNil:TGs:=λvs σ H Q=>vs=[]/\Q σ H
def sP(t:TG)(u:TGs):TGs:=λvs σ H Q=>∃ v r,vs=v::r/\t v σ H λσ' H'=>u r σ' H' Q
theorem aA7:PGs X [] gNil:=by intro aA s σ H vs us Q I r h;obtain ⟨e,h⟩:=h;subst e;cases r;exact assignInOrder_nil ⟨σ,H,I,h⟩
theorem aA8{e:Expr}{es:List Expr}{t:TG}{u:TGs}(h1:PG X e t)(h2:PGs X es u)(hs:(assignEach (e::es) X.env).map (·.2)=assign e X.env::(assignEach es X.env).map (·.2):=by rfl):PGs X (e::es) (sP t u):=by
 intro aA s σ H vs us Q I r h;obtain ⟨v,vr,e1,h⟩:=h;subst e1;cases r with
 | cons r rr=>rw[hs];refine assignInOrder_cons (thn (h1 aA s σ H _ _ _ I r h) λ_ s1 ⟨σ1,H1,I1,q1⟩=>?_);exact h2 aA s1 σ1 H1 _ _ Q I1 rr q1
def gTup(K:Fg)(n:Nat)(t:TGs):TG:=λv σ H Q=>∃ a xs,v=.ref a/\SqT K H a xs/\xs.length=n/\t xs σ H Q
theorem aA9{es:List Expr}{k:Nat}{t:TGs}{n:Nat}(hc:X.calm=true)(h:PGs X es t)(hn:(assignEach es X.env).length=n:=by rfl)(hst:(assignEach es X.env).findIdx? (·.1)=none:=by rfl):PG X (.Tuple es k pos) (gTup X.K n t):=by
 intro aA s σ H v u Q I r hw;obtain ⟨a,xs,e1,hq,hl,hw⟩:=hw;subst e1;cases r;obtain ⟨its,rv,ht,hz⟩:=I.tuple hq;refine assign_Tuple_tuple (I.ok.hd hc) ht (by simp[hn,<- hl,rv.length]) hst λh' hx=>?_
 have I1:Inv X aA σ H { s with heap:=h' }:=I.kept (t':=s.toks) λb o e=>hx b o (aMU (aMR e)) e
 exact h aA _ σ H xs _ Q I1 (by simpa using rv) hw
def j7(te:TE)(g:TG):TS:=λD σ H=>te σ H λx H1=>g x σ H1 D.nx
theorem aBA{tg e:Expr}{te:TE}{g:TG}(he:PE X e te)(hg:PG X tg g)(hs:swapsWithSole [tg] e pos.line X.env=pure false:=by rfl)(hw:swappedStores [tg] e X.env=pure none:=by rfl)(h1:(assignEach [tg] X.env).map (·.2)=[assign tg X.env]:=by rfl):PS X (.Assign [tg] e pos) (j7 te g):=by intro aA s σ H D I h;refine wpAny_Assign_stores (thn (he aA s σ H _ I h) λv s1 ⟨x,H1,I1,r1,q1⟩=>?_) hs hw;rw[h1];exact thn (hg aA s1 σ H1 x v _ I1 r1 q1) λ_ s2 q=>q
theorem aBB{i:Nat}{x:Str}{e:Expr}{te:TE}{pos':Pos}(hN:X.N.Nodup)(hi:X.N[i]? = some x)(hx:Loc X.env.scope x)(he:PE X e te)(hs:swapsWith e (some (.Name x pos')) pos.line X.env=pure false:=by rfl)(hf:X.fn x=true\/X.env.scope.names.lookup x=some .local:=by first | exact .inl rfl | exact .inr rfl | assumption):PS X (.Assign [.Name x pos'] e pos) (j7 te (j6 i)):=by intro aA s σ H D I h;refine wpAny_Assign_Name (thn (he aA s σ H _ I h) λv s1 ⟨y,H1,I1,r1,q1⟩=>?_) hs;exact lV I1 hN hi hx r1 (λs2 I2=>⟨_,H1,I2,q1⟩) hf
def tPar(i j:Nat)(ta:TA):TS:=λD σ H=>ta σ H λvs H1=>∃ v w,vs=[v,w]/\D.nx ((σ.set i (some v)).set j (some w)) H1
theorem aBC{i j:Nat}{x y:Str}{a b:Expr}{ta:TA}{px py pt:Pos}{kt k2 pt2}(hc:X.calm=true)(hN:X.N.Nodup)(hi:X.N[i]? = some x)(hj:X.N[j]? = some y)(hij:i≠j)(hx:X.env.scope.names.lookup x=some .local)(hy:X.env.scope.names.lookup y=some .local)(ha:PA X [a,b] ta)(hw:swappedStores [.Tuple [.Name x px,.Name y py] kt pt] (.Tuple [a,b] k2 pt2) X.env=pure (some [x,y]))(hs:swapsWithSole [.Tuple [.Name x px,.Name y py] kt pt] (.Tuple [a,b] k2 pt2) pos.line X.env=pure false:=by rfl):PS X (.Assign [.Tuple [.Name x px,.Name y py] kt pt] (.Tuple [a,b] k2 pt2) pos) (tPar i j ta):=by
 intro aA s σ H D I h;rw[exec_Assign_arm];refine aNA (aNB ?_);rw[hs];refine aNA (aNC ?_);rw[if_neg (by decide)]
 refine aNA (Tuple_ (thn (ha _ aA s σ H _ I h) λus s1 ⟨vs,H1,I1,r1,q1⟩=>?_));obtain ⟨v,w,e1,q1⟩:=q1;subst e1;obtain ⟨u1,u2,rfl,rv,rw'⟩:∃ u1 u2,us=[u1,u2]/\aN v u1/\aN w u2:=by
  cases r1 with
  | cons p q =>
   cases q with
   | cons p' q'=>cases q';exact ⟨_,_,rfl,p,p'⟩
 refine aND ?_ (by show 2<=sizeLine;decide)
 have I2:Inv X aA σ H1 { s1 with heap:=s1.heap.push { cls:=.type "tuple", data:=.seq [u1,u2].toArray } }:=I1.kept (t':=s1.toks) λb o e=>hps e
 rw[hw];refine aNA (aNC ?_);show wpAny (model X.prog X.w) X.A (do rule "assign.swapped-stores"; let items <- unpackItems (.ref s1.heap.objs.size) 2 none;assignInOrder [λv=>bindName X.env y v,λv=>bindName X.env x v] items.reverse;pure Flow.next) _ _ _
 refine aNA (aNE (aNA (unpackItems_tuple (items:=#[u1,u2]) (I.ok.hd hc) (IsTup.new s1.heap _) λh' hx'=>?_)));have I3:=I2.kept (h':=h') (t':=s1.toks) λb o e=>hx' b o (aMU (aMR e)) e;show wpAny _ _ (assignInOrder [λv=>bindName X.env y v,λv=>bindName X.env x v] [u2,u1] >>= λ_=>pure Flow.next) _ _ _;refine aNA (assignInOrder_cons (wpAny_bindName (lV I3 hN hj (.inl hy) rw' (λs2 I4=>?_) (.inr hy))));refine assignInOrder_cons (wpAny_bindName (lV I4 hN hi (.inl hx) rv (λs3 I5=>assignInOrder_nil (aNC ?_)) (.inr hx)));rw[List.set_comm _ _ (Ne.symm hij)] at I5;exact ⟨_,H1,I5,q1⟩
end
section
variable {X:Cx}{pos:Pos}
end
structure It where
 go:Nat->Hp->Prop
 yld:Nat->Hp->V->Hp->Prop
 stop:Nat->Hp->Prop
def dY(X:Cx)(aA:LAO)(H:Hp)(b:Addr):Prop :=
 H b=none/\b≠X.env.locals/\b∉X.fs/\(b∈X.ex\/X.s₀.heap.objs.size<=b)/\(∀ x c,X.env.cells.lookup x=some c->c≠b)/\∀ p∈X.pn++aA,p.1≠b
theorem Inv.fpOk{X:Cx}{aA:LAO}{σ:St}{H H':Hp}{s:Shared}{b:Addr}(I:Inv X aA σ H s)(hb:s.heap.objs.size<=b)(hn:H' b=none):dY X aA H' b:=by
 refine ⟨hn,aNF (aMS I.lt hb),I.nofs hb,.inr (aMY I.sz hb),λx c e z=>?_,λp hp z=>?_⟩
 . obtain ⟨v,q⟩:=I.cell x c e;exact absurd (aMS q.lt (by rw[z];exact hb)) (aMT _)
 . exact absurd (aMS (aMR (I.pin p hp).1) (by rw[z];exact hb)) (aMT _)
structure fY(P:Program)(w:World)(K:Fg)(tg:Expr)(J:It)(fp:List Addr)(it:Addr)(tn:Nat->Heap->Prop):Prop where
 mem:it∈fp
 obj:∀ i h,tn i h->∀ b∈fp,∃ o,h.get? b=some o/\∀ v,o.data ≠ .cell v
 keep:∀ i h h',tn i h->(∀ b∈fp,∀ o,h.get? b=some o->h'.get? b=some o)->tn i h'
 item:∀ (X:Cx),X.prog=P->X.w=w->X.K=K->X.calm=true->∀ (i:Nat) (aA:LAO) (s:Shared) (σ:St) (H:Hp) (E:VSP),Inv X aA σ H s->(∀ b∈fp,dY X aA H b)->tn i s.heap->J.go i H ->
  wpAny (model P w) X.A (pyNext (.ref it)) (λr s1=>∃ u,r=some u /\
   wpAny (model P w) X.A (letOwnedTupleGo tg (.ref it) u) (λ_ s2=>∃ x H',Inv X aA σ H' s2/\aN x u/\J.yld i H x H'/\tn (i+1) s2.heap/\∀ b∈fp,H' b=none) E s1) E s
 done:∀ (X:Cx),X.prog=P->X.w=w->X.K=K->X.calm=true->∀ (i:Nat) (aA:LAO) (s:Shared) (σ:St) (H:Hp) (E:VSP),Inv X aA σ H s->(∀ b∈fp,dY X aA H b)->tn i s.heap->J.stop i H ->
  wpAny (model P w) X.A (pyNext (.ref it)) (λr s1=>r=none/\Inv X aA σ H s1) E s
 self:∀ (A:Around) (i:Nat) (s:Shared) (Q:VSP) (E:VSP),tn i s.heap->Q (.ref it) s->wpAny (model P w) A (pyIter (.ref it)) Q E s
abbrev TI:=St->Hp->(It->Hp->Prop)->Prop
def PIE(X:Cx)(aA:LAO)(σ:St)(tg:Expr)(R:It->Hp->Prop)(itv:Value)(s2:Shared):Prop :=
 ∃ (it:Addr) (fp:List Addr) (tn:Nat->Heap->Prop) (J:It) (H':Hp),itv=.ref it/\Inv X aA σ H' s2/\fY X.prog X.w X.K tg J fp it tn/\tn 0 s2.heap/\(∀ b∈fp,dY X aA H' b)/\R J H'
def PI(X:Cx)(tg aP:Expr)(wi:TI):Prop :=
 ∀ (aA:LAO) (s:Shared) (σ:St) (H:Hp) (R:It->Hp->Prop),Inv X aA σ H s->wi σ H R ->
  wpAny (model X.prog X.w) X.A (eval aP X.env) (λv s1=>wpAny (model X.prog X.w) X.A (pyIter v) (PIE X aA σ tg R) X.xe s1) X.xe s
theorem lY{M:Model}{A:Around}{E:VSP}{s:Shared}{tg:Expr}{it:Addr}{u:Value}{o:Obj}{n:String}{vs:Array Value}{Q:Unit->Shared->Prop}(ho:s.heap.get? it=some o)(hc:o.cls=.type n)(hd:o.data=.fields vs)(hn:["enumerate", "zip", "dict_itemiterator", "dict_reverseitemiterator", "odict_iterator", "itertools.zip_longest", "itertools.pairwise"].contains n=false)(hQ:Q () s):wpAny M A (letOwnedTupleGo tg (.ref it) u) Q E s:=by
 unfold letOwnedTupleGo;cases tg <;> first
  | exact aNC hQ
  | (cases u <;> first
      | exact aNC hQ
      | (refine aNA (wpAny_load ho ?_)
         rw[hc,hd];show wpAny M A (if (["enumerate", "zip", "dict_itemiterator", "dict_reverseitemiterator", "odict_iterator", "itertools.zip_longest", "itertools.pairwise"].contains n&&vs[0]?==some (rawInt _))=true then _ else _) Q E s;rw[if_neg (by intro h;rw[hn,Bool.false_and] at h;cases h)]
         exact aNC hQ))
def Itl(K:Fg)(a:Addr):It :=
 ⟨λi H=>∃ xs x,SqL K H a xs/\xs[i]? = some x,λi H x H'=>H'=H/\∀ xs,SqL K H a xs->xs[i]? = some x,λi H=>∃ xs,SqL K H a xs/\xs.length<=i⟩
def Itt(K:Fg)(a:Addr):It :=
 ⟨λi H=>∃ xs x,SqT K H a xs/\xs[i]? = some x,λi H x H'=>H'=H/\∀ xs,SqT K H a xs->xs[i]? = some x,λi H=>∃ xs,SqT K H a xs/\xs.length<=i⟩
def Itr(lo:Int)(n:Nat):It:=⟨λi _=>i<n,λi H x H'=>H'=H/\x=.int (lo+i),λi _=>n<=i⟩
theorem aBD{P:Program}{w:World}{K:Fg}{tg:Expr}(a it:Addr):fY P w K tg (Itl K a) [it] it (λi h=>h.IsListIter it a i) where
 mem:=by simp
 obj:=λi h st b hb=>by
  have e:b=it:=by simpa using hb
  subst e;obtain ⟨o,e,c,d⟩:=st;exact ⟨o,e,λv z=>by rw[d] at z;cases z⟩
 keep:=λi h h' st k=>st.at λo e=>k it (by simp) o e
 item:=by
  intro X hP hw hK hc i aA s σ H E I hf st hg;subst hP hw hK;obtain ⟨xs,x,hq,hx⟩:=hg;obtain ⟨its,rv,p,hz⟩:=I.list hq;obtain ⟨u,hu,ru⟩:=rv.get hx;obtain ⟨f0,f1,f2,f3,f4,f5⟩:=hf it (by simp)
  refine wpAny_pyNext_list_item st p.isList (x:=u) (by simpa using hu) λh' st' sb=>?_
  have I1:Inv X aA σ H { s with heap:=h' }:=I.turned (t':=s.toks) (λb o hb e=>(sb.2 b hb).trans e) f0 f1 f3 f4 f5
  obtain ⟨o,e,c,d⟩:=id st';exact ⟨u,rfl,lY (s:={ s with heap:=h' }) e c d (by decide) ⟨x,H,I1,ru,⟨rfl,λys hy=>by rw[I.list_inj hy hq];exact hx⟩,st',λb hb=>(hf b hb).1⟩⟩
 done:=by
  intro X hP hw hK hc i aA s σ H E I hf st hg;subst hP hw hK;obtain ⟨xs,hq,hx⟩:=hg;obtain ⟨its,rv,p,hz⟩:=I.list hq;obtain ⟨f0,f1,f2,f3,f4,f5⟩:=hf it (by simp)
  have hl:=rv.length;exact wpAny_pyNext_list_end (I.ok.hd hc) st p.isList (by simp;omega) λh' eb=>⟨rfl,I.turned (t':=s.toks) (λb o hb e=>eb b o hb e) f0 f1 f3 f4 f5⟩
 self:=λ_ _ _ _ _ st h=>wpAny_pyIter_listiter st h
theorem aBE{P:Program}{w:World}{K:Fg}{tg:Expr}(a it:Addr):fY P w K tg (Itt K a) [it] it (λi h=>h.IsTupleIter it a i) where
 mem:=by simp
 obj:=λi h st b hb=>by
  have e:b=it:=by simpa using hb
  subst e;obtain ⟨o,e,c,d⟩:=st;exact ⟨o,e,λv z=>by rw[d] at z;cases z⟩
 keep:=λi h h' st k=>st.at λo e=>k it (by simp) o e
 item:=by
  intro X hP hw hK hc i aA s σ H E I hf st hg;subst hP hw hK;obtain ⟨xs,x,hq,hx⟩:=hg;obtain ⟨its,rv,p,hz⟩:=I.tuple hq;obtain ⟨u,hu,ru⟩:=rv.get hx;obtain ⟨f0,f1,f2,f3,f4,f5⟩:=hf it (by simp)
  refine wpAny_pyNext_tuple_item st (show s.heap.IsTuple a its.toArray from p) (x:=u) (by simpa using hu) λh' st' sb=>?_
  have I1:Inv X aA σ H { s with heap:=h' }:=I.turned (t':=s.toks) (λb o hb e=>(sb.2 b hb).trans e) f0 f1 f3 f4 f5
  obtain ⟨o,e,c,d⟩:=id st';exact ⟨u,rfl,lY (s:={ s with heap:=h' }) e c d (by decide) ⟨x,H,I1,ru,⟨rfl,λys hy=>by rw[I.tuple_inj hy hq];exact hx⟩,st',λb hb=>(hf b hb).1⟩⟩
 done:=by
  intro X hP hw hK hc i aA s σ H E I hf st hg;subst hP hw hK;obtain ⟨xs,hq,hx⟩:=hg;obtain ⟨its,rv,p,hz⟩:=I.tuple hq;obtain ⟨f0,f1,f2,f3,f4,f5⟩:=hf it (by simp)
  have hl:=rv.length;exact wpAny_pyNext_tuple_end (I.ok.hd hc) st (show s.heap.IsTuple a its.toArray from p) (by simp;omega) λh' eb=>⟨rfl,I.turned (t':=s.toks) (λb o hb e=>eb b o hb e) f0 f1 f3 f4 f5⟩
 self:=λ_ _ _ _ _ st h=>wpAny_pyIter_tupleiter st h
theorem aBF{P:Program}{w:World}{K:Fg}{tg:Expr}(it:Addr)(lo:Int)(n:Nat):fY P w K tg (Itr lo n) [it] it (λi h=>IsRangeIter h it (lo+(i:Nat) * 1) ((n:Int)-(i:Nat)) 1) where
 mem:=by simp
 obj:=λi h st b hb=>by
  have e:b=it:=by simpa using hb
  subst e;exact ⟨_,st,λv z=>by
   have z':Data.fields _=Data.cell v:=z;cases z'⟩
 keep:=λi h h' st k=>k it (by simp) _ st
 item:=by
  intro X hP hw hK hc i aA s σ H E I hf st hg;subst hP hw hK;obtain ⟨f0,f1,f2,f3,f4,f5⟩:=hf it (by simp)
  have W:=Walks.range (prog:=X.prog) (w:=X.w) (I.ok.hd hc) it lo 1 n;refine W.item i s _ _ hg st λv h' tk hv st' kk=>?_;obtain ⟨t,rfl⟩:=hv;have I1:Inv X aA σ H { s with heap:=h',toks:=tk }:=I.turned (λb o hb e=>kk b o (by simpa using hb) e) f0 f1 f3 f4 f5
  refine ⟨_,rfl,lY (s:={ s with heap:=h',toks:=tk }) (n := "range_iterator") st' rfl rfl (by decide) ⟨.int (lo+i),H,I1,⟨t,?_⟩,⟨rfl,rfl⟩,st',λb hb=>(hf b hb).1⟩⟩
  rw[Int.mul_one]
 done:=by
  intro X hP hw hK hc i aA s σ H E I hf st hg;subst hP hw hK;obtain ⟨f0,f1,f2,f3,f4,f5⟩:=hf it (by simp)
  exact wpAny_pyNext_range_end (I.ok.hd hc) st (by have:n<=i:=hg;omega) λh' eb=>⟨rfl,I.turned (t':=s.toks) (λb o hb e=>eb b o hb e) f0 f1 f3 f4 f5⟩
 self:=λ_ _ _ _ _ st h=>wpAny_pyIter_rangeiter st h
section
variable {X:Cx}{tg:Expr}
def o8(K:Fg)(tl:TE):TI:=λσ H R=>tl σ H λx H1=>∃ a,x=.ref a/\(∃ xs,SqL K H1 a xs)/\R (Itl K a) H1
def iTup(K:Fg)(tl:TE):TI:=λσ H R=>tl σ H λx H1=>∃ a,x=.ref a/\(∃ xs,SqT K H1 a xs)/\R (Itt K a) H1
theorem aBG{l:Expr}{tl:TE}(hl:PE X l tl):PI X tg l (o8 X.K tl):=by
 intro aA s σ H R I h;refine thn (hl aA s σ H _ I h) λv s1 ⟨x,H1,I1,r1,q1⟩=>?_;obtain ⟨a,e,⟨xs,hq⟩,q⟩:=q1;subst e;cases r1;obtain ⟨its,rv,p,hz⟩:=I1.list hq;refine aNG p.isList ?_;refine ⟨s1.heap.objs.size,[s1.heap.objs.size],_,_,H1,rfl,I1.kept (t':=s1.toks) λb o e=>hps e,aBD a _,⟨_,aMQ _ rfl,rfl,rfl⟩,λb hb=>?_,q⟩;have e:b=s1.heap.objs.size:=by simpa using hb
 subst e;exact I1.fpOk (aNH _) (I1.hok.fresh (aNH _))
theorem aBH{l:Expr}{tl:TE}(hl:PE X l tl):PI X tg l (iTup X.K tl):=by
 intro aA s σ H R I h;refine thn (hl aA s σ H _ I h) λv s1 ⟨x,H1,I1,r1,q1⟩=>?_;obtain ⟨a,e,⟨xs,hq⟩,q⟩:=q1;subst e;cases r1;obtain ⟨its,rv,p,hz⟩:=I1.tuple hq;refine aNI (show s1.heap.IsTuple a its.toArray from p) ?_
 refine ⟨s1.heap.objs.size,[s1.heap.objs.size],_,_,H1,rfl,I1.kept (t':=s1.toks) λb o e=>hps e,aBE a _,⟨_,aMQ _ rfl,rfl,rfl⟩,λb hb=>?_,q⟩;have e:b=s1.heap.objs.size:=by simpa using hb
 subst e;exact I1.fpOk (aNH _) (I1.hok.fresh (aNH _))
theorem aBI{aA:LAO}{σ:St}{H:Hp}{s:Shared}{R:It->Hp->Prop}{E:VSP}{lo hi:Int}{t u v:Tok}{tk:Nat}(I:Inv X aA σ H s)(h1:-(2 ^ 62)<=lo)(h2:lo<2 ^ 62)(h3:-(2 ^ 62)<=hi)(h4:hi<2 ^ 62)(q:R (Itr lo (hi-lo).toNat) H):wpAny (model X.prog X.w) X.A (pyIter (.ref s.heap.objs.size)) (PIE X aA σ tg R) E { s with heap:=s.heap.push { cls:=.type "range", data:=.fields #[.int lo t,.int hi u,.int 1 v] },toks:=tk }:=by
 refine wpAny_pyIter_range (IsRange.new ..) (small_one h1 h2 h3 h4) ?_;have I1:Inv X aA σ H { s with heap:=s.heap.push { cls:=.type "range", data:=.fields #[.int lo t,.int hi u,.int 1 v] },toks:=tk }:=I.kept λb o e=>hps e
 refine ⟨(s.heap.push { cls:=.type "range", data:=.fields #[.int lo t,.int hi u,.int 1 v] }).objs.size,[(s.heap.push { cls:=.type "range", data:=.fields #[.int lo t,.int hi u,.int 1 v] }).objs.size],_,_,H,rfl,
  I1.kept (t':=tk) λb o e=>hps e,aBF _ lo (hi-lo).toNat,?_,λb hb=>?_,q⟩
 . have e1:lo+((0:Nat):Int) * 1=lo:=by simp
   have e2:(((hi-lo).toNat:Nat):Int)-((0:Nat):Int)=Builtin.Range.rangeSize lo hi 1:=by rw[rangeSize_one];split <;> omega
   show IsRangeIter _ _ (lo+((0:Nat):Int) * 1) ((((hi-lo).toNat:Nat):Int)-((0:Nat):Int)) 1;rw[e1,e2];exact aMQ _ rfl
 . have e:b=(s.heap.push { cls:=.type "range", data:=.fields #[.int lo t,.int hi u,.int 1 v] }).objs.size:=by simpa using hb
   subst e;exact I1.fpOk (aNH _) (I1.hok.fresh (aNH _))
def sQ(ta:TA):TI:=λσ H R=>ta σ H λvs H1=>∃ j:Int,vs=[.int j] /\ -(2 ^ 62)<=j/\j<2 ^ 62/\R (Itr 0 j.toNat) H1
theorem aBJ{a:Expr}{ta:TA}{p pos:Pos}(hg:Gl X "range")(hm:X.mg "range" = none)(ha:PA X [a] ta)(hs:starEach [a] X.env=[(false,eval a X.env)]:=by rfl):PI X tg (.Call (.Name "range" p) [a] [] pos) (sQ ta):=by
 intro aA s σ H R I h;refine Call_ (gS I hg hm boot_range (aNJ (thn (ha pos aA s σ H _ I h) λus s1 ⟨vs,H1,I1,r1,q1⟩=>?_) hs rfl));obtain ⟨j,e,q1,q2,q⟩:=q1;subst e;cases r1 with
 | cons r rr=>cases rr;obtain ⟨t,rfl⟩:=r;exact call_range_1 (aBI I1 (by omega) (by omega) q1 q2 (by simpa using q))
def tFor(wi:TI)(g:TG)(tb:TS):TS:=λD σ H=>wi σ H λJ H1=>∃ W:Nat->Nat->St->Hp->Prop,(∃ m,W 0 m σ H1)/\∀ i m σ H,W i m σ H ->
 (J.stop i H/\D.nx σ H)\/(J.go i H/\∃ N:St->Hp->Prop,(∀ σ' H',N σ' H'->∃ m',m'<m/\W (i+1) m' σ' H')/\∀ x H',J.yld i H x H'->g x σ H' λσ2 H2=>tb { D with nx:=N,ct:=N,bk:=D.nx } σ2 H2)
def j8(fp:List Addr)(h:Heap):LAO:=fp.filterMap λb=>(h.get? b).map λo=>(b,o)
theorem o9{fp:List Addr}{h:Heap}{b:Addr}{o:Obj}(hb:b∈fp)(e:h.get? b=some o):(b,o)∈j8 fp h:=aNK.mpr ⟨b,hb,by rw[e];rfl⟩
theorem aBK{fp:List Addr}{h:Heap}{p:Addr×Obj}(hp:p∈j8 fp h):p.1∈fp/\h.get? p.1=some p.2:=by
 obtain ⟨b,hb,e⟩:=aNK.mp hp;cases q:h.get? b with
 | none=>rw[q] at e;cases e
 | some o=>rw[q] at e;have e':(b,o)=p:=aMP e;subst e';exact ⟨hb,q⟩
theorem Inv.pinned{aA:LAO}{σ:St}{H:Hp}{s:Shared}{fp:List Addr}(I:Inv X aA σ H s)(hf:∀ b∈fp,dY X aA H b)(ho:∀ b∈fp,∃ o,s.heap.get? b=some o/\∀ v,o.data ≠ .cell v):Inv X (aA++j8 fp s.heap) σ H s :=
 I.pins_of λp hp=>(aM1.mp hp).elim (λz=>I.pin p (aNL _ z)) λz=>by obtain ⟨hb,e⟩:=aBK z;obtain ⟨f0,f1,f2,_⟩:=hf p.1 hb;obtain ⟨o,e',d⟩:=ho p.1 hb;rw[e] at e';cases e';exact ⟨e,f0,f1,f2,d⟩
theorem Inv.unpinned{aA pl:LAO}{σ:St}{H:Hp}{s:Shared}(I:Inv X (aA++pl) σ H s):Inv X aA σ H s:=I.pins_of λp hp=>I.pin p (aNL _ (aM2 _ hp))
theorem aBL{aP:Expr}{body:List Stmt}{wi:TI}{g:TG}{tb:TS}{pos:Pos}(hp:PassesOwn (model X.prog X.w) X.A X.env X.xe)(hc:X.calm=true)(hi:PI X tg aP wi)(hg:PG X tg g)(hb:PSs X body tb)(hs:∀ x,foldedSetIterable aP X.env x=pure x:=by intro _;rfl):PS X (.For tg aP body [] pos) (tFor wi g tb):=by
 intro aA s σ H D I h;refine wpAny_For (thn (hi aA s σ H _ I h) λv s1 h1=>thn h1 λitv s2 h2=>?_) hs;obtain ⟨it,fp,tn,J,H2,e,I2,T,st2,f2,W,⟨m0,w0⟩,turn⟩:=h2;subst e;have stat:∀ {H':Hp},(∀ b∈fp,H' b=none)->∀ b∈fp,dY X aA H' b:=λhn b hb=>⟨hn b hb,(f2 b hb).2⟩;refine codeAny_forLoop_any (λn s'=>∃ i σ' H',Inv X aA σ' H' s'/\tn i s'.heap/\(∀ b∈fp,H' b=none)/\W i n σ' H') ?_ m0 ⟨0,σ,H2,I2,st2,λb hb=>(f2 b hb).1,w0⟩;rintro n s3 ⟨i,σ3,H3,I3,st3,fr3,w3⟩;rcases turn i n σ3 H3 w3 with ⟨stop,qn⟩ | ⟨go,N,hN,step⟩
 . refine aNM hp (thn (T.done X rfl rfl rfl hc i aA s3 σ3 H3 X.xe I3 (stat fr3) st3 stop) λr s4 ⟨hr,I4⟩=>?_);subst hr;exact wpAny_execs_nil ⟨σ3,H3,I4,qn⟩
 . refine aNM hp (thn (T.item X rfl rfl rfl hc i aA s3 σ3 H3 X.xe I3 (stat fr3) st3 go) λr s4 ⟨u,hr,h4⟩=>?_);subst hr;refine aNM hp (thn h4 λ_ s5 ⟨x,H5,I5,r5,y5,st5,fr5⟩=>?_);have I5':=I5.pinned (stat fr5) (T.obj _ _ st5);refine aNM hp (thn (hg _ s5 σ3 H5 x u _ I5' r5 (step x H5 y5)) λ_ s6 ⟨σ6,H6,I6,q6⟩=>?_);refine aNM hp (thn (hb _ s6 σ6 H6 _ I6 q6) λf s7 q7=>?_);have again:∀ {σ7:St} {H7:Hp},Inv X (aA++j8 fp s5.heap) σ7 H7 s7->N σ7 H7->∃ m,m<n/\∃ i σ' H',Inv X aA σ' H' s7/\tn i s7.heap/\(∀ b∈fp,H' b=none)/\W i m σ' H':=λ{σ7 H7} I7 n7=>by obtain ⟨m',hm,w7⟩:=hN σ7 H7 n7;refine ⟨m',hm,i+1,σ7,H7,I7.unpinned,T.keep _ _ _ st5 λb hb o e=>(I7.pin (b,o) (aNL _ (aNL _ (o9 hb e)))).1,λb hb=>?_,w7⟩;obtain ⟨o,e,d⟩:=T.obj _ _ st5 b hb;exact (I7.pin (b,o) (aNL _ (aNL _ (o9 hb e)))).2.1
   cases f with
   | next=>obtain ⟨σ7,H7,I7,n7⟩:=q7;exact again I7 n7
   | cont=>obtain ⟨σ7,H7,I7,n7⟩:=q7;exact again I7 n7
   | brk=>obtain ⟨σ7,H7,I7,q7⟩:=q7;exact ⟨σ7,H7,I7.unpinned,q7⟩
   | ret v=>obtain ⟨x7,σ7,H7,I7,r7,q7⟩:=q7;exact ⟨x7,σ7,H7,I7.unpinned,r7,q7⟩
end
abbrev R2:=V->V->Hp->VK->Prop
def OpR(X:Cx)(f:Value->Value->Sem Value)(r:R2):Prop :=
 ∀ (aA:LAO) (s:Shared) (σ:St) (H:Hp) (x y:V) (v u:Value) (Q:VK),Inv X aA σ H s->aN x v->aN y u->r x y H Q ->
  wpAny (model X.prog X.w) X.A (f v u) (EP X aA σ Q) X.xe s
def fZ(X:Cx)(f:Value)(r:List V->Hp->VK->Prop):Prop :=
 ∀ (aA:LAO) (s:Shared) (σ:St) (H:Hp) (xs:List V) (us:List Value) (Q:VK),Inv X aA σ H s->aO xs us->r xs H Q ->
  wpAny (model X.prog X.w) X.A (call f us) (EP X aA σ Q) X.xe s
def TruR(X:Cx)(r:V->Hp->(Bool->Hp->Prop)->Prop):Prop :=
 ∀ (aA:LAO) (s:Shared) (σ:St) (H:Hp) (x:V) (v:Value) (Q:Bool->Hp->Prop),Inv X aA σ H s->aN x v->r x H Q ->
  wpAny (model X.prog X.w) X.A (truthy v) (TP X aA σ Q) X.xe s
def tOp(r:R2)(ta tb:TE):TE:=λσ H Q=>ta σ H λx H1=>tb σ H1 λy H2=>r x y H2 Q
def rI(C:Int->Int->Prop)(g:Int->Int->V):R2:=λx y H Q=>∃ i j,x=.int i/\y=.int j/\C i j/\Q (g i j) H
def rI0(g:Int->Int->V):R2:=λx y H Q=>∃ i j,x=.int i/\y=.int j/\Q (g i j) H
section
variable {X:Cx}{a b c:Expr}{ta tb tc:TE}{pos:Pos}
theorem pA(ha:PE X a ta)(hb:PE X b tb){aA:LAO}{s:Shared}{σ:St}{H:Hp}{R:V->V->Hp->Prop}(I:Inv X aA σ H s)(h:ta σ H λx H1=>tb σ H1 λy H2=>R x y H2){Q:VSP}{f:Value->Value->Sem Value}(hf:∀ v u s2 x y H2,Inv X aA σ H2 s2->aN x v->aN y u->R x y H2->wpAny (model X.prog X.w) X.A (f v u) Q X.xe s2):wpAny (model X.prog X.w) X.A (eval a X.env) (λv s₁=>wpAny (model X.prog X.w) X.A (eval b X.env) (λu s₂=>wpAny (model X.prog X.w) X.A (f v u) Q X.xe s₂) X.xe s₁) X.xe s:=by refine thn (ha aA s σ H _ I h) λv s1 ⟨x,H1,I1,r1,q1⟩=>?_;refine thn (hb aA s1 σ H1 _ I1 q1) λu s2 ⟨y,H2,I2,r2,q2⟩=>?_;exact hf v u s2 x y H2 I2 r1 r2 q2
theorem pe_op{op:Operator}{r:R2}(ho:OpR X (binaryOp op) r)(ha:PE X a ta)(hb:PE X b tb):PE X (.BinOp a op b pos) (tOp r ta tb):=by intro aA s σ H Q I h;exact wpAny_BinOp (pA ha hb I h λv u s2 x y H2 I2 rx ry q=>ho aA s2 σ H2 x y v u Q I2 rx ry q)
theorem opI{f:Value->Value->Sem Value}{C:Int->Int->Prop}{g:Int->Int->Int}(rule:∀ (i j:Int) (t u:Tok) (s:Shared) (Q:VSP) (E:VSP),C i j->Q (.int (g i j) s.toks) { s with toks:=s.toks+1 } -> wpAny (model X.prog X.w) X.A (f (.int i t) (.int j u)) Q E s):OpR X f (rI C λi j=>.int (g i j)):=by intro aA s σ H x y v u Q I rx ry h;obtain ⟨i,j,rfl,rfl,hc,q⟩:=h;obtain ⟨t,rfl⟩:=rx;obtain ⟨t',rfl⟩:=ry;exact rule i j t t' s _ _ hc ⟨.int (g i j),H,I.tok _,⟨_,rfl⟩,q⟩
theorem lZ{f:Value->Value->Sem Value}{g:Int->Int->Int}(rule:∀ (i j:Int) (t u:Tok) (s:Shared) (Q:VSP) (E:VSP),Q (.int (g i j) s.toks) { s with toks:=s.toks+1 } -> wpAny (model X.prog X.w) X.A (f (.int i t) (.int j u)) Q E s):OpR X f (rI0 λi j=>.int (g i j)):=by intro aA s σ H x y v u Q I rx ry h;obtain ⟨i,j,rfl,rfl,q⟩:=h;obtain ⟨t,rfl⟩:=rx;obtain ⟨t',rfl⟩:=ry;exact rule i j t t' s _ _ ⟨.int (g i j),H,I.tok _,⟨_,rfl⟩,q⟩
theorem l5{f:Value->Value->Sem Value}{g:Int->Int->Bool}(rule:∀ (i j:Int) (t u:Tok) (s:Shared) (Q:VSP) (E:VSP),Q (.bool (g i j)) s->wpAny (model X.prog X.w) X.A (f (.int i t) (.int j u)) Q E s):OpR X f (rI0 λi j=>.bl (g i j)):=by intro aA s σ H x y v u Q I rx ry h;obtain ⟨i,j,rfl,rfl,q⟩:=h;obtain ⟨t,rfl⟩:=rx;obtain ⟨t',rfl⟩:=ry;exact rule i j t t' s _ _ ⟨.bl (g i j),H,I,rfl,q⟩
def CPow(i j:Int):Prop:=0<=j/\j<=1000000/\i.natAbs<2 ^ 64
theorem aBM(k:Nat):(0:Int)<=2 ^ k:=by rw[two_pow_cast];exact Int.natCast_nonneg _
theorem aBN:OpR X (binaryOp .Add) (rI0 λi j=>.int (i+j)):=lZ λ_ _ _ _ _ _ _ q=>add_int q
theorem aBO:OpR X (binaryOp .Sub) (rI0 λi j=>.int (i-j)):=lZ λ_ _ _ _ _ _ _ q=>sub_int q
theorem aBP:OpR X (binaryOp .Mod) (rI (λ_ j=>0<j) λi j=>.int (i % j)):=opI λi j _ _ _ _ _ hc q=>by have h1:(0:Int)<j:=hc;exact mod_int' (by omega) (by rw[Int.fmod_eq_emod_of_nonneg i (by omega)];exact q)
theorem aBQ:OpR X (binaryOp .Pow) (rI CPow λi j=>.int (i ^ j.toNat)):=opI λ_ _ _ _ _ _ _ hc q=>pow_int_small hc.1 hc.2.1 hc.2.2 q
theorem aBR:OpR X (binaryOp .LShift) (rI CPow λi j=>.int (i * 2 ^ j.toNat)):=opI λ_ _ _ _ _ _ _ hc q=>lshift_int_small hc.1 hc.2.1 hc.2.2 q
theorem aBS:OpR X (binaryOp .RShift) (rI (λ_ j=>0<=j) λi j=>.int (i / 2 ^ j.toNat)):=opI λi j _ _ _ _ _ hc q =>
 rshift_int hc (by rw[Int.fdiv_eq_ediv_of_nonneg i (aBM _)];exact q)
theorem aBT:OpR X (binaryOp .BitAnd) (rI0 λi j=>.int (Builtin.bitAnd i j)):=lZ λ_ _ _ _ _ _ _ q=>and_int q
theorem op_or:OpR X (binaryOp .BitOr) (rI0 λi j=>.int (Builtin.bitOr i j)):=lZ λ_ _ _ _ _ _ _ q=>or_int q
end
section
variable {X:Cx}{a b c:Expr}{ta tb tc:TE}{pos:Pos}
theorem l6{aA:LAO}{σ:St}{H:Hp}{s:Shared}{Q:VK}{k k':Bool}(I:Inv X aA σ H s)(q:Q (.bl k) H)(e:k=k'):EP X aA σ Q (.bool k') s:=by subst e;exact ⟨.bl k,H,I,rfl,q⟩
theorem op_lt:OpR X (compareOp .Lt) (rI0 λi j=>.bl (decide (i<j))):=l5 λ_ _ _ _ _ _ _ q=>lt_int q
theorem op_le:OpR X (compareOp .LtE) (rI0 λi j=>.bl (decide (i<=j))):=l5 λ_ _ _ _ _ _ _ q=>le_int q
theorem op_gt:OpR X (compareOp .Gt) (rI0 λi j=>.bl (decide (j<i))):=l5 λ_ _ _ _ _ _ _ q=>gt_int q
theorem op_ge:OpR X (compareOp .GtE) (rI0 λi j=>.bl (decide (j<=i))):=l5 λ_ _ _ _ _ _ _ q=>ge_int q
theorem aBU:OpR X (compareOp .In) (λx y H Q=>∃ i j,x=.str i/\y=.str j/\Q (.bl (!(Builtin.Str.occurrences j i 0 j.length 1).isEmpty)) H):=by intro aA s σ H x y v u Q I rx ry h;obtain ⟨i,j,rfl,rfl,q⟩:=h;obtain ⟨t,rfl⟩:=rx;obtain ⟨t',rfl⟩:=ry;exact in_str (l6 I q rfl)
theorem aBV:OpR X (compareOp .Is) (λx y H Q=>y=.non/\Q (.bl (decide (x=.non))) H):=by
 intro aA s σ H x y v u Q I rx ry h;obtain ⟨rfl,q⟩:=h;cases ry;refine is_none_gen (l6 I q ?_);cases x <;> first
  | (cases rx;rfl)
  | (obtain ⟨t,rfl⟩:=rx;rfl)
theorem aBW:OpR X (compareOp .IsNot) (λx y H Q=>y=.non/\Q (.bl (!decide (x=.non))) H):=by
 intro aA s σ H x y v u Q I rx ry h;obtain ⟨rfl,q⟩:=h;cases ry;refine isnot_none_gen (l6 I q ?_);cases x <;> first
  | (cases rx;rfl)
  | (obtain ⟨t,rfl⟩:=rx;rfl)
theorem aBX:OpR X (compareOp .NotIn) (λx y H Q=>∃ i j,x=.str i/\y=.str j/\Q (.bl (!(!(Builtin.Str.occurrences j i 0 j.length 1).isEmpty))) H):=by intro aA s σ H x y v u Q I rx ry h;obtain ⟨i,j,rfl,rfl,q⟩:=h;obtain ⟨t,rfl⟩:=rx;obtain ⟨t',rfl⟩:=ry;exact notIn_str (l6 I q rfl)
theorem OpR.or{f:Value->Value->Sem Value}{r r':R2}(h:OpR X f r)(h':OpR X f r'):OpR X f (λx y H Q=>r x y H Q\/r' x y H Q):=by
 intro aA s σ H x y v u Q I rx ry q;rcases q with q | q
 . exact h aA s σ H x y v u Q I rx ry q
 . exact h' aA s σ H x y v u Q I rx ry q
theorem aBY{op:CmpOp}{r:R2}(ho:OpR X (compareOp op) r)(ha:PE X a ta)(hb:PE X b tb)(hm:behindInMarks op b=false):PE X (.Compare a [op] [b] pos) (tOp r ta tb):=by intro aA s σ H Q I h;exact wpAny_Compare1 (pA ha hb I h λv u s2 x y H2 I2 rx ry q=>ho aA s2 σ H2 x y v u Q I2 rx ry q) hm
def sR(t:TE):TT:=λσ H Q=>t σ H λx H'=>∃ k,x=.bl k/\Q k H'
theorem aBZ{op:CmpOp}{r:R2}(ho:OpR X (compareOp op) r)(ha:PE X a ta)(hb:PE X b tb)(hm:behindInMarks op b=false):PT X (.Compare a [op] [b] pos) (sR (tOp r ta tb)):=by
 intro aA s σ H Q I h;refine wpAny_isTrue_Compare1 (thn (ha aA s σ H _ I h) λv s1 ⟨x,H1,I1,r1,q1⟩=>thn (hb aA s1 σ H1 _ I1 q1) λu s2 ⟨y,H2,I2,r2,q2⟩ =>
  thn (ho aA s2 σ H2 x y v u _ I2 r1 r2 q2) λc s3 ⟨z,H3,I3,r3,k,e,q3⟩=>?_) hm
 subst e;cases r3;exact aM8 ⟨H3,I3,q3⟩
def pB(K:Fg)(x:V)(H:Hp)(k:Bool):Prop :=
 match x with
 | .non=>k=false
 | .bl b=>k=b
 | .int i=>k=(i != 0)
 | .str y=>y.length<=sizeLine/\k=((y.length:Int) != 0)
 | .byt y=>y.size<=sizeLine/\k=((y.size:Int) != 0)
 | .ref p=>(∃ xs,SqL K H p xs/\k = !xs.isEmpty)\/(∃ xs,SqT K H p xs/\k = !xs.isEmpty)\/∃ kvs,H p=some (.dK kvs)/\k = !kvs.isEmpty
 | _=>False
theorem aB0{κ:Type}{kvs:List (κ×V)}{vs:List (κ×Value)}(r:KV kvs vs):(!vs.isEmpty) = !kvs.isEmpty:=by cases r <;> rfl
theorem sS{xs:List V}{its:List Value}(r:aO xs its):(!its.toArray.isEmpty) = !xs.isEmpty:=by cases r <;> simp
theorem j9:(sizeLine:Nat)<2 ^ 63:=by rw[aNN];decide
theorem aB1:TruR X (λx H Q=>∃ k,pB X.K x H k/\Q k H):=by
 intro aA s σ H x v Q I rx h;obtain ⟨k,e,q⟩:=h;have hl:=j9;have hs:sizeLine=16777216:=aNN;cases x with
 | non=>cases rx;have e':k=false:=e;subst e';exact truthy_none ⟨H,I,q⟩
 | bl b=>cases rx;have e':k=b:=e;subst e';exact aM8 ⟨H,I,q⟩
 | int i=>obtain ⟨t,rfl⟩:=rx;have e':k=(i != 0):=e;subst e';exact PySem.P.truthy_int ⟨H,I,q⟩
 | str y=>obtain ⟨t,rfl⟩:=rx;obtain ⟨hy,e'⟩:y.length<=sizeLine/\k=((y.length:Int) != 0):=e;subst e';exact PySem.P.truthy_str (by omega) ⟨H,I.tok _,q⟩
 | byt y=>obtain ⟨t,rfl⟩:=rx;obtain ⟨hy,e'⟩:y.size<=sizeLine/\k=((y.size:Int) != 0):=e;subst e';exact PySem.W.truthy_bytes (by omega) ⟨H,I.tok _,q⟩
 | ref p =>
  cases rx;have e':(∃ xs,SqL X.K H p xs/\k = !xs.isEmpty)\/(∃ xs,SqT X.K H p xs/\k = !xs.isEmpty)\/∃ kvs,H p=some (.dK kvs)/\k = !kvs.isEmpty:=e;rcases e' with ⟨xs,hx,e'⟩ | ⟨xs,hx,e'⟩ | ⟨kvs,hx,e'⟩
  . subst e';obtain ⟨its,r,pl,hz⟩:=I.list hx;have hlen:=r.length;exact wpAny_truthy_list pl.isList (by simp only[aNO];omega) ⟨H,I.tok _,by rw[sS r];exact q⟩
  . subst e';obtain ⟨its,r,pl,hz⟩:=I.tuple hx;have hlen:=r.length;exact truthy_tuple pl (by simp only[aNO];omega) ⟨H,I.tok _,by rw[sS r];exact q⟩
  . subst e';obtain ⟨hz,hS,vs,r,m⟩:kvs.length<=sizeLine/\(p==sysModules)=false/\∃ vs,KV kvs vs/\s.heap.DictOf (bO X.prog X.w) p vs:=I.hok p _ hx;have hlen:kvs.length=vs.length:=aMO r;exact wpAny_truthy_dict hS m (by omega) ⟨H,I.tok _,by rw[aB0 r];exact q⟩
 | _=>exact (show False from e).elim
theorem aB2 (ha : PE X a ta) (he : ∀ whole, isTrue a X.env whole = (do let v ← whole; standAt a.pos; holding [v] (truthy v))) :
    PT X a (λσ H Q=>ta σ H λx H'=>∃ k,pB X.K x H' k/\Q k H'):=by
 intro aA s σ H Q I h;exact isTrue_plain (thn (ha aA s σ H _ I h) λv s1 ⟨x,H1,I1,r1,q1⟩=>aB1 aA s1 σ H1 x v Q I1 r1 q1) (he _)
theorem aB3:OpR X (binaryOp .Add) (λx y H Q=>∃ i j,x=.str i/\y=.str j/\i.length+j.length<=sizeLine/\Q (.str (i++j)) H):=by intro aA s σ H x y v u Q I rx ry h;obtain ⟨i,j,rfl,rfl,hz,q⟩:=h;obtain ⟨t,rfl⟩:=rx;obtain ⟨t',rfl⟩:=ry;exact add_str (λt' tk=>⟨.str (i++j),H,I.tok _,⟨_,rfl⟩,q⟩) hz
theorem fH{x:V}{us:List Value}(r:aO [x] us):∃ u,us=[u]/\aN x u:=by
 cases r with
 | cons r1 r2=>cases r2;exact ⟨_,rfl,r1⟩
theorem vals2{x y:V}{us:List Value}(r:aO [x,y] us):∃ u w',us=[u,w']/\aN x u/\aN y w':=by
 cases r with
 | cons r1 r2 =>
  cases r2 with
  | cons r3 r4=>cases r4;exact ⟨_,_,rfl,r1,r3⟩
theorem aB4:fZ X (.type "int") (λxs H Q=>(∃ i,xs=[.int i]/\Q (.int i) H)\/∃ k,xs=[.bl k]/\Q (.int (if k then 1 else 0)) H):=by
 intro aA s σ H xs us Q I r h;rcases h with ⟨i,rfl,q⟩ | ⟨k,rfl,q⟩
 . obtain ⟨u,rfl,t,rfl⟩:=fH r;exact call_int_int ⟨.int i,H,I,⟨_,rfl⟩,q⟩
 . obtain ⟨u,rfl,r1⟩:=fH r;cases r1;exact call_int_bool ⟨.int (if k then 1 else 0),H,I.tok _,⟨_,rfl⟩,q⟩
theorem aB5:fZ X (.type "str") (λxs H Q=>∃ i,xs=[.int i]/\i.natAbs.log2<1920/\Q (.str (toString i)) H):=by intro aA s σ H xs us Q I r h;obtain ⟨i,rfl,hz,q⟩:=h;obtain ⟨u,rfl,t,rfl⟩:=fH r;exact PySem.P.str_of_int hz ⟨.str _,H,I.tok _,⟨_,rfl⟩,q⟩
def LenV(K:Fg)(x:V)(H:Hp)(n:Nat):Prop :=
 match x with
 | .str y=>y.length<=sizeLine/\n=y.length
 | .byt y=>y.size<=sizeLine/\n=y.size
 | .ref p=>(∃ xs,SqL K H p xs/\n=xs.length)\/∃ xs,SqT K H p xs/\n=xs.length
 | _=>False
theorem aB6:fZ X (.builtin "len") (λxs H Q=>∃ x n,xs=[x]/\LenV X.K x H n/\Q (.int n) H):=by
 intro aA s σ H xs us Q I r h;obtain ⟨x,n,rfl,e,q⟩:=h;obtain ⟨u,rfl,rx⟩:=fH r;have hl:=j9;have hs:sizeLine=16777216:=aNN;cases x with
 | str y=>obtain ⟨t,rfl⟩:=rx;obtain ⟨hy,e'⟩:y.length<=sizeLine/\n=y.length:=e;subst e';exact len_str (by omega) ⟨.int _,H,I.tok _,⟨_,rfl⟩,q⟩
 | byt y=>obtain ⟨t,rfl⟩:=rx;obtain ⟨hy,e'⟩:y.size<=sizeLine/\n=y.size:=e;subst e';exact PySem.W.len_bytes (by omega) ⟨.int _,H,I.tok _,⟨_,rfl⟩,q⟩
 | ref p =>
  cases rx;have e':(∃ xs,SqL X.K H p xs/\n=xs.length)\/∃ xs,SqT X.K H p xs/\n=xs.length:=e;rcases e' with ⟨xs,hx,e'⟩ | ⟨xs,hx,e'⟩
  . subst e';obtain ⟨its,r',pl,hz⟩:=I.list hx;have hlen:=r'.length;exact Calls.call_len_list pl.isList (by simp only[aNO];omega) ⟨.int xs.length,H,I.tok _,⟨_,by simp only[aNO];rw[hlen]⟩,q⟩
  . subst e';obtain ⟨its,r',pl,hz⟩:=I.tuple hx;have hlen:=r'.length;exact len_tuple pl (by simp only[aNO];omega) ⟨.int xs.length,H,I.tok _,⟨_,by simp only[aNO];rw[hlen]⟩,q⟩
 | _=>exact (show False from e).elim
end
section
variable {prog:Program}{w:World}{A:Around}{E:VSP}{s:Shared}{K:Fg}{x dx C f:Addr}{mA:SOV}{name:Str}{v:Value}
end
theorem dF.some_of{v:V}{o:Option Value}(r:dF (some v) o):∃ u,o=some u/\aN v u:=by
 cases o with
 | none=>exact (show False from r).elim
 | some u=>exact ⟨u,rfl,r⟩
theorem dF.none_of{o:Option Value}(r:dF none o):o=none:=by
 cases o with
 | none=>rfl
 | some u=>exact (show False from r).elim
section
variable {P:Program}{w:World}{H H':Hp}{h h':Heap}{a C dx:Addr}{fs fs':List (Str×V)}
end
structure Cls(K:Fg)(C:Addr):Prop where
 pg:PySem.W.plainGet K C Str.empty=true
 hd:PySem.W.hasDictIn K C=true
 po:PySem.W.plainOver K C=true
 sa:PySem.W.findIn K (.ref C) "__setattr__" = some (some (.builtin "object.__setattr__"))
def pC(K:Fg)(C:Addr)(f:Str):Prop:=PySem.W.findIn K (.ref C) f=some none
structure pD(K:Fg)(C:Addr)(m:Str)(f:Addr):Prop where
 at_:PySem.W.findIn K (.ref C) m=some (some (.ref f))
 fn:PySem.W.isFn K (.ref f)=true
 kp:PySem.W.keepIn K (.ref f)=true
section
variable {X:Cx}{aA:LAO}{σ:St}{H:Hp}{s:Shared}{a C dx:Addr}{fs:List (Str×V)}{f:Str}{v:V}{A:Around}{E:VSP}
end
section
variable {X:Cx}{o e value:Expr}{f:Str}{pos pos' tpos:Pos}{ta tv:TE}
end
section
variable {X:Cx}{aA:LAO}{σ:St}{H:Hp}{s:Shared}{A:Around}{E:VSP}{Q:VSP}{c:Value}{b:Bool}
end
structure cD(k:Nat)(A:Around):Prop where
 hd:A.handled=none
 dp:A.depth+3 * k+5<recursionLimit
 un:A.units+16 * k+200<cLine
theorem cD.deeper{k:Nat}{A:Around}(r:cD (k+1) A)(env:Env):cD k (A.deeper env) :=
 ⟨r.hd,by have:=r.dp;show A.depth+1+3 * k+5<_;omega,by have:=r.un;show A.units+3+16 * k+200<_;omega⟩
theorem cD.depth{k:Nat}{A:Around}(r:cD k A):A.depth<recursionLimit:=by have:=r.dp;omega
theorem cD.units{k:Nat}{A:Around}(r:cD k A):A.units+64<cLine:=by have:=r.un;omega
def tNil:TA:=λ_ H Q=>Q [] H
def sU(ta:TE)(tr:TA):TA:=λσ H Q=>ta σ H λx H1=>tr σ H1 λxs H2=>Q (x::xs) H2
section
variable {X:Cx}{e:Expr}{es:List Expr}{te:TE}{t:TA}{pos:Pos}
theorem sV:PA X [] tNil:=λ_ _ _ _ H Q I h=>Calls.spliced_nil ⟨[],H,I,.nil,h⟩
theorem pE(ha:PE X e te)(hr:PA X es t)(hs:starEach (e::es) X.env=(false,eval e X.env)::starEach es X.env:=by rfl):PA X (e::es) (sU te t):=by intro pos aA s σ H Q I h;rw[hs];show wpAny _ _ (spliced ((false,eval e X.env)::backTo pos (starEach es X.env))) _ _ s;refine Calls.spliced_cons (thn (ha aA s σ H _ I h) λu s1 ⟨x,H1,I1,r1,q1⟩=>?_);exact thn (hr pos aA s1 σ H1 _ I1 q1) λus s2 ⟨xs,H2,I2,r2,q2⟩=>⟨x::xs,H2,I2,.cons r1 r2,q2⟩
def tTup(t:TA):TE:=λσ H Q=>t σ H λxs H1=>xs.length<=sizeLine/\∀ p,H1 p=none->Q (.ref p) (upd H1 p (.tup xs))
def tLst(t:TA):TE:=λσ H Q=>t σ H λxs H1=>xs.length<=sizeLine/\∀ p,H1 p=none->Q (.ref p) (upd H1 p (.lst xs))
theorem aB7{x1}(h:PA X es t):PE X (.Tuple es x1 pos) (tTup t):=by
 intro aA s σ H Q I hq;refine wpAny_Tuple_spliced (thn (h pos aA s σ H _ I hq) λus s1 ⟨xs,H1,I1,r,z,q⟩=>⟨by rw[<- r.length];exact z,?_⟩)
 have hf:H1 s1.heap.objs.size=none:=I1.hok.fresh (aNH _);refine ⟨.ref s1.heap.objs.size,upd H1 s1.heap.objs.size (.tup xs),I1.laid (t':=s1.toks) (λb u e=>hps e) (aNH _) ?_,rfl,q _ hf⟩;exact ⟨z,us,r,⟨_,aMQ _ rfl,rfl,rfl,_,rfl⟩⟩
theorem aB8(h:PA X es t):PE X (.List es pos) (tLst t):=by
 intro aA s σ H Q I hq;refine wpAny_List_spliced (thn (h pos aA s σ H _ I hq) λus s1 ⟨xs,H1,I1,r,z,q⟩=>⟨by rw[<- r.length];exact z,?_⟩)
 have hf:H1 s1.heap.objs.size=none:=I1.hok.fresh (aNH _);refine ⟨.ref s1.heap.objs.size,upd H1 s1.heap.objs.size (.lst xs),I1.laid (t':=s1.toks) (λb u e=>hps e) (aNH _) ?_,rfl,q _ hf⟩;exact ⟨z,us,0,r,aMQ _ rfl⟩
end
abbrev Sp:=List V->Hp->VK->XK->Prop
abbrev CXT:=List Env->Hp->Shared->XK->Value->Shared->Prop
structure l7(P:Program)(w:World)(K:Fg)(mg:SOV)(base:Heap)(A:Around)(outer:List Env)(s:Shared)(H:Hp):Prop where
 frames:A.frames=some outer
 mod:Mod K mg base
 bs:∀ b o,base.get? b=some o->s.heap.get? b=some o/\H b=none
 bsz:base.objs.size<=s.heap.objs.size
 funs:s.heap.FunFrames base outer
 frf:∀ b∈frs outer,H b=none
 hok:HOk P w H s.heap
 bare:AllBare s.gens
def CE(outer:List Env)(P:Program)(w:World)(H:Hp)(s:Shared)(Q:VK)(u:Value)(s':Shared):Prop :=
 ∃ v H',s'.os=s.os/\AllBare s'.gens/\Un (frs outer) [] H H' s.heap s'.heap/\HOk P w H' s'.heap/\aN v u/\Q v H'
def CR(CX:CXT)(outer:List Env)(P:Program)(w:World)(H:Hp)(s:Shared)(Q:VK)(E:XK)(r:Result)(s':Shared):Prop :=
 match r with
 | .ok (.ret u)=>CE outer P w H s Q u s'
 | .ok _=>False
 | .error e=>CX outer H s E e s'
structure cQ(P:Program)(w:World)(K:Fg)(mg:SOV)(base:Heap)(CX:CXT)(k:Nat)(f:Addr)(fd:FuncData)(ps:List Str)(sp:Sp):Prop where
 len:∀ vs H Q E,sp vs H Q E->vs.length=ps.length
 run:∀ (A:Around) (outer:List Env) (s:Shared) (H:Hp) (args:Args) (us:List Value) (vs:List V) (Q:VK) (E:XK),cD k A->l7 P w K mg base A outer s H->BindsTo s fd args (ps.zip us)->aO vs us->sp vs H Q E ->
  codeAny (model P w) A (.call (.ref f) args) (CR CX outer P w H s Q E) s
theorem cQ.imp{P:Program}{w:World}{K:Fg}{mg:SOV}{base:Heap}{CX:CXT}{k:Nat}{f:Addr}{fd:FuncData}{ps:List Str}{sp sp':Sp}(F:cQ P w K mg base CX k f fd ps sp)(h:∀ vs H Q E,sp' vs H Q E->sp vs H Q E):cQ P w K mg base CX k f fd ps sp' :=
 ⟨λvs H Q E q=>F.len vs H Q E (h _ _ _ _ q),λA outer s H args us vs Q E hr he hb hv hs=>F.run A outer s H args us vs Q E hr he hb hv (h _ _ _ _ hs)⟩
section
variable {X:Cx}{aA:LAO}{σ:St}{H:Hp}{s s':Shared}
theorem Inv.env0(I:Inv X aA σ H s):l7 X.prog X.w X.K X.mg X.base X.A X.stack s H :=
 ⟨I.ok.frames,I.ok.mod,I.bs,aMY I.ok.bsz I.sz,I.stack,I.stkFree,I.hok,I.bare⟩
theorem Inv.after{Q:VK}{u:Value}(I:Inv X aA σ H s)(h:CE X.stack X.prog X.w H s Q u s'):EP X aA σ Q u s':=by obtain ⟨v,H',os,bare,un,hok,r,q⟩:=h;obtain ⟨hh,g,d,t,os'⟩:=s';obtain rfl:os'=s.os:=os;exact ⟨v,H',I.call (h':=hh) (g':=g) (d':=d) (t':=t) (ch:=[]) un hok bare (λb z=>absurd z (by simp)),r,q⟩
end
def eW(K:Fg)(fd:FuncData)(ps:List Str)(ds:List Value):Prop :=
 ∀ (s:Shared) (us:List Value),K.In s.heap->(us++ds).length=ps.length->BindsTo s fd ⟨us,[]⟩ (ps.zip (us++ds))
theorem eW.all{K:Fg}{fd:FuncData}{ps:List Str}(h:∀ us:List Value,us.length=ps.length->bindArgs fd ⟨us,[]⟩=pure (ps.zip us)):eW K fd ps []:=λs us _ hl=>by rw[aNP] at hl ⊢;exact .of_eq (h us hl)
section
variable {X:Cx}{CX:CXT}{k:Nat}{f C:Addr}{fd:FuncData}{ps:List Str}{sp:Sp}{dvs:List V}{ds:List Value}{E:XK}{x m:Str}{p pos apos:Pos}{e o:Expr}{es:List Expr}{ta:TE}{t:TA}
structure Mk(K:Fg)(C f:Addr):Prop where
 makes:PySem.W.makesIn K C=true
 init:PySem.W.findIn K (.ref C) "__init__" = some (some (.ref f))
 fn:PySem.W.isFn K (.ref f)=true
 kp:PySem.W.keepIn K (.ref C)=true
end
section
variable {X:Cx}{CX:CXT}{k:Nat}{f C:Addr}{fd:FuncData}{ps ks:List Str}{sp:Sp}{E:XK}{x m:Str}{p pos apos kpos:Pos}{e o:Expr}{es:List Expr}{kws:List Keyword}{te ta:TE}{t tk:TA}{nm:Option Str}
variable {g:List Value->List Value->List Value}{gV:List V->List V->List V}
end
structure l8(N P:List Str)(sc:Scope):Prop where
 kind:sc.kind=.function
 co:sc.isCoroutine=false
 gen:sc.isGenerator=false
 nd:N.Nodup
 pre:N.take P.length=P
 par:∀ x∈P,sc.names.lookup x=some .local\/sc.names.lookup x=some .cell
 nofree:∀ y∈sc.names,y.2 ≠ .free
theorem sW{kindOf:Str->Option NameKind}{x:Str}:∀ {binds:List (Str×Value)} {m:SOV},(∀ v,(x,v)∉binds)->bindL kindOf binds m x=m x
 | [],_,_=>rfl
 | (n,v)::r,m,h=>by
  unfold bindL;rw[sW λw hw=>h w (mcm hw)];split
  . have:x≠n:=by rintro rfl;exact h v mcs
    simp[this]
  . rfl
theorem sX{kindOf:Str->Option NameKind}{x:Str}:∀ {binds:List (Str×Value)} {m:SOV},(∀ v,(x,v)∉binds)->bindC kindOf binds m x=m x
 | [],_,_=>rfl
 | (n,v)::r,m,h=>by
  unfold bindC;rw[sX λw hw=>h w (mcm hw)];split
  . rfl
  . have:x≠n:=by rintro rfl;exact h v mcs
    simp[this]
theorem sY{kindOf:Str->Option NameKind}{x:Str}{v:Value}:∀ {P:List Str} {vs:List Value} {i:Nat} {m:SOV},P.Nodup->P[i]? = some x->vs[i]? = some v->kindOf x=some .local->bindL kindOf (P.zip vs) m x=some v
 | [],_,_,_,_,h,_,_=>by simp at h
 | _::_,[],_,_,_,_,h,_=>by simp at h
 | p::P,w::vs,0,m,nd,h1,h2,hk=>by simp at h1 h2;subst h1;subst h2;show bindL kindOf ((p,w)::P.zip vs) m p=_;unfold bindL;rw[sW λv hv=>(aNQ.mp nd).1 (aNR hv).1,if_pos hk];simp
 | p::P,w::vs,i+1,m,nd,h1,h2,hk=>by show bindL kindOf ((p,w)::P.zip vs) m x=_;unfold bindL;exact sY (i:=i) (aNQ.mp nd).2 (by simpa using h1) (by simpa using h2) hk
theorem sZ{kindOf:Str->Option NameKind}{x:Str}{v:Value}:∀ {P:List Str} {vs:List Value} {i:Nat} {m:SOV},P.Nodup->P[i]? = some x->vs[i]? = some v->kindOf x≠some .local->bindC kindOf (P.zip vs) m x=some v
 | [],_,_,_,_,h,_,_=>by simp at h
 | _::_,[],_,_,_,_,h,_=>by simp at h
 | p::P,w::vs,0,m,nd,h1,h2,hk=>by simp at h1 h2;subst h1;subst h2;show bindC kindOf ((p,w)::P.zip vs) m p=_;unfold bindC;rw[sX λv hv=>(aNQ.mp nd).1 (aNR hv).1,if_neg hk];simp
 | p::P,w::vs,i+1,m,nd,h1,h2,hk=>by show bindC kindOf ((p,w)::P.zip vs) m x=_;unfold bindC;exact sZ (i:=i) (aNQ.mp nd).2 (by simpa using h1) (by simpa using h2) hk
def eJ(N:List Str)(vs:List V):St:=vs.map some++List.replicate (N.length-vs.length) none
def dG(CX:CXT)(P:Program)(w:World)(K:Fg)(mg:SOV)(base:Heap)(N:List Str)(aQ:Str)(scope:Scope)(f:Addr)(cd:Value)(A:Around)(outer:List Env)(s:Shared)(H:Hp)(E:XK):Cx where
 prog:=P
 w:=w
 K:=K
 mg:=mg
 base:=base
 A:=A.deeper (envOfC aQ scope s.heap.objs.size f cd)
 N:=N
 s₀:=s
 H₀:=H
 env:=envOfC aQ scope s.heap.objs.size f cd
 outer:=outer
 stack:=envOfC aQ scope s.heap.objs.size f cd::outer
 ex:=[]
 calm:=true
 fn:=λ_=>true
 pn:=[]
 xe:=λe s'=>wpAny (model P w) (A.deeper (envOfC aQ scope s.heap.objs.size f cd)) (leaving (envOfC aQ scope s.heap.objs.size f cd) e) (λ_ s''=>CX outer H s E e s'') (λe' s''=>CX outer H s E e' s'') s'
theorem tB{sc:Scope}{n:Nat}{x:Str}(h:sc.names.lookup x=some .cell):∃ c,(cellsFrom n sc.names []).lookup x=some c:=by have q:=PySem.W.cellsFrom_some sc.names n [] (.inl h);exact Option.isSome_iff_exists.mp q
theorem aB9{CX:CXT}{P:Program}{w:World}{K:Fg}{mg:SOV}{base:Heap}{N ps:List Str}{aQ:Str}{scope:Scope}{f:Addr}{cd:Value}{A:Around}{outer:List Env}{s s1:Shared}{H:Hp}{E:XK}{us:List Value}{vs:List V}(S:l8 N ps scope)(hd:A.handled=none)(e0:l7 P w K mg base A outer s H)(hl:vs.length=ps.length)(r:aO vs us)(x:InCallC s s.heap.objs.size (bindL (envOfC aQ scope s.heap.objs.size f cd).kindOf (ps.zip us) λ_=>none) (cellsFrom (s.heap.objs.size+1) scope.names []) (bindC (envOfC aQ scope s.heap.objs.size f cd).kindOf (ps.zip us) λ_=>none) s1):Inv (dG CX P w K mg base N aQ scope f cd A outer s H E) [] (eJ N vs) H s1:=by
 have hpl:ps.length<=N.length:=by have:=congrArg List.length S.pre;rw[aNS] at this;omega
 obtain ⟨h1,tk,rfl,hk⟩:=x.done;have noA:∀ b:Addr,b∉(dG CX P w K mg base N aQ scope f cd A outer s H E).ex:=λb z=>absurd (show b∈([]:List Addr) from z) (by simp)
 refine ⟨⟨e0.mod,S.kind,rfl,rfl,aNH _,λy z c h1 h2=>?_,λy hy=>?_,λy c _ h=>?_,λ_=>hd,Around.frames_deeper e0.frames,.inr ⟨rfl,rfl⟩,λb z=>absurd z (noA b),e0.bs,e0.bsz,λb _ _=>noA b,λb z=>absurd z (noA b),e0.funs,e0.frf⟩,
  rfl,e0.bare,Un.kept hk,⟨_,x.toInCall.ns,λi y v h1 h2 h3=>?_⟩,λy c h=>⟨_,x.cell y c h⟩,e0.hok.fresh (aNH _),λy c h=>?_,λp hp=>absurd (show p∈([]:LAO) from hp) (by simp),e0.hok.kept hk,?_⟩
 . exact name_of_addr x.apart (aNT h1) (aNT h2)
 . have hy:scope.names.lookup y=some .cell\/scope.names.lookup y=some .free:=hy;rcases hy with hy | hy
   . exact tB hy
   . exact absurd rfl (S.nofree _ (aNT hy))
 . exact Nat.le_of_lt (x.above y c (aNT h))
 . have hi:i<vs.length:=by
     unfold eJ at h2;by_cases hi:i<vs.length
     . exact hi
     . rw[aNU (by simpa using hi)] at h2
       rw[aNV] at h2;split at h2 <;> cases h2
   have ha:vs[i]? = some v:=by
    unfold eJ at h2;rw[aNW (by simpa using hi),aNX] at h2
    cases e:vs[i]? with
    | none=>rw[e] at h2;cases h2
    | some a=>rw[e] at h2;cases h2;rfl
   obtain ⟨u,hu,rv⟩:=r.get ha;have hp:ps[i]? = some y:=by rw[<- S.pre,List.getElem?_take_of_lt (by omega)];exact h1
   have ndP:ps.Nodup:=by rw[<- S.pre];exact S.nd.sublist (aNY _ _)
   refine ⟨u,rv,?_⟩;rcases S.par y (aNZ hp) with k | k
   . exact .inl ⟨k,sY ndP hp hu k⟩
   . obtain ⟨c,e⟩:=tB (n:=s.heap.objs.size+1) k;refine .inr ⟨.inl k,c,e,?_⟩;have q:=x.cell y c e;rw[sZ ndP hp hu (by show scope.names.lookup y≠_;rw[k];decide)] at q
     exact q
 . exact e0.hok.fresh (Nat.le_of_lt (x.above y c (aNT h)))
 . unfold eJ;show _=N.length;rw[aN0,aN1,List.length_replicate];omega
theorem fn_of{CX:CXT}{P:Program}{w:World}{K:Fg}{mg:SOV}{base:Heap}{k:Nat}{f:Addr}{name aQ:Str}{params:Arguments}{body:List Stmt}{scope:Scope}{dV kV doc pm cdv ct oc:Value}{an od:Option Addr}{osl:Array (Option Value)}{N ps:List Str}{sp:Sp}(lk:K.lookup f=some ⟨oc,od,.func (PySem.W.fnOf name aQ params body scope dV kV doc pm an cdv ct),osl⟩)(hcd:PySem.W.codeIn K cdv aQ=true)(S:l8 N ps scope)(len:∀ vs H Q E,sp vs H Q E->vs.length=ps.length)(hbody:∀ (A:Around) (outer:List Env) (s:Shared) (H:Hp) (vs:List V) (Q:VK) (E:XK),cD k (A.deeper (envOfC aQ scope s.heap.objs.size f cdv))->sp vs H Q E->∃ t,PSs (dG CX P w K mg base N aQ scope f cdv A outer s H E) body t/\t { nx:=λ_ H'=>Q .non H',rt:=Q } (eJ N vs) H):cQ P w K mg base CX (k+1) f (PySem.W.fnOf name aQ params body scope dV kV doc pm an cdv ct) ps sp:=by
 refine ⟨len,λA outer s H args us vs Q E hr e0 hb r hsp=>?_⟩;have hl:=len _ _ _ _ hsp;have KX:K.In s.heap:=e0.mod.kin.keeps λb o e=>(e0.bs b o e).1;have lim:s.heap.NoLimit:=e0.mod.nolimit.keeps λb o e=>(e0.bs b o e).1;have dD:∀ y∈ps.zip us,scope.names.lookup y.1=some .local\/(scope.names.lookup y.1=some .cell/\((cellsFrom (s.heap.objs.size+1) scope.names []).lookup y.1).isSome=true):=λ⟨n,v⟩ hy=>by
  rcases S.par n (aNR hy).1 with q | q
  . exact .inl q
  . exact .inr ⟨q,PySem.W.cellsFrom_some _ _ _ (.inl q)⟩
 refine codeAny_call_function hr.depth (KX _ _ lk) rfl S.co S.gen rfl (PySem.W.codeRec_of KX hcd) (hb _ _ _ _ ?_);refine wpAny_newFunctionEnv_cells S.kind dD λenv he s1 x=>?_;subst he;refine ⟨lim.keeps x.toInCall.keep,codeAny_func ?_⟩;obtain ⟨t,ht,hq⟩:=hbody A outer s H vs Q E (hr.deeper _) hsp;have I:Inv (dG CX P w K mg base N aQ scope f cdv A outer s H E) [] (eJ N vs) H s1:=aB9 S hr.hd e0 hl r x;refine aM7 (ht [] s1 (eJ N vs) H _ I hq) (λfl s' hs=>?_) λe s' hs=>hs;have fin:∀ {σ':St} {H':Hp} {v:V} {u:Value},Inv (dG CX P w K mg base N aQ scope f cdv A outer s H E) [] σ' H' s'->aN v u->Q v H'->CE outer P w H s Q u s' :=
  λ{σ' H' v u} J rv q=>⟨v,H',J.os,J.bare,J.base,J.hok,rv,q⟩
 cases fl with
 | ret u=>obtain ⟨v,σ',H',J,rv,q⟩:=hs;exact fin J rv q
 | next=>obtain ⟨σ',H',J,q⟩:=hs;exact fin (v:=V.non) (u:=Value.none) J rfl q
 | brk=>obtain ⟨_,_,_,q⟩:=hs;exact False.elim q
 | cont=>obtain ⟨_,_,_,q⟩:=hs;exact False.elim q
section
variable {X:Cx}{x:Str}{p pos:Pos}{e:Expr}{es:List Expr}{t:TA}{id T:String}{r:List V->Hp->VK->Prop}
def tCB(r:List V->Hp->VK->Prop)(t:TA):TE:=λσ H Q=>t σ H λvs H1=>r vs H1 Q
theorem aCA(hc:fZ X (.builtin id) r)(hg:Gl X x)(hm:X.mg x=none)(hv:bootBuiltins x=some (.builtin id))(ha:PA X (e::es) t)(hn:x ≠ "__name__" := by decide)(hdb:(x==("__debug__" : Str))=false:=by decide)(he:starEach (e::es) X.env=(false,eval e X.env)::starEach es X.env:=by rfl)(hpl:(backTo pos (starEach es X.env)).any (·.1)=false:=by rfl):PE X (.Call (.Name x p) (e::es) [] pos) (tCB r t):=by intro aA s σ H Q I h;refine aN2 (gS I hg hm hv ?_ hn hdb);exact PyProof.Rows.callWith_builtin1 (thn (ha pos aA s σ H _ I h) λus s1 ⟨vs,H1,I1,r1,q1⟩=>hc aA s1 σ H1 vs us Q I1 r1 q1) he hpl
theorem aCB(hc:fZ X (.type T) r)(hg:Gl X x)(hm:X.mg x=none)(hv:bootBuiltins x=some (.type T))(ha:PA X (e::es) t)(hn:x ≠ "__name__" := by decide)(hdb:(x==("__debug__" : Str))=false:=by decide)(he:starEach (e::es) X.env=(false,eval e X.env)::starEach es X.env:=by rfl)(hpl:(backTo pos (starEach es X.env)).any (·.1)=false:=by rfl):PE X (.Call (.Name x p) (e::es) [] pos) (tCB r t):=by intro aA s σ H Q I h;refine aN2 (gS I hg hm hv ?_ hn hdb);exact aNJ (thn (ha pos aA s σ H _ I h) λus s1 ⟨vs,H1,I1,r1,q1⟩=>hc aA s1 σ H1 vs us Q I1 r1 q1) he hpl
end
end L2
namespace HT
open PySem PyProof.Rows
section
open PySem.SeqAt
open PySem.AutoSeq1 (wpAny_loadPart')
open PySem.MeetsSeq PySem.MeetsSeq2 PySem.MeetsSeq3
end
section
variable {prog:Program}{w:World}{A:Around}{E:VSP}{s:Shared}
theorem aCC{t b:Addr}{vs ws:List Value}{Q:VSP}(ht:IsTup s.heap t vs.toArray)(hb:IsTup s.heap b ws.toArray)(hv:vs≠[])(h1:ws=[]->Q (.ref t) s)(h2:ws≠[]->Q (.ref s.heap.objs.size) { s with heap:=s.heap.push { cls:=.type "tuple", data:=.seq (vs++ws).toArray } })(hsz:vs.length+ws.length<=sizeLine):wpAny (model prog w) A (binaryOp .Add (.ref t) (.ref b)) Q E s:=by
 obtain ⟨⟨cls,dd,data,sl⟩,ho,hc,n,hd⟩:=id ht;obtain ⟨⟨cls2,dd2,data2,sl2⟩,ho2,hc2,n2,hd2⟩:=id hb;simp only at hc hd hc2 hd2;subst hc hd hc2 hd2;have e:vs.toArray++ws.toArray=(vs++ws).toArray:=by simp
 by_cases hw:ws=[]
 . exact aN3 ⟨_,ho,rfl⟩ ⟨_,ho2,rfl⟩ aN4 seq_tuple_add aN5 aN6 (aN7 _ _)
     (tuple_addW1 t b vs.toArray ws.toArray n n2 dd dd2 sl sl2 (by simpa using hv) (by simp[hw])) ⟨ho,ho2,h1 hw⟩
 . refine aN3 ⟨_,ho,rfl⟩ ⟨_,ho2,rfl⟩ aN4 seq_tuple_add aN5 aN6 (aN7 _ _)
     (tuple_addW2 t b vs.toArray ws.toArray n n2 dd dd2 sl sl2 (by simpa using hv) (by simpa using hw) (by rw[aNO,aNO];exact hsz)) ⟨ho,ho2,?_⟩
   rw[e];exact h2 hw
def sIx(n d:Nat):Option Int->Nat
 | none=>d
 | some v=>if v<0 then (v+(n:Int)).toNat else min v.toNat n
theorem tD(n d:Nat):sIx n d none=d:=rfl
theorem tE(n d k:Nat):sIx n d (some (k:Int))=min k n:=by show (if (k:Int)<0 then ((k:Int)+(n:Int)).toNat else min (k:Int).toNat n)=min k n;rw[if_neg (by omega),aN8]
theorem aCD(n d:Nat)(hd:d<=n)(o:Option Int):sIx n d o<=n:=by
 cases o with
 | none=>exact hd
 | some v =>
  show (if v<0 then (v+(n:Int)).toNat else min v.toNat n)<=n;by_cases hv:v<0
  . rw[if_pos hv];omega
  . rw[if_neg hv];exact Nat.min_le_right _ _
theorem tF(v:Int)(n d:Nat):(if v<0 then max (v+(n:Int)) 0 else min v (n:Int))=((sIx n d (some v):Nat):Int):=by
 show (if v<0 then max (v+(n:Int)) 0 else min v (n:Int))=(((if v<0 then (v+(n:Int)).toNat else min v.toNat n):Nat):Int);by_cases hv:v<0
 . simp only[if_pos hv];omega
 . simp only[if_neg hv];omega
theorem aCE(lo hi:Option Int)(n:Nat):Builtin.Slice.sliceAdjust lo hi 1 (n:Int)=(((sIx n 0 lo:Nat):Int),((sIx n n hi:Nat):Int)):=by
 have h1:¬ ((1:Int)<0):=by omega
 unfold Builtin.Slice.sliceAdjust;simp only[h1,aN9];refine Prod.ext ?_ ?_
 . cases lo with
   | none=>rfl
   | some v=>exact tF v n 0
 . cases hi with
   | none=>rfl
   | some v=>exact tF v n n
theorem aCF(i j:Nat):Builtin.Slice.slicePlaces (i:Int) (j:Int) 1=j-i:=by
 unfold Builtin.Slice.slicePlaces;have h1:(1:Int) > 0:=by omega
 simp only[h1,aOA,Int.ediv_one];split <;> omega
theorem tI{v:Value}{o:Option Int}{Q:Option Int->Shared->Prop}(p:IsPart v o)(h:Q o s):wpAny (model prog w) A (Builtin.Slice.slicePartIndex v) Q E s:=by
 cases p with
 | none=>exact slicePart_none h
 | int i t=>exact slicePart_int h
theorem tJ{sl:Addr}{vl vu:Value}{lo hi:Option Int}{n:Nat}{Q:Int×Int×Nat->Shared->Prop}(hs:s.heap.IsSliceOf sl vl vu .none)(pl:IsPart vl lo)(pu:IsPart vu hi)(h:Q (((sIx n 0 lo:Nat):Int),1,sIx n n hi-sIx n 0 lo) s):wpAny (model prog w) A (Builtin.Slice.sliceApplied (.ref sl) (pure (n:Int))) Q E s:=by
 obtain ⟨os,hos,hcs,hds⟩:=id hs;unfold Builtin.Slice.sliceApplied Builtin.Slice.sliceFields;refine aNA (aNA (aOB hos hds (x:=vl) rfl (aNA (aOB hos hds (x:=vu) rfl (aNA (aOB hos hds (x:=.none) rfl (aNC ?_)))))));refine aNA (slicePart_none ?_);show wpAny _ _ (if ((1:Int)==0)=true then _ else _) _ _ s;rw[if_neg (by decide)]
 refine aNA (tI pl (aNA (tI pu (aNA (aNC ?_)))));show wpAny _ _ (match Builtin.Slice.sliceAdjust lo hi 1 (n:Int) with | (lo,hi)=>pure (lo,(1:Int),Builtin.Slice.slicePlaces lo hi 1)) _ _ s
 rw[aCE lo hi n];show wpAny _ _ (pure (((sIx n 0 lo:Nat):Int),(1:Int),Builtin.Slice.slicePlaces ((sIx n 0 lo:Nat):Int) ((sIx n n hi:Nat):Int) 1)) _ _ s;rw[aCF];exact aNC h
theorem aCG(xs:Array Value)(i k:Nat):((List.range k).filterMap λ(m:Nat)=>xs[((i:Int)+(m:Int) * 1).toNat]?).toArray=((xs.toList.drop i).take k).toArray:=by
 have e:(λ(m:Nat)=>xs[((i:Int)+(m:Int) * 1).toNat]?)=λm=>xs[i+m]?:=by
  funext m;have:((i:Int)+(m:Int) * 1).toNat=i+m:=by omega
  rw[this]
 rw[e];have:=pick_run xs i k;rw[List.filterMap_map] at this;have e2:((λx=>xs[x]?) ∘ λx=>i+x)=λm=>xs[i+m]?:=rfl;rw[e2] at this;rw[this]
theorem aCH{t sl:Addr}{items:Array Value}{vl vu:Value}{lo hi:Option Int}{Q:VSP}(ht:IsTup s.heap t items)(hs:s.heap.IsSliceOf sl vl vu .none)(pl:IsPart vl lo)(pu:IsPart vu hi)(hw:¬ (sIx items.size 0 lo=0/\sIx items.size items.size hi=items.size))(h:Q (.ref s.heap.objs.size) { s with heap:=s.heap.push { cls:=.type "tuple", data:=.seq ((items.toList.drop (sIx items.size 0 lo)).take (sIx items.size items.size hi-sIx items.size 0 lo)).toArray } })(hsz:items.size<=sizeLine):wpAny (model prog w) A (getItem (.ref t) (.ref sl)) Q E s:=by
 have htake:sizeOk (.seq ((items.toList.drop (sIx items.size 0 lo)).take (sIx items.size items.size hi-sIx items.size 0 lo)).toArray):=by show ((items.toList.drop (sIx items.size 0 lo)).take (sIx items.size items.size hi-sIx items.size 0 lo)).toArray.size<=sizeLine;rw[aNO,aNS,aOC,aM9];omega
 have hj:sIx items.size items.size hi<=items.size:=aCD _ _ (aNH _) hi;obtain ⟨os,hos,hcs,hds⟩:=id hs;have hTs:s.TypeIs (.ref sl) "slice" := ⟨os,hos,hcs⟩;unfold getItem
 try with_reducible refine aOD ?_
 first | refine aNA (aNC ?_) | skip
 refine aNA (wpAny_sequenceKey ht.typeIs (by decide) ?_)
 refine aNA (aOE (name:=Str.ofString "__getitem__") ht.typeIs aOF
  (aOG aOF ht.typeIs entry_tuple_getitem ?_ (args_tuple_getitem _ _)))
 show wpAny _ _ (Builtin.Tuple.tupleItemsOf (.ref t) >>= _) _ _ s;refine aNA (tupleItemsOf_ ht ?_);refine aNA (aOH hTs ?_);rw[if_pos (by decide)]
 refine aNA (tJ hs pl pu ?_);have hno:¬ ((((sIx items.size 0 lo:Nat):Int)==0&&(1:Int)==1&&(sIx items.size items.size hi-sIx items.size 0 lo)==items.size)=true):=by intro q;rw[aOI,aOI] at q;have q1:((sIx items.size 0 lo:Nat):Int)=0:=eq_of_beq q.1.1;have q2:sIx items.size items.size hi-sIx items.size 0 lo=items.size:=eq_of_beq q.2;exact hw ⟨by omega,by omega⟩
 show wpAny _ _ (if (((sIx items.size 0 lo:Nat):Int)==0&&(1:Int)==1&&(sIx items.size items.size hi-sIx items.size 0 lo)==items.size)=true then _ else _) _ _ s;rw[if_neg hno,aCG]
 first
  | exact aNA (m:=Builtin.Tuple.tupleExact _) (aND (aNC ⟨_,rfl,aNC h⟩) htake)
  | exact aNA (m:=Builtin.Tuple.tupleExact _) (aND (aNA (aNC (aNC ⟨_,rfl,aNC h⟩))) htake)
  | exact aNA (aNA (m:=Builtin.Tuple.tupleExact _) (aND (aNC (aNC ⟨_,rfl,aNC h⟩)) htake))
  | exact aNA (aNA (m:=Builtin.Tuple.tupleExact _) (aND (aNC ⟨_,rfl,aNC h⟩) htake))
end
end HT
namespace L2
open PySem PySem.Spec PyProof.Rows
abbrev TO:=St->Hp->(Option Int->Hp->Prop)->Prop
def PO(X:Cx)(e:Option Expr)(t:TO):Prop :=
 ∀ (aA:LAO) (s:Shared) (σ:St) (H:Hp) (Q:Option Int->Hp->Prop),Inv X aA σ H s->t σ H Q ->
  wpAny (model X.prog X.w) X.A (evalPart e X.env) (λu s'=>∃ o H',Inv X aA σ H' s'/\IsPart u o/\Q o H') X.xe s
def tK:TO:=λ_ H Q=>Q none H
def l9(t:TE):TO:=λσ H Q=>t σ H λx H1=>∃ i,x=.int i/\Q (some i) H1
section
variable {X:Cx}{e:Expr}{te:TE}{lo hi:Option Expr}{tl th:TO}{pos p2:Pos}
theorem aCI:PO X none tK:=by intro aA s σ H Q I h;rw[evalPart_none];exact aNC ⟨none,H,I,.none,h⟩
theorem aCJ(h:PE X e te):PO X (some e) (l9 te):=by intro aA s σ H Q I hw;rw[evalPart_some];refine thn (h aA s σ H _ I hw) λu s1 ⟨x,H1,I1,r1,q1⟩=>?_;obtain ⟨i,rfl,q⟩:=q1;obtain ⟨t,rfl⟩:=r1;exact ⟨some i,H1,I1,.int i t,q⟩
def SlR(X:Cx)(r:V->Option Int->Option Int->Hp->VK->Prop):Prop :=
 ∀ (aA:LAO) (s:Shared) (σ:St) (H:Hp) (x:V) (v vl vu:Value) (lo hi:Option Int) (sl:Addr) (Q:VK),Inv X aA σ H s->aN x v->s.heap.IsSliceOf sl vl vu .none->IsPart vl lo->IsPart vu hi->r x lo hi H Q ->
  ∃ T id,typeLookup (.type T) "__getitem__" = pure (some (.builtin id))/\s.TypeIs v T/\wpAny (model X.prog X.w) X.A (getItem v (.ref sl)) (EP X aA σ Q) X.xe s
theorem SlR.or{r r':V->Option Int->Option Int->Hp->VK->Prop}(h:SlR X r)(h':SlR X r'):SlR X (λx lo hi H Q=>r x lo hi H Q\/r' x lo hi H Q):=by
 intro aA s σ H x v vl vu lo hi sl Q I rx hs pl pu q;rcases q with q | q
 . exact h aA s σ H x v vl vu lo hi sl Q I rx hs pl pu q
 . exact h' aA s σ H x v vl vu lo hi sl Q I rx hs pl pu q
def tSl(r:V->Option Int->Option Int->Hp->VK->Prop)(te:TE)(tl th:TO):TE:=λσ H Q=>te σ H λx H1=>tl σ H1 λl H2=>th σ H2 λu H3=>r x l u H3 Q
theorem aCK{r:V->Option Int->Option Int->Hp->VK->Prop}(hr:SlR X r)(he:PE X e te)(hl:PO X lo tl)(hu:PO X hi th):PE X (.Subscript e (.Slice lo hi none p2) pos) (tSl r te tl th):=by
 intro aA s σ H Q I h;refine Subscript_ (thn (he aA s σ H _ I h) λv s1 ⟨x,H1,I1,r1,q1⟩=>?_);refine wpAny_Slice (thn (hl aA s1 σ H1 _ I1 q1) λvl s2 ⟨l,H2,I2,pl,q2⟩=>thn (hu aA s2 σ H2 _ I2 q2) λvu s3 ⟨u,H3,I3,pu,q3⟩=>?_);rw[evalPart_none];refine aNC ?_;have I4:Inv X aA σ H3 { s3 with heap:=s3.heap.push { cls:=.type "slice", data:=.fields #[vl,vu,.none] } }:=I3.kept (t':=s3.toks) λb ob q=>hps q
 obtain ⟨T,id,hT,ht,hg⟩:=hr aA { s3 with heap:=s3.heap.push { cls:=.type "slice", data:=.fields #[vl,vu,.none] } } σ H3 x v vl vu l u s3.heap.objs.size Q I4 r1 (Heap.IsSliceOf.new ..) pl pu q3
 show wpAny (model X.prog X.w) X.A (subscriptTail e (.Slice lo hi none p2) v (.ref s3.heap.objs.size)) (EP X aA σ Q) X.xe { s3 with heap:=s3.heap.push { cls:=.type "slice", data:=.fields #[vl,vu,.none] } }
 exact tail_any (ops:=[.ref s3.heap.objs.size,v]) ht hT hg (by with_unfolding_all rfl)
def fJ(xs:List V)(lo hi:Option Int):List V:=(xs.drop (HT.sIx xs.length 0 lo)).take (HT.sIx xs.length xs.length hi-HT.sIx xs.length 0 lo)
theorem tL(xs:List V)(lo hi:Option Int):(fJ xs lo hi).length<=xs.length:=by unfold fJ;rw[aNS,aOC];omega
def rSlT(K:Fg):V->Option Int->Option Int->Hp->VK->Prop:=λx lo hi H Q=>∃ a xs,x=.ref a/\SqT K H a xs /\
 ¬ (HT.sIx xs.length 0 lo=0/\HT.sIx xs.length xs.length hi=xs.length)/\∀ p,H p=none->Q (.ref p) (upd H p (.tup (fJ xs lo hi)))
theorem aCL:SlR X (rSlT X.K):=by
 intro aA s σ H x v vl vu lo hi sl Q I rx hs pl pu h;obtain ⟨a,xs,rfl,hx,hw,q⟩:=h;cases rx;obtain ⟨its,r,ht,hz⟩:=I.tuple hx;have hlen:its.toArray.size=xs.length:=by rw[aNO];exact r.length.symm
 refine ⟨"tuple", _,PyProof.Rows.slot_tuple_getitem.lookup,ht.typeIs,?_⟩;refine HT.aCH ht hs pl pu (by rw[hlen];exact hw) ?_ (by rw[hlen];exact hz)
 rw[hlen];refine ⟨.ref s.heap.objs.size,_,I.laid (t':=s.toks) (o:=.tup (fJ xs lo hi)) (λb ob q=>hps q) (aNH _) ?_,rfl,q _ (I.hok.fresh (aNH _))⟩;exact ⟨aMY (tL xs lo hi) hz,_,(r.drop (HT.sIx xs.length 0 lo)).take (HT.sIx xs.length xs.length hi-HT.sIx xs.length 0 lo),fF.new _ _⟩
theorem aO.nil_iff{xs:List V}{us:List Value}(r:aO xs us):us=[]↔xs=[]:=by
 cases r with
 | nil=>simp
 | cons _ _=>simp
end
def ixN(n:Nat)(i:Int):Option Nat:=if 0<=i then (if i<n then some i.toNat else none) else if -(n:Int)<=i then some (i+n).toNat else none
def atI{α:Type}(xs:List α)(i:Int):Option α:=(ixN xs.length i).bind λj=>xs[j]?
theorem aCM{n:Nat}{i:Int}{j:Nat}(h:ixN n i=some j):seqIndex? i n=some j/\j<n /\ -(n:Int)<=i/\i<n:=by
 unfold ixN at h;by_cases h0:0<=i
 . rw[if_pos h0] at h;by_cases h1:i<n
   . rw[if_pos h1] at h;have e:i.toNat=j:=aMP h;exact ⟨by rw[seqIndex_of h0 h1,e],by omega,by omega,h1⟩
   . rw[if_neg h1] at h;cases h
 . rw[if_neg h0] at h;by_cases h1:-(n:Int)<=i
   . rw[if_pos h1] at h;have e:(i+n).toNat=j:=aMP h;exact ⟨by rw[seqIndex_neg (by omega) h1,e],by omega,h1,by omega⟩
   . rw[if_neg h1] at h;cases h
theorem mD{α:Type}{xs:List α}{i:Int}{v:α}(h:atI xs i=some v):∃ j,seqIndex? i xs.length=some j/\xs[j]? = some v/\j<xs.length /\ -(xs.length:Int)<=i/\i<xs.length:=by
 unfold atI at h;cases e:ixN xs.length i with
 | none=>rw[e] at h;cases h
 | some j=>rw[e] at h;obtain ⟨h1,h2,h3,h4⟩:=aCM e;exact ⟨j,h1,h,h2,h3,h4⟩
theorem bC{α:Type}{xs:List α}{j:Nat}{v:α}(h:xs[j]? = some v):atI xs (j:Int)=some v:=by
 have hj:j<xs.length:=(aM3.mp h).1;have e:ixN xs.length (j:Int)=some j:=by unfold ixN;rw[if_pos (by omega),if_pos (by omega)];simp
 unfold atI;rw[e];exact h
def mH(b:Expr):Prop:=∀ o i,subscripted b false o i=operate [o,i] (getItem o i)
def IxR(X:Cx)(r:R2):Prop :=
 ∀ (value slice:Expr) (aA:LAO) (s:Shared) (σ:St) (H:Hp) (x y:V) (v u:Value) (Q:VK),Inv X aA σ H s->aN x v->aN y u->r x y H Q ->
  subscripted slice false v u=operate [v,u] (getItem v u)->wpAny (model X.prog X.w) X.A (subscriptTail value slice v u) (EP X aA σ Q) X.xe s
def MtR(X:Cx)(id:String)(r:V->List V->Hp->VK->Prop):Prop :=
 ∀ (aA:LAO) (s:Shared) (σ:St) (H:Hp) (x:V) (xs:List V) (v:Value) (us:List Value) (Q:VK),Inv X aA σ H s->aN x v->aO xs us->r x xs H Q ->
  wpAny (model X.prog X.w) X.A (call (.builtin id) (v::us)) (EP X aA σ Q) X.xe s
section
variable {X:Cx}{a b:Expr}{ta tb:TE}{pos:Pos}
theorem IxR.or{r r':R2}(h:IxR X r)(h':IxR X r'):IxR X (λx y H Q=>r x y H Q\/r' x y H Q):=by
 intro value slice aA s σ H x y v u Q I rx ry q hs;rcases q with q | q
 . exact h value slice aA s σ H x y v u Q I rx ry q hs
 . exact h' value slice aA s σ H x y v u Q I rx ry q hs
theorem tM{r:R2}(hr:IxR X r)(ha:PE X a ta)(hb:PE X b tb)(hs:mH b):PE X (.Subscript a b pos) (tOp r ta tb):=by intro aA s σ H Q I h;exact Subscript_ (pA ha hb I h λv u s2 x y H2 I2 rx ry q=>hr a b aA s2 σ H2 x y v u Q I2 rx ry q (hs _ _))
def rIxL(K:Fg):R2:=λx y H Q=>∃ p xs i v,x=.ref p/\y=.int i/\SqL K H p xs/\atI xs i=some v/\Q v H
def rIxT(K:Fg):R2:=λx y H Q=>∃ p xs i v,x=.ref p/\y=.int i/\SqT K H p xs/\atI xs i=some v/\Q v H
def rIxS:R2:=λx y H Q=>∃ z i c,x=.str z/\y=.int i/\z.length<=sizeLine/\atI z.cps.toList i=some c/\Q (.str ⟨#[c]⟩) H
theorem aCN:IxR X (rIxL X.K):=by
 intro value slice aA s σ H x y v u Q I rx ry h hs;obtain ⟨p,xs,i,z,rfl,rfl,hq,he,q⟩:=h;cases rx;obtain ⟨t,rfl⟩:=ry;obtain ⟨its,r,pl,hz⟩:=I.list hq;obtain ⟨j,h1,h2,h3,h4,h5⟩:=mD he;obtain ⟨w,ew,rw'⟩:=r.get h2;have hl:=r.length;have hn:=j9;have fin:EP X aA σ Q w s:=⟨z,H,I,rw',q⟩;by_cases h0:0<=i
 . have hj:i.toNat=j:=by rw[seqIndex_of h0 h5] at h1;exact aMP h1
   exact item_listR pl.isList h0 (by omega) (by rw[hj];simpa using ew) fin hs
 . have hj:(i+(its.toArray.size:Int)).toNat=j:=by
     rw[seqIndex_neg (by omega) h4] at h1
     rw[aNO,<- hl];exact aMP h1
   exact subscriptTail_builtinR (x:=w) pl.isList.typeIs slot_list_getitem.lookup
    (wpAny_getItem_list_neg (Q:=λr s'=>r=w/\EP X aA σ Q r s') pl.isList (by omega) (by rw[aNO] <;> omega) (by omega) (by rw[hj];simpa using ew) ⟨rfl,fin⟩) hs
theorem aCO:IxR X (rIxT X.K):=by
 intro value slice aA s σ H x y v u Q I rx ry h hs;obtain ⟨p,xs,i,z,rfl,rfl,hq,he,q⟩:=h;cases rx;obtain ⟨t,rfl⟩:=ry;obtain ⟨its,r,pl,hz⟩:=I.tuple hq;obtain ⟨j,h1,h2,h3,h4,h5⟩:=mD he;obtain ⟨w,ew,rw'⟩:=r.get h2;have hl:=r.length;have hn:=j9;have fin:EP X aA σ Q w s:=⟨z,H,I,rw',q⟩;exact subscriptTail_builtinR (x:=w) pl.typeIs slot_tuple_getitem.lookup
  (getItem_tuple (j:=j) (Q:=λr s'=>r=w/\EP X aA σ Q r s') pl (by omega) (by omega) (by rw[aNO,<- hl];exact h1) (by simpa using ew) ⟨rfl,fin⟩) hs
theorem aCP:IxR X rIxS:=by
 intro value slice aA s σ H x y v u Q I rx ry h hs;obtain ⟨z,i,c,rfl,rfl,hz,he,q⟩:=h;obtain ⟨t,rfl⟩:=rx;obtain ⟨t',rfl⟩:=ry;obtain ⟨j,h1,h2,h3,h4,h5⟩:=mD he;have hl:z.cps.toList.length=z.length:=by simp[Str.length]
 rw[hl] at h1 h4 h5;have hn:=j9;exact tail_any (typeIs_str s z t) slot_str_getitem.lookup (getItem_str (c:=c) (by
  have e1:decide (i < -(2 ^ 63:Int))=false:=aMM (by omega)
  have e2:decide (i ≥ 2 ^ 63)=false:=aMM (by omega)
  rw[e1,e2,Bool.or_false]) (by rw[h1];simpa using h2) ⟨.str ⟨#[c]⟩,H,I.tok _,⟨_,rfl⟩,q⟩) hs
def rIx(K:Fg):R2:=λx y H Q=>rIxL K x y H Q\/rIxT K x y H Q\/rIxS x y H Q
theorem aCQ:IxR X (rIx X.K):=aCN.or (aCO.or aCP)
theorem aCR(lo hi:Option Int)(n:Nat):(sliceBounds lo hi none n).1=((HT.sIx n 0 lo:Nat):Int)/\(sliceBounds lo hi none n).2.1=((HT.sIx n n hi:Nat):Int)/\(sliceBounds lo hi none n).2.2=1:=by
 refine ⟨?_,?_,rfl⟩
 . cases lo with
   | none=>simp[sliceBounds,HT.sIx]
   | some i =>
    simp only[sliceBounds,HT.sIx,aOJ,show (1:Int) > 0 by decide,aOA]
    by_cases h:i<0
    . simp only[h,aOA] <;> omega
    . simp only[h,aN9] <;> omega
 . cases hi with
   | none=>simp[sliceBounds,HT.sIx]
   | some i =>
    simp only[sliceBounds,HT.sIx,aOJ,show (1:Int) > 0 by decide,aOA]
    by_cases h:i<0
    . simp only[h,aOA] <;> omega
    . simp only[h,aN9] <;> omega
theorem aCS(its:List Value)(lo hi:Option Int):slicePick its.toArray lo hi none=((its.drop (HT.sIx its.length 0 lo)).take (HT.sIx its.length its.length hi-HT.sIx its.length 0 lo)).toArray:=by obtain ⟨h1,h2,h3⟩:=aCR lo hi its.toArray.size;unfold slicePick;rw[h1,h2,h3];simp only[sliceRange_one,pick_run,aNO] <;> rfl
def rSlL(K:Fg):V->Option Int->Option Int->Hp->VK->Prop:=λx lo hi H Q=>∃ a xs,x=.ref a/\SqL K H a xs/\∀ p,H p=none->Q (.ref p) (upd H p (.lst (fJ xs lo hi)))
theorem aCT:SlR X (rSlL X.K):=by
 intro aA s σ H x v vl vu lo hi sl Q I rx hs pl pu h;obtain ⟨a,xs,rfl,hx,q⟩:=h;cases rx;obtain ⟨its,r,ht,hz⟩:=I.list hx;have hlen:=r.length;refine ⟨"list", _,slot_list_getitem.lookup,ht.isList.typeIs,?_⟩;refine wpAny_getItem_list_slice ht.isList hs pl pu .none (by simp) ?_ (by rw[aNO] <;> omega)
 rw[aCS,<- hlen];refine ⟨.ref s.heap.objs.size,_,I.laid (t':=s.toks) (o:=.lst (fJ xs lo hi)) (λb ob q=>hps q) (aNH _) ?_,rfl,q _ (I.hok.fresh (aNH _))⟩;exact ⟨aMY (tL xs lo hi) hz,_,0,(r.drop (HT.sIx xs.length 0 lo)).take (HT.sIx xs.length xs.length hi-HT.sIx xs.length 0 lo),aMQ _ rfl⟩
def eX:V->Bool
 | .non=>true
 | .bl _=>true
 | .int _=>true
 | .str _=>true
 | _=>false
def eqV:V->V->Bool
 | .non,.non=>true
 | .bl a,.bl b=>a==b
 | .bl a,.int b=>(if a then 1 else 0)==b
 | .int a,.bl b=>a==(if b then 1 else 0)
 | .int a,.int b=>a==b
 | .str a,.str b=>a==b
 | _,_=>false
theorem aCU{A:Around}{s:Shared}{y x:V}{u v:Value}(ry:aN y u)(rx:aN x v)(fy:eX y=true)(fx:eX x=true):SeqAt.EqAt A s u v (eqV y x):=by
 cases y with
 | non =>
  cases ry;cases x with
  | non=>cases rx;exact SeqAt.EqAt.same _
  | bl b=>cases rx;exact SeqAt.EqAt.none_bool b
  | int b=>obtain ⟨t,rfl⟩:=rx;exact SeqAt.EqAt.none_int b t
  | str b=>obtain ⟨t,rfl⟩:=rx;exact SeqAt.EqAt.none_str b t
  | _=>exact absurd (show false=true from fx) aOK
 | bl a =>
  cases ry;cases x with
  | non=>cases rx;exact SeqAt.EqAt.bool_none a
  | bl b=>cases rx;exact SeqAt.EqAt.bool_bool a b
  | int b=>obtain ⟨t,rfl⟩:=rx;exact SeqAt.EqAt.bool_int a b t
  | str b=>obtain ⟨t,rfl⟩:=rx;exact SeqAt.EqAt.bool_str a b t
  | _=>exact absurd (show false=true from fx) aOK
 | int a =>
  obtain ⟨t',rfl⟩:=ry;cases x with
  | non=>cases rx;exact SeqAt.EqAt.int_none a t'
  | bl b=>cases rx;exact SeqAt.EqAt.int_bool a t' b
  | int b=>obtain ⟨t,rfl⟩:=rx;exact SeqAt.EqAt.int_int a t' b t
  | str b=>obtain ⟨t,rfl⟩:=rx;exact SeqAt.EqAt.int_str a t' b t
  | _=>exact absurd (show false=true from fx) aOK
 | str a =>
  obtain ⟨t',rfl⟩:=ry;cases x with
  | non=>cases rx;exact SeqAt.EqAt.str_none a t'
  | bl b=>cases rx;exact SeqAt.EqAt.str_bool a t' b
  | int b=>obtain ⟨t,rfl⟩:=rx;exact SeqAt.EqAt.str_int a t' b t
  | str b=>obtain ⟨t,rfl⟩:=rx;exact SeqAt.EqAt.str_str a t' b t
  | _=>exact absurd (show false=true from fx) aOK
 | _=>exact absurd (show false=true from fy) aOK
def eqU(x:V)(u:Value):Bool:=match u with
 | .none=>eqV .non x
 | .bool b=>eqV (.bl b) x
 | .int i _=>eqV (.int i) x
 | .str z _=>eqV (.str z) x
 | _=>false
theorem tN{x y:V}{u:Value}(r:aN y u)(f:eX y=true):eqU x u=eqV y x:=by
 cases y with
 | non=>cases r;rfl
 | bl b=>cases r;rfl
 | int i=>obtain ⟨t,rfl⟩:=r;rfl
 | str z=>obtain ⟨t,rfl⟩:=r;rfl
 | _=>exact absurd (show false=true from f) aOK
theorem kA{x:V}:∀ {xs:List V} {us:List Value},aO xs us->xs.all eX=true->us.any (eqU x)=xs.any λy=>eqV y x
 | _,_,.nil,_=>rfl
 | y::xs,u::us,.cons r t,f=>by rw[aOL,aOI] at f;rw[aOM,aOM,tN r f.1,kA t f.2]
theorem kB{A:Around}{s:Shared}{x:V}{v:Value}(rx:aN x v)(fx:eX x=true):∀ {xs:List V} {us:List Value},aO xs us->xs.all eX=true->∀ u∈us,SeqAt.EqAt A s u v (eqU x u)
 | _,_,.nil,_=>λu hu=>by cases hu
 | y::xs,u::us,.cons r t,f=>λu' hu=>by
  rw[aOL,aOI] at f;rcases aM0.mp hu with rfl | hu
  . rw[tN r f.1];exact aCU r rx f.1 fx
  . exact kB rx fx t f.2 u' hu
def inV(x:V)(xs:List V):Bool:=xs.any λy=>eqV y x
def rIn(K:Fg)(neg:Bool):R2:=λx y H Q=>∃ p xs,y=.ref p/\(SqL K H p xs\/SqT K H p xs)/\eX x=true/\xs.all eX=true/\Q (.bl (if neg then !inV x xs else inV x xs)) H
theorem aCV:OpR X (compareOp .In) (rIn X.K false):=by
 intro aA s σ H x y v u Q I rx ry h;obtain ⟨p,xs,rfl,hq,fx,fs,q⟩:=h;cases ry;rcases hq with hq | hq
 . obtain ⟨its,r,pl,hz⟩:=I.list hq;refine SeqAt.in_listAt (eqU x) pl.isList (λw hw=>kB rx fx r fs w (by simpa using hw)) ⟨.bl _,H,I,rfl,?_⟩
   rw[show its.toArray.any (eqU x)=its.any (eqU x) by simp,kA r fs]
   exact q
 . obtain ⟨its,r,pl,hz⟩:=I.tuple hq;refine SeqAt.in_tupleAt (eqU x) pl (λw hw=>kB rx fx r fs w (by simpa using hw)) ⟨.bl _,H,I,rfl,?_⟩
   rw[show its.toArray.any (eqU x)=its.any (eqU x) by simp,kA r fs]
   exact q
theorem aCW:OpR X (compareOp .NotIn) (rIn X.K true):=by
 intro aA s σ H x y v u Q I rx ry h;obtain ⟨p,xs,rfl,hq,fx,fs,q⟩:=h;cases ry;rcases hq with hq | hq
 . obtain ⟨its,r,pl,hz⟩:=I.list hq;refine SeqAt.notIn_listAt (eqU x) pl.isList (λw hw=>kB rx fx r fs w (by simpa using hw)) ⟨.bl _,H,I,rfl,?_⟩
   rw[show its.toArray.any (eqU x)=its.any (eqU x) by simp,kA r fs]
   exact q
 . obtain ⟨its,r,pl,hz⟩:=I.tuple hq;refine SeqAt.notIn_tupleAt (eqU x) pl (λw hw=>kB rx fx r fs w (by simpa using hw)) ⟨.bl _,H,I,rfl,?_⟩
   rw[show its.toArray.any (eqU x)=its.any (eqU x) by simp,kA r fs]
   exact q
theorem aCX:fZ X (.type "list") (λxs H Q=>∃ p ys,xs=[.ref p]/\(SqL X.K H p ys\/SqT X.K H p ys)/\∀ l,H l=none->Q (.ref l) (upd H l (.lst ys))):=by
 intro aA s σ H xs us Q I r h; obtain ⟨p, ys, rfl, hq, q⟩ := h; obtain ⟨u, rfl, rx⟩ := fH r; cases rx; have fin : ∀ (its : List Value), aO ys its → ys.length ≤ sizeLine → ∀ (h' : Heap) (c' : Nat), (∀ b o', s.heap.get? b = some o' → h'.get? b = some o') →
     h'.get? s.heap.objs.size=some { cls:=.type "list", dict:=none,data:=.seq its.toArray c',slots:=#[] } -> EP X aA σ Q (.ref s.heap.objs.size) { s with heap:=h' }:=λits r' hz h' c' kp e =>
  ⟨.ref s.heap.objs.size,_,I.laid (t':=s.toks) kp (aNH _) (show bR X.prog X.w _ h' _ (.lst ys) from ⟨hz,its,c',r',e⟩),rfl,q _ (I.hok.fresh (aNH _))⟩
 rcases hq with hq | hq
 . obtain ⟨its,r',pl,hz⟩:=I.list hq;have hlen:=r'.length;obtain ⟨o,ho,hc,n,hd⟩:=pl.isList;exact call_list_seq p (.inl rfl) ho hc hd (λh' c' kp e=>fin its r' hz h' c' kp e) (by simp only[aNO] <;> omega)
 . obtain ⟨its,r',pl,hz⟩:=I.tuple hq;have hlen:=r'.length;obtain ⟨o,ho,hc,n,hd⟩:=pl;exact call_list_seq p (.inr rfl) ho hc hd (λh' c' kp e=>fin its r' hz h' c' kp e) (by simp only[aNO] <;> omega)
theorem aCY:fZ X (.type "tuple") (λxs H Q=>∃ p ys,xs=[.ref p]/\((SqL X.K H p ys/\∀ l,H l=none->Q (.ref l) (upd H l (.tup ys)))\/(SqT X.K H p ys/\Q (.ref p) H))):=by
 intro aA s σ H xs us Q I r h;obtain ⟨p,ys,rfl,h⟩:=h;obtain ⟨u,rfl,rx⟩:=fH r;cases rx;rcases h with ⟨hq,q⟩ | ⟨hq,q⟩
 . obtain ⟨its,r',pl,hz⟩:=I.list hq;have hlen:=r'.length;refine call_tuple_list pl.isList (λh' kp=>?_) (by simp only[aNO] <;> omega)
   have I1:Inv X aA σ H { s with heap:=h' }:=I.kept (t':=s.toks) kp
   have I2:Inv X aA σ (upd H h'.objs.size (.tup ys)) { s with heap:=h'.push { cls:=.type "tuple", data:=.seq its.toArray } } :=
    I1.laid (t':=s.toks) (λb o e=>hps e) (aNH _) (show bR X.prog X.w _ _ _ (.tup ys) from ⟨hz,its,r',fF.new _ _⟩)
   exact ⟨.ref h'.objs.size,_,I2,rfl,q _ (I1.hok.fresh (aNH _))⟩
 . obtain ⟨its,r',pl,hz⟩:=I.tuple hq;exact call_tuple_same pl ⟨.ref p,H,I,rfl,q⟩
variable {o e:Expr}{es:List Expr}{to:TE}{t:TA}{name:Str}{apos cpos:Pos}{T id:String}{r:V->List V->Hp->VK->Prop}
end
def MtM(X:Cx)(id:String)(r:V->List V->Hp->VK->Prop):Prop :=
 ∀ (aA:LAO) (s:Shared) (σ:St) (H:Hp) (x:V) (xs:List V) (v:Value) (us:List Value) (Q:VK),Inv X aA σ H s->aN x v->aO xs us->r x xs H Q ->
  wpAny (model X.prog X.w) X.A (call (.builtin id) (v::us)) (EP X aA σ Q) X.xe s
theorem aO.one:∀ {x:V} {us:List Value},aO [x] us->∃ u,us=[u]/\aN x u
 | _,_,.cons r .nil=>⟨_,rfl,r⟩
section
variable {X:Cx}{aA:LAO}{σ:St}{H:Hp}{s:Shared}{l b:Addr}{xs ys zs:List V}
theorem Inv.lset{its its':List Value}{n:Nat}{f:Array Value->Array Value}{t':Nat}(I:Inv X aA σ H s)(hH:H l=some (.lst xs))(e:s.heap.get? l=some { cls:=.type "list", data:=.seq its.toArray n })(hf:f its.toArray=its'.toArray)(hv:aO ys its')(hz:ys.length<=sizeLine):Inv X aA σ (upd H l (.lst ys)) { s with heap:=s.heap.update l (Obj.mapSeq f),toks:=t' }:=by
 have q:=PySem.IsL.update e f;rw[hf] at q;refine I.write (x:=l) (e:=l) (by rw[hH];exact trivial) (.inl rfl) (λb' u hb hu=>(Heap.get?_update_other s.heap (Obj.mapSeq f) (Ne.symm hb)).trans hu) ⟨_,q⟩ ?_
 exact ⟨hz,its',_,hv,q⟩
theorem Inv.lstM(I:Inv X aA σ H s)(hH:H l=some (.lst xs)):xs.length<=sizeLine/\∃ (its:List Value) (n:Nat),aO xs its/\xs.length=its.length/\s.heap.get? l=some { cls:=.type "list", data:=.seq its.toArray n }:=by obtain ⟨z,its,n,r,e⟩:=I.hok l _ hH;exact ⟨z,its,n,r,r.length,e⟩
end
section
variable {X:Cx}
def aCZ:V->List V->Hp->VK->Prop:=λx vs H Q=>∃ l xs y,x=.ref l/\vs=[y]/\H l=some (.lst xs)/\xs.length<sizeLine/\Q .non (upd H l (.lst (xs++[y])))
theorem aC0:MtM X "list.append" aCZ:=by
 intro aA s σ H x vs v us Q I rx rv h;obtain ⟨l,xs,y,rfl,rfl,hH,hz,q⟩:=h;cases rx;obtain ⟨u,rfl,ru⟩:=rv.one;obtain ⟨z,its,n,r,hl,e⟩:=I.lstM hH;refine call_meets F.slot_list_append ⟨_,e,rfl⟩ F.entry_list_append (F.args_list_append_2 _ _) (PySem.list_append l its.toArray n u (by rw[aNO];omega)) ⟨e,?_⟩
 refine ⟨.non,_,I.lset (its':=its++[u]) hH e (by simp) (r.append (.cons ru .nil)) ?_,rfl,q⟩
 rw[aN0,aON];omega
end
section
variable {prog:Program}{w:World}{A:Around}{E:VSP}{s:Shared}
end
section
variable {X:Cx}
end
section
variable {κ:Type}[DecidableEq κ]
def cR(kvs:List (κ×V))(k:κ):Option V:=(kvs.find? λkv=>decide (kv.1=k)).map (·.2)
def cS(kvs:List (κ×V))(k:κ)(v:V):List (κ×V) :=
 if (kvs.any λkv=>decide (kv.1=k))=true then kvs.map (λkv=>if kv.1=k then (kv.1,v) else kv) else kvs++[(k,v)]
theorem mJ{p:κ×V}{r:List (κ×V)}{k:κ}(e:p.1=k):cR (p::r) k=some p.2:=by simp[cR,aOO,e]
theorem mK{p:κ×V}{r:List (κ×V)}{k:κ}(e:¬ p.1=k):cR (p::r) k=cR r k:=by simp[cR,aOO,e]
theorem tO(k:κ):∀ kvs:List (κ×V),(kvs.any λkv=>decide (kv.1=k))=(cR kvs k).isSome
 | []=>rfl
 | p::r=>by
  rw[aOM];by_cases e:p.1=k
  . simp only[mJ e,aOP e,Bool.true_or,Option.isSome_some]
  . rw[mK e,aMM e,Bool.false_or];exact tO k r
theorem pF(kvs:List (κ×V))(k:κ)(v:V):(cS kvs k v).length<=kvs.length+1:=by
 unfold cS;split
 . rw[aN1];omega
 . rw[aN0,aOQ,List.length_nil];omega
theorem dF.isSome_eq{o:Option V}{u:Option Value}(r:dF o u):o.isSome=u.isSome:=by
 cases o with
 | none=>cases u with
  | none=>rfl
  | some _=>exact (show False from r).elim
 | some _=>cases u with
  | none=>exact (show False from r).elim
  | some _=>rfl
theorem KV.val{kvs:List (κ×V)}{vs:List (κ×Value)}(r:KV kvs vs)(k:κ):dF (cR kvs k) (valueAt vs k):=by
 unfold KV at r
 induction r with
 | nil=>exact True.intro
 | @cons p q ps qs h t ih =>
  obtain ⟨h1,h2⟩:=h;by_cases e:p.1=k
  . have e':q.1=k:=h1.symm.trans e;have b:valueAt (q::qs) k=some q.2:=by simp[valueAt,aOO,e']
    rw[mJ e,b];exact h2
  . have e':¬ q.1=k:=λz=>e (h1.trans z);have b:valueAt (q::qs) k=valueAt qs k:=by simp[valueAt,aOO,e']
    rw[mK e,b];exact ih
theorem KV.any{kvs:List (κ×V)}{vs:List (κ×Value)}(r:KV kvs vs)(k:κ):(kvs.any λkv=>decide (kv.1=k))=vs.any λkv=>decide (kv.1=k):=by
 unfold KV at r
 induction r with
 | nil=>rfl
 | cons h t ih=>rw[aOM,aOM,ih,h.1]
theorem KV.repl{kvs:List (κ×V)}{vs:List (κ×Value)}(r:KV kvs vs)(k:κ){y:V}{u:Value}(ry:aN y u):KV (kvs.map λkv=>if kv.1=k then (kv.1,y) else kv) (vs.map λkv=>if kv.1=k then (kv.1,u) else kv):=by
 unfold KV at r ⊢
 induction r with
 | nil=>exact .nil
 | @cons p q ps qs h t ih =>
  rw[aOR,aOR];refine .cons ?_ ih;obtain ⟨h1,h2⟩:=h;by_cases e:p.1=k
  . rw[if_pos e,if_pos (h1.symm.trans e)];exact ⟨h1,ry⟩
  . rw[if_neg e,if_neg (λz=>e (h1.trans z))];exact ⟨h1,h2⟩
theorem KV.put{kvs:List (κ×V)}{vs:List (κ×Value)}(r:KV kvs vs)(k:κ){y:V}{u:Value}(ry:aN y u):KV (cS kvs k y) (stored vs k u):=by
 unfold cS stored;rw[r.any k];by_cases e:(vs.any λkv=>decide (kv.1=k))=true
 . rw[if_pos e,if_pos e];exact r.repl k ry
 . rw[if_neg e,if_neg e];exact Paired.snoc r ⟨rfl,ry⟩
theorem KV.length{kvs:List (κ×V)}{vs:List (κ×Value)}(r:KV kvs vs):kvs.length=vs.length:=aMO r
end
theorem gT{P:Program}{w:World}{k:Key}{u:Value}(r:aN (kV k) u):(bO P w).is k u=true:=by
 cases k with
 | inl i=>obtain ⟨t,e⟩:=(show ∃ t,u=Value.int i t from r);subst e;exact aAM P w i t
 | inr x=>obtain ⟨t,e⟩:=(show ∃ t,u=Value.str x t from r);subst e;exact aAN P w x t
theorem tP{P:Program}{w:World}:∀ {ks:List Key} {us:List Value},aO (ks.map kV) us->ItemsAre (bO P w) ks us
 | [],_,r=>by rw[List.map_nil] at r;cases r;exact .nil
 | k::ks,_,r=>by
  rw[aOR] at r;cases r with
  | cons h t=>exact .cons (gT h) (tP t)
abbrev KT(H:Hp):List (List Key×V)->List (List Key×Addr×Value)->Prop:=Paired λp q=>p.1=q.1/\H q.2.1=some (.tup (p.1.map kV))/\aN p.2 q.2.2
theorem KT.val{H:Hp}{kvs:List (List Key×V)}{xs:List (List Key×Addr×Value)}(r:KT H kvs xs)(k:List Key):dF (cR kvs k) ((atKey xs k).map (·.2)):=by
 induction r with
 | nil=>exact True.intro
 | @cons p q ps qs h t ih =>
  obtain ⟨h1,_,h2⟩:=h;by_cases e:p.1=k
  . have e':q.1=k:=h1.symm.trans e;have b:atKey (q::qs) k=some q.2:=by simp[atKey,aOO,e']
    rw[mJ e,b];exact h2
  . have e':¬ q.1=k:=λz=>e (h1.trans z);have b:atKey (q::qs) k=atKey qs k:=by simp[atKey,aOO,e']
    rw[mK e,b];exact ih
theorem KT.repl{H:Hp}{kvs:List (List Key×V)}{xs:List (List Key×Addr×Value)}(r:KT H kvs xs)(k:List Key){y:V}{u:Value}(ry:aN y u):KT H (kvs.map λkv=>if kv.1=k then (kv.1,y) else kv) (xs.map (putAt k u)):=by
 induction r with
 | nil=>exact .nil
 | @cons p q ps qs h t ih =>
  rw[aOR,aOR];refine .cons ?_ ih;obtain ⟨h1,h2,h3⟩:=h;unfold putAt;by_cases e:p.1=k
  . rw[if_pos e,if_pos (h1.symm.trans e)];exact ⟨h1,h2,ry⟩
  . rw[if_neg e,if_neg (λz=>e (h1.trans z))];exact ⟨h1,h2,h3⟩
theorem KT.put{H:Hp}{kvs:List (List Key×V)}{xs:List (List Key×Addr×Value)}(r:KT H kvs xs)(k:List Key){b:Addr}{y:V}{u:Value}(hb:H b=some (.tup (k.map kV)))(ry:aN y u):KT H (cS kvs k y) (storedH xs k b u):=by
 have e:(kvs.any λkv=>decide (kv.1=k))=(atKey xs k).isSome:=by rw[tO,(r.val k).isSome_eq,aOS]
 unfold cS storedH;rw[e];by_cases q:(atKey xs k).isSome=true
 . rw[if_pos q,if_pos q];exact r.repl k ry
 . rw[if_neg q,if_neg q];exact Paired.snoc r ⟨rfl,hb,ry⟩
theorem KT.keeps{H H':Hp}{kvs:List (List Key×V)}{xs:List (List Key×Addr×Value)}(r:KT H kvs xs)(ht:∀ b ys,H b=some (.tup ys)->H' b=some (.tup ys)):KT H' kvs xs :=
 Paired.mapP r λ_ _ z=>⟨z.1,ht _ _ z.2.1,z.2.2⟩
section
variable {P:Program}{w:World}{H:Hp}{h:Heap}{a:Addr}
theorem tQ{u:HO}(ok:HOk P w H h)(e:Rd H a u):bR P w H h a u:=e.ok ok
theorem iS{kvs:List (Key×V)}(ok:HOk P w H h)(e:Rd H a (.dK kvs)):kvs.length<=sizeLine/\(a==sysModules)=false/\∃ vs,KV kvs vs/\h.DictOf (bO P w) a vs :=
 show bR P w H h a (.dK kvs) from tQ ok e
theorem pG{kvs:List (Key×V)}(ok:HOk P w H h)(e:H a=some (.dK kvs)):kvs.length<=sizeLine/\(a==sysModules)=false/\∃ vs,KV kvs vs/\h.DictOf (bO P w) a vs:=iS ok (.inl e)
theorem kC{ks:List Key}(ok:HOk P w H h)(e:H a=some (.tup (ks.map kV))):(tupleKind (bO P w)).is h ks a:=by
 obtain ⟨_,its,r,o,h1,h2,_,n,h3⟩:=(show bR P w H h a (.tup (ks.map kV)) from ok a _ e)
 exact ⟨o,its.toArray,n,h1,h2,h3,by simpa using tP r⟩
theorem kD{kvs:List (List Key×V)}(ok:HOk P w H h)(e:Rd H a (.dT kvs)):kvs.length<=sizeLine/\(a==sysModules)=false/\∃ xs,KT H kvs xs/\h.DictOfH (tupleKind (bO P w)) a xs:=by
 obtain ⟨z,y,xs,r,o,es,ep,h1,h2,h3,h4,h5⟩:=(show bR P w H h a (.dT kvs) from tQ ok e)
 refine ⟨z,y,xs,r,o,es,ep,h1,h2,h3,h4,λx hx=>?_,h5⟩;have all:∀ {l:List (List Key×V)} {m:List (List Key×Addr×Value)},KT H l m->∀ x∈m,(tupleKind (bO P w)).is h x.1 x.2.1:=by
  intro l m q
  induction q with
  | nil=>intro x hx;exact nomatch hx
  | @cons p q ps qs hq t ih =>
   intro x hx;rcases aM0.mp hx with e | hx
   . subst e;exact kC ok (by rw[<- hq.1];exact hq.2.1)
   . exact ih x hx
 exact all r x hx
theorem dt_of{kvs:List (List Key×V)}(ok:HOk P w H h)(e:H a=some (.dT kvs)):kvs.length<=sizeLine/\(a==sysModules)=false/\∃ xs,KT H kvs xs/\h.DictOfH (tupleKind (bO P w)) a xs:=kD ok (.inl e)
end
def f6(H:Hp)(a:Addr)(y:V)(r:Option V):Prop :=
 (∃ kvs k,Rd H a (.dK kvs)/\y=kV k/\r=cR kvs k)\/∃ kvs k b,Rd H a (.dT kvs)/\y=.ref b/\H b=some (.tup (k.map kV))/\r=cR kvs k
def DPut(H:Hp)(a:Addr)(y v:V)(H':Hp):Prop :=
 (∃ kvs k,H a=some (.dK kvs)/\y=kV k/\kvs.length<sizeLine/\H'=upd H a (.dK (cS kvs k v))) \/
 ∃ kvs k b,H a=some (.dT kvs)/\y=.ref b/\H b=some (.tup (k.map kV))/\kvs.length<sizeLine/\H'=upd H a (.dT (cS kvs k v))
section
variable {X:Cx}{aA:LAO}{σ:St}{H:Hp}{s:Shared}{a:Addr}{y v:V}{u r:Value}{o:Option V}{A:Around}{E:VSP}
theorem Inv.big(I:Inv X aA σ H s):sysModules<s.heap.objs.size:=by have h:mainGlobals<s.heap.objs.size:=(I.mod.glob.keeps I.bk).lt;exact Nat.lt_trans (by decide) h
theorem aC1{Q:VSP}(hu:A.units+1<cLine)(I:Inv X aA σ H s)(g:f6 H a y (some v))(ry:aN y u)(h:∀ w' s',Inv X aA σ H s'->aN v w'->Q w' s'):wpAny (model X.prog X.w) A (getItem (.ref a) u) Q E s:=by
 rcases g with ⟨kvs,k,e,ey,l⟩ | ⟨kvs,k,b,e,ey,eb,l⟩
 . subst ey;obtain ⟨z,hd,vs,rel,dd⟩:=iS I.hok e;obtain ⟨w',hw,rw'⟩:=dF.some_of (v:=v) (o:=valueAt vs k) (by rw[l];exact rel.val k)
   exact wpAny_getItem_of (gT ry) dd.mapOf hw (h w' _ (I.tok _) rw')
 . subst ey;cases (show u=Value.ref b from ry)
   obtain ⟨z,hd,xs,rel,dd⟩:=kD I.hok e;obtain ⟨w',hw,rw'⟩:=dF.some_of (v:=v) (o:=(atKey xs k).map (·.2)) (by rw[l];exact rel.val k)
   obtain ⟨p,hp,hp2⟩:=Option.map_eq_some_iff.mp hw;refine wpAny_getItem_heap (aOT hu) (kC I.hok eb) dd hp ?_;rw[hp2];exact h w' _ (I.tok _) rw'
theorem d_in{Q:VSP}(hu:A.units+1<cLine)(I:Inv X aA σ H s)(g:f6 H a y o)(ry:aN y u)(h:∀ s',Inv X aA σ H s'->Q (.bool o.isSome) s'):wpAny (model X.prog X.w) A (compareOp .In u (.ref a)) Q E s:=by
 rcases g with ⟨kvs,k,e,ey,l⟩ | ⟨kvs,k,b,e,ey,eb,l⟩
 . subst ey;obtain ⟨z,hd,vs,rel,dd⟩:=iS I.hok e;refine wpAny_in_of (gT ry) hd dd.mapOf ?_;rw[<- (rel.val k).isSome_eq,<- l];exact h _ (I.tok _)
 . subst ey;cases (show u=Value.ref b from ry)
   obtain ⟨z,hd,xs,rel,dd⟩:=kD I.hok e;refine wpAny_in_heap (aOT hu) (kC I.hok eb) hd dd ?_;have q:=(rel.val k).isSome_eq;rw[aOS] at q;rw[<- q,<- l];exact h _ (I.tok _)
theorem aC2{Q:VSP}(hu:A.units+1<cLine)(I:Inv X aA σ H s)(g:f6 H a y o)(ry:aN y u)(h:∀ s',Inv X aA σ H s'->Q (.bool (!o.isSome)) s'):wpAny (model X.prog X.w) A (compareOp .NotIn u (.ref a)) Q E s:=by
 rcases g with ⟨kvs,k,e,ey,l⟩ | ⟨kvs,k,b,e,ey,eb,l⟩
 . subst ey;obtain ⟨z,hd,vs,rel,dd⟩:=iS I.hok e;refine wpAny_notIn_of (gT ry) hd dd.mapOf ?_;rw[<- (rel.val k).isSome_eq,<- l];exact h _ (I.tok _)
 . subst ey;cases (show u=Value.ref b from ry)
   obtain ⟨z,hd,xs,rel,dd⟩:=kD I.hok e;refine wpAny_notIn_heap (aOT hu) (kC I.hok eb) hd dd ?_;have q:=(rel.val k).isSome_eq;rw[aOS] at q;rw[<- q,<- l];exact h _ (I.tok _)
theorem tR{h':Heap}{t':Nat}{ob:HO}(I:Inv X aA σ H s)(mu:Mut (H a))(hs:Heap.SameBut a s.heap h')(he:∃ q,h'.get? a=some q)(new:bR X.prog X.w (upd H a ob) h' a ob):Inv X aA σ (upd H a ob) { s with heap:=h',toks:=t' } :=
 I.write (x:=a) (e:=a) mu (.inl rfl) (λb q hb z=>(hs.2 b hb).trans z) he new
theorem pH{P:Program}{w:World}{H':Hp}{h':Heap}{kvs:List (Key×V)}{vs:List (Key×Value)}(z:kvs.length<=sizeLine)(hd:(a==sysModules)=false)(rel:KV kvs vs)(dd:h'.DictOf (bO P w) a vs):bR P w H' h' a (.dK kvs):=⟨z,hd,vs,rel,dd⟩
theorem aC3{H':Hp}{Q:Unit->Shared->Prop}(hu:A.units+1<cLine)(I:Inv X aA σ H s)(g:DPut H a y v H')(ry:aN y u)(rv:aN v r)(h:∀ s',Inv X aA σ H' s'->Q () s'):wpAny (model X.prog X.w) A (setItem (.ref a) u r) Q E s:=by
 rcases g with ⟨kvs,k,e,ey,l,eH⟩ | ⟨kvs,k,b,e,ey,eb,l,eH⟩
 . subst ey eH;obtain ⟨z,hd,vs,rel,dd⟩:=pG I.hok e;have hz:vs.length<=sizeLine:=by rw[<- rel.length];exact z
   have hl:(cS kvs k v).length<=sizeLine:=by have:=pF kvs k v;omega
   refine wpAny_setItem_pairs (hsz:=hz) (gT ry) dd λh' dd' hs=>h _ ?_;have he:∃ q,h'.get? a=some q:=let ⟨q,_,_,hq,_⟩:=dd';⟨q,hq⟩
   exact tR I (by rw[e];exact True.intro) hs he (pH hl hd (rel.put k rv) dd')
 . subst ey eH;cases (show u=Value.ref b from ry)
   obtain ⟨z,hd,xs,rel,dd⟩:=dt_of I.hok e;have hz:xs.length<=sizeLine:=by rw[<- aMO rel];exact z
   have hl:(cS kvs k v).length<=sizeLine:=by have:=pF kvs k v;omega
   refine wpAny_setItem_heap (hsz:=hz) (aOT hu) (kC I.hok eb) dd λh' dd' hs=>h _ ?_;obtain ⟨q,es,ep,hq,h2,h3,h4,_,h5⟩:=dd';refine tR I (by rw[e];exact True.intro) hs ⟨q,hq⟩ ⟨hl,hd,_,(rel.put k eb rv).keeps λc ys ec=>?_,q,es,ep,hq,h2,h3,h4,h5⟩
   rw[aR (ne_of ec e (λz=>nomatch z))];exact ec
end
section
variable {X:Cx}{aA:LAO}{σ:St}{H:Hp}{s:Shared}{a:Addr}{kvs:List (Key×V)}{k:Key}{u:Value}{A:Around}{E:VSP}
end
def pI(i:Expr):Prop:=∀ ov iv,subscripted i false ov iv=operate [ov,iv] (getItem ov iv)
theorem aC4{prog:Program}{w:World}{A:Around}{E:VSP}{s:Shared}{env:Env}{value slice:Expr}{pos:Pos}{T id:String}{Q:VSP}(hl:typeLookup (.type T) "__getitem__" = pure (some (.builtin id)))(hs:pI slice)(h:wpAny (model prog w) A (eval value env) (λo s₁=>wpAny (model prog w) A (eval slice env) (λi s₂=>s₂.TypeIs o T/\wpAny (model prog w) A (getItem o i) Q E s₂) E s₁) E s):wpAny (model prog w) A (eval (.Subscript value slice pos) env) Q E s:=by
 refine Subscript_ (aM7 h (λo s₁ h₁=>aM7 h₁ (λi s₂ h₂=>?_) λ_ _ x=>x) λ_ _ x=>x);obtain ⟨hT,h₂⟩:=h₂;unfold subscriptTail;refine aNA ?_;rw[getitemInPython_of_ne hT.not_modules];refine aNA (aOU hT hl ?_);have fin:wpAny (model prog w) A (subscripted slice false o i) (λr s₃=>wpAny (model prog w) A (letTemporaryGo value o r >>= λ_=>pure r) Q E s₃) E s₂:=by rw[hs o i];exact wpAny_operating (aM7 h₂ (λr s₃ h₃=>aNA (wpAny_letTemporaryGo (aNC h₃))) λ_ _ x=>x)
 first
  | exact aNC (aNA fin)
  | exact aNA (aNC (aNA fin))
  | exact aNA fin
theorem aC5{X:Cx}{aA:LAO}{σ:St}{H:Hp}{s:Shared}{a:Addr}{y:V}{o:Option V}(I:Inv X aA σ H s)(g:f6 H a y o):s.TypeIs (.ref a) "dict" := by
 rcases g with ⟨kvs,k,e,_,_⟩ | ⟨kvs,k,b,e,_,_,_⟩
 . obtain ⟨_,_,vs,_,dd⟩:=iS I.hok e;exact dd.typeIs
 . obtain ⟨_,_,xs,_,dd⟩:=kD I.hok e;exact dd.typeIs
def tU(td ty tv:TE):TS:=λD σ H=>tv σ H λv H1=>td σ H1 λx H2=>ty σ H2 λy H3=>∃ a H4,x=.ref a/\DPut H3 a y v H4/\D.nx σ H4
section
variable {X:Cx}{o i e value:Expr}{pos pos' tpos:Pos}{td ty tv:TE}
theorem aC6(hu:X.A.units+1<cLine)(ho:PE X o td)(hi:PE X i ty)(hv:PE X value tv)(hs:swapsWith value (some (.Subscript o i pos')) pos.line X.env=pure false):PS X (.Assign [.Subscript o i pos'] value pos) (tU td ty tv):=by intro aA s σ H D I h;refine wpAny_Assign_Subscript (thn (hv aA s σ H _ I h) λr s1 ⟨v,H1,I1,rv,q1⟩=>thn (ho aA s1 σ H1 _ I1 q1) λu s2 ⟨x,H2,I2,rx,q2⟩=>thn (hi aA s2 σ H2 _ I2 q2) λiv s3 ⟨y,H3,I3,ry,a,H4,ex,g,q3⟩=>?_) hs;subst ex;obtain rfl:u=Value.ref a:=rx;exact aC3 hu I3 g ry rv λs4 I4=>⟨σ,H4,I4,q3⟩
end
theorem aC7{P:Program}{w:World}{H:Hp}(h:Heap)(hb:sysModules<h.objs.size):bR P w H (h.push { cls:=.type "dict", data:=.dict #[] }) h.objs.size (.dK []) :=
 ⟨aOV _,aMN.mpr (Ne.symm (aMU hb)),[],.nil,Heap.DictOf.new h⟩
def aC8:TE:=λ_ H Q=>∀ p,H p=none->Q (.ref p) (upd H p (.dK []))
section
variable {X:Cx}{pos:Pos}
theorem aC9:PE X (.Dict [] [] pos) aC8:=λaA s σ H Q I h =>
 wpAny_Dict_empty ⟨.ref s.heap.objs.size,_,I.laid (a:=s.heap.objs.size) (o:=.dK []) (t':=s.toks) (λ_ _ q=>hps q) (aNH _) (aC7 s.heap I.big),rfl,h _ (I.hok.fresh (aNH _))⟩
end
section
variable {X:Cx}{aA:LAO}{σ:St}{H:Hp}{s:Shared}{a:Addr}{y d:V}{u r:Value}{o:Option V}{A:Around}{E:VSP}
end
section
variable {X:Cx}{o e f:Expr}{apos cpos:Pos}{td ty tx:TE}
end
section
variable {X:Cx}{aA:LAO}{σ:St}{H:Hp}{s:Shared}{a:Addr}{kvs:List (Key×V)}{A:Around}{E:VSP}
theorem aDA{Q:VSP}(I:Inv X aA σ H s)(e:Rd H a (.dK kvs))(h:∀ p s',H p=none->Inv X aA σ (upd H p (.dK kvs)) s'->Q (.ref p) s'):wpAny (model X.prog X.w) A (call (.type "dict") [.ref a]) Q E s:=by
 obtain ⟨z,hd,vs,rel,dd⟩:=iS I.hok e;refine kt_call_dict hd dd (by rw[<- rel.length];exact z) λh' dd' hs=>?_
 refine h _ _ (I.hok.fresh (aNH _)) (I.laid (a:=s.heap.objs.size) (o:=.dK kvs) (t':=s.toks) (λb q hq=>?_) (aNH _) (pH z (aMN.mpr (Ne.symm (aMU I.big))) rel dd'));exact (hs.2 b (aMU (aMR hq))).trans (hps hq)
end
section
variable {X:Cx}{aA:LAO}{σ:St}{H:Hp}{s:Shared}{a:Addr}{y:V}{u:Value}{A:Around}{E:VSP}
end
end L2
namespace Att
open PySem PySem.W PySem.Calls PyProof.Rows
theorem aDB{P:Params}{h:Heap}:∀ (ns:List Int) (vs:List Value),WellAll P h vs (ns.map WData.int)->IntsAre vs ns:=by
 intro ns
 induction ns with
 | nil=>intro vs w;rw[List.map_nil] at w;cases w;exact .nil
 | cons n ns ih =>
  intro vs w;rw[aOR] at w;cases w with
  | cons a b=>cases a;exact .cons _ _ (ih _ b)
theorem aDC{l:OpenLaw}{n:Nat}(hn:l.most=some n){P:Params}{h:Heap}{args:List WData}{vals:List Value}(hpre:l.row.toRowW.claim.pre args=true)(hwl:WellAll P h vals args):∃ a vs ns,vals=[Value.ref a]/\args=[WData.list (ns.map WData.int)]/\h.get? a=some { cls:=.type "list", data:=.seq vs.toArray }/\IntsAre vs ns/\ns.length<=n:=by
 have hsh:WShape.hasAll [] args [.list .int]=true:=(pre_splitW hpre).1;have hc:l.pre.holds [] { args:=args }=true:=(pre_splitW hpre).2;obtain ⟨d,r,rfl,h1,h2⟩:=hasAllW_cons hsh;obtain rfl:=hasAllW_nil h2;obtain ⟨xs,rfl,h3⟩:=hasW_list h1;obtain ⟨ns,rfl⟩:=items_int h3;have hlen:ns.length<=n:=by
  unfold OpenLaw.pre at hc;have h4:(WTm.not (.lt (.lit (.int (n:Int))) (.len (.arg 0)))).holds [] { args:=[.list (ns.map .int)] }=true:=by have h4:=(holds_andW hc).1;rw[hn] at h4;exact h4
  have h5:=condW_of h4 (w_not (w_lt w_lit (w_len_list (w_arg rfl))));rw[aN1] at h5;refine Nat.le_of_not_lt λq=>?_;have q':(n:Int)<((ns.length:Nat):Int):=by omega
  first
   | (rw[aOP q'] at h5;exact absurd h5 (by decide))
   | (simp at h5;omega)
 cases hwl with
 | cons w1 w2 =>
  cases w2;cases w1 with
  | list ho hall=>exact ⟨_,_,ns,rfl,rfl,ho,aDB ns _ hall,hlen⟩
theorem aDD(l:OpenLaw)(args:List WData):l.row.toRowW.claim.post args (.bool true) args=true :=
 postW_of (r:=l.row.toRowW) (X:=(true==true))
  (show WShape.has [] (.bool true) .bool=true by first | rfl | decide | simp[WShape.has,WShape.arms,WShape.armsAll])
  (show (WTm.eq .res (.lit (.bool true))).value [] { args:=args,res:=some (.bool true),after:=args }=some (.bool (true==true)) from w_eq_bool (w_res rfl) w_lit) rfl
theorem aDE{l:OpenLaw}{n:Nat}{q:Program}{loose:List Str}{XP:(Str->Option Value)->Heap->Prop}{YP:World->Heap->Prop}{d:DefRec}(hn:l.most=some n)(hdf:d.params.defaults=[])(call:∀ (w:World) (s₀ s₁:Shared) (mg mb:SOV) (fa:Addr) (o:Obj) (pm cd doc:Value) (a:Addr) (vs:List Value) (ns:List Int),Ground q loose [] XP w s₀ mg mb s₁.heap->YP w s₁.heap->s₁.heap.get? fa=some o->o.data=.func (docDef d.name d.params d.body d.scope pm cd doc)->s₁.heap.CodeRec cd d.name->mg d.name=some (.ref fa)->s₁.heap.get? a=some { cls:=.type "list", data:=.seq vs.toArray } -> IntsAre vs ns->ns.length<=n->s₁.gens = #[]->codeAny (model l.prog w) callerA (.call (.ref fa) ⟨[.ref a],[]⟩) (λr s'=>r=.ok (.ret (.bool true))/\OldK s₁.heap s'.heap/\s'.os=s₁.os/\AllBare s'.gens) s₁):WalkO q loose XP YP l.row.toRowW d [] (λf vs=>PySem.call f vs):=by intro w s₀ s₁ mg mb G Y fa o pm cd doc dV kV ho hd hcd hD hmg hg args vals as hpre hlay hrd hwl hlo;obtain rfl:dV=.none:=Dflts.none hD hdf;obtain rfl:kV=.none:=Dflts.noKw hD;obtain ⟨a,vs,ns,rfl,rfl,hobj,hints,hlen⟩:=aDC hn hpre hwl;refine enter_call (codeAny_mono (call w s₀ s₁ mg mb fa o pm cd doc a vs ns G Y ho (fd_plain hd) hcd hmg hobj hints hlen hg) λr s' hq=>?_);obtain ⟨rfl,h2,h3,h4⟩:=hq;exact ⟨.inl ⟨.bool true,.bool true,[],rfl,λ_=>rfl,.bool true,aDD l _,λ_=>⟨List.Pairwise.nil,λ_ hm=>(nomatch hm)⟩⟩,h2,h3,h4⟩
section
variable {prog:Program}{w:World}{A:Around}{E:VSP}{s:Shared}{K:Frag}
def ledger(h:Heap)(L d:Addr):LAO:=(List.range h.objs.size).filterMap λa=>if a=L\/a=d then none else (h.get? a).map λo=>(a,o)
end
end Att
namespace L2
open PySem PySem.Spec PyProof.Rows
theorem tV:∀ {vs:List Value} {ns:List Int},IntsAre vs ns->aO (ns.map V.int) vs
 | _,_,.nil=>.nil
 | _,_,.cons n t h=>.cons ⟨t,rfl⟩ (tV h)
def pJ(H:Hp):Prop:=∀ b,H b=none\/∃ o xs,H b=some (.frz o (.lst xs))
theorem aDF{P:Program}{w:World}{K:Fg}{mg mb:SOV}{CX:CXT}{k:Nat}{fa a:Addr}{fd:FuncData}{x:Str}{sp:Sp}{s₁:Shared}{vs:List Value}{ns:List Int}(KX:K.In s₁.heap)(hns:s₁.heap.Ns mainGlobals mg)(hb:s₁.heap.Ns builtinsNs mb)(hbb:∀ x:Str,x ≠ "__name__" -> mb x=bootBuiltins x)(hlim:s₁.heap.NoLimit)(hg:s₁.gens = #[])(ha:s₁.heap.get? a=some { cls:=.type "list", data:=.seq vs.toArray })(hi:IntsAre vs ns)(hl:ns.length<=sizeLine)(hr:cD k callerA)(F:∀ base:Heap,K.In base->base.Ns mainGlobals mg->cQ P w K mg base CX k fa fd [x] sp)(hbind:∀ (s:Shared) (u:Value),BindsTo s fd ⟨[u],[]⟩ [(x,u)])(hsp:∀ H:Hp,pJ H->SqL K H a (ns.map V.int)->sp [.ref a] H (λv _=>v=.bl true) λ_ _ _=>False)(hCX:∀ H e s',CX [] H s₁ (λ_ _ _=>False) e s'->False):codeAny (model P w) callerA (.call (.ref fa) ⟨[.ref a],[]⟩) (λr s'=>r=.ok (.ret (.bool true))/\OldK s₁.heap s'.heap/\s'.os=s₁.os/\AllBare s'.gens) s₁:=by
 have rv := tV hi; have lenV := hi.length; have core : ∀ H : Hp, pJ H → SqL K H a (ns.map V.int) → HOk P w H s₁.heap → (∀ b, H b ≠ none → b = a) → (H a ≠ none → K.lookup a = none) →
     codeAny (model P w) callerA (.call (.ref fa) ⟨[.ref a],[]⟩) (λr s'=>r=.ok (.ret (.bool true))/\OldK s₁.heap s'.heap/\s'.os=s₁.os/\AllBare s'.gens) s₁:=by
  intro H hO hS hok hA hK;have base_of:∀ {b:Addr} {o:Obj},s₁.heap.get? b=some o->H b=none->(fG s₁.heap H).get? b=some o:=λe n=>aAP e n;have noA:∀ {b:Addr} {o:Obj} {es:Array DictEntry} {ep:Nat},s₁.heap.get? b=some o->o.data=.dict es ep->H b=none:=λ{b o es ep} e d=>by
   cases q:H b with
   | none=>rfl
   | some u =>
    have e':b=a:=hA b (by rw[q];simp)
    subst e';rw[ha] at e;cases e;have d':Data.seq vs.toArray _=Data.dict es ep:=d;cases d'
  have nsK:∀ {b:Addr} {m:SOV},s₁.heap.Ns b m->(fG s₁.heap H).Ns b m:=λ{b m} ⟨o,es,ep,e,d,r⟩=>⟨o,es,ep,base_of e (noA e d),d,r⟩;have hKb:K.In (fG s₁.heap H):=λb o e=>base_of (KX b o e) (by
   cases q:H b with
   | none=>rfl
   | some u =>
    have e':b=a:=hA b (by rw[q];simp)
    subst e'
    rw[hK (by rw[q];simp)] at e;cases e)
  have hM:Mod K mg (fG s₁.heap H):=⟨hKb,nsK hns,⟨mb,nsK hb,hbb⟩,let ⟨mc,h1,h2⟩:=hlim;⟨mc,nsK h1,h2⟩⟩
  have e0:l7 P w K mg (fG s₁.heap H) callerA [] s₁ H:=⟨rfl,hM,λb o e=>aAQ e,Nat.le_of_eq (aAO _ _),trivial,λb hb=>absurd (show b∈([]:List Addr) from hb) (by simp),hok,.of_eq hg⟩
  refine codeAny_mono ((F _ hKb (nsK hns)).run callerA [] s₁ H ⟨[.ref a],[]⟩ [.ref a] [.ref a] _ _ hr e0 (hbind s₁ (.ref a)) (.cons rfl .nil) (hsp H hO hS)) λr s' h=>?_;cases r with
  | error e=>exact (hCX H e s' h).elim
  | ok fl =>
   cases fl with
   | next=>exact False.elim h
   | brk=>exact False.elim h
   | cont=>exact False.elim h
   | ret u =>
    obtain ⟨v,H',os,bare,un,hok',r',q⟩:=h;have q':v=.bl true:=q;subst q';obtain rfl:u=Value.bool true:=r';refine ⟨rfl,OldK.of_keep λb o e=>?_,os,bare⟩;cases q:H b with
    | none=>exact un.keep b o e q (by intro z;exact absurd (show b∈([]:List Addr) from z) (by simp)) (by simp)
    | some u =>
     rcases hO b with z | ⟨ob,xs,z⟩
     . rw[q] at z;cases z
     . have z2:=un.frzs b ob _ z;obtain ⟨e1,_⟩:=hok b _ z;obtain ⟨e2,_⟩:=hok' b _ z2;rw[e] at e1;cases e1;exact e2
 cases hk:K.lookup a with
 | some o=>have e:=KX a o hk;rw[ha] at e;cases e;refine core (λ_=>none) (λ_=>.inl rfl) (.inr ⟨_,vs.toArray,_,hk,rfl,rfl,rfl,by rw[aNO,lenV];exact hl,by simpa using rv⟩) (λb u z=>by have z':(none:Option HO)=some u:=z;cases z') (λb z=>absurd rfl z) λz=>absurd rfl z
 | none =>
  refine core (λb=>if b=a then some (.frz { cls:=.type "list", data:=.seq vs.toArray } (.lst (ns.map V.int))) else none) (λb=>?_) (.inl (.inr ⟨{ cls:=.type "list", data:=.seq vs.toArray },if_pos rfl⟩)) (λb u z=>?_) (λb z=>?_) λ_=>hk
  . by_cases hb:b=a
    . exact .inr ⟨_,_,if_pos hb⟩
    . exact .inl (if_neg hb)
  . by_cases hb:b=a
    . have z':=(if_pos hb).symm.trans z;cases z';subst hb;exact ⟨ha,by rw[aN1];exact hl,vs,_,rv,ha⟩
    . have z':=(if_neg hb).symm.trans z;cases z'
  . by_cases hb:b=a
    . exact hb
    . exact absurd (if_neg hb) z
abbrev KOf{K:Fg}{h:Heap}(_:K.In h):Fg:=K
theorem aDG{l:PySem.W.OpenLaw}{n k:Nat}{q:Program}{loose:List Str}{XP:(Str->Option Value)->Heap->Prop}{YP:World->Heap->Prop}{d:DefRec}{K:Params->Fg}{CX:World->CXT}{sp:World->Sp}{x:Str}(hn:l.most=some n)(hn2:n<=sizeLine)(hdf:d.params.defaults=[])(hr:cD k callerA)(hY:∀ (w:World) (h:Heap),YP w h->(K w.params).In h)(F:∀ (w:World) (mg:SOV) (fa:Addr) (h:Heap),(K w.params).In h->h.Ns mainGlobals mg->mg d.name=some (.ref fa)->∃ fd:FuncData,(∀ (s:Shared) (u:Value),BindsTo s fd ⟨[u],[]⟩ [(x,u)])/\∀ base:Heap,(K w.params).In base->base.Ns mainGlobals mg->cQ l.prog w (K w.params) mg base (CX w) k fa fd [x] (sp w))(hsp:∀ (w:World) (H:Hp) (a:Addr) (ns:List Int),ns.length<=n->pJ H->SqL (K w.params) H a (ns.map V.int)->sp w [.ref a] H (λv _=>v=.bl true) λ_ _ _=>False)(hCX:∀ (w:World) (H:Hp) (s:Shared) (e:Value) (s':Shared),CX w [] H s (λ_ _ _=>False) e s'->False):PySem.W.WalkO q loose XP YP l.row.toRowW d [] (λf vs=>PySem.call f vs):=by refine Att.aDE hn hdf λw s₀ s₁ mg mb fa o pm cd doc a vs ns G Y ho hd hcd hmg hobj hints hlen hg=>?_;have KX:=hY w _ Y;obtain ⟨fd,hb,hF⟩:=F w mg fa _ KX G.T.g hmg;exact aDF KX G.T.g G.T.b G.T.builtins G.T.nolimit hg hobj hints (aMY hlen hn2) hr hF hb (λH hO hS=>hsp w H a ns hlen hO hS) λH e s'=>hCX w H s₁ e s'
def mL(s:Stmt):Arguments:=match s with
 | .FunctionDef _ a _ _ _ _ _ _ _ _=>a
 | _=>{ posonlyargs:=[],args:=[],vararg:=none,kwonlyargs:=[],kw_defaults:=[],kwarg:=none,defaults:=[] }
def iT(s:Stmt):List Stmt:=match s with
 | .FunctionDef _ _ b _ _ _ _ _ _ _=>b
 | _=>[]
def eK(s:Stmt):Scope:=match s with
 | .FunctionDef _ _ _ _ _ _ sc _ _ _=>sc
 | _=>{ kind:=.function,names:=[],isGenerator:=false,isCoroutine:=false }
structure Fun(K:Fg)(x aQ:Str)(st:Stmt)(f:Addr)(fd:FuncData):Prop where
 ex:∃ (oc:Value) (od:Option Addr) (kV doc pm:Value) (an:Option Addr) (cdv ct:Value) (osl:Array (Option Value)),
  fd=PySem.W.fnOf x aQ (mL st) (iT st) (eK st) .none kV doc pm an cdv ct/\K.lookup f=some ⟨oc,od,.func fd,osl⟩/\PySem.W.codeIn K cdv aQ=true
 kp:PySem.W.keepIn K (.ref f)=true
section
variable {P:Program}{w:World}{K:Fg}{mg:SOV}{base:Heap}
theorem aDH{x aQ:Str}{st:Stmt}{f:Addr}{oc:Value}{od an:Option Addr}{osl:Array (Option Value)}{kV doc pm cdv ct:Value}(l:K.lookup f=some ⟨oc,od,.func (PySem.W.fnOf x aQ (mL st) (iT st) (eK st) .none kV doc pm an cdv ct),osl⟩)(c:PySem.W.codeIn K cdv aQ=true)(k:PySem.W.keepIn K (.ref f)=true):Fun K x aQ st f (PySem.W.fnOf x aQ (mL st) (iT st) (eK st) .none kV doc pm an cdv ct):=⟨⟨oc,od,kV,doc,pm,an,cdv,ct,osl,rfl,l,c⟩,k⟩
end
section
variable {X:Cx}
end
def aG(H H':Hp):Prop:=∀ b o,H b=some o->H' b=some o
theorem aG.refl(H:Hp):aG H H:=λ_ _ h=>h
theorem aG.trans{H H1 H2:Hp}(a:aG H H1)(b:aG H1 H2):aG H H2:=λc o h=>b c o (a c o h)
theorem aG.free{H H':Hp}(e:aG H H'){l:Addr}(h:H' l=Option.none):H l=Option.none:=by
 cases q:H l with
 | none=>rfl
 | some o=>rw[e l o q] at h;cases h
theorem aG.seq{K:Fg}{H H':Hp}{a:Addr}{xs:List V}(e:aG H H')(h:SqL K H a xs):SqL K H' a xs:=by
 rcases h with (h | ⟨o,h⟩) | h
 . exact .inl (.inl (e _ _ h))
 . exact .inl (.inr ⟨o,e _ _ h⟩)
 . exact .inr h
section
variable {κ:Type}[DecidableEq κ]
end
end L2
namespace D3
open PySem PySem.Spec PyProof.Rows L2
inductive D where
 | non | bl (b:Bool) | int (i:Int) | str (x:Str) | tup (xs:List D) | lst (xs:List D) | dct (kvs:List (Key×D)) | ty (n:String) | ob (a:Addr) | ins (c:Str) (fs:List (Str×D)) | fn (x:Str) | exn (c:Str) | set (ks:List Key)
inductive Md where | fz | fr | bo
 deriving DecidableEq
inductive Res where
 | ok (m:Md) (d:D) | exc (c:Str) | stuck
def xobj(a C:Addr):HO:=.ext λh=>∃ o,h.get? a=some o/\o.cls=.ref C
def tW(S:Key->Bool)(ks:List Key):Prop:=ks.Nodup/\∀ k,S k=true↔k∈ks
mutual
def aC(K:Fg)(F:Hp):D->V->Prop
 | .non,v=>v=.non
 | .bl b,v=>v=.bl b
 | .int i,v=>v=.int i
 | .str x,v=>v=.str x/\x.length<=sizeLine/\PyData.strOk x=true
 | .tup ds,v=>∃ a xs,v=.ref a/\SqT K F a xs/\aE K F ds xs
 | .lst ds,v=>∃ a xs,v=.ref a/\SqL K F a xs/\aE K F ds xs
 | .dct kvs,v=>∃ a xs,v=.ref a/\F a=some (.dK xs)/\aK K F kvs xs
 | .ty n,v=>v=.ty n
 | .ob a,v=>v=.ref a
 | .ins c fs,v=>∃ a C dx gs,v=.ref a/\PySem.W.nsIn K mainGlobals c=some (some (.ref C))/\F a=some (.ins C dx gs)/\eL K F fs gs
 | .fn x,v=>∃ a,v=.ref a/\PySem.W.nsIn K mainGlobals x=some (some (.ref a))
 | .exn c,v=>∃ a C,v=.ref a/\PySem.W.nsIn K mainGlobals c=some (some (.ref C))/\F a=some (xobj a C)
 | .set ks,v=>∃ a S,v=.ref a/\F a=some (.set S ks.length)/\tW S ks
def aE(K:Fg)(F:Hp):List D->List V->Prop
 | [],xs=>xs=[]
 | d::ds,xs=>∃ y ys,xs=y::ys/\aC K F d y/\aE K F ds ys
def aK(K:Fg)(F:Hp):List (Key×D)->List (Key×V)->Prop
 | [],xs=>xs=[]
 | (k,d)::ds,xs=>∃ y ys,xs=(k,y)::ys/\aC K F d y/\aK K F ds ys
def eL(K:Fg)(F:Hp):List (Str×D)->List (Str×V)->Prop
 | [],xs=>xs=[]
 | (k,d)::ds,xs=>∃ y ys,xs=(k,y)::ys/\aC K F d y/\eL K F ds ys
end
theorem aG.seqT{K:Fg}{H H':Hp}{a:Addr}{xs:List V}(e:aG H H')(h:SqT K H a xs):SqT K H' a xs:=by
 rcases h with (h | ⟨o,h⟩) | h
 . exact .inl (.inl (e _ _ h))
 . exact .inl (.inr ⟨o,e _ _ h⟩)
 . exact .inr h
section
variable {K:Fg}{F F':Hp}
mutual
theorem aC.mono(s:aG F F'):∀ (d:D) (v:V),aC K F d v->aC K F' d v
 | .non,_,h=>by simpa only [aC] using h
 | .bl _,_,h=>by simpa only [aC] using h
 | .int _,_,h=>by simpa only [aC] using h
 | .str _,_,h=>by simpa only [aC] using h
 | .tup ds,v,h=>by simp only[aC] at h ⊢;obtain ⟨a,xs,e,q,r⟩:=h;exact ⟨a,xs,e,aG.seqT s q,aE.mono s ds xs r⟩
 | .lst ds,v,h=>by simp only[aC] at h ⊢;obtain ⟨a,xs,e,q,r⟩:=h;exact ⟨a,xs,e,s.seq q,aE.mono s ds xs r⟩
 | .dct ds,v,h=>by simp only[aC] at h ⊢;obtain ⟨a,xs,e,q,r⟩:=h;exact ⟨a,xs,e,s _ _ q,aK.mono s ds xs r⟩
 | .ty _,_,h=>by simpa only [aC] using h
 | .ob _,_,h=>by simpa only [aC] using h
 | .fn _,_,h=>by simpa only [aC] using h
 | .exn _,_,h=>by simp only[aC] at h ⊢;obtain ⟨a,C,e,n,q⟩:=h;exact ⟨a,C,e,n,s _ _ q⟩
 | .set _,_,h=>by simp only[aC] at h ⊢;obtain ⟨a,S,e,q,r⟩:=h;exact ⟨a,S,e,s _ _ q,r⟩
 | .ins c fs,v,h=>by simp only[aC] at h ⊢;obtain ⟨a,C,dx,gs,e,n,q,r⟩:=h;exact ⟨a,C,dx,gs,e,n,s _ _ q,eL.mono s fs gs r⟩
theorem aE.mono(s:aG F F'):∀ (ds:List D) (xs:List V),aE K F ds xs->aE K F' ds xs
 | [],_,h=>by simpa only [aE] using h
 | d::ds,xs,h=>by simp only[aE] at h ⊢;obtain ⟨y,ys,e,q,r⟩:=h;exact ⟨y,ys,e,aC.mono s d y q,aE.mono s ds ys r⟩
theorem aK.mono(s:aG F F'):∀ (ds:List (Key×D)) (xs:List (Key×V)),aK K F ds xs->aK K F' ds xs
 | [],_,h=>by simpa only [aK] using h
 | (k,d)::ds,xs,h=>by simp only[aK] at h ⊢;obtain ⟨y,ys,e,q,r⟩:=h;exact ⟨y,ys,e,aC.mono s d y q,aK.mono s ds ys r⟩
theorem eL.mono(s:aG F F'):∀ (ds:List (Str×D)) (xs:List (Str×V)),eL K F ds xs->eL K F' ds xs
 | [],_,h=>by simpa only [eL] using h
 | (k,d)::ds,xs,h=>by simp only[eL] at h ⊢;obtain ⟨y,ys,e,q,r⟩:=h;exact ⟨y,ys,e,aC.mono s d y q,eL.mono s ds ys r⟩
end
theorem aE.length:∀ {ds:List D} {xs:List V},aE K F ds xs->xs.length=ds.length
 | [],_,h=>by simp only[aE] at h;subst h;rfl
 | d::ds,_,h=>by simp only[aE] at h;obtain ⟨y,ys,rfl,_,r⟩:=h;rw[aOQ,aOQ,aE.length r]
theorem aE.get:∀ {ds:List D} {xs:List V} {i:Nat} {x:V},aE K F ds xs->xs[i]? = some x->∃ d,ds[i]? = some d/\aC K F d x
 | [],_,_,_,h,e=>by simp only[aE] at h;subst h;simp at e
 | d::ds,_,0,_,h,e=>by simp only[aE] at h;obtain ⟨y,ys,rfl,r,_⟩:=h;simp at e;subst e;exact ⟨d,rfl,r⟩
 | d::ds,_,i+1,_,h,e=>by
  simp only[aE] at h;obtain ⟨y,ys,rfl,_,r⟩:=h;obtain ⟨d',e',r'⟩:=aE.get (i:=i) r (by simpa using e)
  exact ⟨d',by simpa using e',r'⟩
theorem aE.get':∀ {ds:List D} {xs:List V} {i:Nat} {d:D},aE K F ds xs->ds[i]? = some d->∃ x,xs[i]? = some x/\aC K F d x
 | [],_,_,_,h,e=>by simp at e
 | d::ds,_,0,_,h,e=>by simp only[aE] at h;obtain ⟨y,ys,rfl,r,_⟩:=h;simp at e;subst e;exact ⟨y,rfl,r⟩
 | d::ds,_,i+1,_,h,e=>by
  simp only[aE] at h;obtain ⟨y,ys,rfl,_,r⟩:=h;obtain ⟨d',e',r'⟩:=aE.get' (i:=i) r (by simpa using e)
  exact ⟨d',by simpa using e',r'⟩
theorem aE.append:∀ {ds es:List D} {xs ys:List V},aE K F ds xs->aE K F es ys->aE K F (ds++es) (xs++ys)
 | [],_,_,_,h,r=>by simp only[aE] at h;subst h;exact r
 | d::ds,_,_,_,h,r=>by simp only[aE] at h;obtain ⟨y,ys,rfl,q,t⟩:=h;show aE K F (d::(ds++_)) (y::(ys++_));simp only[aE];exact ⟨y,_,rfl,q,aE.append t r⟩
theorem aE.nil:aE K F [] []:=by simp only[aE]
theorem aE.cons{d:D}{ds:List D}{x:V}{xs:List V}(h:aC K F d x)(r:aE K F ds xs):aE K F (d::ds) (x::xs):=by simp only[aE];exact ⟨x,xs,rfl,h,r⟩
end
def Top(K:Fg)(F H:Hp)(a:Addr):D->Prop
 | .lst ds=>∃ xs,H a=some (.lst xs)/\aE K F ds xs
 | .dct ds=>∃ xs,H a=some (.dK xs)/\aK K F ds xs
 | .ins c fs=>∃ C dx gs,PySem.W.nsIn K mainGlobals c=some (some (.ref C))/\H a=some (.ins C dx gs)/\eL K F fs gs
 | .set ks=>∃ S,H a=some (.set S ks.length)/\tW S ks
 | _=>False
def Rp(K:Fg)(F H:Hp)(m:Md)(d:D)(v:V):Prop :=
 match m with
 | .fz=>aC K F d v
 | _=>∃ a,v=.ref a/\F a=none/\Top K F H a d
structure aL(F H F' H':Hp):Prop where
 same:aG H H'
 fsame:aG F F'
 sub:aG F' H'
 new:∀ a,F a=none->H a≠none->F' a=none
theorem aL.refl{F H:Hp}(h:aG F H):aL F H F H:=⟨aG.refl _,aG.refl _,h,λ_ h _=>h⟩
theorem aL.trans{F H F1 H1 F2 H2:Hp}(a:aL F H F1 H1)(b:aL F1 H1 F2 H2):aL F H F2 H2 :=
 ⟨a.same.trans b.same,a.fsame.trans b.fsame,b.sub,λx h1 h2=>b.new x (a.new x h1 h2) (by
  cases e:H x with
  | none=>exact absurd e h2
  | some o=>rw[a.same x o e];exact λz=>nomatch z)⟩
theorem aL.laid{F H:Hp}{p:Addr}(o:HO)(h:aG F H)(hp:H p=none):aL F H (upd F p o) (upd H p o):=by
 have hf:F p=none:=h.free hp;refine ⟨λb u e=>?_,λb u e=>?_,λb u e=>?_,λa h1 h2=>?_⟩
 . rw[aR (cJ e hp)];exact e
 . rw[aR (cJ e hf)];exact e
 . by_cases hb:b=p
   . subst hb;rw[bU] at e ⊢;exact e
   . rw[aR hb] at e ⊢;exact h b u e
 . have:a≠p:=by rintro rfl;exact h2 hp
   rw[aR this];exact h1
theorem aL.fresh{F H:Hp}{p:Addr}(o:HO)(h:aG F H)(hp:H p=none):aL F H F (upd H p o):=by
 refine ⟨λb u e=>?_,aG.refl _,λb u e=>?_,λa h1 _=>h1⟩
 . rw[aR (cJ e hp)];exact e
 . rw[aR (cJ (h b u e) hp)];exact h b u e
theorem Top.step{K:Fg}{F H F' H':Hp}{a:Addr}{d:D}(st:aL F H F' H')(h:Top K F H a d):Top K F' H' a d:=by
 cases d with
 | lst ds=>obtain ⟨xs,e,r⟩:=h;exact ⟨xs,st.same _ _ e,r.mono st.fsame _ _⟩
 | dct ds=>obtain ⟨xs,e,r⟩:=h;exact ⟨xs,st.same _ _ e,r.mono st.fsame _ _⟩
 | ins c fs=>obtain ⟨C,dx,gs,n,e,r⟩:=h;exact ⟨C,dx,gs,n,st.same _ _ e,r.mono st.fsame _ _⟩
 | set ks=>obtain ⟨S,e,r⟩:=h;exact ⟨S,st.same _ _ e,r⟩
 | _=>exact h.elim
theorem Top.there{K:Fg}{F H:Hp}{a:Addr}{d:D}(h:Top K F H a d):H a≠none:=by
 cases d with
 | lst ds=>obtain ⟨xs,e,r⟩:=h;rw[e];exact λz=>nomatch z
 | dct ds=>obtain ⟨xs,e,r⟩:=h;rw[e];exact λz=>nomatch z
 | ins c fs=>obtain ⟨C,dx,gs,n,e,r⟩:=h;rw[e];exact λz=>nomatch z
 | set ks=>obtain ⟨S,e,r⟩:=h;rw[e];exact λz=>nomatch z
 | _=>exact h.elim
theorem Rp.step{K:Fg}{F H F' H':Hp}{m:Md}{d:D}{v:V}(st:aL F H F' H')(h:Rp K F H m d v):Rp K F' H' m d v:=by
 cases m with
 | fz=>exact aC.mono st.fsame d v h
 | fr=>obtain ⟨a,e,n,t⟩:=h;exact ⟨a,e,st.new a n t.there,t.step st⟩
 | bo=>obtain ⟨a,e,n,t⟩:=h;exact ⟨a,e,st.new a n t.there,t.step st⟩
theorem Rp.seqL{K:Fg}{F H:Hp}{m:Md}{ds:List D}{v:V}(s:aG F H)(h:Rp K F H m (.lst ds) v):∃ a xs,v=.ref a/\SqL K H a xs/\aE K F ds xs:=by
 cases m with
 | fz=>have h:aC K F (.lst ds) v:=h;simp only[aC] at h;obtain ⟨a,xs,e,q,r⟩:=h;exact ⟨a,xs,e,s.seq q,r⟩
 | fr=>obtain ⟨a,e,n,xs,q,r⟩:=h;exact ⟨a,xs,e,SqL.of q,r⟩
 | bo=>obtain ⟨a,e,n,xs,q,r⟩:=h;exact ⟨a,xs,e,SqL.of q,r⟩
theorem Rp.seqT{K:Fg}{F H:Hp}{m:Md}{ds:List D}{v:V}(s:aG F H)(h:Rp K F H m (.tup ds) v):∃ a xs,v=.ref a/\SqT K H a xs/\aE K F ds xs:=by
 cases m with
 | fz=>have h:aC K F (.tup ds) v:=h;simp only[aC] at h;obtain ⟨a,xs,e,q,r⟩:=h;exact ⟨a,xs,e,aG.seqT s q,r⟩
 | fr=>obtain ⟨a,e,n,q⟩:=h;exact q.elim
 | bo=>obtain ⟨a,e,n,q⟩:=h;exact q.elim
theorem Rp.dict{K:Fg}{F H:Hp}{m:Md}{ds:List (Key×D)}{v:V}(s:aG F H)(h:Rp K F H m (.dct ds) v):∃ a xs,v=.ref a/\H a=some (.dK xs)/\aK K F ds xs:=by
 cases m with
 | fz=>have h:aC K F (.dct ds) v:=h;simp only[aC] at h;obtain ⟨a,xs,e,q,r⟩:=h;exact ⟨a,xs,e,s _ _ q,r⟩
 | fr=>obtain ⟨a,e,n,xs,q,r⟩:=h;exact ⟨a,xs,e,q,r⟩
 | bo=>obtain ⟨a,e,n,xs,q,r⟩:=h;exact ⟨a,xs,e,q,r⟩
theorem Rp.ins{K:Fg}{F H:Hp}{m:Md}{c:Str}{fs:List (Str×D)}{v:V}(s:aG F H)(h:Rp K F H m (.ins c fs) v):∃ a C dx gs,v=.ref a/\PySem.W.nsIn K mainGlobals c=some (some (.ref C))/\H a=some (.ins C dx gs)/\eL K F fs gs:=by
 cases m with
 | fz=>have h:aC K F (.ins c fs) v:=h;simp only[aC] at h;obtain ⟨a,C,dx,gs,e,n,q,r⟩:=h;exact ⟨a,C,dx,gs,e,n,s _ _ q,r⟩
 | fr=>obtain ⟨a,e,n,C,dx,gs,z,q,r⟩:=h;exact ⟨a,C,dx,gs,e,z,q,r⟩
 | bo=>obtain ⟨a,e,n,C,dx,gs,z,q,r⟩:=h;exact ⟨a,C,dx,gs,e,z,q,r⟩
theorem Rp.int{K:Fg}{F H:Hp}{m:Md}{i:Int}{v:V}(h:Rp K F H m (.int i) v):v=.int i:=by
 cases m with
 | fz=>have h:aC K F (.int i) v:=h;simpa only [aC] using h
 | fr=>obtain ⟨a,e,n,q⟩:=h;exact q.elim
 | bo=>obtain ⟨a,e,n,q⟩:=h;exact q.elim
theorem Rp.bl{K:Fg}{F H:Hp}{m:Md}{i:Bool}{v:V}(h:Rp K F H m (.bl i) v):v=.bl i:=by
 cases m with
 | fz=>have h:aC K F (.bl i) v:=h;simpa only [aC] using h
 | fr=>obtain ⟨a,e,n,q⟩:=h;exact q.elim
 | bo=>obtain ⟨a,e,n,q⟩:=h;exact q.elim
theorem Rp.non{K:Fg}{F H:Hp}{m:Md}{v:V}(h:Rp K F H m .non v):v=.non:=by
 cases m with
 | fz=>have h:aC K F .non v:=h;simpa only [aC] using h
 | fr=>obtain ⟨a,e,n,q⟩:=h;exact q.elim
 | bo=>obtain ⟨a,e,n,q⟩:=h;exact q.elim
theorem Rp.str{K:Fg}{F H:Hp}{m:Md}{x:Str}{v:V}(h:Rp K F H m (.str x) v):v=.str x/\x.length<=sizeLine/\PyData.strOk x=true:=by
 cases m with
 | fz=>have h:aC K F (.str x) v:=h;simpa only [aC] using h
 | fr=>obtain ⟨a,e,n,q⟩:=h;exact q.elim
 | bo=>obtain ⟨a,e,n,q⟩:=h;exact q.elim
theorem Rp.ty{K:Fg}{F H:Hp}{m:Md}{n:String}{v:V}(h:Rp K F H m (.ty n) v):v=.ty n:=by
 cases m with
 | fz=>have h:aC K F (.ty n) v:=h;simpa only [aC] using h
 | fr=>obtain ⟨a,e,n,q⟩:=h;exact q.elim
 | bo=>obtain ⟨a,e,n,q⟩:=h;exact q.elim
theorem Rp.ob{K:Fg}{F H:Hp}{m:Md}{n:Addr}{v:V}(h:Rp K F H m (.ob n) v):v=.ref n:=by
 cases m with
 | fz=>have h:aC K F (.ob n) v:=h;simpa only [aC] using h
 | fr=>obtain ⟨a,e,n,q⟩:=h;exact q.elim
 | bo=>obtain ⟨a,e,n,q⟩:=h;exact q.elim
theorem rp_ty{K:Fg}{F H:Hp}(i:String):Rp K F H .fz (.ty i) (.ty i):=by show aC K F _ _;simp only[aC]
theorem cE{K:Fg}{F H:Hp}(i:Int):Rp K F H .fz (.int i) (.int i):=by show aC K F _ _;simp only[aC]
theorem bV{K:Fg}{F H:Hp}(i:Bool):Rp K F H .fz (.bl i) (.bl i):=by show aC K F _ _;simp only[aC]
theorem tX{K:Fg}{F H:Hp}:Rp K F H .fz .non .non:=by show aC K F _ _;simp only[aC]
theorem eM{K:Fg}{F H:Hp}{x:Str}(h:x.length<=sizeLine/\PyData.strOk x=true):Rp K F H .fz (.str x) (.str x):=by show aC K F _ _;simp only[aC,true_and];exact h
abbrev Rho:=List (Option (Bool×D))
structure aZ(K:Fg)(F0 H0 F H:Hp)(σ:L2.St)(ρ:Rho):Prop where
 st:aL F0 H0 F H
 slot:∀ (i:Nat) (m:Bool) (d:D),ρ[i]? = some (some (m,d))->∃ v,σ[i]? = some (some v)/\Rp K F H (if m then .bo else .fz) d v/\(m=true->∀ a,v=.ref a->H0 a=none)
 apart:∀ (i j:Nat) (d d':D) (a:Addr),i≠j->ρ[i]? = some (some (true,d))->ρ[j]? = some (some (true,d'))->σ[i]? = some (some (.ref a))->σ[j]? = some (some (.ref a))->False
 len:σ.length=ρ.length
theorem aZ.step{K:Fg}{F0 H0 F H F' H':Hp}{σ:L2.St}{ρ:Rho}(r:aZ K F0 H0 F H σ ρ)(st:aL F H F' H'):aZ K F0 H0 F' H' σ ρ :=
 ⟨r.st.trans st,λi m d e=>by obtain ⟨v,e1,e2,e3⟩:=r.slot i m d e;exact ⟨v,e1,e2.step st,e3⟩,r.apart,r.len⟩
theorem aZ.sub{K:Fg}{F0 H0 F H:Hp}{σ:L2.St}{ρ:Rho}(r:aZ K F0 H0 F H σ ρ):aG F H:=r.st.sub
abbrev XE:=Str->L2.St->Hp->Prop
structure Cw where
 K:Fg
 F0:Hp
 H0:Hp
 EE:XE
def tG(C:Cw)(g:Rho->Res):TE:=λσ H Q=>∃ ρ F,aZ C.K C.F0 C.H0 F H σ ρ/\match g ρ with
 | .ok m d=>∀ v F' H',aL F H F' H'->Rp C.K F' H' m d v->(m=.fr->∀ a,v=.ref a->H a=none)->Q v H'
 | .exc c=>∀ F' H',aL F H F' H'->C.EE c σ H'
 | .stuck=>False
abbrev Cw.at(C:Cw)(X:Cx):Cw:={ C with K:=X.K }
def PV(C:Cw)(X:Cx)(e:Expr)(g:Rho->Res):Prop:=PE X e (tG (C.at X) g)
theorem PE.imp{X:Cx}{e:Expr}{t t':TE}(h:PE X e t)(i:∀ σ H Q,t' σ H Q->t σ H Q):PE X e t':=λaA s σ H Q I q=>h aA s σ H Q I (i σ H Q q)
def Res.thn(r:Res)(k:Md->D->Res):Res:=match r with
 | .ok m d=>k m d
 | .exc c=>.exc c
 | .stuck=>.stuck
@[simp] theorem Res.thn_ok(m:Md)(d:D)(k:Md->D->Res):(Res.ok m d).thn k=k m d:=rfl
@[simp] theorem Res.thn_exc(c:Str)(k:Md->D->Res):(Res.exc c).thn k=.exc c:=rfl
@[simp] theorem Res.thn_stuck(k:Md->D->Res):Res.stuck.thn k=.stuck:=rfl
def Res.of:Option (Md×D)->Res
 | some (m,d)=>.ok m d
 | none=>.stuck
@[simp] theorem Res.of_some(m:Md)(d:D):Res.of (some (m,d))=.ok m d:=rfl
@[simp] theorem Res.of_none:Res.of none=.stuck:=rfl
def aX(C:Cw)(F H:Hp)(σ:L2.St)(r:Res)(Q:VK):Prop:=match r with
 | .ok m d=>∀ v F' H',aL F H F' H'->Rp C.K F' H' m d v->(m=.fr->∀ a,v=.ref a->H a=none)->Q v H'
 | .exc c=>∀ F' H',aL F H F' H'->C.EE c σ H'
 | .stuck=>False
theorem a9{C:Cw}{g:Rho->Res}{σ:L2.St}{H:Hp}{Q:VK}:tG C g σ H Q=∃ ρ F,aZ C.K C.F0 C.H0 F H σ ρ/\aX C F H σ (g ρ) Q:=by unfold tG aX;rfl
theorem aX.step{C:Cw}{F H F1 H1:Hp}{σ:L2.St}{r:Res}{Q:VK}(st:aL F H F1 H1)(h:aX C F H σ r Q):aX C F1 H1 σ r Q:=by
 cases r with
 | ok m d=>exact λv F' H' s2 rp hf=>h v F' H' (st.trans s2) rp λe a ea=>st.same.free (hf e a ea)
 | exc c=>exact λF' H' s2=>h F' H' (st.trans s2)
 | stuck=>exact h
section
variable {C:Cw}{X:Cx}{a b:Expr}{ga gb:Rho->Res}{pos:Pos}
def c7(ρ:Rho)(i:Nat):Res:=match ρ[i]? with
 | some (some (false,d))=>.ok .fz d
 | some (some (true,d))=>.ok .bo d
 | _=>.stuck
theorem aDI(i:Nat){x:Str}(h:PE X (.Name x pos) (jZ i)):PV C X (.Name x pos) (λρ=>c7 ρ i):=by
 refine PE.imp h λσ H Q q=>?_;rw[a9] at q;obtain ⟨ρ,F,R,w⟩:=q;unfold c7 at w;cases e:ρ[i]? with
 | none=>rw[e] at w;exact w.elim
 | some o =>
  cases o with
  | none=>rw[e] at w;exact w.elim
  | some p =>
   obtain ⟨m,d⟩:=p;obtain ⟨v,e1,r,_⟩:=R.slot i m d e;rw[e] at w;cases m with
   | false=>exact ⟨v,e1,w v F H (.refl R.sub) r (by intro z;cases z)⟩
   | true=>exact ⟨v,e1,w v F H (.refl R.sub) r (by intro z;cases z)⟩
theorem gU{e:Expr}{v:V}(d:D)(h:PE X e (tC v))(r:∀ F H,Rp X.K F H .fz d v):PV C X e (λ_=>.ok .fz d):=by refine PE.imp h λσ H Q q=>?_;rw[a9] at q;obtain ⟨ρ,F,R,w⟩:=q;exact w v F H (.refl R.sub) (r F H) (by intro z;cases z)
theorem aDJ{i j}:PV C X (.Constant (.int i) j pos) (λ_=>.ok .fz (.int i)):=gU _ aAS λ_ _=>cE i
theorem pv_bl{i j}:PV C X (.Constant (.bool i) j pos) (λ_=>.ok .fz (.bl i)):=gU _ pe_bl λ_ _=>bV i
theorem aDK{j}:PV C X (.Constant .none j pos) (λ_=>.ok .fz .non):=gU _ aAT λ_ _=>tX
theorem aDL{x:Str}{j}(h:(decide (x.length<=sizeLine)&&PyData.strOk x)=true:=by decide +kernel):PV C X (.Constant (.str x) j pos) (λ_=>.ok .fz (.str x)) :=
 gU _ aAU λ_ _=>eM (by rw[aOI,aOW] at h;exact h)
def op2(φ:Md->D->Md->D->Option (Md×D))(x y:Res):Res:=x.thn λm d=>y.thn λn e=>Res.of (φ m d n e)
def OpD(C:Cw)(X:Cx)(f:Value->Value->Sem Value)(φ:Md->D->Md->D->Option (Md×D)):Prop :=
 ∃ r:R2,OpR X f r/\∀ F H m x n y v u k d Q,aG F H->Rp X.K F H m x v->Rp X.K F H n y u->φ m x n y=some (k,d) ->
  (∀ v' F' H',aL F H F' H'->Rp X.K F' H' k d v'->(k=.fr->∀ a,v'=.ref a->H a=none)->Q v' H')->r v u H Q
theorem kE{φ:Md->D->Md->D->Option (Md×D)}{r:R2}(h:∀ F H m x n y v u k d Q,aG F H->Rp C.K F H m x v->Rp C.K F H n y u->φ m x n y=some (k,d)->(∀ v' F' H',aL F H F' H'->Rp C.K F' H' k d v'->(k=.fr->∀ a,v'=.ref a->H a=none)->Q v' H')->r v u H Q){σ:L2.St}{H:Hp}{Q:VK}(q:tG C (λρ=>op2 φ (ga ρ) (gb ρ)) σ H Q):tOp r (tG C ga) (tG C gb) σ H Q:=by
 unfold tOp;rw[a9] at q ⊢;obtain ⟨ρ,F,R,w⟩:=q;refine ⟨ρ,F,R,?_⟩;cases ea:ga ρ with
 | stuck=>simp only[op2,ea,Res.thn] at w;exact w
 | exc c=>simp only[op2,ea,Res.thn] at w;exact w
 | ok m d =>
  intro v F1 H1 s1 r1 _;rw[a9];refine ⟨ρ,F1,R.step s1,?_⟩;have w1:=w.step s1;simp only[op2,ea,Res.thn] at w1;cases eb:gb ρ with
  | stuck=>rw[eb] at w1;exact w1
  | exc c=>rw[eb] at w1;exact w1
  | ok n e =>
   rw[eb] at w1;intro u F2 H2 s2 r2 _;have w2:aX C F2 H2 σ (Res.of (φ m d n e)) Q:=aX.step s2 w1;cases ef:φ m d n e with
   | none=>rw[ef] at w2;exact w2.elim
   | some kd=>obtain ⟨k,d'⟩:=kd;rw[ef] at w2;exact h F2 H2 m d n e v u k d' Q s2.sub (r1.step s2) r2 ef w2
theorem pv_op{op:Operator}{φ}(o:OpD C X (binaryOp op) φ)(ha:PV C X a ga)(hb:PV C X b gb):PV C X (.BinOp a op b pos) (λρ=>op2 φ (ga ρ) (gb ρ)):=by obtain ⟨r,h1,h2⟩:=o;exact PE.imp (pe_op h1 ha hb) λσ H Q q=>kE h2 q
theorem kG{op:CmpOp}{φ}(o:OpD C X (compareOp op) φ)(ha:PV C X a ga)(hb:PV C X b gb)(hm:behindInMarks op b=false):PV C X (.Compare a [op] [b] pos) (λρ=>op2 φ (ga ρ) (gb ρ)):=by obtain ⟨r,h1,h2⟩:=o;exact PE.imp (aBY h1 ha hb hm) λσ H Q q=>kE h2 q
def orO(φ ψ:Md->D->Md->D->Option (Md×D)):Md->D->Md->D->Option (Md×D):=λm x n y=>(φ m x n y).orElse λ_=>ψ m x n y
theorem OpD.or{f:Value->Value->Sem Value}{φ ψ}(h:OpD C X f φ)(h':OpD C X f ψ):OpD C X f (orO φ ψ):=by
 obtain ⟨r,h1,h2⟩:=h;obtain ⟨r',h1',h2'⟩:=h';refine ⟨_,h1.or h1',λF H m x n y v u k d Q s rx ry e w=>?_⟩;unfold orO at e;cases e1:φ m x n y with
 | none=>rw[e1] at e;exact .inr (h2' F H m x n y v u k d Q s rx ry e w)
 | some p=>rw[e1] at e;cases e;exact .inl (h2 F H m x n y v u k d Q s rx ry e1 w)
def fI(c:Int->Int->Bool)(g:Int->Int->D):Md->D->Md->D->Option (Md×D):=λ_ x _ y=>match x,y with
 | .int i,.int j=>if c i j=true then some (.fz,g i j) else none
 | _,_=>none
theorem iU{f:Value->Value->Sem Value}{Cc:Int->Int->Prop}{c:Int->Int->Bool}{g:Int->Int->V}{g':Int->Int->D}(o:OpR X f (rI Cc g))(hc:∀ i j,c i j=true->Cc i j)(hg:∀ F H i j,Rp X.K F H .fz (g' i j) (g i j)):OpD C X f (fI c g'):=by
 refine ⟨_,o,λF H m x n y v u k d Q s rx ry e w=>?_⟩;unfold fI at e;split at e
 . rename_i i j;cases rx.int;cases ry.int;split at e
   . rename_i hcc;cases e;exact ⟨i,j,rfl,rfl,hc i j hcc,w _ F H (.refl s) (hg F H i j) (by intro z;cases z)⟩
   . cases e
 . cases e
theorem f7{f:Value->Value->Sem Value}{g:Int->Int->V}{g':Int->Int->D}(o:OpR X f (rI0 g))(hg:∀ F H i j,Rp X.K F H .fz (g' i j) (g i j)):OpD C X f (fI (λ_ _=>true) g'):=by
 refine ⟨_,o,λF H m x n y v u k d Q s rx ry e w=>?_⟩;unfold fI at e;split at e
 . rename_i i j;cases rx.int;cases ry.int;rw[if_pos rfl] at e;cases e;exact ⟨i,j,rfl,rfl,w _ F H (.refl s) (hg F H i j) (by intro z;cases z)⟩
 . cases e
def bW(i:Int):Bool:=decide (i.natAbs.log2<9000)
theorem aDM:OpD C X (binaryOp .Add) (fI (λ_ _=>true) λi j=>.int (i+j)):=f7 aBN λ_ _ i j=>cE _
theorem aDN:OpD C X (binaryOp .Sub) (fI (λ_ _=>true) λi j=>.int (i-j)):=f7 aBO λ_ _ i j=>cE _
theorem aDO{i j:Int}(h:(bW i&&bW j)=true):IntMulOk i j:=by
 rw[aOI] at h;have b:∀ {i:Int},bW i=true->Builtin.Int.intBits i<=2 ^ 20:=λ{i} h=>by
  unfold bW at h;have:=aOX h;unfold Builtin.Int.intBits;split
  . exact aOV _
  . have e:(2:Nat) ^ 20=1048576:=by decide
    omega
 exact IntMulOk.of_bits (b h.1) (b h.2)
def w64(i:Int):Bool:=decide (i.natAbs<2 ^ 63)
theorem tY{i:Int}(h:w64 i=true):Builtin.Int.intBits i<=64:=by
 have h:=aOX h;unfold Builtin.Int.intBits;split
 . exact aOV _
 . rename_i hz;have:i.natAbs.log2<63:=(Nat.log2_lt (by simpa using hz)).mpr h
   omega
theorem aDP:OpD C X (binaryOp .Mult) (fI (λi j=>(bW i&&bW j)||(w64 i||w64 j)) λi j=>.int (i * j)) :=
 iU (Cc:=λi j=>IntMulOk i j) (opI λ_ _ _ _ _ _ _ hc q=>mul_int q hc) (λi j h=>by
  rcases (aOY _ _).mp h with h | h
  . exact aDO h
  . rcases (aOY _ _).mp h with h | h
    . exact IntMulOk.of_left (tY h)
    . exact IntMulOk.of_right (tY h)) λ_ _ i j=>cE _
theorem aDQ:OpD C X (binaryOp .Mod) (fI (λ_ j=>decide (0<j)) λi j=>.int (i % j)):=iU aBP (λi j h=>aOX h) λ_ _ i j=>cE _
theorem aDR:OpR X (binaryOp .FloorDiv) (rI (λ_ j=>0<j/\bW j=true) λi j=>.int (i / j)):=opI λi j _ _ _ _ _ hc q=>by
 obtain ⟨h1,h2⟩:=hc;refine floordiv_int (by omega) ?_ (.inl (PyProof.noPylong_of_log2 (aOX h2)))
 rw[Int.fdiv_eq_ediv_of_nonneg i (by omega)]
 exact q
theorem aDS:OpD C X (binaryOp .FloorDiv) (fI (λ_ j=>decide (0<j)&&bW j) λi j=>.int (i / j)):=iU aDR (λi j h=>by rw[aOI,aOW] at h;exact h) λ_ _ i j=>cE _
theorem aDT:OpD C X (binaryOp .Pow) (fI (λi j=>decide (0<=j)&&decide (j<=1000000)&&decide (i.natAbs<2 ^ 64)) λi j=>.int (i ^ j.toNat)) :=
 iU aBQ (λi j h=>by simp only[aOI,aOW] at h;exact ⟨h.1.1,h.1.2,h.2⟩) λ_ _ i j=>cE _
theorem aDU:OpD C X (compareOp .Lt) (fI (λ_ _=>true) λi j=>.bl (decide (i<j))):=f7 op_lt λ_ _ i j=>bV _
theorem aDV:OpD C X (compareOp .LtE) (fI (λ_ _=>true) λi j=>.bl (decide (i<=j))):=f7 op_le λ_ _ i j=>bV _
theorem aDW:OpD C X (compareOp .Gt) (fI (λ_ _=>true) λi j=>.bl (decide (j<i))):=f7 op_gt λ_ _ i j=>bV _
theorem aDX:OpD C X (compareOp .GtE) (fI (λ_ _=>true) λi j=>.bl (decide (j<=i))):=f7 op_ge λ_ _ i j=>bV _
def fS(c:Str->Str->Bool)(g:Str->Str->D):Md->D->Md->D->Option (Md×D):=λ_ x _ y=>match x,y with
 | .str i,.str j=>if c i j=true then some (.fz,g i j) else none
 | _,_=>none
theorem tZ{x y:Str}(hx:PyData.strOk x=true)(hy:PyData.strOk y=true):PyData.strOk (x++y)=true:=by unfold PyData.strOk at *;show (x.cps++y.cps).all _=true;rw[Array.all_append,hx,hy];rfl
theorem aDY:OpD C X (binaryOp .Add) (fS (λi j=>decide (i.length+j.length<=sizeLine)) λi j=>.str (i++j)):=by
 refine ⟨_,aB3,λF H m x n y v u k d Q s rx ry e w=>?_⟩;unfold fS at e;split at e
 . rename_i i j;obtain ⟨rfl,h1⟩:=rx.str;obtain ⟨rfl,h2⟩:=ry.str;split at e
   . rename_i hc;cases e;have hc:=aOX hc;exact ⟨i,j,rfl,rfl,hc,w _ F H (.refl s) (eM ⟨by rw[strLen_append];exact hc,tZ h1.2 h2.2⟩) (by intro z;cases z)⟩
   . cases e
 . cases e
def iV(i j:Str):Bool:=!(Builtin.Str.occurrences j i 0 j.length 1).isEmpty
theorem aDZ:OpD C X (compareOp .In) (fS (λ_ _=>true) λi j=>.bl (iV i j)):=by
 refine ⟨_,aBU,λF H m x n y v u k d Q s rx ry e w=>?_⟩;unfold fS at e;split at e
 . rename_i i j;obtain ⟨rfl,h1⟩:=rx.str;obtain ⟨rfl,h2⟩:=ry.str;rw[if_pos rfl] at e;cases e;exact ⟨i,j,rfl,rfl,w _ F H (.refl s) (bV _) (by intro z;cases z)⟩
 . cases e
theorem aD0:OpD C X (compareOp .NotIn) (fS (λ_ _=>true) λi j=>.bl (!iV i j)):=by
 refine ⟨_,aBX,λF H m x n y v u k d Q s rx ry e w=>?_⟩;unfold fS at e;split at e
 . rename_i i j;obtain ⟨rfl,h1⟩:=rx.str;obtain ⟨rfl,h2⟩:=ry.str;rw[if_pos rfl] at e;cases e;exact ⟨i,j,rfl,rfl,w _ F H (.refl s) (bV _) (by intro z;cases z)⟩
 . cases e
end
section
variable {C:Cw}{X:Cx}{a b c e:Expr}{ga gb gc g:Rho->Res}{pos:Pos}
def bI:Res->Res
 | .ok .bo _=>.stuck
 | .ok _ d=>.ok .fz d
 | r=>r
theorem aL.freeze{F H F' H':Hp}{x:Addr}{o:HO}(st:aL F H F' H')(hx:H x=none)(hx':F' x=none)(ho:H' x=some o):aL F H (upd F' x o) H':=by
 refine ⟨st.same,λb u q=>?_,λb u q=>?_,λy h1 h2=>?_⟩
 . rw[aR (cJ (st.fsame b u q) hx')];exact st.fsame b u q
 . by_cases hb:b=x
   . subst hb;rw[bU] at q;rw[<- q];exact ho
   . rw[aR hb] at q;exact st.sub b u q
 . have:y≠x:=by rintro rfl;exact h2 hx
   rw[aR this];exact st.new y h1 h2
theorem Top.freeze{K:Fg}{F H:Hp}{x:Addr}{d:D}(hx:F x=none)(h:Top K F H x d):∃ o,H x=some o/\aC K (upd F x o) d (.ref x):=by
 have s:∀ o,aG F (upd F x o):=λo b u q=>by rw[aR (cJ q hx)];exact q
 cases d with
 | lst ds=>obtain ⟨xs,q,r⟩:=h;refine ⟨_,q,?_⟩;simp only[aC];exact ⟨x,xs,rfl,SqL.of bU,r.mono (s _) _ _⟩
 | dct ds=>obtain ⟨xs,q,r⟩:=h;refine ⟨_,q,?_⟩;simp only[aC];exact ⟨x,xs,rfl,bU,r.mono (s _) _ _⟩
 | ins c fs=>obtain ⟨C,dx,gs,n,q,r⟩:=h;refine ⟨_,q,?_⟩;simp only[aC];exact ⟨x,C,dx,gs,rfl,n,bU,r.mono (s _) _ _⟩
 | set ks=>obtain ⟨S,q,r⟩:=h;refine ⟨_,q,?_⟩;simp only[aC];exact ⟨x,S,rfl,bU,r⟩
 | _=>exact h.elim
theorem aX.frz{F H:Hp}{σ:L2.St}{r:Res}{Q:VK}(w:aX C F H σ (bI r) Q):aX C F H σ r Q:=by
 cases r with
 | exc c=>exact w
 | stuck=>exact w
 | ok m d =>
  cases m with
  | fz=>exact w
  | bo=>exact (show False from w).elim
  | fr=>intro v F' H' st rp fr;obtain ⟨x,rfl,n,t⟩:=rp;obtain ⟨o,ho,r⟩:=t.freeze n;exact w (.ref x) (upd F' x o) H' (st.freeze (fr rfl x rfl) n ho) r (by intro z;cases z)
theorem gW(h:PV C X e g):PV C X e (λρ=>bI (g ρ)):=PE.imp h λσ H Q q=>by
 rw[a9] at q ⊢;obtain ⟨ρ,F,R,w⟩:=q
 try dsimp only at w
 exact ⟨ρ,F,R,w.frz⟩
def gX(C:Cw)(F H:Hp)(σ:L2.St)(r:Res)(Q:Bool->Hp->Prop):Prop:=match r with
 | .ok _ (.bl b)=>∀ F' H',aL F H F' H'->Q b H'
 | .exc c=>∀ F' H',aL F H F' H'->C.EE c σ H'
 | _=>False
theorem gX.step{F H F1 H1:Hp}{σ:L2.St}{r:Res}{Q:Bool->Hp->Prop}(st:aL F H F1 H1)(h:gX C F H σ r Q):gX C F1 H1 σ r Q:=by
 cases r with
 | ok m d =>
  cases d with
  | bl b=>exact λF' H' s2=>h F' H' (st.trans s2)
  | _=>exact h
 | exc c=>exact λF' H' s2=>h F' H' (st.trans s2)
 | stuck=>exact h
def tT(C:Cw)(g:Rho->Res):TT:=λσ H Q=>∃ ρ F,aZ C.K C.F0 C.H0 F H σ ρ/\gX C F H σ (g ρ) Q
def PTv(C:Cw)(X:Cx)(e:Expr)(g:Rho->Res):Prop:=PT X e (tT (C.at X) g)
def PWv(C:Cw)(X:Cx)(e:Expr)(g:Rho->Res):Prop:=PW X e (tT (C.at X) g)
theorem PT.imp{X:Cx}{e:Expr}{t t':TT}(h:PT X e t)(i:∀ σ H Q,t' σ H Q->t σ H Q):PT X e t':=λaA s σ H Q I q=>h aA s σ H Q I (i σ H Q q)
theorem PW.imp{X:Cx}{e:Expr}{t t':TT}(h:PW X e t)(i:∀ σ H Q,t' σ H Q->t σ H Q):PW X e t':=λwhole aA s σ H Q I q=>h whole aA s σ H Q I (i σ H Q q)
def mM:D->Option Bool
 | .non=>some false
 | .bl b=>some b
 | .int i=>some (i != 0)
 | .str x=>some ((x.length:Int) != 0)
 | .tup ds=>some (!ds.isEmpty)
 | .lst ds=>some (!ds.isEmpty)
 | .dct ds=>some (!ds.isEmpty)
 | _=>none
def kH(r:Res):Res:=r.thn λ_ d=>match mM d with | some b=>.ok .fz (.bl b) | none=>.stuck
theorem aE.isEmpty{K:Fg}{F:Hp}{ds:List D}{xs:List V}(h:aE K F ds xs):ds.isEmpty=xs.isEmpty:=by
 cases ds with
 | nil=>simp only[aE] at h;subst h;rfl
 | cons d ds=>simp only[aE] at h;obtain ⟨y,ys,rfl,_⟩:=h;rfl
theorem aK.isEmpty{K:Fg}{F:Hp}{ds:List (Key×D)}{xs:List (Key×V)}(h:aK K F ds xs):ds.isEmpty=xs.isEmpty:=by
 cases ds with
 | nil=>simp only[aK] at h;subst h;rfl
 | cons d ds=>obtain ⟨k,d⟩:=d;simp only[aK] at h;obtain ⟨y,ys,rfl,_⟩:=h;rfl
theorem aD1{K:Fg}{F H:Hp}{m:Md}{d:D}{v:V}{k:Bool}(s:aG F H)(h:Rp K F H m d v)(e:mM d=some k):pB K v H k:=by
 cases d with
 | non=>cases h.non;cases e;rfl
 | bl b=>cases h.bl;cases e;rfl
 | int i=>cases h.int;cases e;rfl
 | str x=>obtain ⟨rfl,hl,_⟩:=h.str;cases e;exact ⟨hl,rfl⟩
 | tup ds=>obtain ⟨a,xs,rfl,q,r⟩:=h.seqT s;cases e;exact .inr (.inl ⟨xs,q,by rw[r.isEmpty]⟩)
 | lst ds=>obtain ⟨a,xs,rfl,q,r⟩:=h.seqL s;cases e;exact .inl ⟨xs,q,by rw[r.isEmpty]⟩
 | dct ds=>obtain ⟨a,xs,rfl,q,r⟩:=h.dict s;cases e;exact .inr (.inr ⟨xs,q,by rw[r.isEmpty]⟩)
 | ty n=>cases e
 | ob n=>cases e
 | ins n=>cases e
 | fn n=>cases e
 | exn n=>cases e
 | set n=>cases e
theorem aD2(h:PV C X e g)(he:∀ whole,isTrue e X.env whole=(do let v <- whole;standAt e.pos;holding [v] (truthy v)):=by intro _;rfl):PTv C X e (λρ=>kH (g ρ)):=by
 refine PT.imp (aB2 h he) λσ H Q q=>?_;obtain ⟨ρ,F,R,w⟩:=q
 try dsimp only at w
 rw[a9];refine ⟨ρ,F,R,?_⟩;cases er:g ρ with
 | stuck=>rw[er] at w;exact w
 | exc c=>rw[er] at w;exact w
 | ok m d =>
  rw[er] at w;intro v F' H' st rp _;have w:gX (C.at X) F H σ (match mM d with | some b=>.ok .fz (.bl b) | none=>.stuck) Q:=w
  cases ed:mM d with
  | none=>rw[ed] at w;exact w.elim
  | some k=>rw[ed] at w;exact ⟨k,aD1 st.sub rp ed,w F' H' st⟩
theorem kI{op:CmpOp}{φ}(o:OpD C X (compareOp op) φ)(hb':∀ m x n y k d,φ m x n y=some (k,d)->∃ t,k=.fz/\d=.bl t)(ha:PV C X a ga)(hb:PV C X b gb)(hm:behindInMarks op b=false):PTv C X (.Compare a [op] [b] pos) (λρ=>op2 φ (ga ρ) (gb ρ)):=by
 obtain ⟨r,h1,h2⟩:=o;refine PT.imp (aBZ h1 ha hb hm) λσ H Q q=>?_;obtain ⟨ρ,F,R,w⟩:=q
 try dsimp only at w
 unfold sR;refine kE h2 ?_;rw[a9];refine ⟨ρ,F,R,?_⟩;cases er:op2 φ (ga ρ) (gb ρ) with
 | stuck=>rw[er] at w;exact w
 | exc c=>rw[er] at w;exact w
 | ok m d =>
  rw[er] at w;have:∃ t,m=.fz/\d=.bl t:=by
   unfold op2 at er;cases e1:ga ρ with
   | stuck=>rw[e1] at er;cases er
   | exc c=>rw[e1] at er;cases er
   | ok m1 d1 =>
    cases e2:gb ρ with
    | stuck=>rw[e1,e2] at er;cases er
    | exc c=>rw[e1,e2] at er;cases er
    | ok m2 d2 =>
     rw[e1,e2] at er;have er:Res.of (φ m1 d1 m2 d2)=.ok m d:=er;cases e3:φ m1 d1 m2 d2 with
     | none=>rw[e3] at er;cases er
     | some kd=>rw[e3] at er;obtain ⟨k,d'⟩:=kd;cases er;exact hb' _ _ _ _ _ _ e3
  obtain ⟨t,rfl,rfl⟩:=this;intro v F' H' st rp _;cases rp.bl;exact ⟨t,rfl,w F' H' st⟩
def dZ(x:Res)(y:Res):Res:=x.thn λ_ d=>match d with | .bl true=>y | .bl false=>.ok .fz (.bl false) | _=>.stuck
def orR(x:Res)(y:Res):Res:=x.thn λ_ d=>match d with | .bl true=>.ok .fz (.bl true) | .bl false=>y | _=>.stuck
def kJ(x:Res):Res:=x.thn λ_ d=>match d with | .bl b=>.ok .fz (.bl (!b)) | _=>.stuck
theorem aD3(ha:PTv C X a ga):PTv C X (.UnaryOp .Not a pos) (λρ=>kJ (ga ρ)):=by
 refine PT.imp (aAZ ha) λσ H Q q=>?_;obtain ⟨ρ,F,R,w⟩:=q
 try dsimp only at w
 refine ⟨ρ,F,R,?_⟩;cases er:ga ρ with
 | stuck=>rw[er] at w;exact w
 | exc c=>rw[er] at w;exact w
 | ok m d =>
  rw[er] at w;cases d with
  | bl b=>exact w
  | _=>exact w
theorem t5{op:BoolOp}(h:PTv C X a ga):PWv C X (.BoolOp op [a] pos) ga:=by
 cases op with
 | And=>exact aAW h
 | Or=>exact aAX h
theorem t7{σ:L2.St}{H:Hp}{Q:Bool->Hp->Prop}(q:tT C (λρ=>dZ (ga ρ) (gb ρ)) σ H Q):o7 (tT C ga) (tT C gb) σ H Q:=by
 obtain ⟨ρ,F,R,w⟩:=q
 try dsimp only at w
 refine ⟨ρ,F,R,?_⟩;cases er:ga ρ with
 | stuck=>rw[er] at w;exact w
 | exc c=>rw[er] at w;exact w
 | ok m d =>
  rw[er] at w;cases d with
  | bl b =>
   intro F' H' st;cases b with
   | true=>rw[if_pos rfl];exact ⟨ρ,F',R.step st,gX.step st w⟩
   | false=>rw[if_neg aOK];exact w F' H' st
  | _=>exact w
theorem tT_or{σ:L2.St}{H:Hp}{Q:Bool->Hp->Prop}(q:tT C (λρ=>orR (ga ρ) (gb ρ)) σ H Q):tOr (tT C ga) (tT C gb) σ H Q:=by
 obtain ⟨ρ,F,R,w⟩:=q
 try dsimp only at w
 refine ⟨ρ,F,R,?_⟩;cases er:ga ρ with
 | stuck=>rw[er] at w;exact w
 | exc c=>rw[er] at w;exact w
 | ok m d =>
  rw[er] at w;cases d with
  | bl b =>
   intro F' H' st;cases b with
   | true=>rw[if_pos rfl];exact w F' H' st
   | false=>rw[if_neg aOK];exact ⟨ρ,F',R.step st,gX.step st w⟩
  | _=>exact w
theorem aD4{a8:List Expr}(ha:PTv C X a ga)(hb:PWv C X (.BoolOp .And (b::a8) pos) gb):PWv C X (.BoolOp .And (a::b::a8) pos) (λρ=>dZ (ga ρ) (gb ρ)):=PW.imp (aAY ha hb) λ_ _ _ q=>t7 q
theorem aD5{a8:List Expr}(ha:PTv C X a ga)(hb:PWv C X (.BoolOp .Or (b::a8) pos) gb):PWv C X (.BoolOp .Or (a::b::a8) pos) (λρ=>orR (ga ρ) (gb ρ)):=PW.imp (pw_or ha hb) λ_ _ _ q=>tT_or q
theorem pt_w(h:PWv C X e g):PTv C X e g:=PW.pt h
theorem t9{op}(h:PV C X a ga):PV C X (.BoolOp op [a] pos) ga:=aA0 h
theorem aD6{a8:List Expr}(ha:PV C X a ga)(hb:PV C X (.BoolOp .And (b::a8) pos) gb):PV C X (.BoolOp .And (a::b::a8) pos) (λρ=>dZ (ga ρ) (gb ρ)):=by
 refine PE.imp (aA1 ha hb) λσ H Q q=>?_;unfold sM;rw[a9] at q ⊢;obtain ⟨ρ,F,R,w⟩:=q
 try dsimp only at w
 refine ⟨ρ,F,R,?_⟩;cases er:ga ρ with
 | stuck=>rw[er] at w;exact w
 | exc c=>rw[er] at w;exact w
 | ok m d =>
  rw[er] at w;cases d with
  | bl k =>
   intro v F' H' st rp _;cases rp.bl;refine ⟨k,rfl,?_⟩;cases k with
   | true=>rw[if_pos rfl,a9];exact ⟨ρ,F',R.step st,aX.step st w⟩
   | false=>rw[if_neg aOK];exact w (.bl false) F' H' st (bV _) (by intro z;cases z)
  | _=>exact w.elim
theorem aD7{a8:List Expr}(ha:PV C X a ga)(hb:PV C X (.BoolOp .Or (b::a8) pos) gb):PV C X (.BoolOp .Or (a::b::a8) pos) (λρ=>orR (ga ρ) (gb ρ)):=by
 refine PE.imp (pe_or ha hb) λσ H Q q=>?_;unfold tOrV;rw[a9] at q ⊢;obtain ⟨ρ,F,R,w⟩:=q
 try dsimp only at w
 refine ⟨ρ,F,R,?_⟩;cases er:ga ρ with
 | stuck=>rw[er] at w;exact w
 | exc c=>rw[er] at w;exact w
 | ok m d =>
  rw[er] at w;cases d with
  | bl k =>
   intro v F' H' st rp _;cases rp.bl;refine ⟨k,rfl,?_⟩;cases k with
   | true=>rw[if_pos rfl];exact w (.bl true) F' H' st (bV _) (by intro z;cases z)
   | false=>rw[if_neg aOK,a9];exact ⟨ρ,F',R.step st,aX.step st w⟩
  | _=>exact w.elim
theorem aD8(ha:PV C X a ga):PV C X (.UnaryOp .Not a pos) (λρ=>kJ (ga ρ)):=by
 refine PE.imp (aA2 ha) λσ H Q q=>?_;unfold sN;rw[a9] at q ⊢;obtain ⟨ρ,F,R,w⟩:=q
 try dsimp only at w
 refine ⟨ρ,F,R,?_⟩;cases er:ga ρ with
 | stuck=>rw[er] at w;exact w
 | exc c=>rw[er] at w;exact w
 | ok m d =>
  rw[er] at w;cases d with
  | bl k=>intro v F' H' st rp _;cases rp.bl;exact ⟨k,rfl,w _ F' H' st (bV _) (by intro z;cases z)⟩
  | _=>exact w.elim
def ixD:Md->D->Md->D->Option (Md×D):=λ_ x _ y=>match x,y with
 | .lst ds,.int i=>(atI ds i).map λd=>(.fz,d)
 | .tup ds,.int i=>(atI ds i).map λd=>(.fz,d)
 | .str z,.int i=>(atI z.cps.toList i).map λc=>(.fz,.str ⟨#[c]⟩)
 | _,_=>none
theorem aE.atI{K:Fg}{F:Hp}{ds:List D}{xs:List V}{i:Int}{d:D}(h:aE K F ds xs)(e:atI ds i=some d):∃ x,L2.atI xs i=some x/\aC K F d x:=by
 unfold L2.atI at *;rw[h.length];cases q:ixN ds.length i with
 | none=>rw[q] at e;cases e
 | some j=>rw[q] at e;exact h.get' e
theorem aD9{F H:Hp}{m n k:Md}{x y d:D}{v u:V}{Q:VK}(s:aG F H)(rx:Rp X.K F H m x v)(ry:Rp X.K F H n y u)(e:ixD m x n y=some (k,d))(w:∀ v' F' H',aL F H F' H'->Rp X.K F' H' k d v'->(k=.fr->∀ a,v'=.ref a->H a=none)->Q v' H'):rIx X.K v u H Q:=by
 unfold ixD at e;split at e
 . rename_i ds i;cases ry.int;obtain ⟨p,xs,rfl,hq,r⟩:=rx.seqL s;cases ei:atI ds i with
   | none=>rw[ei] at e;cases e
   | some d'=>rw[ei] at e;cases e;obtain ⟨x',ex,rx'⟩:=r.atI ei;exact .inl ⟨p,xs,i,x',rfl,rfl,hq,ex,w x' F H (.refl s) rx' (by intro z;cases z)⟩
 . rename_i ds i;cases ry.int;obtain ⟨p,xs,rfl,hq,r⟩:=rx.seqT s;cases ei:atI ds i with
   | none=>rw[ei] at e;cases e
   | some d'=>rw[ei] at e;cases e;obtain ⟨x',ex,rx'⟩:=r.atI ei;exact .inr (.inl ⟨p,xs,i,x',rfl,rfl,hq,ex,w x' F H (.refl s) rx' (by intro z;cases z)⟩)
 . rename_i z i;cases ry.int;obtain ⟨rfl,hl,hk⟩:=rx.str;cases ei:atI z.cps.toList i with
   | none=>rw[ei] at e;cases e
   | some c =>
    rw[ei] at e;cases e;refine .inr (.inr ⟨z,i,c,rfl,rfl,hl,ei,w _ F H (.refl s) (eM ⟨?_,?_⟩) (by intro z;cases z)⟩)
    . show 1<=sizeLine;decide
    . obtain ⟨j,_,hj,_⟩:=mD ei;unfold PyData.strOk at hk ⊢;rw[aOZ] at hk;have hc:=hk c (by rw[<- aO0];exact aNZ hj)
      simpa using hc
 . cases e
theorem pv_ix(ha:PV C X a ga)(hb:PV C X b gb)(hs:mH b:=by intro _ _;rfl):PV C X (.Subscript a b pos) (λρ=>op2 ixD (ga ρ) (gb ρ)):=by exact PE.imp (tM aCQ ha hb hs) λσ H Q q=>kE (λF H m x n y v u k d Q s rx ry e w=>aD9 s rx ry e w) q
theorem aEA:SlR X (λx lo hi H Q=>∃ z,x=.str z/\z.length<=sizeLine/\Q (.str (Txt.slice z lo hi)) H):=by
 intro aA s σ H x v vl vu lo hi sl Q I rx hs pl pu h;obtain ⟨z,rfl,hz,q⟩:=h;obtain ⟨t,rfl⟩:=rx;refine ⟨"str", _,PySem.F.slot_str_getitem.lookup,typeIs_str _ _ _,?_⟩;have fin:∀ t' k,EP X aA σ Q (.str (Txt.slice z lo hi) t') { s with toks:=k }:=λt' k=>⟨.str (Txt.slice z lo hi),H,I.tok _,⟨_,rfl⟩,q⟩
 cases pl with
 | none =>
  cases pu with
  | none=>exact aO1 (l:=none) (u:=none) (st:=none) hs rfl (aO2 ⟨aMY (aO3 z _ _) hz,λt' k=>fin t' k⟩)
  | int j tj=>exact aO1 (l:=none) (u:=some (j,tj)) (st:=none) hs rfl (aO2 ⟨aMY (aO3 z _ _) hz,λt' k=>fin t' k⟩)
 | int i ti =>
  cases pu with
  | none=>exact aO1 (l:=some (i,ti)) (u:=none) (st:=none) hs rfl (aO2 ⟨aMY (aO3 z _ _) hz,λt' k=>fin t' k⟩)
  | int j tj=>exact aO1 (l:=some (i,ti)) (u:=some (j,tj)) (st:=none) hs rfl (aO2 ⟨aMY (aO3 z _ _) hz,λt' k=>fin t' k⟩)
theorem aEB{z:Str}{lo hi:Option Int}(h:PyData.strOk z=true):PyData.strOk (Txt.slice z lo hi)=true:=by
 unfold Txt.slice;split
 . exact h
 . unfold PyData.strOk at *;rw[aOZ] at h ⊢;intro c hc;rw[<- aO0,List.toList_toArray,aNK] at hc;obtain ⟨j,_,hj⟩:=hc;exact h c (Array.mem_of_getElem? hj)
def POv(C:Cw)(X:Cx):Option Expr->Option (Rho->Res)->Prop
 | none,none=>True
 | some e,some g=>PV C X e g
 | _,_=>False
def uA(C:Cw):Option (Rho->Res)->TO
 | none=>tK
 | some g=>l9 (tG C g)
theorem uB{e:Option Expr}{g:Option (Rho->Res)}(h:POv C X e g):PO X e (uA (C.at X) g):=by
 cases e with
 | none=>cases g with
  | none=>exact aCI
  | some g=>exact h.elim
 | some e=>cases g with
  | none=>exact h.elim
  | some g=>exact aCJ h
def cT(g:Option (Rho->Res))(ρ:Rho)(k:Option Int->Res):Res:=match g with
 | none=>k none
 | some g=>(g ρ).thn λ_ d=>match d with | .int i=>k (some i) | _=>.stuck
theorem iW{F H:Hp}{σ:L2.St}{g:Option (Rho->Res)}{ρ:Rho}{k:Option Int->Res}{Q:VK}{R:Option Int->Hp->Prop}(RS:aZ C.K C.F0 C.H0 F H σ ρ)(w:aX C F H σ (cT g ρ k) Q)(h:∀ i F' H',aL F H F' H'->aZ C.K C.F0 C.H0 F' H' σ ρ->aX C F' H' σ (k i) Q->R i H'):uA C g σ H R:=by
 cases g with
 | none=>exact h none F H (.refl RS.sub) RS w
 | some g =>
  show l9 (tG C g) σ H R;unfold l9;rw[a9];refine ⟨ρ,F,RS,?_⟩;have w:aX C F H σ ((g ρ).thn λ_ d=>match d with | .int i=>k (some i) | _=>.stuck) Q:=w
  cases er:g ρ with
  | stuck=>rw[er] at w;exact w
  | exc c=>rw[er] at w;exact w
  | ok m d =>
   rw[er] at w;intro v F' H' st rp _;cases d with
   | int i=>cases rp.int;exact ⟨i,rfl,h (some i) F' H' st (RS.step st) (aX.step st w)⟩
   | _=>exact (show False from w).elim
def gY:Md->D->Md->D->Option (Md×D):=λ_ x _ y=>match x,y with
 | .str z,.int n=>if (decide (1<=n)&&decide (n<=1000000)&&decide (z.length * n.toNat<=sizeLine))=true then some (.fz,.str (Txt.mul z n)) else none
 | _,_=>none
theorem uC{α:Type}(xs:Array α):∀ (k:Nat) (acc:Array α),((List.replicate k xs).foldl (· ++ ·) acc).size=acc.size+k * xs.size
 | 0,acc=>by simp
 | k+1,acc=>by rw[aO4,aO5,uC xs k,Array.size_append,Nat.succ_mul];omega
theorem uD{α:Type}(p:α->Bool)(xs:Array α)(h:xs.all p=true):∀ (k:Nat) (acc:Array α),acc.all p=true->((List.replicate k xs).foldl (· ++ ·) acc).all p=true
 | 0,acc,q=>q
 | k+1,acc,q=>by rw[aO4,aO5];exact uD p xs h k _ (by rw[Array.all_append,q,h];rfl)
theorem aEC(z:Str){n:Int}(h:1<=n):(Txt.mul z n).length=z.length * n.toNat:=by
 unfold Txt.mul;rw[if_neg (by omega)]
 split
 . rename_i hc;rcases (aOY _ _).mp hc with hc | hc
   . have:n=1:=by simpa using hc
     subst this;simp
   . have:z.length=0:=by simpa using hc
     rw[this];simp
 . show Array.size (List.foldl (· ++ ·) #[] (List.replicate n.toNat z.cps))=_;rw[uC,Nat.mul_comm];simp[Str.length]
theorem aED{z:Str}{n:Int}(h:PyData.strOk z=true):PyData.strOk (Txt.mul z n)=true:=by
 unfold Txt.mul;split
 . decide +kernel
 . split
   . exact h
   . unfold PyData.strOk at *;exact uD _ _ h _ _ (by simp)
theorem aEE:OpD C X (binaryOp .Mult) gY:=by
 refine ⟨λx y H Q=>∃ z n,x=.str z/\y=.int n/\MulOk z n/\Q (.str (Txt.mul z n)) H,?_,?_⟩
 . intro aA s σ H x y v u Q I rx ry h;obtain ⟨z,n,rfl,rfl,hm,q⟩:=h;obtain ⟨t,rfl⟩:=rx;obtain ⟨t',rfl⟩:=ry;exact SB.mul hm λt' k=>⟨.str (Txt.mul z n),H,I.tok _,⟨_,rfl⟩,q⟩
 . intro F H m x n y v u k d Q s rx ry e w;unfold gY at e;split at e
   . rename_i z i;obtain ⟨rfl,hz,hk⟩:=rx.str;cases ry.int;split at e
     . rename_i hc;simp only[aOI,aOW] at hc;obtain ⟨⟨h1,h2⟩,h3⟩:=hc;cases e;refine ⟨z,i,rfl,rfl,⟨?_,λ_ _=>?_,λ_ _=>?_⟩,w _ F H (.refl s) (eM ⟨by rw[aEC z h1];exact h3,aED hk⟩) (by intro z;cases z)⟩
       . rw[aO6];exact ⟨aMM (by omega),aMM (by omega)⟩
       . have hs:sizeLine=16777216:=aNN;have:(2 ^ 63-1:Int) / i ≥ (2 ^ 63-1) / 1000000:=by
           apply Int.le_ediv_of_mul_le (by omega)
           have e1:(2 ^ 63-1:Int) / 1000000=9223372036854:=by decide
           rw[e1];have:(9223372036854:Int) * i<=9223372036854 * 1000000:=Int.mul_le_mul_of_nonneg_left h2 (by decide)
           have e2:(9223372036854:Int) * 1000000<=2 ^ 63-1:=by decide
           omega
         have e1:(2 ^ 63-1:Int) / 1000000=9223372036854:=by decide
         omega
       . unfold Builtin.Str.tooLong;exact aMM (by omega)
     . cases e
   . cases e
end
inductive aS where
 | ok (xs:List (Md×D)) | exc (c:Str) | stuck
def RpL(K:Fg)(F H:Hp):List (Md×D)->List V->Prop
 | [],vs=>vs=[]
 | (m,d)::r,vs=>∃ v us,vs=v::us/\Rp K F H m d v/\RpL K F H r us
def aS.thn(r:aS)(k:List (Md×D)->Res):Res:=match r with
 | .ok xs=>k xs
 | .exc c=>.exc c
 | .stuck=>.stuck
@[simp] theorem aS.thn_ok(xs:List (Md×D))(k:List (Md×D)->Res):(aS.ok xs).thn k=k xs:=rfl
@[simp] theorem aS.thn_exc(c:Str)(k:List (Md×D)->Res):(aS.exc c).thn k=.exc c:=rfl
@[simp] theorem aS.thn_stuck(k:List (Md×D)->Res):aS.stuck.thn k=.stuck:=rfl
def kK(C:Cw)(F H:Hp)(σ:L2.St)(r:aS)(Q:List V->Hp->Prop):Prop:=match r with
 | .ok xs=>∀ vs F' H',aL F H F' H'->RpL C.K F' H' xs vs->Q vs H'
 | .exc c=>∀ F' H',aL F H F' H'->C.EE c σ H'
 | .stuck=>False
theorem kK.step{C:Cw}{F H F1 H1:Hp}{σ:L2.St}{r:aS}{Q:List V->Hp->Prop}(st:aL F H F1 H1)(h:kK C F H σ r Q):kK C F1 H1 σ r Q:=by
 cases r with
 | ok m=>exact λv F' H' s2 rp=>h v F' H' (st.trans s2) rp
 | exc c=>exact λF' H' s2=>h F' H' (st.trans s2)
 | stuck=>exact h
def tAv(C:Cw)(g:Rho->aS):TA:=λσ H Q=>∃ ρ F,aZ C.K C.F0 C.H0 F H σ ρ/\kK C F H σ (g ρ) Q
def PAv(C:Cw)(X:Cx)(es:List Expr)(g:Rho->aS):Prop:=PA X es (tAv (C.at X) g)
theorem PA.imp{X:Cx}{e:List Expr}{t t':TA}(h:PA X e t)(i:∀ σ H Q,t' σ H Q->t σ H Q):PA X e t':=λp aA s σ H Q I q=>h p aA s σ H Q I (i σ H Q q)
def c8(x:Res)(y:aS):aS:=match x with
 | .ok m d=>(match y with | .ok r=>.ok ((m,d)::r) | .exc c=>.exc c | .stuck=>.stuck)
 | .exc c=>.exc c
 | .stuck=>.stuck
@[simp] theorem f8(m:Md)(d:D)(r:List (Md×D)):c8 (.ok m d) (.ok r)=.ok ((m,d)::r):=rfl
section
variable {C:Cw}{X:Cx}{a b c e:Expr}{es:List Expr}{ga gb gc g:Rho->Res}{gs:Rho->aS}{pos p:Pos}{x:Str}
theorem mO:PAv C X [] (λ_=>.ok []):=PA.imp sV λσ H Q q=>by obtain ⟨ρ,F,R,w⟩:=q;exact w [] F H (.refl R.sub) rfl
theorem kL(ha:PV C X e g)(hr:PAv C X es gs)(hs:starEach (e::es) X.env=(false,eval e X.env)::starEach es X.env:=by rfl):PAv C X (e::es) (λρ=>c8 (g ρ) (gs ρ)):=by
 refine PA.imp (pE ha hr hs) λσ H Q q=>?_;unfold sU;obtain ⟨ρ,F,R,w⟩:=q;dsimp only at w;rw[a9];refine ⟨ρ,F,R,?_⟩;cases er:g ρ with
 | stuck=>rw[er] at w;exact w
 | exc c=>rw[er] at w;exact w
 | ok m d =>
  rw[er] at w;intro v F1 H1 s1 r1 _;refine ⟨ρ,F1,R.step s1,?_⟩;have w1:=kK.step s1 w;cases es':gs ρ with
  | stuck=>rw[es'] at w1;exact w1
  | exc c=>rw[es'] at w1;exact w1
  | ok r=>rw[es'] at w1;intro vs F2 H2 s2 r2;exact w1 (v::vs) F2 H2 s2 ⟨v,vs,rfl,r1.step s2,r2⟩
def cK:List (Md×D)->Option (List D)
 | []=>some []
 | (.fz,d)::r=>(cK r).map (d :: ·)
 | _::_=>none
theorem RpL.fz{K:Fg}{F H:Hp}:∀ {xs:List (Md×D)} {vs:List V} {ds:List D},RpL K F H xs vs->cK xs=some ds->aE K F ds vs
 | [],_,_,h,e=>by cases e;rw[show _=[] from h];exact aE.nil
 | (.fz,d)::r,_,_,h,e=>by
  obtain ⟨v,us,rfl,r1,r2⟩:=h;unfold cK at e;cases q:cK r with
  | none=>rw[q] at e;cases e
  | some ds'=>rw[q] at e;cases e;exact aE.cons r1 (RpL.fz r2 q)
 | (.fr,d)::r,_,_,h,e=>by cases e
 | (.bo,d)::r,_,_,h,e=>by cases e
def eY(r:aS):Res:=r.thn λxs=>match cK xs with | some ds=>if ds.length<=sizeLine then .ok .fz (.tup ds) else .stuck | none=>.stuck
def gZ(r:aS):Res:=r.thn λxs=>match cK xs with | some ds=>if ds.length<=sizeLine then .ok .fr (.lst ds) else .stuck | none=>.stuck
theorem aC.tup_of{K:Fg}{F:Hp}{p:Addr}{ds:List D}{xs:List V}(hp:F p=none)(r:aE K F ds xs):aC K (upd F p (.tup xs)) (.tup ds) (.ref p):=by simp only[aC];exact ⟨p,xs,rfl,SqT.of bU,r.mono (λb u q=>by rw[aR (cJ q hp)];exact q) _ _⟩
theorem aEF{x1}(h:PAv C X es gs):PV C X (.Tuple es x1 pos) (λρ=>eY (gs ρ)):=by
 refine PE.imp (aB7 h) λσ H Q q=>?_;unfold tTup;rw[a9] at q;obtain ⟨ρ,F,R,w⟩:=q;refine ⟨ρ,F,R,?_⟩;cases er:gs ρ with
 | stuck=>rw[er] at w;exact w
 | exc c=>rw[er] at w;exact w
 | ok xs =>
  rw[er] at w;intro vs F1 H1 s1 r1;have w1:aX (C.at X) F1 H1 σ (match cK xs with | some ds=>if ds.length<=sizeLine then .ok .fz (.tup ds) else .stuck | none=>.stuck) Q:=aX.step s1 w
  cases ef:cK xs with
  | none=>rw[ef] at w1;exact w1.elim
  | some ds =>
   rw[ef] at w1;dsimp only at w1;split at w1
   . rename_i hl;have r2:=r1.fz ef;refine ⟨by rw[r2.length];exact hl,λp hp=>?_⟩
     exact w1 (.ref p) _ _ (aL.laid (.tup vs) s1.sub hp) (aC.tup_of (s1.sub.free hp) r2) (by intro z;cases z)
   . exact w1.elim
theorem aEG(h:PAv C X es gs):PV C X (.List es pos) (λρ=>gZ (gs ρ)):=by
 refine PE.imp (aB8 h) λσ H Q q=>?_;unfold tLst;rw[a9] at q;obtain ⟨ρ,F,R,w⟩:=q;refine ⟨ρ,F,R,?_⟩;cases er:gs ρ with
 | stuck=>rw[er] at w;exact w
 | exc c=>rw[er] at w;exact w
 | ok xs =>
  rw[er] at w;intro vs F1 H1 s1 r1;have w1:aX (C.at X) F1 H1 σ (match cK xs with | some ds=>if ds.length<=sizeLine then .ok .fr (.lst ds) else .stuck | none=>.stuck) Q:=aX.step s1 w
  cases ef:cK xs with
  | none=>rw[ef] at w1;exact w1.elim
  | some ds =>
   rw[ef] at w1;dsimp only at w1;split at w1
   . rename_i hl;have r2:=r1.fz ef;refine ⟨by rw[r2.length];exact hl,λp hp=>?_⟩
     refine w1 (.ref p) F1 _ (aL.fresh (.lst vs) s1.sub hp) ⟨p,rfl,s1.sub.free hp,vs,bU,r2⟩ λ_ a ea=>by cases ea;exact hp
   . exact w1.elim
def iX:D->Option Key
 | .int i=>some (.inl i)
 | .str x=>some (.inr x)
 | _=>none
theorem pK{K:Fg}{F H:Hp}{m:Md}{d:D}{k:Key}{v:V}(e:iX d=some k)(r:Rp K F H m d v):v=kV k:=by
 cases d with
 | int i=>cases e;exact r.int
 | str x=>cases e;exact r.str.1
 | _=>cases e
def dH(X:Cx)(f:Value)(φ:List (Md×D)->Option (Md×D)):Prop :=
 ∃ r:List V->Hp->VK->Prop,fZ X f r/\∀ F H xs vs k d Q,aG F H->RpL X.K F H xs vs->φ xs=some (k,d) ->
  (∀ v' F' H',aL F H F' H'->Rp X.K F' H' k d v'->(k=.fr->∀ a,v'=.ref a->H a=none)->Q v' H')->r vs H Q
def eZ(φ:List (Md×D)->Option (Md×D))(r:aS):Res:=r.thn λxs=>Res.of (φ xs)
theorem uE{φ:List (Md×D)->Option (Md×D)}{r:List V->Hp->VK->Prop}(h:∀ F H xs vs k d Q,aG F H->RpL C.K F H xs vs->φ xs=some (k,d)->(∀ v' F' H',aL F H F' H'->Rp C.K F' H' k d v'->(k=.fr->∀ a,v'=.ref a->H a=none)->Q v' H')->r vs H Q){σ:L2.St}{H:Hp}{Q:VK}(q:tG C (λρ=>eZ φ (gs ρ)) σ H Q):tCB r (tAv C gs) σ H Q:=by
 unfold tCB;rw[a9] at q;obtain ⟨ρ,F,R,w⟩:=q;refine ⟨ρ,F,R,?_⟩;cases er:gs ρ with
 | stuck=>rw[er] at w;exact w
 | exc c=>rw[er] at w;exact w
 | ok xs =>
  rw[er] at w;intro vs F1 H1 s1 r1;have w1:aX C F1 H1 σ (Res.of (φ xs)) Q:=aX.step s1 w;cases ef:φ xs with
  | none=>rw[ef] at w1;exact w1.elim
  | some kd=>obtain ⟨k,d⟩:=kd;rw[ef] at w1;exact h F1 H1 xs vs k d Q s1.sub r1 ef w1
theorem aEH{id:String}{φ}(o:dH X (.builtin id) φ)(hg:Gl X x)(hm:X.mg x=none)(hv:bootBuiltins x=some (.builtin id))(ha:PAv C X (e::es) gs)(hn:x ≠ "__name__" := by decide)(hdb:(x==("__debug__" : Str))=false:=by decide)(he:starEach (e::es) X.env=(false,eval e X.env)::starEach es X.env:=by rfl)(hpl:(backTo pos (starEach es X.env)).any (·.1)=false:=by rfl):PV C X (.Call (.Name x p) (e::es) [] pos) (λρ=>eZ φ (gs ρ)):=by obtain ⟨r,h1,h2⟩:=o;exact PE.imp (aCA h1 hg hm hv ha hn hdb he hpl) λσ H Q q=>uE h2 q
def f9:List (Md×D)->Option (Md×D)
 | [(_,.str z)]=>some (.fz,.int z.length)
 | [(_,.lst ds)]=>some (.fz,.int ds.length)
 | [(_,.tup ds)]=>some (.fz,.int ds.length)
 | _=>none
theorem RpL.one{K:Fg}{F H:Hp}{m:Md}{d:D}{vs:List V}(h:RpL K F H [(m,d)] vs):∃ v,vs=[v]/\Rp K F H m d v:=by obtain ⟨v,us,rfl,r,e⟩:=h;exact ⟨v,by rw[show us=[] from e],r⟩
theorem RpL.two{K:Fg}{F H:Hp}{m n:Md}{d e:D}{vs:List V}(h:RpL K F H [(m,d),(n,e)] vs):∃ v u,vs=[v,u]/\Rp K F H m d v/\Rp K F H n e u:=by obtain ⟨v,us,rfl,r,v',us',rfl,r',e⟩:=h;exact ⟨v,v',by rw[show us'=[] from e],r,r'⟩
theorem aEI:dH X (.builtin "len") f9:=by
 refine ⟨_,aB6,λF H xs vs k d Q s rx e w=>?_⟩;unfold f9 at e;split at e
 . rename_i m z;cases e;obtain ⟨v,rfl,r⟩:=rx.one;obtain ⟨rfl,hz,_⟩:=r.str;exact ⟨_,z.length,rfl,⟨hz,rfl⟩,w _ F H (.refl s) (cE _) (by intro z;cases z)⟩
 . rename_i m ds;cases e;obtain ⟨v,rfl,r⟩:=rx.one;obtain ⟨a,xs,rfl,q,rl⟩:=r.seqL s;exact ⟨_,xs.length,rfl,.inl ⟨xs,q,rfl⟩,by rw[rl.length];exact w _ F H (.refl s) (cE _) (by intro z;cases z)⟩
 . rename_i m ds;cases e;obtain ⟨v,rfl,r⟩:=rx.one;obtain ⟨a,xs,rfl,q,rl⟩:=r.seqT s;exact ⟨_,xs.length,rfl,.inr ⟨xs,q,rfl⟩,by rw[rl.length];exact w _ F H (.refl s) (cE _) (by intro z;cases z)⟩
 . cases e
def tyN:D->Option String
 | .non=>some "NoneType" | .bl _=>some "bool" | .int _=>some "int" | .str _=>some "str" | .tup _=>some "tuple" | .lst _=>some "list" | .dct _=>some "dict" | _=>none
def kM(t c:String):Option Bool:=if ["int", "bool", "str", "list", "tuple", "dict"].contains c=true then some (t==c||(t == "bool" && c == "int")) else none
def mP:List (Md×D)->Option (Md×D)
 | [(_,d),(_,.ty c)]=>match tyN d with | some t=>(kM t c).map λb=>(.fz,.bl b) | none=>none
 | _=>none
theorem aEJ{K:Fg}{d:D}{t c:String}{b:Bool}(ht:tyN d=some t)(e:kM t c=some b):PySem.W.kitOne K (.type t) (.type c)=some b:=by
 unfold kM at e;split at e
 . rename_i hc;simp only[List.contains_cons,List.contains_nil,Bool.or_false,aOY,aO7] at hc;cases e;have ht':t = "NoneType" \/ t = "bool" \/ t = "int" \/ t = "str" \/ t = "tuple" \/ t = "list" \/ t = "dict" := by cases d <;> cases ht <;> simp
   rcases hc with rfl | rfl | rfl | rfl | rfl | rfl <;> rcases ht' with rfl | rfl | rfl | rfl | rfl | rfl | rfl <;> rfl
 . cases e
theorem aEK:dH X (.builtin "isinstance") mP:=by
 refine ⟨λvs H Q=>∃ (F:Hp) (m:Md) (d:D) (v:V) (t c:String) (b:Bool),aG F H/\Rp X.K F H m d v/\vs=[v,.ty c]/\tyN d=some t/\kM t c=some b/\Q (.bl b) H,?_,?_⟩
 . intro aA s σ H xs us Q I r h;obtain ⟨F,m,d,v,t,c,b,sF,rp,rfl,ht,hb,q⟩:=h;obtain ⟨u,u',rfl,ru,ru'⟩:=vals2 r;cases (show u'=Value.type c from ru')
   have e:=aEJ (K:=X.K) ht hb;have fin:∀ tk,EP X aA σ Q (.bool b) { s with toks:=tk }:=λtk=>⟨.bl b,H,I.tok _,rfl,q⟩
   cases d with
   | non=>cases rp.non;cases ht;cases (show u=Value.none from ru);exact aO8 PySem.W.kitx_none I.kIn True.intro e (λz=>nomatch z) fin
   | bl y=>cases rp.bl;cases ht;cases (show u=Value.bool y from ru);exact aO8 PySem.W.kitx_bool I.kIn True.intro e (λz=>nomatch z) fin
   | int i=>cases rp.int;cases ht;obtain ⟨t,q⟩:=(show ∃ t,u=Value.int i t from ru);cases q;exact aO8 PySem.W.kitx_int I.kIn True.intro e (λz=>nomatch z) fin
   | str y=>obtain ⟨rfl,_⟩:=rp.str;cases ht;obtain ⟨t,q⟩:=(show ∃ t,u=Value.str y t from ru);cases q;exact aO8 PySem.W.kitx_str I.kIn True.intro e (λz=>nomatch z) fin
   | tup ds =>
    obtain ⟨a,xs,rfl,hq,_⟩:=rp.seqT sF;cases ht;cases (show u=Value.ref a from ru)
    obtain ⟨its,_,⟨o,h1,h2,_⟩,_⟩:=I.tuple hq;exact aO8 PySem.W.kitx_tuple I.kIn ⟨o,h1,h2⟩ e (λz=>nomatch z) fin
   | lst ds =>
    obtain ⟨a,xs,rfl,hq,_⟩:=rp.seqL sF;cases ht;cases (show u=Value.ref a from ru)
    obtain ⟨its,_,⟨o,n,h1,h2,_⟩,_⟩:=I.list hq;exact aO8 PySem.W.kitx_list I.kIn ⟨o,h1,h2⟩ e (λz=>nomatch z) fin
   | dct ds =>
    obtain ⟨a,xs,rfl,hq,_⟩:=rp.dict sF;cases ht;cases (show u=Value.ref a from ru)
    obtain ⟨_,_,vs,_,p⟩:=(show bR X.prog X.w H s.heap a (.dK xs) from I.hok a _ hq)
    obtain ⟨o,es,ep,h1,h2,_⟩:=p;exact aO8 PySem.W.kitx_dict I.kIn ⟨o,h1,h2.1⟩ e (λz=>nomatch z) fin
   | _=>cases ht
 . intro F H xs vs k d Q s rx e w;unfold mP at e;split at e
   . rename_i m d' n c;obtain ⟨v,u,rfl,r1,r2⟩:=rx.two;cases r2.ty;cases et:tyN d' with
     | none=>rw[et] at e;cases e
     | some t =>
      rw[et] at e;dsimp only at e;cases eb:kM t c with
      | none=>rw[eb] at e;cases e
      | some b=>rw[eb] at e;cases e;exact ⟨F,m,d',v,t,c,b,s,r1,rfl,et,eb,w _ F H (.refl s) (bV _) (by intro z;cases z)⟩
   . cases e
theorem pv_ty{T:String}(hg:Gl X x)(hm:X.mg x=none)(hv:bootBuiltins x=some (.type T))(hn:x ≠ "__name__" := by decide)(hd:(x==("__debug__" : Str))=false:=by decide):PV C X (.Name x pos) (λ_=>.ok .fz (.ty T)) :=
 gU _ (aAV (v:=.ty T) hg hm hv rfl hn hd) λ_ _=>rp_ty T
theorem aEL{y:Str}{t:Tok}(hg:Gl X x)(hm:X.mg x=some (.str y t))(h:(decide (y.length<=sizeLine)&&PyData.strOk y)=true:=by decide +kernel)(hd:(x==("__debug__" : Str))=false:=by decide):PV C X (.Name x pos) (λ_=>.ok .fz (.str y)) :=
 gU _ (sL (v:=.str y) hg hm ⟨t,rfl⟩ hd) λ_ _=>eM (by rw[aOI,aOW] at h;exact h)
theorem aEM{y:Int}{t:Tok}(hg:Gl X x)(hm:X.mg x=some (.int y t))(hd:(x==("__debug__" : Str))=false:=by decide):PV C X (.Name x pos) (λ_=>.ok .fz (.int y)) :=
 gU _ (sL (v:=.int y) hg hm ⟨t,rfl⟩ hd) λ_ _=>cE _
def fK:List D->Option (List Bool)
 | []=>some []
 | .bl b::r=>(fK r).map (b :: ·)
 | _=>none
def iY:List (Md×D)->Option (Md×D)
 | [(_,.lst ds)]=>(fK ds).map λbs=>(.fz,.bl (bs.all id))
 | _=>none
theorem uF{K:Fg}{F:Hp}:∀ {ds:List D} {xs:List V} {bs:List Bool},aE K F ds xs->fK ds=some bs->xs=bs.map V.bl
 | [],_,_,h,e=>by cases e;simp only[aE] at h;exact h
 | d::ds,_,_,h,e=>by
  simp only[aE] at h;obtain ⟨y,ys,rfl,r,t⟩:=h;cases d with
  | bl b =>
   unfold fK at e;cases q:fK ds with
   | none=>rw[q] at e;cases e
   | some bs=>rw[q] at e;cases e;simp only[aC] at r;subst r;rw[uF t q];rfl
  | _=>cases e
theorem aEN(bs:List Bool):(List.range bs.length).all (λi=>bs.getD i true)=bs.all id:=by
 rw[aO9,aPA,aPA];constructor
 . intro h b hb;obtain ⟨i,hi,e⟩:=List.getElem_of_mem hb;have:=h i (aMX.mpr hi);rw[aPB,aPC hi] at this;rw[<- e];exact this
 . intro h i hi;have hi:=aMX.mp hi;rw[aPB,aPC hi];exact h _ (aPD hi)
theorem aEO{prog:Program}{w:World}{aA:LAO}{σ:L2.St}{H:Hp}{s:Shared}{a:Addr}{bs:List Bool}(hc:X.calm=true)(I:Inv X aA σ H s)(hq:SqL X.K H a (bs.map V.bl)){E:VSP}{Q:VSP}(h:∀ (it:Value) (s2:Shared),(∃ I' fp wr n P St tr,it=.ref I'/\Walks prog w X.A.in1 I' fp wr n P St/\St 0 s2.heap/\TruthOf prog w X.A.in1 P tr/\n=bs.length/\(∀ i,tr i=bs.getD i true)/\∀ h' tk,(∀ b o,b∉wr->s2.heap.get? b=some o->h'.get? b=some o)->∃ s3:Shared,s3={ s2 with heap:=h',toks:=tk }/\Inv X aA σ H s3)->Q it s2):wpAny (model prog w) X.A.in1 (pyIter (.ref a)) Q E s:=by
 obtain ⟨its,rv,p,hz⟩:=I.list hq;have hlen:=rv.length;rw[aN1] at hlen;refine aNG p.isList (h _ _ ⟨s.heap.objs.size,_,_,_,_,_,λi=>bs.getD i true,rfl,Walks.list (by show X.A.handled=none;exact I.ok.hd hc) s.heap.objs.size a ?_ its.toArray,⟨⟨_,aMQ _ rfl,rfl,rfl⟩,?_⟩,?_,?_,λ_=>rfl,?_⟩)
 . obtain ⟨o,n,e,_⟩:=p;exact aMU (aMR e)
 . obtain ⟨o,n,e,c,d,dd⟩:=p;exact ⟨o,hps e,c,n,dd⟩
 . intro i v s' Q' E' hP hQ;have hv:its[i]? = some v:=by simpa using hP
   have hi:i<bs.length:=by rw[hlen];exact (aM3.mp hv).1
   have hx:(bs.map V.bl)[i]? = some (V.bl bs[i]):=by rw[aNX,aPC hi];rfl
   obtain ⟨u,hu,ru⟩:=rv.get hx;rw[hv] at hu;cases hu;cases (show v=Value.bool _ from ru)
   have hQ:Q' (bs.getD i true) s':=hQ;rw[aPB,aPC hi] at hQ;exact aM8 hQ
 . rw[aNO,hlen]
 . intro h' tk hk;refine ⟨_,rfl,?_⟩;refine (I.kept (t':=tk) (h':=h') λb o e=>?_)
   refine hk b o (by intro hb; have : b = s.heap.objs.size := by simpa using hb
                     subst this;exact absurd (aMR e) (aMT _)) (hps e)
theorem aEP(hc:X.calm=true):dH X (.builtin "all") iY:=by
 refine ⟨λvs H Q=>∃ (a:Addr) (bs:List Bool),vs=[.ref a]/\SqL X.K H a (bs.map V.bl)/\Q (.bl (bs.all id)) H,?_,?_⟩
 . intro aA s σ H xs us Q I r h;obtain ⟨a,bs,rfl,hq,q⟩:=h;obtain ⟨u,rfl,ru⟩:=fH r;cases (show u=Value.ref a from ru)
   refine call_all_walk (aEO hc I hq λit s2 hh=>?_);obtain ⟨I',fp,wr,n,P,St,tr,rfl,W,st,T,rfl,htr,fin⟩:=hh;refine ⟨I',fp,wr,_,P,St,tr,rfl,W,st,T,λh' tk hk=>?_⟩;obtain ⟨s3,rfl,I3⟩:=fin h' tk hk;have e:(List.range bs.length).all tr=bs.all id:=by rw[<- aEN];congr 1;funext i;exact htr i
   rw[e];exact ⟨.bl (bs.all id),H,I3,rfl,q⟩
 . intro F H xs vs k d Q s rx e w;unfold iY at e;split at e
   . rename_i m ds;obtain ⟨v,rfl,r⟩:=rx.one;obtain ⟨a,xs,rfl,hq,rl⟩:=r.seqL s;cases eb:fK ds with
     | none=>rw[eb] at e;cases e
     | some bs=>rw[eb] at e;cases e;have:=uF rl eb;subst this;exact ⟨a,bs,rfl,hq,w _ F H (.refl s) (bV _) (by intro z;cases z)⟩
   . cases e
end
inductive aB where
 | nx (ρ:Rho) | rt (m:Md) (d:D) | bk (ρ:Rho) | ct (ρ:Rho) | exc (c:Str) (ρ:Rho) | stuck
def bX(C:Cw)(Fa:Hp)(r:aB)(E:eV):Prop:=match r with
 | .nx ρ=>∀ σ F H,aG Fa F->aZ C.K C.F0 C.H0 F H σ ρ->E.nx σ H
 | .bk ρ=>∀ σ F H,aG Fa F->aZ C.K C.F0 C.H0 F H σ ρ->E.bk σ H
 | .ct ρ=>∀ σ F H,aG Fa F->aZ C.K C.F0 C.H0 F H σ ρ->E.ct σ H
 | .exc c ρ=>∀ σ F H,aG Fa F->aZ C.K C.F0 C.H0 F H σ ρ->C.EE c σ H
 | .rt m d=>∀ v F H,aL C.F0 C.H0 F H->Rp C.K F H m d v->(m=.fr->∀ a,v=.ref a->C.H0 a=none)->E.rt v H
 | .stuck=>False
theorem bX.mono{C:Cw}{F F1:Hp}{r:aB}{E:eV}(s:aG F F1)(w:bX C F r E):bX C F1 r E:=by
 cases r with
 | nx ρ=>exact λσ F' H' z R=>w σ F' H' (s.trans z) R
 | bk ρ=>exact λσ F' H' z R=>w σ F' H' (s.trans z) R
 | ct ρ=>exact λσ F' H' z R=>w σ F' H' (s.trans z) R
 | exc c ρ=>exact λσ F' H' z R=>w σ F' H' (s.trans z) R
 | rt m d=>exact w
 | stuck=>exact w
def tH(C:Cw)(g:Rho->aB):TS:=λE σ H=>∃ ρ F,aZ C.K C.F0 C.H0 F H σ ρ/\bX C F (g ρ) E
def PSv(C:Cw)(X:Cx)(st:Stmt)(g:Rho->aB):Prop:=PS X st (tH (C.at X) g)
def PBv(C:Cw)(X:Cx)(st:List Stmt)(g:Rho->aB):Prop:=PSs X st (tH (C.at X) g)
theorem PS.imp{X:Cx}{e:Stmt}{t t':TS}(h:PS X e t)(i:∀ E σ H,t' E σ H->t E σ H):PS X e t':=λaA s σ H E I q=>h aA s σ H E I (i E σ H q)
theorem PSs.imp{X:Cx}{e:List Stmt}{t t':TS}(h:PSs X e t)(i:∀ E σ H,t' E σ H->t E σ H):PSs X e t':=λaA s σ H E I q=>h aA s σ H E I (i E σ H q)
def aB.thn(r:aB)(k:Rho->aB):aB:=match r with
 | .nx ρ=>k ρ
 | r=>r
@[simp] theorem aB.thn_nx(ρ:Rho)(k:Rho->aB):(aB.nx ρ).thn k=k ρ:=rfl
@[simp] theorem aB.thn_rt(m:Md)(d:D)(k:Rho->aB):(aB.rt m d).thn k=.rt m d:=rfl
@[simp] theorem aB.thn_bk(ρ:Rho)(k:Rho->aB):(aB.bk ρ).thn k=.bk ρ:=rfl
@[simp] theorem aB.thn_ct(ρ:Rho)(k:Rho->aB):(aB.ct ρ).thn k=.ct ρ:=rfl
@[simp] theorem aB.thn_exc(c:Str)(ρ:Rho)(k:Rho->aB):(aB.exc c ρ).thn k=.exc c ρ:=rfl
@[simp] theorem aB.thn_stuck(k:Rho->aB):aB.stuck.thn k=.stuck:=rfl
section
variable {C:Cw}{X:Cx}{a b c e:Expr}{es:List Expr}{ga gb gc g:Rho->Res}{gs:Rho->aS}{pos p:Pos}{x:Str}{st:Stmt}{sts:List Stmt}{h1 h2:Rho->aB}
theorem aEQ:PBv C X [] (λρ=>.nx ρ):=PSs.imp aA3 λE σ H q=>by obtain ⟨ρ,F,R,w⟩:=q;exact w σ F H (aG.refl _) R
theorem aER{E:eV}{σ:L2.St}{H:Hp}(q:tH C (λρ=>(h1 ρ).thn h2) E σ H):tSeq (tH C h1) (tH C h2) E σ H:=by
 obtain ⟨ρ,F,R,w⟩:=q;refine ⟨ρ,F,R,?_⟩;dsimp only at w;cases er:h1 ρ with
 | nx ρ'=>rw[er] at w;exact λσ' F' H' z R'=>⟨ρ',F',R',bX.mono z w⟩
 | rt m d=>rw[er] at w;exact w
 | bk ρ'=>rw[er] at w;exact w
 | ct ρ'=>rw[er] at w;exact w
 | exc c ρ'=>rw[er] at w;exact w
 | stuck=>rw[er] at w;exact w
theorem aES(ha:PSv C X st h1)(hb:PBv C X sts h2):PBv C X (st::sts) (λρ=>(h1 ρ).thn h2):=PSs.imp (aA4 ha hb) λE σ H q=>aER q
def Res.thS(r:Res)(ρ:Rho)(k:Md->D->aB):aB:=match r with
 | .ok m d=>k m d
 | .exc c=>.exc c ρ
 | .stuck=>.stuck
@[simp] theorem Res.thS_ok(m:Md)(d:D)(ρ:Rho)(k:Md->D->aB):(Res.ok m d).thS ρ k=k m d:=rfl
@[simp] theorem Res.thS_exc(c:Str)(ρ:Rho)(k:Md->D->aB):(Res.exc c).thS ρ k=.exc c ρ:=rfl
@[simp] theorem Res.thS_stuck(ρ:Rho)(k:Md->D->aB):Res.stuck.thS ρ k=.stuck:=rfl
theorem iZ{F:Hp}{σ:L2.St}{H:Hp}{ρ:Rho}{k:Md->D->aB}{E:eV}{Q:VK}(R:aZ C.K C.F0 C.H0 F H σ ρ)(w:bX C F ((g ρ).thS ρ k) E)(h:∀ m d v F' H',bX C F' (k m d) E->aL F H F' H'->aZ C.K C.F0 C.H0 F' H' σ ρ->Rp C.K F' H' m d v->(m=.fr->∀ a,v=.ref a->H a=none)->Q v H'):tG C g σ H Q:=by
 rw[a9];refine ⟨ρ,F,R,?_⟩;cases er:g ρ with
 | stuck=>rw[er] at w;exact w
 | exc c=>rw[er] at w;exact λF' H' s=>w σ F' H' s.fsame (R.step s)
 | ok m d=>rw[er] at w;exact λv F' H' s rp fr=>h m d v F' H' (bX.mono s.fsame w) s (R.step s) rp fr
theorem aET(he:PV C X e g)(hs:swapsWith e none pos.line X.env=pure false:=by rfl):PSv C X (.Expr e pos) (λρ=>(g ρ).thS ρ λ_ _=>.nx ρ):=PS.imp (aA5 he hs) λE σ H q=>by obtain ⟨ρ,F,R,w⟩:=q;exact iZ R w λm d v F' H' w' s R' rp fr=>w' σ F' H' (aG.refl _) R'
def e6(r:Res)(ρ:Rho):aB:=r.thS ρ λm d=>match m with | .bo=>.stuck | m=>.rt m d
theorem aEU(he:PV C X e g):PSv C X (.Return (some e) pos) (λρ=>e6 (g ρ) ρ):=PS.imp (sO he) λE σ H q=>by
 obtain ⟨ρ,F,R,w⟩:=q;refine iZ R w λm d v F' H' w' s R' rp fr=>?_;cases m with
 | bo=>exact (show False from w').elim
 | fz=>exact w' v F' H' R'.st rp (by intro z;cases z)
 | fr=>exact w' v F' H' R'.st rp λ_ a ea=>R.st.same.free (fr rfl a ea)
def e7(ρ:Rho)(i:Nat):aB:=match ρ[i]? with
 | some (some (false,d))=>.rt .fz d
 | some (some (true,d))=>.rt .fr d
 | _=>.stuck
theorem aEV(i:Nat)(h:PE X (.Name x p) (jZ i)):PSv C X (.Return (some (.Name x p)) pos) (λρ=>e7 ρ i):=PS.imp (sO h) λE σ H q=>by
 obtain ⟨ρ,F,R,w⟩:=q;dsimp only at w;unfold e7 at w;cases e:ρ[i]? with
 | none=>rw[e] at w;exact w.elim
 | some o =>
  cases o with
  | none=>rw[e] at w;exact w.elim
  | some q =>
   obtain ⟨m,d⟩:=q;obtain ⟨v,e1,r,hh⟩:=R.slot i m d e;rw[e] at w;cases m with
   | false=>exact ⟨v,e1,w v F H R.st r (by intro z;cases z)⟩
   | true=>exact ⟨v,e1,w v F H R.st r λ_=>hh rfl⟩
def ifS(t:Res)(ρ:Rho)(x y:aB):aB:=t.thS ρ λ_ d=>match d with | .bl true=>x | .bl false=>y | _=>.stuck
theorem aEW{s1 s2:List Stmt}(hc:PTv C X c gc)(ha:PBv C X s1 h1)(hb:PBv C X s2 h2):PSv C X (.If c s1 s2 pos) (λρ=>ifS (gc ρ) ρ (h1 ρ) (h2 ρ)):=by
 refine PS.imp (ps_if hc ha hb) λE σ H q=>?_;obtain ⟨ρ,F,R,w⟩:=q;dsimp only at w;refine ⟨ρ,F,R,?_⟩;cases er:gc ρ with
 | stuck=>rw[er] at w;exact w
 | exc c=>rw[er] at w;exact λF' H' s=>w σ F' H' s.fsame (R.step s)
 | ok m d =>
  rw[er] at w;cases d with
  | bl k =>
   intro F' H' s;cases k with
   | true=>rw[if_pos rfl];exact ⟨ρ,F',R.step s,bX.mono s.fsame w⟩
   | false=>rw[if_neg aOK];exact ⟨ρ,F',R.step s,bX.mono s.fsame w⟩
  | _=>exact w.elim
def d5(ρ:Rho)(i:Nat)(r:Res):aB:=r.thS ρ λm d=>match m with
 | .fz=>.nx (ρ.set i (some (false,d)))
 | .fr=>.nx (ρ.set i (some (true,d)))
 | .bo=>.stuck
theorem aZ.set{K:Fg}{F0 H0 F H F' H':Hp}{σ:L2.St}{ρ:Rho}{i:Nat}{m:Bool}{d:D}{v:V}(R0:aZ K F0 H0 F H σ ρ)(s:aL F H F' H')(rp:Rp K F' H' (if m then .bo else .fz) d v)(fr:m=true->∀ a,v=.ref a->H a=none):aZ K F0 H0 F' H' (σ.set i (some v)) (ρ.set i (some (m,d))):=by
 have R:=R0.step s;refine ⟨R.st,λj m' d' e=>?_,λj k d1 d2 a hjk e1 e2 q1 q2=>?_,by rw[aPE,aPE];exact R.len⟩
 . by_cases hj:j=i
   . subst hj;rw[aPF] at e;by_cases hl:j<ρ.length
     . rw[if_pos rfl,if_pos hl] at e;cases e;refine ⟨v,by rw[aPF,if_pos rfl,if_pos (by rw[R.len];exact hl)],rp,λz a ea=>R0.st.same.free (fr z a ea)⟩
     . rw[if_pos rfl,if_neg hl] at e;cases e
   . rw[aM6 (λz=>hj z.symm)] at e ⊢;exact R.slot j m' d' e
 . have old:∀ (l:Nat) (d:D) (b:Addr),l≠i->ρ[l]? = some (some (true,d))->σ[l]? = some (some (.ref b))->H b≠none:=λl d b hl e q=>by obtain ⟨u,q',r,_⟩:=R0.slot l true d e;rw[q] at q';cases q';obtain ⟨b',eb,_,t⟩:=r;cases eb;exact t.there
   by_cases hj:j=i
   . subst hj;rw[aM6 hjk] at e2 q2;rw[aPF] at e1 q1;by_cases hl:j<ρ.length
     . rw[if_pos rfl,if_pos hl] at e1;rw[if_pos rfl,if_pos (by rw[R.len];exact hl)] at q1
       cases e1;cases q1;exact old k d2 a (λz=>hjk z.symm) e2 q2 (fr rfl a rfl)
     . rw[if_pos rfl,if_neg hl] at e1;cases e1
   . by_cases hk:k=i
     . subst hk;rw[aM6 (λz=>hjk z.symm)] at e1 q1;rw[aPF] at e2 q2;by_cases hl:k<ρ.length
       . rw[if_pos rfl,if_pos hl] at e2;rw[if_pos rfl,if_pos (by rw[R.len];exact hl)] at q2
         cases e2;cases q2;exact old j d1 a hjk e1 q1 (fr rfl a rfl)
       . rw[if_pos rfl,if_neg hl] at e2;cases e2
     . rw[aM6 (λz=>hj z.symm)] at e1 q1;rw[aM6 (λz=>hk z.symm)] at e2 q2;exact R.apart j k d1 d2 a hjk e1 e2 q1 q2
theorem pL{g:Rho->Res}{i:Nat}{E:eV}{σ:L2.St}{H:Hp}(q:tH (C.at X) (λρ=>d5 ρ i (g ρ)) E σ H):j7 (tG (C.at X) g) (j6 i) E σ H:=by
 obtain ⟨ρ,F,R,w⟩:=q;dsimp only at w;refine iZ R w λm d v F' H' w' s R' rp fr=>?_;cases m with
 | bo=>exact (show False from w').elim
 | fz=>exact w' _ F' H' (aG.refl _) (R.set (m:=false) s rp (by intro z;cases z))
 | fr=>exact w' _ F' H' (aG.refl _) (R.set (m:=true) s rp λ_ a ea=>fr rfl a ea)
theorem aEX{i:Nat}{pos':Pos}(hN:X.N.Nodup)(hi:X.N[i]? = some x)(hx:Loc X.env.scope x)(he:PV C X e g)(hs:swapsWith e (some (.Name x pos')) pos.line X.env=pure false:=by rfl)(hf:X.fn x=true\/X.env.scope.names.lookup x=some .local:=by first | exact .inl rfl | exact .inr rfl | assumption):PSv C X (.Assign [.Name x pos'] e pos) (λρ=>d5 ρ i (g ρ)):=PS.imp (aBB hN hi hx he hs hf) λE σ H q=>pL q
end
def Its(x:Str):It:=⟨λi _=>i<x.cps.size,λi H v H'=>H'=H/\∃ c,x.cps[i]? = some c/\v=.str ⟨#[c]⟩,λi _=>x.cps.size<=i⟩
theorem uG{P:Program}{w:World}{K:Fg}{tg:Expr}(it:Addr)(x:Str)(t:Tok)(ty:String)(hty:["enumerate", "zip", "dict_itemiterator", "dict_reverseitemiterator", "odict_iterator", "itertools.zip_longest", "itertools.pairwise"].contains ty=false)(W:∀ A':Around,A'.handled=none->Walks P w A' it [it] [it] x.cps.size (SignAt x) (λi h=>h.IsStrIter it ty x t i))(Sf:∀ (A:Around) (i:Nat) (s:Shared) (Q:VSP) (E:VSP),s.heap.IsStrIter it ty x t i->Q (.ref it) s->wpAny (model P w) A (pyIter (.ref it)) Q E s):fY P w K tg (Its x) [it] it (λi h=>i<=x.cps.size/\h.IsStrIter it ty x t i) where
 mem:=by simp
 obj:=λi h st b hb=>by
  have e:b=it:=by simpa using hb
  subst e;obtain ⟨_,o,e,c,d⟩:=st;exact ⟨o,e,λv z=>by rw[d] at z;cases z⟩
 keep:=λi h h' st k=>⟨st.1,let ⟨o,e,r⟩:=st.2;⟨o,k it (by simp) o e,r⟩⟩
 item:=by
  intro X hP hw hK hc i aA s σ H E I hf st hg;subst hP hw hK;obtain ⟨f0,f1,f2,f3,f4,f5⟩:=hf it (by simp)
  refine (W X.A (I.ok.hd hc)).item i s _ _ hg st.2 λv h' tk hv st' kk=>?_;obtain ⟨c,u,hc',rfl⟩:=hv;have I1:Inv X aA σ H { s with heap:=h',toks:=tk }:=I.turned (λb o hb e=>kk b o (by simpa using hb) e) f0 f1 f3 f4 f5
  obtain ⟨o,e,oc,d⟩:=id st';exact ⟨_,rfl,lY (s:={ s with heap:=h',toks:=tk }) e oc d hty ⟨.str ⟨#[c]⟩,H,I1,⟨u,rfl⟩,⟨rfl,c,hc',rfl⟩,⟨hg,st'⟩,λb hb=>(hf b hb).1⟩⟩
 done:=by
  intro X hP hw hK hc i aA s σ H E I hf st hg;subst hP hw hK;obtain ⟨f0,f1,f2,f3,f4,f5⟩:=hf it (by simp)
  have e:i=x.cps.size:=Nat.le_antisymm st.1 hg;subst e;exact (W X.A (I.ok.hd hc)).done s _ _ st.2 λh' tk kk=>⟨rfl,I.turned (λb o hb e=>kk b o (by simpa using hb) e) f0 f1 f3 f4 f5⟩
 self:=λA i s Q E st h=>Sf A i s Q E st.2 h
def iStr(te:TE):TI:=λσ H R=>te σ H λx H1=>∃ z,x=.str z/\R (Its z) H1
theorem aEY{X:Cx}{tg l:Expr}{tl:TE}(hl:PE X l tl):PI X tg l (iStr tl):=by
 intro aA s σ H R I h;refine thn (hl aA s σ H _ I h) λv s1 ⟨x,H1,I1,r1,q1⟩=>?_;obtain ⟨z,e,q⟩:=q1;subst e;obtain ⟨t,rfl⟩:=r1;have fin:∀ (ty:String) (o:Obj),o={ cls:=.type ty,data:=.fields #[.str z t,.int ((0:Nat):Int) 0] } -> (∀ b:Addr,b∈[s1.heap.objs.size]->dY X aA H1 b)/\Inv X aA σ H1 { s1 with heap:=s1.heap.push o }/\(s1.heap.push o).IsStrIter s1.heap.objs.size ty z t 0:=λty o eo=>by
  refine ⟨λb hb=>?_,I1.kept (t':=s1.toks) λb o e=>hps e,⟨o,aMQ _ (by rw[eo];rfl),by rw[eo],by rw[eo]⟩⟩
  have e:b=s1.heap.objs.size:=by simpa using hb
  subst e;exact I1.fpOk (aNH _) (I1.hok.fresh (aNH _))
 cases ha:z.cps.all (· < 128)
 . refine wpAny_pyIter_wide ha ?_;obtain ⟨f1,f2,f3⟩:=fin "str_iterator" _ rfl;exact ⟨s1.heap.objs.size,[s1.heap.objs.size],_,Its z,H1,rfl,f2,uG _ z t "str_iterator" (by decide) (λA' hA=>Walks.strWide hA _ z t) (λA i s Q E st h=>wpAny_pyIter_striter_wide st h),⟨aOV _,f3⟩,f1,q⟩
 . refine wpAny_pyIter_ascii ha ?_;obtain ⟨f1,f2,f3⟩:=fin "str_ascii_iterator" _ rfl;exact ⟨s1.heap.objs.size,[s1.heap.objs.size],_,Its z,H1,rfl,f2,uG _ z t "str_ascii_iterator" (by decide) (λA' hA=>Walks.strAscii hA _ z t) (λA i s Q E st h=>wpAny_pyIter_striter_ascii st h),⟨aOV _,f3⟩,f1,q⟩
theorem PI.imp{X:Cx}{tg e:Expr}{t t':TI}(h:PI X tg e t)(i:∀ σ H R,t' σ H R->t σ H R):PI X tg e t':=λaA s σ H R I q=>h aA s σ H R I (i σ H R q)
theorem PI.or{X:Cx}{tg e:Expr}{t t':TI}(h:PI X tg e t)(h':PI X tg e t'):PI X tg e (λσ H R=>t σ H R\/t' σ H R):=λaA s σ H R I q=>by
 rcases q with q | q
 . exact h aA s σ H R I q
 . exact h' aA s σ H R I q
structure kN(K:Fg)(F:Hp)(J:It)(ds:List D):Prop where
 go:∀ i H,aG F H->i<ds.length->J.go i H
 stop:∀ i H,aG F H->ds.length<=i->J.stop i H
 yld:∀ i Fc H x H',aG F Fc->aG Fc H->i<ds.length->J.yld i H x H'->∃ F' d,ds[i]? = some d/\aL Fc H F' H'/\aC K F' d x
def WantI(C:Cw)(F H:Hp)(σ:L2.St)(r:Res)(R:It->Hp->Prop):Prop:=match r with
 | .ok _ (.lst ds)=>∀ J F' H',aL F H F' H'->kN C.K F' J ds->R J H'
 | .exc c=>∀ F' H',aL F H F' H'->C.EE c σ H'
 | _=>False
def tIv(C:Cw)(g:Rho->Res):TI:=λσ H R=>∃ ρ F,aZ C.K C.F0 C.H0 F H σ ρ/\WantI C F H σ (g ρ) R
def PIv(C:Cw)(X:Cx)(tg e:Expr)(g:Rho->Res):Prop:=PI X tg e (tIv (C.at X) g)
def i3(z:Str):List D:=z.cps.toList.map λc=>.str ⟨#[c]⟩
def gB(r:Res):Res:=r.thn λ_ d=>match d with
 | .lst ds=>.ok .fz (.lst ds)
 | .tup ds=>.ok .fz (.lst ds)
 | .str z=>.ok .fz (.lst (i3 z))
 | _=>.stuck
section
variable {C:Cw}{X:Cx}{tg e:Expr}{g:Rho->Res}{gs:Rho->aS}{pos p:Pos}
theorem aEZ{K:Fg}{F:Hp}{a:Addr}{ds:List D}{xs:List V}(hq:SqT K F a xs)(r:aE K F ds xs):kN K F (Itt K a) ds where
 go:=λi H s hi=>by
  have hl:i<xs.length:=by rw[r.length];exact hi
  exact ⟨xs,xs[i],aG.seqT s hq,by simp[hl]⟩
 stop:=λi H s hi=>⟨xs,aG.seqT s hq,by rw[r.length];exact hi⟩
 yld:=λi Fc H x H' s1 s2 hi y=>by obtain ⟨rfl,y⟩:=y;have hx:=y xs (aG.seqT s2 (aG.seqT s1 hq));obtain ⟨d,e,rd⟩:=r.get hx;exact ⟨Fc,d,e,.refl s2,rd.mono s1 _ _⟩
theorem aE0{K:Fg}{F:Hp}{z:Str}(hk:PyData.strOk z=true):kN K F (Its z) (i3 z) where
 go:=λi H s hi=>by simpa[i3,Its] using hi
 stop:=λi H s hi=>by simpa[i3,Its] using hi
 yld:=λi Fc H x H' s1 s2 hi y=>by
  obtain ⟨rfl,c,hc,rfl⟩:=y;refine ⟨Fc,.str ⟨#[c]⟩,by simp[i3,hc],.refl s2,?_⟩
  simp only[aC,true_and];refine ⟨by show 1<=sizeLine;decide,?_⟩
  unfold PyData.strOk at hk ⊢;rw[aOZ] at hk;simpa using hk c (Array.mem_of_getElem? hc)
theorem aE1(h:PV C X e g):PIv C X tg e (λρ=>gB (bI (g ρ))):=by
 have h:=gW h;refine PI.imp (PI.or (aBG h) (PI.or (aBH h) (aEY h))) λσ H R q=>?_;obtain ⟨ρ,F,RS,w⟩:=q;dsimp only at w;cases er:bI (g ρ) with
 | stuck=>rw[er] at w;exact w.elim
 | exc c=>refine .inl ?_;unfold o8;rw[a9];refine ⟨ρ,F,RS,?_⟩;rw[er] at w ⊢;exact w
 | ok m d =>
  rw[er] at w;have hm:m=.fz:=by
   cases h:g ρ with
   | ok m' d'=>rw[h] at er;cases m' <;> cases er <;> rfl
   | exc c=>rw[h] at er;cases er
   | stuck=>rw[h] at er;cases er
  subst hm;cases d with
  | lst ds =>
   refine .inl ?_; unfold o8; rw [a9]; refine ⟨ρ, F, RS, ?_⟩; rw [er]; intro v F' H' st rp _; have rp : aC X.K F' (.lst ds) v := rp; simp only [aC] at rp; obtain ⟨a, xs, rfl, hq, r⟩ := rp; exact ⟨a, rfl, ⟨xs, st.sub.seq hq⟩, w _ F' H' st ⟨fun i H s hi => by
       have hl:i<xs.length:=by rw[r.length];exact hi
       exact ⟨xs,xs[i],s.seq hq,by simp[hl]⟩,λi H s hi=>⟨xs,s.seq hq,by rw[r.length];exact hi⟩,λi Fc H x H' s1 s2 hi y=>by
       obtain ⟨rfl,y⟩:=y;have hx:=y xs (s2.seq (s1.seq hq));obtain ⟨d,e,rd⟩:=r.get hx;exact ⟨Fc,d,e,.refl s2,rd.mono s1 _ _⟩⟩⟩
  | tup ds=>refine .inr (.inl ?_);unfold iTup;rw[a9];refine ⟨ρ,F,RS,?_⟩;rw[er];intro v F' H' st rp _;have rp:aC X.K F' (.tup ds) v:=rp;simp only[aC] at rp;obtain ⟨a,xs,rfl,hq,r⟩:=rp;exact ⟨a,rfl,⟨xs,aG.seqT st.sub hq⟩,w _ F' H' st (aEZ hq r)⟩
  | str z=>refine .inr (.inr ?_);unfold iStr;rw[a9];refine ⟨ρ,F,RS,?_⟩;rw[er];intro v F' H' st rp _;obtain ⟨rfl,hz,hk⟩:=Rp.str rp;exact ⟨z,rfl,w _ F' H' st (aE0 hk)⟩
  | _=>exact w.elim
def bJ(lo hi:Int):List D:=(List.range (hi-lo).toNat).map λi=>.int (lo+(i:Nat))
def hG(r:aS):Res:=r.thn λxs=>match xs with
 | [(_,.int n)]=>if (decide (-(2 ^ 62)<=n)&&decide (n<2 ^ 62))=true then .ok .fz (.lst (bJ 0 n)) else .stuck
 | _=>.stuck
theorem aE2{K:Fg}{F:Hp}{lo hi:Int}:kN K F (Itr lo (hi-lo).toNat) (bJ lo hi) where
 go:=λi H s h=>by simpa[bJ,Itr] using h
 stop:=λi H s h=>by simpa[bJ,Itr] using h
 yld:=λi Fc H x H' s1 s2 h y=>by
  obtain ⟨rfl,rfl⟩:=y;have h':i<(hi-lo).toNat:=by simpa[bJ] using h
  refine ⟨Fc,.int (lo+i),?_,.refl s2,by simp only[aC]⟩
  simp only[bJ,aNX,List.getElem?_range h',aPG]
theorem aE3{a:Expr}(hg:Gl X "range")(hm:X.mg "range" = none)(ha:PAv C X [a] gs)(hs:starEach [a] X.env=[(false,eval a X.env)]:=by rfl):PIv C X tg (.Call (.Name "range" p) [a] [] pos) (λρ=>hG (gs ρ)):=by
 refine PI.imp (aBJ hg hm ha hs) λσ H R q=>?_;obtain ⟨ρ,F,RS,w⟩:=q;dsimp only at w;unfold sQ;refine ⟨ρ,F,RS,?_⟩;cases er:gs ρ with
 | stuck=>rw[er] at w;exact w
 | exc c=>rw[er] at w;exact w
 | ok xs =>
  rw[er] at w;intro vs F' H' st rp;unfold hG at w;rw[aS.thn_ok] at w;split at w
  . rename_i m n;split at w
    . rename_i hc;rw[aOI,aOW,aOW] at hc;obtain ⟨v,rfl,r⟩:=rp.one;cases r.int;have:=aE2 (K:=X.K) (F:=F') (lo:=0) (hi:=n);rw[Int.sub_zero] at this;exact ⟨n,rfl,hc.1,hc.2,w _ F' H' st this⟩
    . exact w.elim
  . exact w.elim
def PGv(C:Cw)(X:Cx)(tg:Expr)(k:D->Rho->Option Rho):Prop:=∃ t:TG,PG X tg t/\∀ F H σ ρ ρ' d v Q,aZ X.K C.F0 C.H0 F H σ ρ->aC X.K F d v->k d ρ=some ρ' ->
 (∀ σ' F' H',aG F F'->aZ X.K C.F0 C.H0 F' H' σ' ρ'->Q σ' H')->t v σ H Q
def dJ(k:D->Rho->Option Rho)(body:Rho->aB):List D->Rho->aB
 | [],ρ=>.nx ρ
 | d::ds,ρ=>match k d ρ with
  | none=>.stuck
  | some ρ1=>match body ρ1 with
   | .nx ρ2=>dJ k body ds ρ2
   | .ct ρ2=>dJ k body ds ρ2
   | .bk ρ2=>.nx ρ2
   | r=>r
def dL(r:Res)(ρ:Rho)(k:D->Rho->Option Rho)(body:Rho->aB):aB:=r.thS ρ λ_ d=>match d with | .lst ds=>dJ k body ds ρ | _=>.stuck
theorem aE4{body:List Stmt}{k:D->Rho->Option Rho}{h1:Rho->aB}(hp:PassesOwn (model X.prog X.w) X.A X.env X.xe)(hc:X.calm=true)(hi:PIv C X tg e g)(hg:PGv C X tg k)(hb:PBv C X body h1)(hs:∀ x,foldedSetIterable e X.env x=pure x:=by intro _;rfl):PSv C X (.For tg e body [] pos) (λρ=>dL (g ρ) ρ k h1):=by
 obtain ⟨t,ht,hk⟩:=hg;refine PS.imp (aBL hp hc hi ht hb hs) λE σ H q=>?_;obtain ⟨ρ,F,RS,w⟩:=q;dsimp only at w;unfold tFor;refine ⟨ρ,F,RS,?_⟩;cases er:g ρ with
 | stuck=>rw[er] at w;exact w
 | exc c=>rw[er] at w;exact λF' H' s=>w σ F' H' s.fsame (RS.step s)
 | ok m d =>
  rw[er] at w;cases d with
  | lst ds =>
   intro J F1 H1 s1 hJ;have w:bX (C.at X) F1 (dJ k h1 ds ρ) E:=bX.mono s1.fsame w;refine ⟨λi m σ' H'=>m=ds.length-i/\i<=ds.length/\∃ ρ' F',aG F1 F'/\aZ X.K C.F0 C.H0 F' H' σ' ρ'/\bX (C.at X) F' (dJ k h1 (ds.drop i) ρ') E,⟨ds.length,by simp,aOV _,ρ,F1,aG.refl _,RS.step s1,by simpa using w⟩,?_⟩
   rintro i m σ' H' ⟨rfl,hi,ρ',F',sF,R',w'⟩;by_cases hlt:i<ds.length
   . refine .inr ⟨hJ.go i H' (sF.trans R'.sub) hlt,λσ2 H2=>∃ ρ2 F2,aG F1 F2/\aZ X.K C.F0 C.H0 F2 H2 σ2 ρ2/\bX (C.at X) F2 (dJ k h1 (ds.drop (i+1)) ρ2) E,λσ2 H2 ⟨ρ2,F2,a,b,c⟩=>⟨ds.length-(i+1),by omega,rfl,hlt,ρ2,F2,a,b,c⟩,λx H2 y=>?_⟩
     obtain ⟨F2,d,ed,s2,rd⟩:=hJ.yld i F' H' x H2 sF R'.sub hlt y;have hd:ds.drop i=d::ds.drop (i+1):=by rw[aPH hlt];rw[aPC hlt] at ed;cases ed;rfl
     rw[hd] at w';unfold dJ at w';cases ek:k d ρ' with
     | none=>rw[ek] at w';exact w'.elim
     | some ρ1 =>
      rw[ek] at w';dsimp only at w';refine hk F2 H2 σ' ρ' ρ1 d x _ (R'.step s2) rd ek λσ3 F3 H3 z3 R3=>?_;have z13:aG F1 F3:=(sF.trans s2.fsame).trans z3;have w3:=bX.mono (s2.fsame.trans z3) w';refine ⟨ρ1,F3,R3,?_⟩;cases eb:h1 ρ1 with
      | nx ρ2=>rw[eb] at w3;exact λσ4 F4 H4 z4 R4=>⟨ρ2,F4,z13.trans z4,R4,bX.mono z4 w3⟩
      | ct ρ2=>rw[eb] at w3;exact λσ4 F4 H4 z4 R4=>⟨ρ2,F4,z13.trans z4,R4,bX.mono z4 w3⟩
      | bk ρ2=>rw[eb] at w3;exact λσ4 F4 H4 z4 R4=>w3 σ4 F4 H4 z4 R4
      | rt m d=>rw[eb] at w3;exact w3
      | exc c ρ2=>rw[eb] at w3;exact w3
      | stuck=>rw[eb] at w3;exact w3
   . have ei:i=ds.length:=by omega
     subst ei;refine .inl ⟨hJ.stop _ H' (sF.trans R'.sub) (aNH _),?_⟩;rw[aPI] at w';exact w' σ' F' H' (aG.refl _) R'
  | _=>exact w.elim
end
end D3
namespace L2
open PySem PySem.Spec PyProof.Rows
theorem pM {env : Env} : ∀ (names : List (Str × NameKind)) (acc : List (Str × Addr)), (∀ y ∈ names, y.2 = .free → ∃ c, env.cells.lookup y.1 = some c) → (∀ y c, acc.lookup y = some c → env.cells.lookup y = some c) →
    ∃ cl,(forIn names acc λ(x:Str×NameKind) (cs:List (Str×Addr))=>(if x.2 == .free then (do let c <- cellOf env x.1;pure (ForInStep.yield ((x.1,c)::cs))) else pure (ForInStep.yield cs):Sem (ForInStep (List (Str×Addr)))))=pure cl /\
     (∀ y c,cl.lookup y=some c->env.cells.lookup y=some c)/\(∀ y c,acc.lookup y=some c->cl.lookup y=some c)/\∀ y,(y,NameKind.free)∈names->∃ c,cl.lookup y=some c
 | [],acc,_,ha=>⟨acc,by rw[aPJ],ha,λ_ _ h=>h,λ_ h=>by cases h⟩
 | (n,k)::r,acc,h,ha=>by
  rw[aPK];by_cases hk:k=.free
  . subst hk;obtain ⟨c,ec⟩:=h (n,.free) mcs rfl;have hc:cellOf env n=pure c:=by unfold cellOf;rw[ec]
    have e:((if (NameKind.free==NameKind.free)=true then (do let c <- cellOf env n;pure (ForInStep.yield ((n,c)::acc))) else pure (ForInStep.yield acc)):Sem (ForInStep (List (Str×Addr))))=pure (ForInStep.yield ((n,c)::acc)):=by rw[if_pos (by decide),hc,aPL]
    obtain ⟨cl,e1,e2,e3,e4⟩:=pM (env:=env) r ((n,c)::acc) (λy hy=>h y (mcm hy)) (λy c' q=>by
     rw[aPM] at q;cases hyn:y==n with
     | true=>rw[hyn] at q;cases q;rw[aO7.mp hyn];exact ec
     | false=>rw[hyn] at q;exact ha y c' q)
    refine ⟨cl,?_,e2,λy c' q=>?_,λy hy=>?_⟩
    . dsimp only;rw[e,aPL];exact e1
    . cases hyn:y==n with
      | true=>have:=aO7.mp hyn;subst this;have q':=ha y c' q;rw[ec] at q';cases q';exact e3 y c (by rw[aPM,hyn])
      | false=>exact e3 y c' (by rw[aPM,hyn];exact q)
    . rcases aM0.mp hy with z | z
      . cases z;exact ⟨c,e3 n c (by rw[aPM,aPN])⟩
      . exact e4 y z
  . have e:((if (k==NameKind.free)=true then (do let c <- cellOf env n;pure (ForInStep.yield ((n,c)::acc))) else pure (ForInStep.yield acc)):Sem (ForInStep (List (Str×Addr))))=pure (ForInStep.yield acc):=by rw[if_neg (by simpa using hk)]
    obtain ⟨cl,e1,e2,e3,e4⟩:=pM (env:=env) r acc (λy hy=>h y (mcm hy)) ha;refine ⟨cl,?_,e2,e3,λy hy=>?_⟩
    . dsimp only;rw[e,aPL];exact e1
    . rcases aM0.mp hy with z | z
      . cases z;exact absurd rfl hk
      . exact e4 y z
theorem aE5{scope:Scope}{env:Env}(h:∀ y∈scope.names,y.2=.free->∃ c,env.cells.lookup y.1=some c):∃ cl,closureFor scope env=pure cl/\(∀ y c,cl.lookup y=some c->env.cells.lookup y=some c)/\∀ y,(y,NameKind.free)∈scope.names->∃ c,cl.lookup y=some c:=by
 obtain ⟨cl,e1,e2,_,e4⟩:=pM (env:=env) scope.names [] h (λy c q=>by simp at q)
 refine ⟨cl,?_,e2,e4⟩;unfold closureFor;rw[bind_pure];exact e1
theorem aE6{scope:Scope}{env:Env}(cP:∀ y∈scope.names,y.2 ≠ .cell){x:Str}(h:(relabel scope env).names.lookup x=some .cell\/(relabel scope env).names.lookup x=some .free):(x,NameKind.free)∈scope.names:=by
 unfold relabel at h;dsimp only at h;have go:∀ (l:List (Str×NameKind)),(∀ y∈l,y.2 ≠ .cell)->((l.map λ(n,k)=>if (k==NameKind.free&&env.scope.kind == .function&&env.kindOf n==some .cell) then (n,NameKind.cell) else (n,k)).lookup x=some .cell\/(l.map λ(n,k)=>if (k==NameKind.free&&env.scope.kind == .function&&env.kindOf n==some .cell) then (n,NameKind.cell) else (n,k)).lookup x=some .free)->(x,NameKind.free)∈l:=by
  intro l
  induction l with
  | nil=>intro _ h;simp at h
  | cons y l ih =>
   intro hc h;obtain ⟨n,k⟩:=y;rw[aOR] at h;by_cases hx:x=n
   . subst hx;have hk:k=.free:=by
       by_cases hk:k=.free
       . exact hk
       . have e:(k==NameKind.free&&env.scope.kind == .function&&env.kindOf x==some .cell)=false:=by
           have:(k==NameKind.free)=false:=by simpa using hk
           rw[this];rfl
         simp only[e,aPO,aN9,aPM,aPN] at h;rcases h with h | h
         . cases h;exact absurd rfl (hc _ mcs)
         . cases h;exact absurd rfl hk
     subst hk;exact mcs
   . have hb:(x==n)=false:=by simpa using hx
     have hh:∀ (kk:NameKind) (l':List (Str×NameKind)),((n,kk)::l').lookup x=l'.lookup x:=λkk l'=>by rw[aPM,hb]
     by_cases hcond:(k==NameKind.free&&env.scope.kind == .function&&env.kindOf n==some .cell)=true
     . dsimp only at h;rw[if_pos hcond,hh] at h;exact mcm (ih (λy hy=>hc y (mcm hy)) h)
     dsimp only at h;rw[if_neg hcond,hh] at h;exact mcm (ih (λy hy=>hc y (mcm hy)) h)
 exact go scope.names cP h
def bE(X:Cx)(scope:Scope)(N:List Str)(cl:List (Str×Addr))(C:Addr)(fp:List Addr)(s3:Shared)(H3:Hp):Cx where
 prog:=X.prog
 w:=X.w
 K:=X.K
 mg:=X.mg
 base:=X.base
 A:=X.A
 N:=N
 s₀:=s3
 H₀:=H3
 env:=compEnvC scope cl C X.env
 outer:=X.stack
 stack:=X.stack
 ex:=fp
 fn:=λ_=>false
 calm:=X.calm
 pn:=[]
 xe:=λ_ _=>False
def c9(X:Cx)(cs:List Expr)(t:TT):Prop :=
 ∀ (aA:LAO) (s:Shared) (σ:St) (H:Hp) (Q:Bool->Hp->Prop),Inv X aA σ H s->t σ H Q ->
  wpAny (model X.prog X.w) X.A (forIn cs true λc r=>if r=true then do let ok <- isTrue c X.env (eval c X.env);pure (ForInStep.yield ok) else pure (ForInStep.yield r)) (TP X aA σ Q) X.xe s
theorem aE7{X:Cx}:c9 X [] (λ_ H Q=>Q true H):=λaA s σ H Q I h=>by rw[aPJ];exact aNC ⟨H,I,h⟩
theorem uH{X:Cx}:∀ cs:List Expr,(forIn cs false λc r=>if r=true then do let ok <- isTrue c X.env (eval c X.env);pure (ForInStep.yield ok) else pure (ForInStep.yield r):Sem Bool)=pure false
 | []=>by rw[aPJ]
 | c::cs=>by rw[aPK,if_neg aOK,aPL];exact uH cs
theorem aE8{X:Cx}{c:Expr}{cs:List Expr}{t u:TT}(hc:PT X c t)(hr:c9 X cs u):c9 X (c::cs) (o7 t u):=λaA s σ H Q I h=>by
 rw[aPK,if_pos rfl];refine aNA (aNA (thn (hc aA s σ H _ I h) λb s1 ⟨H1,I1,q1⟩=>aNC ?_));cases b with
 | true=>rw[if_pos rfl] at q1;exact hr aA s1 σ H1 Q I1 q1
 | false=>rw[if_neg aOK] at q1;dsimp only;rw[uH];exact aNC ⟨H1,I1,q1⟩
section
variable {prog:Program}{w:World}{A:Around}{R:Result->Shared->Prop}{s:Shared}
theorem aE9 {elt target aP : Expr} {ifs : List Expr} {scope : Scope} {pos : Pos} {it acc : Value} {env : Env} (I : Nat → Shared → Prop) (turn : ∀ n s, I n s → wpAny (model prog w) A (pyNext it) (fun r s1 => match r with
      | none=>R (.ok .next) s1
      | some v => wpAny (model prog w) A (letOwnedTupleGo target it v) (fun _ s1' => wpAny (model prog w) A (assign target env v) (fun _ s2 =>
          wpAny (model prog w) A (forIn ifs true λc r=>if r=true then do let ok <- isTrue c env (eval c env);pure (ForInStep.yield ok) else pure (ForInStep.yield r)) (λok s3 =>
           if ok=true then wpAny (model prog w) A (eval elt env) (λx s4 =>
            wpAny (model prog w) A (call (.builtin "list.append") [acc,x]) (λ_ s5=>∃ m,m<n/\I m s5) (λ_ _=>False) s4) (λ_ _=>False) s3
           else ∃ m, m < n ∧ I m s3) (fun _ _ => False) s2) (fun _ _ => False) s1') (fun _ _ => False) s1) (fun _ _ => False) s)
    (n:Nat) (h:I n s) :
    codeAny (model prog w) A (.compLoop (.ListComp elt [⟨target,aP,ifs,0⟩] scope pos) 0 it acc env) R s:=by
 refine codeAny_loop rfl I (λn s hI=>?_) n h;show wpAny _ A ((compTurn (.ListComp elt [⟨target,aP,ifs,0⟩] scope pos) 0 it acc env).onRaise (λx=>do noteFrame x env;theTreesLotGoes x)) _ _ s
 refine wpAny_noted ?_;rw[compTurn_list];refine aNA (aNB (aNA (aM7 (turn n s hI) (λr s1 h1=>?_) λ_ _ h'=>h'.elim)));cases r with
 | none=>exact aNC h1
 | some v =>
  refine aNA (aM7 h1 (λ_ s1' h1'=>?_) λ_ _ h'=>h'.elim);refine aNA (aM7 h1' (λ_ s2 h2=>aNA (aM7 h2 (λok s3 h3=>?_) λ_ _ h'=>h'.elim)) λ_ _ h'=>h'.elim);cases ok with
  | false=>exact aNC ⟨rfl,h3⟩
  | true=>exact aNA (aNA (aM7 h3 (λx s4 h4=>aNA (aM7 h4 (λ_ s5 h5=>aNC (aNC ⟨rfl,h5⟩)) λ_ _ h'=>h'.elim)) λ_ _ h'=>h'.elim))
end
def dM(aF:List Nat)(σ:St):St:=aF.map λi=>(σ[i]?).getD none
def Weak(σ σ':St):Prop:=σ.length=σ'.length/\∀ (j:Nat) v,σ[j]? = some (some v)->σ'[j]? = some (some v)
def kP(aF:List Nat)(k:Nat)(wi:TI)(gt:TG)(tt:TT)(te:TE):TE:=λσ H Q=>wi σ H λJ H1=>∀ D,H1 D=none ->
 ∃ W:Nat->Nat->List V->Hp->Prop,(∃ m,W 0 m [] (upd H1 D (.lst [])))/\∀ i m ys H,W i m ys H->H D=some (.lst ys) /\
  ((J.stop i H/\Q (.ref D) H)\/(J.go i H/\ys.length<sizeLine/\∀ x H',J.yld i H x H'->gt x (dM aF σ++List.replicate k none) H' λσ2 H2=>Weak (dM aF σ++List.replicate k none) σ2/\tt σ2 H2 λb H3 =>
   if b=true then te σ2 H3 λy H4=>H4 D=some (.lst ys)/\∃ m',m'<m/\W (i+1) m' (ys++[y]) (upd H4 D (.lst (ys++[y]))) else ∃ m',m'<m/\W (i+1) m' ys H3))
theorem uI{X:Cx}{elt aP tg:Expr}{ifs:List Expr}{scope:Scope}{pos:Pos}{aF:List Nat}{aH tgN:List Str}{wi:TI}{gt:TG}{tt:TT}{te:TE}{use:Option (Value->Sem Unit)}{QQ:VSP}{aA:LAO}{s:Shared}{σ:St}{H:Hp}{Q:VK}(hc:X.calm=true)(hi:PI X tg aP wi)(cP:∀ y∈scope.names,y.2 ≠ .cell)(dD:scope.kind=.function)(eS:∀ y∈scope.names,y.2=.local->scope.names.lookup y.1=some .local)(dE:∀ y∈scope.names,y.2=.free->X.env.kindOf y.1=some .cell\/X.env.kindOf y.1=some .free)(dX:aH.map some=aF.map λi=>X.N[i]?)(eU:∀ y∈aH,(y,NameKind.free)∈scope.names)(eT:∀ y∈aH,(relabel scope X.env).names.lookup y=some .cell\/(relabel scope X.env).names.lookup y=some .free)(hg:∀ cl C fp s3 H3,PG (bE X scope (aH++tgN) cl C fp s3 H3) tg gt)(hf:∀ cl C fp s3 H3,c9 (bE X scope (aH++tgN) cl C fp s3 H3) ifs tt)(he:∀ cl C fp s3 H3,PE (bE X scope (aH++tgN) cl C fp s3 H3) elt te)(hs:∀ x,foldedSetIterable aP X.env x=pure x)(I:Inv X aA σ H s)(h:kP aF tgN.length wi gt tt te σ H Q)(hend:∀ (D Z:Addr) (s6:Shared) (H5:Hp),(∃ m,s6.heap.Ns Z m)->(∀ h'',Heap.SameBut Z s6.heap h''->Inv X aA σ H5 { s6 with heap:=h'' })->H5 Z=none->X.s₀.heap.objs.size<=Z->Z≠X.env.locals->(∀ x c,X.env.cells.lookup x=some c->c≠Z)->(∀ p∈X.pn++aA,p.1≠Z)->Q (.ref D) H5->compPost (model X.prog X.w) X.A X.xe use QQ (.ref D) Z (.ok .next) s6):wpAny (model X.prog X.w) X.A (comprehension (.ListComp elt [⟨tg,aP,ifs,0⟩] scope pos) scope X.env (firstIterPos [⟨tg,aP,ifs,0⟩] pos) (newList []) (firstAsync [⟨tg,aP,ifs,0⟩]) (firstIter [⟨tg,aP,ifs,0⟩] X.env) use) QQ X.xe s:=by
 obtain ⟨cl,hclos,clsub,clhas⟩:=aE5 (scope:=scope) (env:=X.env) λy hy hk=>I.ok.has y.1 (dE y hy hk);refine wpAny_comprehension_free (use:=use) rfl hs hclos dD eS (thn (hi aA s σ H _ I h) λv s1 h1=>thn h1 λitv s2 h2=>?_);obtain ⟨it,fp,tn,J,H2,e,I2,T,st2,f2,q⟩:=h2;subst e;refine aND ?_;have hn:H2 s2.heap.objs.size=none:=I2.hok.fresh (aNH _);obtain ⟨W,⟨m0,w0⟩,turn⟩:=q s2.heap.objs.size hn;have I3:Inv X aA σ (upd H2 s2.heap.objs.size (.lst [])) { s2 with heap:=s2.heap.push { cls:=.type "list", dict:=none,data:=.seq ([]:List Value).toArray } } :=
  I2.laid (t':=s2.toks) (λb u e=>hps e) (aNH _) ⟨aOV _,[],0,.nil,aMQ _ rfl⟩
 generalize hs3:({ s2 with heap:=s2.heap.push { cls:=.type "list", dict:=none,data:=.seq ([]:List Value).toArray } }:Shared)=s3 at I3 ⊢
 generalize hH3:upd H2 s2.heap.objs.size (.lst [])=H3 at I3 w0;have fpl:∀ b∈fp,b<s2.heap.objs.size:=λb hb=>by obtain ⟨o,eo,_⟩:=T.obj 0 _ st2 b hb;exact aMR eo
 have sz3:s3.heap.objs.size=s2.heap.objs.size+1:=by rw[<- hs3];exact aPP _ _
 have keep23:∀ b o,s2.heap.get? b=some o->s3.heap.get? b=some o:=λb o e=>by rw[<- hs3];exact hps e
 have hDf:s2.heap.objs.size∉fp:=λhb=>aMT _ (fpl _ hb);refine wpAny_newFunctionEnv cP (by intro y hy;simp at hy) (λh4 hns hsb=>?_) dD
 try dsimp only at hns hsb ⊢
 have keep34:∀ b o,s3.heap.get? b=some o->h4.get? b=some o:=λb o e=>hsb.extBut b o (aMU (aMR e)) (hps e);have nostk:∀ b∈fp,b∉frs X.stack:=λb hb z=>by
  obtain ⟨_,f1,f2',_⟩:=f2 b hb;rcases aM0.mp (I2.stkSub b z) with q | q
  . exact f1 q
  . exact f2' q
 have okc:(bE X scope (aH++tgN) cl s3.heap.objs.size fp s3 H3).Ok :=
  { mod:=I3.ok.mod
    kind:=dD
    glob:=I3.ok.glob
    blt:=I3.ok.blt
    above:=aNH _
    inj:=λx y c h1 h2=>I3.ok.inj x y c (clsub x c h1) (clsub y c h2)
    has:=λx hx=>clhas x (aE6 cP hx)
    cab:=λx c z=>by cases z
    hd:=I3.ok.hd
    frames:=I3.ok.frames
    stk:=.inl rfl
    exf:=λb hb=>⟨aMU (by show b<s3.heap.objs.size;rw[sz3];exact aPQ (fpl b hb)),λx c e=>(f2 b hb).2.2.2.2.1 x c (clsub x c e)⟩
    bs:=I3.bs
    bsz:=aMY I3.ok.bsz I3.sz
    noex:=λb o e hb=>by
     obtain ⟨_,_,_,f3,_⟩:=f2 b hb;rcases f3 with z | z
     . exact I2.ok.noex b o e z
     . exact absurd (aMR (I2.ok.bs b o e).1) (Nat.not_lt.mpr z)
    exfs:=nostk
    funs:=I3.stack
    frf:=I3.stkFree }
 have capLen:aH.length=aF.length:=by have:=congrArg List.length dX;simpa using this
 generalize hσ0:dM aF σ++List.replicate tgN.length none=σ0 at turn;have Ic:Inv (bE X scope (aH++tgN) cl s3.heap.objs.size fp s3 H3) [] σ0 H3 { s3 with heap:=h4,toks:=s3.toks+([]:List (Str×Value)).length }:=by
  refine ⟨okc,rfl,I3.bare,Un.kept keep34,⟨_,hns,λi y v h1 h2 h3=>?_⟩,λx c e=>?_,I3.hok.fresh (aNH _),λx c e=>I3.freeC x c (clsub x c e),λp hp=>absurd (show p∈([]:LAO) from hp) (by simp),I3.hok.kept keep34,?_⟩
  . by_cases hi:i<aF.length
    . have ey:aH[i]? = some y:=by have h1:(aH++tgN)[i]? = some y:=h1;rw[aNW (by rw[capLen];exact hi)] at h1;exact h1
      have hj:X.N[aF[i]]? = some y:=by
       have e1:(aH.map some)[i]? = (aF.map λi=>X.N[i]?)[i]?:=by rw[dX]
       rw[aNX,aNX,ey,aPC hi] at e1;simpa using e1.symm
      have ev:σ[aF[i]]? = some (some v):=by
       rw[<- hσ0,aNW (by simpa[dM] using hi)] at h2
       unfold dM at h2;rw[aNX,aPC hi] at h2;simp only[aPG,Option.some.injEq] at h2;cases z:σ[aF[i]]? with
       | none=>rw[z] at h2;cases h2
       | some o=>rw[z] at h2;exact congrArg some h2
      have hyf:=eU y (aNZ ey);have hkX:=dE _ hyf rfl;obtain ⟨m,_,hl⟩:=I3.loc;obtain ⟨u,ru,lk⟩:=hl aF[i] y v hj ev (by rcases hkX with z | z;exact .inr (.inl z);exact .inr (.inr z))
      refine ⟨u,ru,.inr ⟨eT y (aNZ ey),?_⟩⟩;rcases lk with ⟨hk,_⟩ | ⟨_,c,ec,ic⟩
      . rcases hkX with z | z
        . rw[show X.env.kindOf y=some .cell from z] at hk;cases hk
        . rw[show X.env.kindOf y=some .free from z] at hk;cases hk
      . obtain ⟨c',ec'⟩:=clhas y hyf;have:=clsub y c' ec';rw[ec] at this;cases this;exact ⟨c,ec',ic.keeps keep34⟩
    . rw[<- hσ0,aNU (by simpa[dM] using hi),aNV] at h2
      split at h2 <;> cases h2
  . obtain ⟨v,q⟩:=I3.cell x c (clsub x c e);exact ⟨v,q.keeps keep34⟩
  . rw[<- hσ0];show (dM aF σ++List.replicate tgN.length none).length=(aH++tgN).length;simp[dM,capLen]
 have fpc:∀ {H':Hp},(∀ b∈fp,H' b=none)->∀ b∈fp,dY (bE X scope (aH++tgN) cl s3.heap.objs.size fp s3 H3) [] H' b:=λhn b hb =>
  ⟨hn b hb,(okc.exf b hb).1,nostk b hb,.inl hb,(okc.exf b hb).2,λp hp=>absurd (show p∈([]:LAO) from hp) (by simp)⟩
 have loop:codeAny (model X.prog X.w) X.A (.compLoop (.ListComp elt [⟨tg,aP,ifs,0⟩] scope pos) 0 (.ref it) (.ref s2.heap.objs.size) (compEnvC scope cl s3.heap.objs.size X.env)) (compPost (model X.prog X.w) X.A X.xe use QQ (.ref s2.heap.objs.size) s3.heap.objs.size) { s3 with heap:=h4,toks:=s3.toks+([]:List (Str×Value)).length }:=by
  refine aE9 (λn s'=>∃ i ys H',Inv (bE X scope (aH++tgN) cl s3.heap.objs.size fp s3 H3) [] σ0 H' s'/\tn i s'.heap/\(∀ b∈fp,H' b=none)/\W i n ys H') ?_ m0
   ⟨0,[],H3,Ic,T.keep _ _ _ st2 (λb hb o e=>keep34 b o (keep23 b o e)),λb hb=>by rw[<- hH3,aR (by intro z;rw[z] at hb;exact hDf hb)];exact (f2 b hb).1,w0⟩
  rintro n s5 ⟨i,ys,H5,I5,st5,fr5,w5⟩;obtain ⟨hD,hw⟩:=turn i n ys H5 w5;rcases hw with ⟨stop,qq⟩ | ⟨go,hlen,step⟩
  . refine thn (T.done (bE X scope (aH++tgN) cl s3.heap.objs.size fp s3 H3) rfl rfl rfl hc i [] s5 σ0 H5 _ I5 (fpc fr5) st5 stop) λr s6 ⟨hr,I6⟩=>?_;subst hr;obtain ⟨m,hm,_⟩:=id I6.loc;refine hend s2.heap.objs.size s3.heap.objs.size s6 H5 ⟨m,hm⟩ (λh'' hsb2=>?_) I6.free I3.sz (λz=>?_) (λx c ec z=>?_) (λp hp z=>?_) qq;rotate_left
    . obtain ⟨m,⟨o,es,ep,ho,_⟩,_⟩:=id I3.loc;rw[<- z] at ho;exact aMT _ (aMR ho)
    . obtain ⟨v,o,ho,_⟩:=I3.cell x c ec;rw[z] at ho;exact aMT _ (aMR ho)
    . have:=(I3.pin p hp).1;rw[z] at this;exact aMT _ (aMR this)
    have u:=I6.base;have neC:∀ b o,s3.heap.get? b=some o->b≠s3.heap.objs.size:=λb o e=>aMU (aMR e);have un:Un (frs X.stack) fp H3 H5 s3.heap h'':=by
     refine ⟨λb o e n hb hx=>hsb2.extBut b o (neC b o e) (u.keep b o e n hb hx),λb o e n hb hx=>?_,u.free,λb o e hx=>?_,u.tups,u.frzs,u.tbls⟩
     . obtain ⟨sl,q⟩:=u.slot b o e n hb hx;exact ⟨sl,hsb2.extBut b _ (neC b o e) q⟩
     . obtain ⟨o',q⟩:=u.there b o e hx;exact ⟨o',hsb2.extBut b _ (neC b o e) q⟩
    have hok : HOk X.prog X.w H5 h'' := fun a o e => (I6.hok a o e).stay (fun b v hb q => hsb2.extBut b v (by
        intro z;have fr:=I6.free;rcases hb with hb | hb
        . rw[hb] at z;rw[z] at e;rw[show H5 s3.heap.objs.size=none from fr] at e;cases e
        . rw[z,show H5 s3.heap.objs.size=none from fr] at hb;cases hb) q) (λ_ q=>q) λ_ _ q=>q
    have os6:=I6.os;obtain ⟨hh,g6,d6,t6,o6⟩:=s6;obtain rfl:o6=s3.os:=os6;have I8:=I3.call (h':=h'') (g':=g6) (d':=d6) (t':=t6) (ch:=fp) un hok I6.bare λb hb=>by obtain ⟨_,f1,_,f3,f4,f5⟩:=f2 b hb;exact ⟨f3,f1,f4,f5⟩
    exact I8
  . refine thn (T.item (bE X scope (aH++tgN) cl s3.heap.objs.size fp s3 H3) rfl rfl rfl hc i [] s5 σ0 H5 _ I5 (fpc fr5) st5 go) λr s6 ⟨u,hr,h6⟩=>?_;subst hr;refine thn h6 λ_ s7 ⟨x,H7,I7,r7,y7,st7,fr7⟩=>?_;have I7':=I7.pinned (fpc fr7) (T.obj _ _ st7);refine thn (hg cl s3.heap.objs.size fp s3 H3 _ s7 σ0 H7 x u _ I7' r7 (step x H7 y7)) λ_ s8 ⟨σ8,H8,I8,wk,q8⟩=>?_;have back:∀ {H':Hp} {s':Shared} {m':Nat} {ys':List V},Inv (bE X scope (aH++tgN) cl s3.heap.objs.size fp s3 H3) ([]++j8 fp s7.heap) σ8 H' s'->m'<n->W (i+1) m' ys' H' ->
        ∃ m,m<n/\∃ i ys H',Inv (bE X scope (aH++tgN) cl s3.heap.objs.size fp s3 H3) [] σ0 H' s'/\tn i s'.heap/\(∀ b∈fp,H' b=none)/\W i m ys H':=λ{H' s' m' ys'} I' hm w'=>by
      have pinned:∀ b∈fp,∀ o,s7.heap.get? b=some o->s'.heap.get? b=some o/\H' b=none:=λb hb o e=>by have:=I'.pin (b,o) (aNL _ (aNL _ (o9 hb e)));exact ⟨this.1,this.2.1⟩
      refine ⟨m',hm,i+1,ys',H',I'.unpinned.weak wk.1 wk.2,T.keep _ _ _ st7 λb hb o e=>(pinned b hb o e).1,λb hb=>?_,w'⟩;obtain ⟨o,e,_⟩:=T.obj _ _ st7 b hb;exact (pinned b hb o e).2
    refine thn (hf cl s3.heap.objs.size fp s3 H3 _ s8 σ8 H8 _ I8 q8) λb s9 ⟨H9,I9,q9⟩=>?_;cases b with
    | false=>rw[if_neg aOK] at q9 ⊢;obtain ⟨m',hm,w9⟩:=q9;exact back I9 hm w9
    | true =>
     rw[if_pos rfl] at q9 ⊢;refine thn (he cl s3.heap.objs.size fp s3 H3 _ s9 σ8 H9 _ I9 q9) λy s10 ⟨yv,H10,I10,r10,hD10,m',hm,w10⟩=>?_;refine thn (aC0 (X:=bE X scope (aH++tgN) cl s3.heap.objs.size fp s3 H3) _ s10 σ8 H10 (.ref s2.heap.objs.size) [yv] (.ref s2.heap.objs.size) [y] (λv H'=>v=.non/\H'=upd H10 s2.heap.objs.size (.lst (ys++[yv]))) I10 rfl (.cons r10 .nil)
      ⟨s2.heap.objs.size,ys,yv,rfl,rfl,hD10,hlen,rfl,rfl⟩) λ_ s11 ⟨v,H11,I11,_,_,e11⟩=>?_
     subst e11;exact back I11 hm w10
 exact codeAny_compStart_list loop (T.self _ 0 _ _ _ (T.keep _ _ _ st2 (λb hb o e=>keep34 b o (keep23 b o e))) loop)
theorem aFA{X:Cx}{elt aP tg:Expr}{ifs:List Expr}{scope:Scope}{pos:Pos}{aF:List Nat}{aH tgN:List Str}{wi:TI}{gt:TG}{tt:TT}{te:TE}(hc:X.calm=true)(hi:PI X tg aP wi)(cP:∀ y∈scope.names,y.2 ≠ .cell)(dD:scope.kind=.function)(eS:∀ y∈scope.names,y.2=.local->scope.names.lookup y.1=some .local)(dE:∀ y∈scope.names,y.2=.free->X.env.kindOf y.1=some .cell\/X.env.kindOf y.1=some .free)(dX:aH.map some=aF.map λi=>X.N[i]?)(eU:∀ y∈aH,(y,NameKind.free)∈scope.names)(eT:∀ y∈aH,(relabel scope X.env).names.lookup y=some .cell\/(relabel scope X.env).names.lookup y=some .free)(hg:∀ cl C fp s3 H3,PG (bE X scope (aH++tgN) cl C fp s3 H3) tg gt)(hf:∀ cl C fp s3 H3,c9 (bE X scope (aH++tgN) cl C fp s3 H3) ifs tt)(he:∀ cl C fp s3 H3,PE (bE X scope (aH++tgN) cl C fp s3 H3) elt te)(hs:∀ x,foldedSetIterable aP X.env x=pure x:=by intro _;rfl):PE X (.ListComp elt [⟨tg,aP,ifs,0⟩] scope pos) (kP aF tgN.length wi gt tt te):=by intro aA s σ H Q I h;rw[eval_ListComp];exact uI (use:=none) hc hi cP dD eS dE dX eU eT hg hf he hs I h λD Z s6 H5 hm hI _ _ _ _ _ q=>by obtain ⟨m,hm⟩:=hm;exact ⟨m,hm,λh'' hs=>⟨.ref D,H5,hI h'' hs,rfl,q⟩⟩
theorem Inv.dropped{X:Cx}{aA:LAO}{σ:St}{H:Hp}{s:Shared}{h'':Heap}{Z:Addr}(I:Inv X aA σ H s)(hs:Heap.SameBut Z s.heap h'')(hz:H Z=none)(h0:X.s₀.heap.objs.size<=Z)(h1:Z≠X.env.locals)(h2:∀ x c,X.env.cells.lookup x=some c->c≠Z)(h3:∀ p∈X.pn++aA,p.1≠Z):Inv X aA σ H { s with heap:=h'' }:=by
 have un:Un (frs X.stack) [Z] H H s.heap h'':=by
  have k:∀ b o,s.heap.get? b=some o->b∉[Z]->h''.get? b=some o:=λb o e hb=>hs.extBut b o (λz=>hb (by rw[z];exact mcs)) e
  exact ⟨λb o e _ _ hx=>k b o e hx,λb o e _ _ hx=>⟨o.slots,k b o e hx⟩,λ_ _ _ n _=>n,λb o e hx=>⟨o,k b o e hx⟩,λ_ _ q=>q,λ_ _ _ q=>q,λ_ ps q=>⟨#[],by simpa using q⟩⟩
 have hok:HOk X.prog X.w H h'':=λa o e=>(I.hok a o e).stay (λb v hb q=>hs.extBut b v (by
  rintro rfl;rcases hb with hb | hb
  . rw[hb,e] at hz;cases hz
  . rw[hz] at hb;cases hb) q) (λ_ q=>q) λ_ _ q=>q
 obtain ⟨hh,g,d,t,o⟩:=s;exact I.call (g':=g) (d':=d) (t':=t) (ch:=[Z]) un hok I.bare λb hb=>by
  obtain rfl:b=Z:=by simpa using hb
  exact ⟨.inr h0,h1,h2,h3⟩
theorem aFB{i:Nat}{x:Str}{pos' spos:Pos}{X:Cx}{elt aP tg:Expr}{ifs:List Expr}{scope:Scope}{pos:Pos}{aF:List Nat}{aH tgN:List Str}{wi:TI}{gt:TG}{tt:TT}{te:TE}(hc:X.calm=true)(hi:PI X tg aP wi)(cP:∀ y∈scope.names,y.2 ≠ .cell)(dD:scope.kind=.function)(eS:∀ y∈scope.names,y.2=.local->scope.names.lookup y.1=some .local)(dE:∀ y∈scope.names,y.2=.free->X.env.kindOf y.1=some .cell\/X.env.kindOf y.1=some .free)(dX:aH.map some=aF.map λi=>X.N[i]?)(eU:∀ y∈aH,(y,NameKind.free)∈scope.names)(eT:∀ y∈aH,(relabel scope X.env).names.lookup y=some .cell\/(relabel scope X.env).names.lookup y=some .free)(hg:∀ cl C fp s3 H3,PG (bE X scope (aH++tgN) cl C fp s3 H3) tg gt)(hf:∀ cl C fp s3 H3,c9 (bE X scope (aH++tgN) cl C fp s3 H3) ifs tt)(he:∀ cl C fp s3 H3,PE (bE X scope (aH++tgN) cl C fp s3 H3) elt te)(hN:X.N.Nodup)(hx:X.N[i]? = some x)(hk:X.env.scope.names.lookup x=some .local)(hsw:swapsWith (.ListComp elt [⟨tg,aP,ifs,0⟩] scope pos) (some (.Name x pos')) spos.line X.env=pure true)(hs:∀ x,foldedSetIterable aP X.env x=pure x:=by intro _;rfl):PS X (.Assign [.Name x pos'] (.ListComp elt [⟨tg,aP,ifs,0⟩] scope pos) spos) (j7 (kP aF tgN.length wi gt tt te) (j6 i)):=by
 intro aA s σ H En I h;rw[exec_Assign_Name_used _ _ _ _ hsw];refine aNA (aNB (aNA ?_));show wpAny _ X.A (comprehension (.ListComp elt [⟨tg,aP,ifs,0⟩] scope pos) scope X.env (firstIterPos [⟨tg,aP,ifs,0⟩] pos) (newList []) (firstAsync [⟨tg,aP,ifs,0⟩]) (firstIter [⟨tg,aP,ifs,0⟩] X.env) (some (assign (.Name x pos') X.env)) >>= _) _ _ s;refine aNA (uI (use:=some (assign (.Name x pos') X.env)) hc hi cP dD eS dE dX eU eT hg hf he hs I h λD Z s6 H5 hm hI hz h0 h1 h2 h3 q=>?_);obtain ⟨m,hm⟩:=hm;have I6:=hI s6.heap (Heap.SameBut.refl _ _);refine wpAny_assign_Name (sK I6 hN hx (.inl hk) (show aN (.ref D) (.ref D) from rfl) (λs' I' hch=>?_) (.inr hk))
 obtain ⟨a,sb,ha⟩:=hch;have na:Z≠a:=by
  rcases ha with rfl | ha
  . exact h1
  . exact λz=>h2 x a ha z.symm
 exact ⟨m,hm.sameBut sb na,λh'' hs2=>aNC (aNC ⟨_,H5,I'.dropped hs2 hz h0 h1 h2 h3,q⟩)⟩
end L2
namespace D3
open PySem PySem.Spec PyProof.Rows L2
def cL(aF:List Nat)(ρ:Rho):Rho:=aF.map λi=>match ρ[i]? with | some (some (false,d))=>some (false,d) | _=>none
def bD(k:D->Rho->Option Rho)(t e:Rho->Res)(ρ0:Rho):List D->Option (List D)
 | []=>some []
 | d::ds=>match k d ρ0 with
  | none=>none
  | some ρ1=>match t ρ1 with
   | .ok _ (.bl true)=>(match bI (e ρ1) with | .ok _ y=>(bD k t e ρ0 ds).map (y :: ·) | _=>none)
   | .ok _ (.bl false)=>bD k t e ρ0 ds
   | _=>none
def bY(src:Res)(ρ:Rho)(aF:List Nat)(n:Nat)(k:D->Rho->Option Rho)(t e:Rho->Res):Res:=src.thn λ_ d=>match d with
 | .lst ds=>if ds.length<sizeLine then (match bD k t e (cL aF ρ++List.replicate n none) ds with | some ys=>.ok .fr (.lst ys) | none=>.stuck) else .stuck
 | _=>.stuck
abbrev Cw.nox(C:Cw):Cw:={ C with EE:=λ_ _ _=>False }
theorem aL.upd{F H F' H':Hp}{x:Addr}{o:HO}(st:aL F H F' H')(hx:H x=none)(hx':F' x=none):aL F H F' (L2.upd H' x o) :=
 ⟨λb u q=>by rw[aR (cJ q hx)];exact st.same b u q,st.fsame,λb u q=>by rw[aR (cJ q hx')];exact st.sub b u q,st.new⟩
section
variable {C:Cw}{X:Cx}{e:Expr}{g:Rho->Res}{pos p:Pos}
theorem aFC:c9 X [] (tT (C.at X) λ_=>.ok .fz (.bl true)):=λaA s σ H Q I h=>by obtain ⟨ρ,F,R,w⟩:=h;exact aE7 aA s σ H Q I (w F H (.refl R.sub))
theorem aFD{c:Expr}{cs:List Expr}{ga gb:Rho->Res}(hc:PTv C X c ga)(hr:c9 X cs (tT (C.at X) gb)):c9 X (c::cs) (tT (C.at X) λρ=>dZ (ga ρ) (gb ρ)):=λaA s σ H Q I h =>
 aE8 hc hr aA s σ H Q I (t7 h)
theorem aFE{K:Fg}{F0 H0 F H:Hp}{σ:L2.St}{ρ:Rho}(aF:List Nat)(n:Nat)(R:aZ K F0 H0 F H σ ρ):aZ K F0 H0 F H (dM aF σ++List.replicate n none) (cL aF ρ++List.replicate n none):=by
 have low:∀ (i:Nat) (m:Bool) (d:D),(cL aF ρ++List.replicate n none)[i]? = some (some (m,d))->m=false/\∃ v,(dM aF σ++List.replicate n none)[i]? = some (some v)/\aC K F d v:=λi m d e=>by
  by_cases hi:i<aF.length
  . rw[aNW (by simpa[cL] using hi)] at e
    rw[aNW (by simpa[dM] using hi)]
    unfold cL at e;unfold dM;rw[aNX,aPC hi] at e ⊢;simp only[aPG,Option.some.injEq] at e;cases z:ρ[aF[i]]? with
    | none=>rw[z] at e;cases e
    | some o =>
     rw[z] at e;cases o with
     | none=>cases e
     | some q =>
      obtain ⟨b,d'⟩:=q;cases b with
      | true=>cases e
      | false=>cases e;obtain ⟨v,e1,r,_⟩:=R.slot _ _ _ z;exact ⟨rfl,v,by simp[e1],r⟩
  . rw[aNU (by simpa[cL] using hi),aNV] at e
    split at e <;> cases e
 refine ⟨R.st,λi m d e=>?_,λi j d d' a _ e1 _ _ _=>?_,by simp[dM,cL]⟩
 . obtain ⟨rfl,v,e1,r⟩:=low i m d e;exact ⟨v,e1,r,by intro z;cases z⟩
 . have:=(low i true d e1).1;cases this
end
mutual
def aU:D->Option PyData
 | .non=>some .none
 | .bl b=>some (.bool b)
 | .int i=>some (.int i)
 | .str x=>some (.str x)
 | .tup ds=>(bZ ds).map .tuple
 | .lst ds=>(bZ ds).map .list
 | _=>none
def bZ:List D->Option (List PyData)
 | []=>some []
 | d::ds=>match aU d,bZ ds with
  | some p,some ps=>some (p::ps)
  | _,_=>none
end
section
variable {X:Cx}{aA:LAO}{σ:L2.St}{F H:Hp}{s:Shared}
mutual
theorem mQ(I:Inv X aA σ H s)(sF:aG F H):∀ (d:D) (p:PyData) (v:V) (u:Value),aC X.K F d v->aN v u->aU d=some p->(∃ as,Reads s.heap u p as)/\p.canLay0=true
 | .non,p,v,u,h,r,e=>by simp only[aC] at h;subst h;cases r;simp only[aU] at e;cases e;exact ⟨⟨_,.none⟩,rfl⟩
 | .bl b,p,v,u,h,r,e=>by simp only[aC] at h;subst h;cases r;simp only[aU] at e;cases e;exact ⟨⟨_,.bool b⟩,rfl⟩
 | .int i,p,v,u,h,r,e=>by simp only[aC] at h;subst h;obtain ⟨t,rfl⟩:=r;simp only[aU] at e;cases e;exact ⟨⟨_,.int i t⟩,rfl⟩
 | .str x,p,v,u,h,r,e=>by simp only[aC] at h;obtain ⟨rfl,_,hk⟩:=h;obtain ⟨t,rfl⟩:=r;simp only[aU] at e;cases e;exact ⟨⟨_,.str x t⟩,by simpa only [PyData.canLay0] using hk⟩
 | .tup ds,p,v,u,h,r,e=>by
  simp only[aC] at h;obtain ⟨a,xs,rfl,q,rl⟩:=h;cases r;simp only[aU] at e;cases ep:bZ ds with
  | none=>rw[ep] at e;cases e
  | some ps=>rw[ep] at e;cases e;obtain ⟨its,rv,⟨o,h1,h2,n,h3⟩,_⟩:=I.tuple (aG.seqT sF q);obtain ⟨⟨as,ra⟩,hc⟩:=mR I sF ds ps xs its rl rv ep;exact ⟨⟨_,.tuple h1 h2 h3 (by simpa using ra)⟩,by simpa only [PyData.canLay0] using hc⟩
 | .lst ds,p,v,u,h,r,e=>by
  simp only[aC] at h;obtain ⟨a,xs,rfl,q,rl⟩:=h;cases r;simp only[aU] at e;cases ep:bZ ds with
  | none=>rw[ep] at e;cases e
  | some ps=>rw[ep] at e;cases e;obtain ⟨its,rv,⟨o,n,h1,h2,_,h3⟩,_⟩:=I.list (sF.seq q);obtain ⟨⟨as,ra⟩,hc⟩:=mR I sF ds ps xs its rl rv ep;exact ⟨⟨_,.list h1 h2 h3 (by simpa using ra)⟩,by simpa only [PyData.canLay0] using hc⟩
 | .dct _,p,v,u,h,r,e=>by simp only[aU] at e;cases e
 | .ty _,p,v,u,h,r,e=>by simp only[aU] at e;cases e
 | .ob _,p,v,u,h,r,e=>by simp only[aU] at e;cases e
 | .ins _ _,p,v,u,h,r,e=>by simp only[aU] at e;cases e
 | .fn _,p,v,u,h,r,e=>by simp only[aU] at e;cases e
 | .exn _,p,v,u,h,r,e=>by simp only[aU] at e;cases e
 | .set _,p,v,u,h,r,e=>by simp only[aU] at e;cases e
theorem mR(I:Inv X aA σ H s)(sF:aG F H):∀ (ds:List D) (ps:List PyData) (xs:List V) (us:List Value),aE X.K F ds xs->aO xs us->bZ ds=some ps->(∃ as,ReadsAll s.heap us ps as)/\PyData.canLayAll0 ps=true
 | [],ps,xs,us,h,r,e=>by simp only[aE] at h;subst h;cases r;simp only[bZ] at e;cases e;exact ⟨⟨_,.nil⟩,rfl⟩
 | d::ds,ps,xs,us,h,r,e=>by
  simp only[aE] at h;obtain ⟨y,ys,rfl,hd,hl⟩:=h;cases r with
  | cons r1 r2 =>
   simp only[bZ] at e;cases e1:aU d with
   | none=>rw[e1] at e;cases e
   | some p =>
    cases e2:bZ ds with
    | none=>rw[e1,e2] at e;cases e
    | some ps'=>rw[e1,e2] at e;cases e;obtain ⟨⟨as,ra⟩,hc⟩:=mQ I sF d p y _ hd r1 e1;obtain ⟨⟨bs,rb⟩,hc'⟩:=mR I sF ds ps' ys _ hl r2 e2;exact ⟨⟨_,.cons ra rb⟩,by simp only[PyData.canLayAll0,hc,hc',Bool.and_self]⟩
end
theorem uJ(I:Inv X aA σ H s)(sF:aG F H){m:Md}{d:D}{p:PyData}{v:V}{u:Value}(h:Rp X.K F H m d v)(r:aN v u)(e:aU d=some p):(∃ as,Reads s.heap u p as)/\p.canLay0=true:=by
 cases m with
 | fz=>exact mQ I sF d p v u h r e
 | _ =>
  obtain ⟨a,rfl,n,t⟩:=h;cases d with
  | lst ds =>
   obtain ⟨xs,q,rl⟩:=t;cases r;simp only[aU] at e;cases ep:bZ ds with
   | none=>rw[ep] at e;cases e
   | some ps=>rw[ep] at e;cases e;obtain ⟨its,rv,⟨o,n,h1,h2,_,h3⟩,_⟩:=I.list (SqL.of q);obtain ⟨⟨as,ra⟩,hc⟩:=mR I sF ds ps xs its rl rv ep;exact ⟨⟨_,.list h1 h2 h3 (by simpa using ra)⟩,by simpa only [PyData.canLay0] using hc⟩
  | dct ds=>simp only[aU] at e;cases e
  | ins _ _=>simp only[aU] at e;cases e
  | set _=>simp only[aU] at e;cases e
  | _=>exact t.elim
end
def fL(p:PyData):Bool:=decide (p.depth<=50)
def eqF(neg:Bool):Md->D->Md->D->Option (Md×D):=λ_ x _ y=>match aU x,aU y with
 | some p,some q=>if (fL p&&fL q)=true then some (.fz,.bl (if neg then !PyData.eqv p q else PyData.eqv p q)) else none
 | _,_=>none
section
variable {C:Cw}{X:Cx}
theorem uK{f:Value->Value->Sem Value}{neg:Bool}(hu:X.A.units+64<cLine)(rule:∀ (s:Shared) (a b:Value) (da db:PyData) (as bs:List Addr) (Q:VSP),Reads s.heap a da as->Reads s.heap b db bs->da.canLay0=true->db.canLay0=true->X.A.units+min da.depth db.depth<cLine->Q (.bool (if neg then !PyData.eqv da db else PyData.eqv da db)) s->wpAny (model X.prog X.w) X.A (f a b) Q X.xe s):OpD C X f (eqF neg):=by
 refine ⟨λx y H Q=>∃ F m n d e p q,aG F H/\Rp X.K F H m d x/\Rp X.K F H n e y/\aU d=some p/\aU e=some q/\(fL p&&fL q)=true/\Q (.bl (if neg then !PyData.eqv p q else PyData.eqv p q)) H,?_,?_⟩
 . intro aA s σ H x y v u Q I rx ry h;obtain ⟨F,m,n,d,e,p,q,sF,hd,he,ep,eq,hs,hQ⟩:=h;obtain ⟨⟨as,ra⟩,ca⟩:=uJ I sF hd rx ep;obtain ⟨⟨bs,rb⟩,cb⟩:=uJ I sF he ry eq;rw[aOI] at hs;have h1:=aOX hs.1;refine rule s v u p q as bs _ ra rb ca cb (by have:=Nat.min_le_left p.depth q.depth;omega) ⟨.bl _,H,I,rfl,hQ⟩
 . intro F H m x n y v u k d Q s rx ry e w;unfold eqF at e;split at e
   . rename_i p q ep eq;split at e
     . rename_i hc;cases e;exact ⟨F,m,n,x,y,p,q,s,rx,ry,ep,eq,hc,w _ F H (.refl s) (bV _) (by intro z;cases z)⟩
     . cases e
   . cases e
theorem aFF(hu:X.A.units+64<cLine):OpD C X (compareOp .Eq) (eqF false):=uK hu λs a b da db as bs Q ra rb ca cb hd q=>SeqAt.compareEq_reads ra rb ca cb hd q
theorem aFG(hu:X.A.units+64<cLine):OpD C X (compareOp .NotEq) (eqF true):=uK hu λs a b da db as bs Q ra rb ca cb hd q=>SeqAt.compareNe_reads ra rb ca cb hd q
end
section
variable {C:Cw}{X:Cx}{o e:Expr}{es:List Expr}{go:Rho->Res}{gs:Rho->aS}{apos cpos:Pos}{T id:String}{name:Str}
def uL:List D->Option (List Str)
 | []=>some []
 | .str x::r=>(uL r).map (x :: ·)
 | _=>none
def joinD:Md->D->List (Md×D)->Option (Md×D):=λ_ x xs=>match x,xs with
 | .str z,[(_,.lst ds)]=>(match uL ds with
  | some ys=>if (ys.map (·.length)).sum+ys.length * z.length<=sizeLine then some (.fz,.str (Txt.join z ys)) else none
  | none=>none)
 | _,_=>none
end
def spV(K:Fg)(mg:SOV)(n:Nat)(Φ:List D->Res):Sp:=λvs H Q E=>vs.length=n/\∃ F ds,aG F H/\aE K F ds vs/\match Φ ds with
 | .ok m d=>m ≠ .bo/\∀ v F' H',aL F H F' H'->Rp K F' H' m d v->(m=.fr->∀ a,v=.ref a->H a=none)->Q v H'
 | .exc c=>∀ F' H' u,aL F H F' H'->mg c=some u->E u none H'
 | .stuck=>False
structure FnV(P:Program)(w:World)(K:Fg)(mg:SOV)(base:Heap)(CX:CXT)(k:Nat)(x:Str)(n:Nat)(Φ:List D->Res):Prop where
 ex:∃ f fd ps,cQ P w K mg base CX k f fd ps (spV K mg n Φ)/\mg x=some (.ref f)/\PySem.W.keepIn K (.ref f)=true/\eW K fd ps []
def aD(n:Nat)(Φ:List D->Res)(r:aS):Res:=r.thn λxs=>match cK xs with
 | some ds=>if ds.length=n then (match Φ ds with | .ok .bo _=>.stuck | r=>r) else .stuck
 | none=>.stuck
def XOk(CX:CXT)(C:Cw)(X:Cx):Prop:=∀ (aA:LAO) (σ:L2.St) (H:Hp) (s:Shared) (e:Value) (s':Shared),Inv X aA σ H s->CX X.stack H s (λu _ H'=>∃ c,X.mg c=some u/\C.EE c σ H') e s'->X.xe e s'
section
variable {C:Cw}{X:Cx}{e:Expr}{es:List Expr}{gs:Rho->aS}{p pos:Pos}{x:Str}{k n:Nat}{Φ:List D->Res}{CX:CXT}
theorem uM{f:Addr}{fd:FuncData}{ps:List Str}{aA:LAO}{σ:L2.St}{H:Hp}{s:Shared}{Q:VK}{us:List Value}{vs:List V}{E:XK}(F:cQ X.prog X.w X.K X.mg X.base CX k f fd ps (spV X.K X.mg n Φ))(hr:cD k X.A)(hb:eW X.K fd ps [])(hx:∀ e s',CX X.stack H s E e s'->X.xe e s')(I:Inv X aA σ H s)(r:aO vs us)(h:spV X.K X.mg n Φ vs H Q E):wpAny (model X.prog X.w) X.A (call (.ref f) us) (EP X aA σ Q) X.xe s:=by
 have hl:(us++[]).length=ps.length:=by rw[aNP,<- r.length];exact F.len _ _ _ _ h
 have hb':=hb s us I.kIn hl;rw[aNP] at hb';refine wpAny_call (codeAny_mono (F.run X.A X.stack s H ⟨us,[]⟩ us vs Q E hr I.env0 hb' r h) λr s' hq=>?_);cases r with
 | error e=>exact hx e s' hq
 | ok fl =>
  cases fl with
  | ret u=>exact I.after hq
  | next=>exact False.elim hq
  | brk=>exact False.elim hq
  | cont=>exact False.elim hq
theorem aFH(F:FnV X.prog X.w X.K X.mg X.base CX k x n Φ)(hr:cD k X.A)(hx:XOk CX (C.at X) X)(hg:Gl X x)(ha:PAv C X (e::es) gs)(hdb:(x==("__debug__" : Str))=false:=by decide)(he:starEach (e::es) X.env=(false,eval e X.env)::starEach es X.env:=by rfl)(hpl:(backTo pos (starEach es X.env)).any (·.1)=false:=by rfl):PV C X (.Call (.Name x p) (e::es) [] pos) (λρ=>aD n Φ (gs ρ)):=by
 obtain ⟨f,fd,ps,FF,hm,hk,hb⟩:=F.ex;intro aA s σ H Q I h;rw[a9] at h;obtain ⟨ρ,F,R,w⟩:=h;refine aN2 (lX I hg hm ?_ hdb);refine PySem.W.callWith_K (h₀:=X.base) I.ok.mod.kin hk (thn (ha pos aA s σ H (λvs H1=>spV X.K X.mg n Φ vs H1 Q λu _ H'=>∃ c,X.mg c=some u/\C.EE c σ H') I ?_) λus s1 ⟨vs,H1,I1,r,q⟩=>⟨I1.kIn,uM FF hr hb (λe s' hc=>hx aA σ H1 s1 e s' I1 hc) I1 r q⟩) he hpl;refine ⟨ρ,F,R,?_⟩;cases er:gs ρ with
 | stuck=>rw[er] at w;exact w
 | exc c=>rw[er] at w;exact w
 | ok xs =>
  rw[er] at w;intro vs F1 H1 s1 r1;have w1:aX (C.at X) F1 H1 σ (aD n Φ (.ok xs)) Q:=aX.step s1 w;unfold aD at w1;rw[aS.thn_ok] at w1;cases ef:cK xs with
  | none=>rw[ef] at w1;exact w1.elim
  | some ds =>
   rw[ef] at w1;dsimp only at w1;split at w1
   . rename_i hn;have rl:=r1.fz ef;refine ⟨by rw[rl.length];exact hn,F1,ds,s1.sub,rl,?_⟩
     cases ep:Φ ds with
     | stuck=>rw[ep] at w1;exact w1
     | exc c=>rw[ep] at w1;exact λF' H' u st hu=>⟨c,hu,w1 F' H' st⟩
     | ok m d =>
      rw[ep] at w1;cases m with
      | bo=>exact w1.elim
      | fz=>exact ⟨by decide,w1⟩
      | fr=>exact ⟨by decide,w1⟩
   . exact w1.elim
end
def endR:aB->Res
 | .nx _=>.ok .fz .non
 | .rt m d=>.ok m d
 | .exc c _=>.exc c
 | _=>.stuck
def fM(n:Nat)(ds:List D):Rho:=ds.map (λd=>some (false,d))++List.replicate (n-ds.length) none
theorem aFI{K:Fg}{F H:Hp}{N:List Str}{ds:List D}{vs:List V}(s:aG F H)(r:aE K F ds vs):aZ K F H F H (eJ N vs) (fM N.length ds):=by
 have low:∀ (i:Nat) (m:Bool) (d:D),(fM N.length ds)[i]? = some (some (m,d))->m=false/\∃ v,(eJ N vs)[i]? = some (some v)/\aC K F d v:=λi m d e=>by
  unfold fM at e;unfold L2.eJ;by_cases hi:i<ds.length
  . rw[aNW (by simpa using hi),aNX,aPC hi] at e
    cases e;obtain ⟨v,ev,rv⟩:=r.get' (aPC hi);exact ⟨rfl,v,by rw[aNW (by simpa[r.length] using hi),aNX,ev];rfl,rv⟩
  . rw[aNU (by simpa using hi),aNV] at e
    split at e <;> cases e
 refine ⟨.refl s,λi m d e=>?_,λi j d d' a _ e1 _ _ _=>?_,by simp[L2.eJ,fM,r.length]⟩
 . obtain ⟨rfl,v,e1,rv⟩:=low i m d e;exact ⟨v,e1,rv,by intro z;cases z⟩
 . have:=(low i true d e1).1;cases this
def mS(ns:List Int):List D:=[.lst (ns.map .int)]
theorem uN{K:Fg}{F:Hp}:∀ ns:List Int,aE K F (ns.map D.int) (ns.map V.int)
 | []=>aE.nil
 | n::ns=>aE.cons (by simp only[aC]) (uN ns)
def noK:Md->D->Md->D->Option (Md×D):=λ_ _ _ _=>none
abbrev fAdd:Md->D->Md->D->Option (Md×D):=orO (fI (λ_ _=>true) λi j=>.int (i+j)) (fS (λi j=>decide (i.length+j.length<=sizeLine)) λi j=>.str (i++j))
abbrev fSub:Md->D->Md->D->Option (Md×D):=fI (λ_ _=>true) λi j=>.int (i-j)
abbrev fMul:Md->D->Md->D->Option (Md×D):=orO (fI (λi j=>(bW i&&bW j)||(w64 i||w64 j)) λi j=>.int (i * j)) gY
abbrev fMod:Md->D->Md->D->Option (Md×D):=fI (λ_ j=>decide (0<j)) λi j=>.int (i % j)
abbrev fDiv:Md->D->Md->D->Option (Md×D):=fI (λ_ j=>decide (0<j)&&bW j) λi j=>.int (i / j)
abbrev fPow:Md->D->Md->D->Option (Md×D):=fI (λi j=>decide (0<=j)&&decide (j<=1000000)&&decide (i.natAbs<2 ^ 64)) λi j=>.int (i ^ j.toNat)
abbrev fLt:Md->D->Md->D->Option (Md×D):=fI (λ_ _=>true) λi j=>.bl (decide (i<j))
abbrev fLe:Md->D->Md->D->Option (Md×D):=fI (λ_ _=>true) λi j=>.bl (decide (i<=j))
abbrev fGt:Md->D->Md->D->Option (Md×D):=fI (λ_ _=>true) λi j=>.bl (decide (j<i))
abbrev fGe:Md->D->Md->D->Option (Md×D):=fI (λ_ _=>true) λi j=>.bl (decide (j<=i))
abbrev fEq:Md->D->Md->D->Option (Md×D):=orO (eqF false) noK
abbrev fNe:Md->D->Md->D->Option (Md×D):=orO (eqF true) noK
abbrev fIn:Md->D->Md->D->Option (Md×D):=fS (λ_ _=>true) λi j=>.bl (iV i j)
abbrev aFJ:Md->D->Md->D->Option (Md×D):=fS (λ_ _=>true) λi j=>.bl (!iV i j)
def IsB(φ:Md->D->Md->D->Option (Md×D)):Prop:=∀ m x n y k d,φ m x n y=some (k,d)->∃ t,k=.fz/\d=.bl t
theorem mU{c:Int->Int->Bool}{g:Int->Int->Bool}:IsB (fI c λi j=>.bl (g i j)):=λm x n y k d e=>by
 unfold fI at e;split at e
 . split at e
   . cases e;exact ⟨_,rfl,rfl⟩
   . cases e
 . cases e
theorem uO{c:Str->Str->Bool}{g:Str->Str->Bool}:IsB (fS c λi j=>.bl (g i j)):=λm x n y k d e=>by
 unfold fS at e;split at e
 . split at e
   . cases e;exact ⟨_,rfl,rfl⟩
   . cases e
 . cases e
theorem kQ{φ ψ}(h:IsB φ)(h':IsB ψ):IsB (orO φ ψ):=λm x n y k d e=>by
 unfold orO at e;cases e1:φ m x n y with
 | none=>rw[e1] at e;exact h' _ _ _ _ _ _ e
 | some p=>rw[e1] at e;cases e;exact h _ _ _ _ _ _ e1
theorem uP{neg:Bool}:IsB (eqF neg):=λm x n y k d e=>by
 unfold eqF at e;split at e
 . split at e
   . cases e;exact ⟨_,rfl,rfl⟩
   . cases e
 . cases e
section
variable {C:Cw}{X:Cx}
theorem pN{f:Value->Value->Sem Value}:OpD C X f noK:=⟨λ_ _ _ _=>False,λ_ _ _ _ _ _ _ _ _ _ _ _ h=>h.elim,λ_ _ _ _ _ _ _ _ _ _ _ _ _ _ e _=>by cases e⟩
theorem o_add:OpD C X (binaryOp .Add) fAdd:=aDM.or aDY
theorem o_mul:OpD C X (binaryOp .Mult) fMul:=aDP.or aEE
theorem o_eq(hu:X.A.units+64<cLine):OpD C X (compareOp .Eq) fEq:=(aFF hu).or pN
theorem o_ne(hu:X.A.units+64<cLine):OpD C X (compareOp .NotEq) fNe:=(aFG hu).or pN
def phi(n N:Nat)(g:Rho->aB):List D->Res:=λds=>if ds.length=n then endR (g (fM N ds)) else .stuck
end
def kR(scope sc:Scope):List (Str×NameKind):=scope.names.map λ(n,k)=>if (k == .free&&sc.kind == .function&&sc.names.lookup n==some .cell) then (n,.cell) else (n,k)
theorem aFK:bootBuiltins "len" = some (.builtin "len"):=by decide +kernel
theorem aFL:bootBuiltins "isinstance" = some (.builtin "isinstance"):=by decide +kernel
theorem aFM:bootBuiltins "all" = some (.builtin "all"):=by decide +kernel
theorem aFN:bootBuiltins "int" = some (.type "int"):=by decide +kernel
theorem aFO:bootBuiltins "bool" = some (.type "bool"):=by decide +kernel
theorem aFP:bootBuiltins "str" = some (.type "str"):=by decide +kernel
theorem aFQ:bootBuiltins "tuple" = some (.type "tuple"):=by decide +kernel
theorem aFR:bootBuiltins "list" = some (.type "list"):=by decide +kernel
theorem uQ:bootBuiltins "dict" = some (.type "dict"):=by decide +kernel
structure CI where
 name:Str
 ups:List Str
 flds:List Str
 meths:List (Str×Str×Nat)
def cC:Expr->Bool | .Starred ..=>false | _=>true
theorem cU{x:Expr}{es:List Expr}{env:Env}(h:cC x=true):starEach (x::es) env=(false,eval x env)::starEach es env:=by cases x <;> first | rfl | cases h
theorem hU(pos:Pos)(env:Env):∀ {es:List Expr},(∀ x∈es,cC x=true)->(backTo pos (starEach es env)).any (·.1)=false
 | [],_=>rfl
 | x::es,h=>by rw[cU (h x mcs)];show ((false||(backTo pos (starEach es env)).any (·.1))=false);rw[hU pos env λy hy=>h y (mcm hy)];rfl
structure MtV(P:Program)(w:World)(K:Fg)(mg:SOV)(base:Heap)(CX:CXT)(k:Nat)(c m:Str)(n:Nat)(Φ:List D->Res):Prop where
 ex:∃ C f fd ps,PySem.W.nsIn K mainGlobals c=some (some (.ref C))/\Cls K C/\pD K C m f/\cQ P w K mg base CX k f fd ps (spV K mg n Φ)/\eW K fd ps []
structure FlV(K:Fg)(c f:Str):Prop where
 ex:∃ C,PySem.W.nsIn K mainGlobals c=some (some (.ref C))/\Cls K C/\pC K C f
def CI.meth(cl:List CI)(c m:Str):Option (Str×Nat):=match cl.find? (λi=>i.name==c) with
 | some i=>i.meths.lookup m
 | none=>none
section
variable {C:Cw}{X:Cx}{o e:Expr}{es:List Expr}{go:Rho->Res}{gs:Rho->aS}{apos pos:Pos}{m f:Str}{k:Nat}{Φ:Str->List D->Res}{CX:CXT}{cl:List CI}
end
theorem aZ.mut{K:Fg}{F0 H0 F H:Hp}{σ:L2.St}{ρ:Rho}{i:Nat}{d d':D}{a:Addr}{o:HO}(R:aZ K F0 H0 F H σ ρ)(e:ρ[i]? = some (some (true,d)))(ev:σ[i]? = some (some (.ref a)))(t:Top K F (upd H a o) a d'):aZ K F0 H0 F (upd H a o) σ (ρ.set i (some (true,d'))):=by
 obtain ⟨v,ev',rp,hn⟩:=R.slot i true d e;rw[ev] at ev';cases ev';have h0:H0 a=none:=hn rfl a rfl;obtain ⟨a',ea,hf,tt⟩:=rp;cases ea;have hl:i<ρ.length:=(aM3.mp e).1;have st:aL F0 H0 F (upd H a o):=⟨λb u q=>by rw[aR (cJ q h0)];exact R.st.same b u q,R.st.fsame,λb u q=>by rw[aR (cJ q hf)];exact R.st.sub b u q,R.st.new⟩
 refine ⟨st,λj m d2 e2=>?_,λj l d1 d2 b hjl e1 e2 q1 q2=>?_,by rw[aPE];exact R.len⟩
 . by_cases hj:j=i
   . subst hj;rw[aM5 hl] at e2;cases e2;exact ⟨.ref a,ev,⟨a,rfl,hf,t⟩,λ_ b eb=>by cases eb;exact h0⟩
   . rw[aM6 (λz=>hj z.symm)] at e2;obtain ⟨u,eu,ru,hu⟩:=R.slot j m d2 e2;refine ⟨u,eu,?_,hu⟩;cases m with
     | false=>exact ru
     | true =>
      obtain ⟨b,eb,hb,tb⟩:=ru;subst eb;have hba:b≠a:=λz=>by subst z;exact R.apart j i d2 d b hj e2 e eu ev
      refine ⟨b,rfl,hb,?_⟩;cases d2 with
      | lst ds=>obtain ⟨xs,q,r⟩:=tb;exact ⟨xs,by rw[aR hba];exact q,r⟩
      | dct ds=>obtain ⟨xs,q,r⟩:=tb;exact ⟨xs,by rw[aR hba];exact q,r⟩
      | ins c fs=>obtain ⟨C,dx,gs,n,q,r⟩:=tb;exact ⟨C,dx,gs,n,by rw[aR hba];exact q,r⟩
      | set ks=>obtain ⟨S,q,r⟩:=tb;exact ⟨S,by rw[aR hba];exact q,r⟩
      | _=>exact tb.elim
 . have back:∀ (l:Nat) (d2:D),(ρ.set i (some (true,d')))[l]? = some (some (true,d2))->∃ d3,ρ[l]? = some (some (true,d3)):=λl d2 q=>by
     by_cases hl':l=i
     . subst hl';exact ⟨d,e⟩
     . rw[aM6 (λz=>hl' z.symm)] at q;exact ⟨d2,q⟩
   obtain ⟨d3,q3⟩:=back j d1 e1;obtain ⟨d4,q4⟩:=back l d2 e2;exact R.apart j l d3 d4 b hjl q3 q4 q1 q2
section
variable {C:Cw}{X:Cx}{e:Expr}{g:Rho->Res}{pos p pos':Pos}{f x:Str}{cl:List CI}
end
structure MkV0(K:Fg)(mg:SOV)(c:Str):Prop where
 ex:∃ C,PySem.W.nsIn K mainGlobals c=some (some (.ref C))/\mg c=some (.ref C)/\PySem.W.makesIn K C=true/\PySem.W.findIn K (.ref C) "__init__" = some (some (.builtin "object.__init__"))/\PySem.W.keepIn K (.ref C)=true
def spI(K:Fg)(mg:SOV)(c:Str)(n:Nat)(Φ:List D->Res):Sp:=λvs H Q E=>∃ x us dx C H1 F ds,vs=.ref x::us/\us.length=n/\PySem.W.nsIn K mainGlobals c=some (some (.ref C)) /\
 H=upd (upd H1 dx (.own x)) x (.ins C dx [])/\H1 x=none/\H1 dx=none/\dx≠x/\aG F H1/\aE K F ds us/\match Φ ds with
 | .ok _ d=>∀ F' H',aL F H1 F' H'->Rp K F' H' .fr d (.ref x)->Q .non H'
 | .exc c=>∀ F' H' u,aL F H1 F' H'->mg c=some u->E u none H'
 | .stuck=>False
structure InV(P:Program)(w:World)(K:Fg)(mg:SOV)(base:Heap)(CX:CXT)(k:Nat)(c:Str)(n:Nat)(Φ:List D->Res):Prop where
 ex:∃ C f fd ps,PySem.W.nsIn K mainGlobals c=some (some (.ref C))/\mg c=some (.ref C)/\Mk K C f/\cQ P w K mg base CX k f fd ps (spI K mg c n Φ)/\eW K fd ps []
section
variable {C:Cw}{X:Cx}{e:Expr}{es:List Expr}{gs:Rho->aS}{p pos:Pos}{x c:Str}{k n:Nat}{Φ:List D->Res}{CX:CXT}
end
structure IsV(K:Fg)(mg:SOV)(cl:List CI)(c:Str):Prop where
 ex:∃ C,mg c=some (.ref C)/\(∀ t∈["NoneType", "bool", "int", "str", "tuple", "list", "dict"],PySem.W.kitOne K (.type t) (.ref C)=some false) /\
  ∀ i∈cl,∃ C',PySem.W.nsIn K mainGlobals i.name=some (some (.ref C'))/\Cls K C'/\PySem.W.findIn K (.ref C') "__class__" = some (some (.builtin "object.__class__")) /\
   PySem.W.specialIn K (.builtin "object.__class__") "__get__" = some (some (.builtin "getset_descriptor.__get__"))/\PySem.W.takesIn K (.builtin "object.__class__")=some true/\PySem.W.mroIn K C' (.type "object")=some true /\
   PySem.W.kitOne K (.ref C') (.ref C)=some (i.ups.contains c)
section
variable {C:Cw}{X:Cx}{e:Expr}{g:Rho->Res}{p q pos:Pos}{c:Str}{cl:List CI}
end
section
variable {C:Cw}{X:Cx}{a b c e:Expr}{ga gb gc g:Rho->Res}{gs:Rho->aS}{pos:Pos}
def d7:D->Bool | .non=>true | _=>false
theorem uR{K:Fg}{F H:Hp}{m:Md}{d:D}{v:V}(s:aG F H)(r:Rp K F H m d v):decide (v=.non)=d7 d:=by
 cases d with
 | non=>cases r.non;rfl
 | bl _=>cases r.bl;rfl
 | int _=>cases r.int;rfl
 | str _=>cases r.str.1;rfl
 | tup _=>obtain ⟨_,_,rfl,_⟩:=r.seqT s;rfl
 | lst _=>obtain ⟨_,_,rfl,_⟩:=r.seqL s;rfl
 | dct _=>obtain ⟨_,_,rfl,_⟩:=r.dict s;rfl
 | ty _=>cases r.ty;rfl
 | ob _=>cases r.ob;rfl
 | ins _ _=>obtain ⟨_,_,_,_,rfl,_⟩:=r.ins s;rfl
 | fn _ =>
  cases m with
  | fz=>have r:aC K F _ v:=r;simp only[aC] at r;obtain ⟨_,rfl,_⟩:=r;rfl
  | fr=>obtain ⟨_,_,_,q⟩:=r;exact q.elim
  | bo=>obtain ⟨_,_,_,q⟩:=r;exact q.elim
 | exn _ =>
  cases m with
  | fz=>have r:aC K F _ v:=r;simp only[aC] at r;obtain ⟨_,_,rfl,_⟩:=r;rfl
  | fr=>obtain ⟨_,_,_,q⟩:=r;exact q.elim
  | bo=>obtain ⟨_,_,_,q⟩:=r;exact q.elim
 | set _ =>
  cases m with
  | fz=>have r:aC K F _ v:=r;simp only[aC] at r;obtain ⟨_,_,rfl,_⟩:=r;rfl
  | fr=>obtain ⟨_,rfl,_,_⟩:=r;rfl
  | bo=>obtain ⟨_,rfl,_,_⟩:=r;rfl
def fIs(neg:Bool):Md->D->Md->D->Option (Md×D):=λ_ x _ y=>match y with
 | .non=>some (.fz,.bl (if neg then !d7 x else d7 x))
 | _=>none
theorem aFS:OpD C X (compareOp .Is) (fIs false):=by
 refine ⟨_,aBV,λF H m x n y v u k d Q s rx ry e w=>?_⟩;unfold fIs at e;split at e
 . cases e;cases ry.non;exact ⟨rfl,by rw[uR s rx];exact w _ F H (.refl s) (bV _) (by intro z;cases z)⟩
 . cases e
theorem aFT:OpD C X (compareOp .IsNot) (fIs true):=by
 refine ⟨_,aBW,λF H m x n y v u k d Q s rx ry e w=>?_⟩;unfold fIs at e;split at e
 . cases e;cases ry.non;exact ⟨rfl,by rw[uR s rx];exact w _ F H (.refl s) (bV _) (by intro z;cases z)⟩
 . cases e
theorem uS{neg:Bool}:IsB (fIs neg):=λm x n y k d e=>by
 unfold fIs at e;split at e
 . cases e;exact ⟨_,rfl,rfl⟩
 . cases e
theorem aFU:OpR X (binaryOp .Add) (λx y H Q=>∃ l b xs ys,x=.ref l/\y=.ref b/\SqL X.K H l xs/\SqL X.K H b ys/\xs.length+ys.length<=sizeLine/\∀ p,H p=none->Q (.ref p) (upd H p (.lst (xs++ys)))):=by
 intro aA s σ H x y v u Q I rx ry h;obtain ⟨l,b,xs,ys,rfl,rfl,hl,hb,hz,q⟩:=h;cases rx;cases ry;obtain ⟨its,r1,p1,_⟩:=I.list hl;obtain ⟨its2,r2,p2,_⟩:=I.list hb;obtain ⟨⟨cls,dd,data,sl⟩,n,ho,hc,hd1,hd⟩:=p1;obtain ⟨⟨cls2,dd2,data2,sl2⟩,n2,ho2,hc2,hd2',hd2⟩:=p2;simp only at hc hd hc2 hd2;subst hc hd hc2 hd2;have e:its.toArray++its2.toArray=(its++its2).toArray:=by simp
 have l1:=r1.length;have l2:=r2.length;refine aN3 ⟨_,ho,rfl⟩ ⟨_,ho2,rfl⟩ noFill_list_add seq_list_add PySem.F.slot_list_add PySem.F.entry_list_add (PySem.F.args_list_add_2 _ _) (list_addW l b its.toArray its2.toArray n n2 dd dd2 sl sl2 (by simp;omega)) ⟨ho,ho2,?_⟩
 rw[e];refine ⟨.ref s.heap.objs.size,_,I.laid (t':=s.toks) (o:=.lst (xs++ys)) (λb ob q=>hps q) (aNH _) ?_,rfl,q _ (I.hok.fresh (aNH _))⟩;exact ⟨by rw[aN0];exact hz,_,0,r1.append r2,aMQ _ rfl⟩
theorem aFV:OpR X (binaryOp .Add) (λx y H Q=>∃ l b xs ys,x=.ref l/\y=.ref b/\SqT X.K H l xs/\SqT X.K H b ys/\xs.length+ys.length<=sizeLine/\(xs=[]->Q (.ref b) H)/\(xs≠[]->ys=[]->Q (.ref l) H)/\(xs≠[]->ys≠[]->∀ p,H p=none->Q (.ref p) (upd H p (.tup (xs++ys))))):=by
 intro aA s σ H x y v u Q I rx ry h;obtain ⟨l,b,xs,ys,rfl,rfl,hl,hb,hz,q0,q1,q2⟩:=h;cases rx;cases ry;obtain ⟨its,r1,p1,_⟩:=I.tuple hl;obtain ⟨its2,r2,p2,_⟩:=I.tuple hb;have n1:=r1.nil_iff;have n2:=r2.nil_iff;have l1:=r1.length;have l2:=r2.length;by_cases hv:its=[]
 . obtain ⟨⟨cls,dd,data,sl⟩,ho,hc,n,hd⟩:=id p1;obtain ⟨⟨cls2,dd2,data2,sl2⟩,ho2,hc2,n2',hd2⟩:=id p2;simp only at hc hd hc2 hd2;subst hc hd hc2 hd2;exact aN3 ⟨_,ho,rfl⟩ ⟨_,ho2,rfl⟩ aN4 seq_tuple_add aN5 aN6 (aN7 _ _)
     (tuple_addW0 l b its.toArray its2.toArray n n2' dd dd2 sl sl2 (by simp[hv])) ⟨ho,ho2,⟨.ref b,H,I,rfl,q0 (n1.mp hv)⟩⟩
 . refine HT.aCC p1 p2 hv (λz=>⟨.ref l,H,I,rfl,q1 (λw=>hv (n1.mpr w)) (n2.mp z)⟩) (λz=>?_) (by omega)
   refine ⟨.ref s.heap.objs.size,_,I.laid (t':=s.toks) (o:=.tup (xs++ys)) (λb ob q=>hps q) (aNH _) ?_,rfl,q2 (λw=>hv (n1.mpr w)) (λw=>z (n2.mpr w)) _ (I.hok.fresh (aNH _))⟩;exact ⟨by rw[aN0];exact hz,_,r1.append r2,fF.new _ _⟩
def mV:Md->D->Md->D->Option (Md×D):=λm x n y=>match x,y with
 | .lst xs,.lst ys=>if xs.length+ys.length<=sizeLine then some (.fr,.lst (xs++ys)) else none
 | .tup xs,.tup ys=>if xs.length+ys.length<=sizeLine then some (.fz,.tup (xs++ys)) else none
 | _,_=>none
theorem aE.nilIff{K:Fg}{F:Hp}{ds:List D}{xs:List V}(h:aE K F ds xs):xs=[]↔ds=[]:=by
 have:=h.length;constructor
 . intro e;subst e;cases ds with | nil=>rfl | cons _ _=>simp at this
 . intro e;subst e;cases xs with | nil=>rfl | cons _ _=>simp at this
theorem aFW:OpD C X (binaryOp .Add) mV:=by
 refine ⟨_,aFU.or aFV,λF H m x n y v u k d Q s rx ry e w=>?_⟩;unfold mV at e;split at e
 . rename_i xs ys;split at e
   . rename_i hz;cases e;obtain ⟨a,us,rfl,q1,r1⟩:=rx.seqL s;obtain ⟨b,vs,rfl,q2,r2⟩:=ry.seqL s;refine .inl ⟨a,b,us,vs,rfl,rfl,q1,q2,by rw[r1.length,r2.length];exact hz,λp hp=>?_⟩
     exact w (.ref p) F _ (aL.fresh _ s hp) ⟨p,rfl,s.free hp,_,bU,r1.append r2⟩ λ_ a ea=>by cases ea;exact hp
   . cases e
 . rename_i xs ys;split at e
   . rename_i hz;cases e;have ex:=rx;have ey:=ry;obtain ⟨a,us,rfl,q1,r1⟩:=rx.seqT s;obtain ⟨b,vs,rfl,q2,r2⟩:=ry.seqT s;have fz:∀ {m:Md} {zs:List D} {c:Addr},Rp X.K F H m (.tup zs) (.ref c)->aC X.K F (.tup zs) (.ref c):=λ{m zs c} h=>by
       cases m with
       | fz=>exact h
       | fr=>obtain ⟨_,_,_,q⟩:=h;exact q.elim
       | bo=>obtain ⟨_,_,_,q⟩:=h;exact q.elim
     refine .inr ⟨a,b,us,vs,rfl,rfl,q1,q2,by rw[r1.length,r2.length];exact hz,λz=>?_,λ_ z=>?_,λ_ _ p hp=>?_⟩
     . have:xs=[]:=r1.nilIff.mp z;subst this;exact w (.ref b) F H (.refl s) (fz ey) (by intro z;cases z)
     . have:ys=[]:=r2.nilIff.mp z;subst this;rw[aNP] at w;exact w (.ref a) F H (.refl s) (fz ex) (by intro z;cases z)
     . exact w (.ref p) _ _ (aL.laid (.tup (us++vs)) s hp) (aC.tup_of (s.free hp) (r1.append r2)) (by intro z;cases z)
   . cases e
 . cases e
def cM:D->Bool | .non | .bl _ | .int _ | .str _=>true | _=>false
def eqD:D->D->Bool
 | .non,.non=>true
 | .bl a,.bl b=>a==b
 | .bl a,.int b=>(if a then 1 else 0)==b
 | .int a,.bl b=>a==(if b then 1 else 0)
 | .int a,.int b=>a==b
 | .str a,.str b=>a==b
 | _,_=>false
def i4(neg:Bool):Md->D->Md->D->Option (Md×D):=λ_ x _ y=>match y with
 | .lst ys=>if (cM x&&ys.all cM)=true then some (.fz,.bl (if neg then !(ys.any λy=>eqD y x) else (ys.any λy=>eqD y x))) else none
 | .tup ys=>if (cM x&&ys.all cM)=true then some (.fz,.bl (if neg then !(ys.any λy=>eqD y x) else (ys.any λy=>eqD y x))) else none
 | _=>none
def vOf:D->V | .non=>.non | .bl b=>.bl b | .int i=>.int i | .str x=>.str x | _=>.non
theorem pO{K:Fg}{F H:Hp}{m:Md}{d:D}{v:V}(h:cM d=true)(r:Rp K F H m d v):v=vOf d:=by
 cases d with
 | non=>exact r.non
 | bl _=>exact r.bl
 | int _=>exact r.int
 | str _=>exact r.str.1
 | _=>cases h
theorem pP{K:Fg}{F:Hp}:∀ {ds:List D} {xs:List V},ds.all cM=true->aE K F ds xs->xs=ds.map vOf
 | [],_,_,r=>by simp only[aE] at r;exact r
 | d::ds,_,h,r=>by simp only[aE] at r;obtain ⟨y,ys,rfl,r1,r2⟩:=r;rw[aOL,aOI] at h;rw[aOR,pO (H:=F) (m:=.fz) h.1 r1,pP h.2 r2]
theorem pQ{d:D}(h:cM d=true):eX (vOf d)=true:=by cases d <;> first | rfl | cases h
theorem aFX{x y:D}(hx:cM x=true)(hy:cM y=true):eqV (vOf x) (vOf y)=eqD x y:=by cases x <;> cases y <;> first | rfl | (cases hx;done) | (cases hy;done)
theorem pR{x:D}(hx:cM x=true):∀ {ds:List D},ds.all cM=true->inV (vOf x) (ds.map vOf)=ds.any λy=>eqD y x
 | [],_=>rfl
 | d::ds,h=>by rw[aOL,aOI] at h;show (eqV (vOf d) (vOf x)||inV (vOf x) (ds.map vOf))=(eqD d x||ds.any _);rw[aFX h.1 hx,pR hx h.2]
theorem pS:∀ {ds:List D},ds.all cM=true->(ds.map vOf).all eX=true
 | [],_=>rfl
 | d::ds,h=>by rw[aOL,aOI] at h;rw[aOR,aOL,pQ h.1,pS h.2];rfl
theorem uT{neg:Bool}{f:Value->Value->Sem Value}(o:OpR X f (rIn X.K neg)):OpD C X f (i4 neg):=by
 refine ⟨_,o,λF H m x n y v u k d Q s rx ry e w=>?_⟩;unfold i4 at e;split at e
 . rename_i ys;split at e
   . rename_i hf;rw[aOI] at hf;cases e;obtain ⟨b,vs,rfl,q2,r2⟩:=ry.seqL s;have ev:=pO hf.1 rx;have es:=pP hf.2 r2;subst ev;subst es;exact ⟨b,_,rfl,.inl q2,pQ hf.1,pS hf.2,by rw[pR hf.1 hf.2];exact w _ F H (.refl s) (bV _) (by intro z;cases z)⟩
   . cases e
 . rename_i ys;split at e
   . rename_i hf;rw[aOI] at hf;cases e;obtain ⟨b,vs,rfl,q2,r2⟩:=ry.seqT s;have ev:=pO hf.1 rx;have es:=pP hf.2 r2;subst ev;subst es;exact ⟨b,_,rfl,.inr q2,pQ hf.1,pS hf.2,by rw[pR hf.1 hf.2];exact w _ F H (.refl s) (bV _) (by intro z;cases z)⟩
   . cases e
 . cases e
theorem uU{neg:Bool}:IsB (i4 neg):=λm x n y k d e=>by
 unfold i4 at e;split at e
 . split at e
   . cases e;exact ⟨_,rfl,rfl⟩
   . cases e
 . split at e
   . cases e;exact ⟨_,rfl,rfl⟩
   . cases e
 . cases e
def i6:List (Md×D)->Option (Md×D)
 | [(_,.lst ds)]=>some (.fz,.tup ds)
 | [(.fz,.tup ds)]=>some (.fz,.tup ds)
 | _=>none
def i7:List (Md×D)->Option (Md×D)
 | [(_,.lst ds)]=>some (.fr,.lst ds)
 | [(_,.tup ds)]=>some (.fr,.lst ds)
 | _=>none
def pT:List (Md×D)->Option (Md×D)
 | [(_,.int i)]=>some (.fz,.int i)
 | [(_,.bl b)]=>some (.fz,.int (if b then 1 else 0))
 | _=>none
def mW(i:Int):Bool:=decide (i.natAbs.log2<1920)
def i8(i:Int):Str:=Str.ofString (toString i)
def kS:List (Md×D)->Option (Md×D)
 | [(_,.int i)]=>if mW i=true then some (.fz,.str (i8 i)) else none
 | _=>none
theorem aFY:dH X (.type "tuple") i6:=by
 refine ⟨_,aCY,λF H xs vs k d Q s rx e w=>?_⟩;unfold i6 at e;split at e
 . rename_i m ds;cases e;obtain ⟨v,rfl,r⟩:=rx.one;obtain ⟨a,xs,rfl,q,rl⟩:=r.seqL s;exact ⟨a,xs,rfl,.inl ⟨q,λl hl=>w (.ref l) _ _ (aL.laid (.tup xs) s hl) (aC.tup_of (s.free hl) rl) (by intro z;cases z)⟩⟩
 . rename_i ds;cases e;obtain ⟨v,rfl,r⟩:=rx.one;have r0:=r;obtain ⟨a,xs,rfl,q,rl⟩:=r.seqT s;exact ⟨a,xs,rfl,.inr ⟨q,w (.ref a) F H (.refl s) r0 (by intro z;cases z)⟩⟩
 . cases e
theorem aFZ:dH X (.type "list") i7:=by
 refine ⟨_,aCX,λF H xs vs k d Q s rx e w=>?_⟩;unfold i7 at e;split at e
 . rename_i m ds;cases e;obtain ⟨v,rfl,r⟩:=rx.one;obtain ⟨a,xs,rfl,q,rl⟩:=r.seqL s;exact ⟨a,xs,rfl,.inl q,λl hl=>w (.ref l) F _ (aL.fresh _ s hl) ⟨l,rfl,s.free hl,xs,bU,rl⟩ λ_ a ea=>by cases ea;exact hl⟩
 . rename_i m ds;cases e;obtain ⟨v,rfl,r⟩:=rx.one;obtain ⟨a,xs,rfl,q,rl⟩:=r.seqT s;exact ⟨a,xs,rfl,.inr q,λl hl=>w (.ref l) F _ (aL.fresh _ s hl) ⟨l,rfl,s.free hl,xs,bU,rl⟩ λ_ a ea=>by cases ea;exact hl⟩
 . cases e
theorem aF0:dH X (.type "int") pT:=by
 refine ⟨_,aB4,λF H xs vs k d Q s rx e w=>?_⟩;unfold pT at e;split at e
 . cases e;obtain ⟨v,rfl,r⟩:=rx.one;cases r.int;exact .inl ⟨_,rfl,w _ F H (.refl s) (cE _) (by intro z;cases z)⟩
 . cases e;obtain ⟨v,rfl,r⟩:=rx.one;cases r.bl;exact .inr ⟨_,rfl,w _ F H (.refl s) (cE _) (by intro z;cases z)⟩
 . cases e
end
theorem uV(i:Int):PyData.strOk (Str.ofString (toString i))=true:=by
 unfold PyData.strOk;rw[aOZ];intro c hc;have hc':c∈(Str.ofString (toString i)).cps.toList:=by rw[aO0];exact hc
 have:¬ (c≠45/\(c<48\/57<c)):=λh=>int_text_free' c h i hc';have hb:c<58:=by omega
 simp;omega
section
variable {X:Cx}
theorem aF1:dH X (.type "str") kS:=by
 refine ⟨_,aB5,λF H xs vs k d Q s rx e w=>?_⟩;unfold kS at e;split at e
 . rename_i m i;split at e
   . rename_i hs;cases e;obtain ⟨v,rfl,r⟩:=rx.one;cases r.int;have hl:i.natAbs.log2<1920:=aOX hs;have h1:(i8 i).length<=1921:=int_text_len_1921 hl;have hz:sizeLine=16777216:=aNN;exact ⟨i,rfl,hl,w _ F H (.refl s) (eM ⟨by omega,uV i⟩) (by intro z;cases z)⟩
   . cases e
 . cases e
end
theorem aF2{C:Cw}{X:Cx}{T:String}{φ}{x:Str}{e:Expr}{es:List Expr}{gs:Rho->aS}{p pos:Pos}(o:dH X (.type T) φ)(hg:Gl X x)(hm:X.mg x=none)(hv:bootBuiltins x=some (.type T))(ha:PAv C X (e::es) gs)(hn:x ≠ "__name__")(hdb:(x==("__debug__" : Str))=false)(hst:∀ x∈e::es,cC x=true):PV C X (.Call (.Name x p) (e::es) [] pos) (λρ=>eZ φ (gs ρ)):=by obtain ⟨r,h1,h2⟩:=o;exact PE.imp (aCB h1 hg hm hv ha hn hdb (cU (hst e mcs)) (hU _ _ λy hy=>hst y (mcm hy))) λσ H Q q=>uE h2 q
section
variable {prog:Program}{w:World}{A:Around}{E:VSP}{s:Shared}
theorem aF3{l:Addr}{items:Array Value}{Q:List Value->Shared->Prop}(hA:A.handled=none)(ht:s.heap.IsList l items)(h:∀ h',Heap.ExtBut s.heap.objs.size s.heap h'->∀ tk,Q items.toList { s with heap:=h',toks:=tk }):wpAny (model prog w) A (unpackItems (.ref l) items.size none) Q E s:=by
 unfold unpackItems notIterableAtAll;refine aNA (aNA (aOU ht.typeIs PySem.F.slot_list_iter.lookup ?_));refine aNC ?_;dsimp only;rw[if_neg aOK];refine aNA (aOD (aNG ht ?_));have hlt:l<s.heap.objs.size:=by obtain ⟨o,e,_⟩:=ht;exact aMR e
 have hne:l≠s.heap.objs.size:=aMU hlt;have keep:∀ b o,s.heap.get? b=some o->(s.heap.push { cls:=Value.type "list_iterator", data:=Data.fields #[Value.ref l,Value.int 0 0] }).get? b=some o:=λb o q=>hps q;have ht':(s.heap.push { cls:=Value.type "list_iterator", data:=Data.fields #[Value.ref l,Value.int 0 0] }).IsList l items:=by obtain ⟨o,e,c⟩:=ht;exact ⟨o,keep l o e,c⟩
 have hi':(s.heap.push { cls:=Value.type "list_iterator", data:=Data.fields #[Value.ref l,Value.int 0 0] }).IsListIter s.heap.objs.size l 0:=⟨_,aMQ _ rfl,rfl,rfl⟩;refine aNA (aOD (PySem.W.kun_draw hne items.size 0 _ _ hi' ht' (by omega) λh' hi hsb=>?_))
 have ei:List.take items.size (List.drop 0 items.toList)=items.toList:=by rw[aPR];exact aPS (by simp)
 rw[ei];rw[if_neg (by simp)]
 have hl2:h'.IsList l items:=by obtain ⟨o,e,c⟩:=ht';exact ⟨o,by rw[hsb.2 l hne];exact e,c⟩
 rw[aPT] at hi;refine aNA (aOD ((Walks.list hA s.heap.objs.size l hne items).done _ _ _ ⟨hi,hl2⟩ λh2 tk k2=>?_));rw[if_neg (by simp)]
 refine aNC (h h2 (λb o hb e=>k2 b o (by simpa using hb) ?_) tk)
 show h'.get? b=some o;rw[hsb.2 b hb];exact keep b o e
theorem aF4{env:Env}{elts:List Expr}{k:Nat}{pos:Pos}{l:Addr}{items:Array Value}{Q:Unit->Shared->Prop}(hA:A.handled=none)(ht:s.heap.IsList l items)(hn:(assignEach elts env).length=items.size)(hst:(assignEach elts env).findIdx? (·.1)=none)(h:∀ h',Heap.ExtBut s.heap.objs.size s.heap h'->∀ tk,wpAny (model prog w) A (assignInOrder ((assignEach elts env).map (·.2)) items.toList) Q E { s with heap:=h',toks:=tk }):wpAny (model prog w) A (assign (.Tuple elts k pos) env (.ref l)) Q E s:=by rw[assign_Tuple];refine aNA (aNB ?_);unfold unpack;rw[hst,hn];exact aNA (aOD (aF3 hA ht h))
theorem aF5{t sl:Addr}{items:Array Value}{vl vu:Value}{lo hi:Option Int}{Q:VSP}(ht:IsTup s.heap t items)(hs:s.heap.IsSliceOf sl vl vu .none)(pl:IsPart vl lo)(pu:IsPart vu hi)(h0:HT.sIx items.size 0 lo=0)(h1:HT.sIx items.size items.size hi=items.size)(h:Q (.ref t) s):wpAny (model prog w) A (getItem (.ref t) (.ref sl)) Q E s:=by
 obtain ⟨os,hos,hcs,hds⟩:=id hs;have tS:s.TypeIs (.ref sl) "slice" := ⟨os,hos,hcs⟩;unfold getItem
 try with_reducible refine aOD ?_
 first | refine aNA (aNC ?_) | skip
 refine aNA (wpAny_sequenceKey ht.typeIs (by decide) (aNA (aOE (name:=Str.ofString "__getitem__") ht.typeIs aOF (aOG aOF ht.typeIs entry_tuple_getitem ?_ (args_tuple_getitem _ _)))))
 show wpAny _ _ (Builtin.Tuple.tupleItemsOf (.ref t) >>= _) _ _ s;refine aNA (tupleItemsOf_ ht (aNA (aOH tS ?_)));rw[if_pos (by decide)]
 refine aNA (HT.tJ hs pl pu ?_);have yes:(((HT.sIx items.size 0 lo:Nat):Int)==0&&(1:Int)==1&&(HT.sIx items.size items.size hi-HT.sIx items.size 0 lo)==items.size)=true:=by rw[h0,h1];simp
 show wpAny _ _ (if (((HT.sIx items.size 0 lo:Nat):Int)==0&&(1:Int)==1&&(HT.sIx items.size items.size hi-HT.sIx items.size 0 lo)==items.size)=true then _ else _) _ _ s;rw[if_pos yes];unfold Builtin.Tuple.tupleIsExact;refine aNA (aNA (aOH ht.typeIs (aNC ?_)));rw[if_pos (by decide)]
 refine aNA (aNE ?_)
 first
  | exact aNC ⟨_,rfl,aNC h⟩
  | exact ⟨_,rfl,aNC h⟩
end
section
variable {X:Cx}{pos:Pos}
def rSlW(K:Fg):V->Option Int->Option Int->Hp->VK->Prop:=λx lo hi H Q=>∃ a xs,x=.ref a/\SqT K H a xs/\(HT.sIx xs.length 0 lo=0/\HT.sIx xs.length xs.length hi=xs.length)/\Q x H
theorem aF6:SlR X (rSlW X.K):=by
 intro aA s σ H x v vl vu lo hi sl Q I rx hs pl pu h;obtain ⟨a,xs,rfl,hx,hw,q⟩:=h;cases rx;obtain ⟨its,r,ht,hz⟩:=I.tuple hx;have hlen:its.toArray.size=xs.length:=by rw[aNO];exact r.length.symm
 exact ⟨"tuple", _,PyProof.Rows.slot_tuple_getitem.lookup,ht.typeIs,aF5 ht hs pl pu (by rw[hlen];exact hw.1) (by rw[hlen];exact hw.2) ⟨.ref a,H,I,rfl,q⟩⟩
def gSeq(K:Fg)(n:Nat)(t:TGs):TG:=λv σ H Q=>∃ a xs,v=.ref a/\(SqT K H a xs\/SqL K H a xs)/\xs.length=n/\t xs σ H Q
theorem aF7{es:List Expr}{k:Nat}{t:TGs}{n:Nat}(hc:X.calm=true)(h:PGs X es t)(hn:(assignEach es X.env).length=n)(hst:(assignEach es X.env).findIdx? (·.1)=none):PG X (.Tuple es k pos) (gSeq X.K n t):=by
 intro aA s σ H v u Q I r hw;obtain ⟨a,xs,e1,hq,hl,hw⟩:=hw;rcases hq with hq | hq
 . exact aA9 hc h hn hst aA s σ H v u Q I r ⟨a,xs,e1,hq,hl,hw⟩
 . subst e1;cases r;obtain ⟨its,rv,ht,hz⟩:=I.list hq;refine aF4 (I.ok.hd hc) ht.isList (by simp[hn,<- hl,rv.length]) hst λh' hx tk=>?_
   have I1:Inv X aA σ H { s with heap:=h',toks:=tk }:=I.kept (t':=tk) λb o e=>hx b o (aMU (aMR e)) e
   exact h aA _ σ H xs _ Q I1 (by simpa using rv) hw
end
inductive Tg where
 | nm (i:Nat) | tp (ts:List Tg)
mutual
def aI:Tg->D->Rho->Option Rho
 | .nm i,d,ρ=>some (ρ.set i (some (false,d)))
 | .tp ts,d,ρ=>match d with
  | .tup ds=>cV ts ds ρ
  | .lst ds=>cV ts ds ρ
  | _=>none
def cV:List Tg->List D->Rho->Option Rho
 | [],ds,ρ=>if ds.isEmpty then some ρ else none
 | t::ts,ds,ρ=>match ds with
  | d::ds=>(match aI t d ρ with | some ρ1=>cV ts ds ρ1 | none=>none)
  | []=>none
end
mutual
def eN:Tg->List Nat
 | .nm i=>[i]
 | .tp ts=>mX ts
def mX:List Tg->List Nat
 | []=>[]
 | t::ts=>eN t++mX ts
end
mutual
def gOf(K:Fg):Tg->TG
 | .nm i=>j6 i
 | .tp ts=>gSeq K ts.length (gC K ts)
def gC(K:Fg):List Tg->TGs
 | []=>gNil
 | t::ts=>sP (gOf K t) (gC K ts)
end
def PGw(X:Cx)(tg:Expr)(t:Tg):Prop:=PG X tg (gOf X.K t)
def hV(X:Cx)(tgs:List Expr)(ts:List Tg):Prop:=PGs X tgs (gC X.K ts)
def gD:Expr->Bool | .Starred ..=>false | _=>true
theorem pU{e:Expr}{es:List Expr}{env:Env}(h:gD e=true):assignEach (e::es) env=(false,assign e env)::assignEach es env:=by cases e <;> first | rfl | cases h
theorem pV:∀ {ts:List Tg} {ds:List D} {ρ ρ':Rho},cV ts ds ρ=some ρ'->ds.length=ts.length
 | [],ds,ρ,ρ',e=>by
  simp only[cV] at e;split at e
  . rename_i h;have:ds=[]:=by simpa using h
    subst this;rfl
  . cases e
 | t::ts,ds,ρ,ρ',e=>by
  simp only[cV] at e;split at e
  . split at e
    . rw[aOQ,aOQ,pV e]
    . cases e
  . cases e
mutual
theorem mY{K:Fg}{F0 H0:Hp}:∀ (t:Tg) {F H:Hp} {σ:L2.St} {ρ ρ':Rho} {d:D} {v:V} {Q:L2.St->Hp->Prop},aZ K F0 H0 F H σ ρ->aC K F d v->aI t d ρ=some ρ'->(∀ σ',aZ K F0 H0 F H σ' ρ'->σ'.length=σ.length->(∀ j,j∉eN t->σ'[j]? = σ[j]?)->Q σ' H)->gOf K t v σ H Q
 | .nm i,F,H,σ,ρ,ρ',d,v,Q,R,r,e,w=>by
  simp only[aI] at e;cases e;simp only[gOf];refine w _ (R.set (m:=false) (.refl R.sub) r (by intro z;cases z)) (by rw[aPE]) λj hj=>?_
  simp only[eN,aPU] at hj;rw[aM6 (λz=>hj z.symm)]
 | .tp ts,F,H,σ,ρ,ρ',d,v,Q,R,r,e,w=>by
  simp only[aI] at e;split at e
  . rename_i ds;simp only[aC] at r;obtain ⟨a,xs,rfl,hq,rl⟩:=r;simp only[gOf];refine ⟨a,xs,rfl,.inl (aG.seqT R.sub hq),by rw[rl.length];exact pV e,pW ts R rl e ?_⟩
    simp only[eN] at w;exact w
  . rename_i ds;simp only[aC] at r;obtain ⟨a,xs,rfl,hq,rl⟩:=r;simp only[gOf];refine ⟨a,xs,rfl,.inr (R.sub.seq hq),by rw[rl.length];exact pV e,pW ts R rl e ?_⟩
    simp only[eN] at w;exact w
  . cases e
theorem pW{K:Fg}{F0 H0:Hp}:∀ (ts:List Tg) {F H:Hp} {σ:L2.St} {ρ ρ':Rho} {ds:List D} {vs:List V} {Q:L2.St->Hp->Prop},aZ K F0 H0 F H σ ρ->aE K F ds vs->cV ts ds ρ=some ρ'->(∀ σ',aZ K F0 H0 F H σ' ρ'->σ'.length=σ.length->(∀ j,j∉mX ts->σ'[j]? = σ[j]?)->Q σ' H)->gC K ts vs σ H Q
 | [],F,H,σ,ρ,ρ',ds,vs,Q,R,r,e,w=>by
  simp only[cV] at e;split at e
  . cases e;rename_i hd;have:ds=[]:=by simpa using hd
    subst this;simp only[aE] at r;simp only[gC];exact ⟨r,w σ R rfl λ_ _=>rfl⟩
  . cases e
 | t::ts,F,H,σ,ρ,ρ',ds,vs,Q,R,r,e,w=>by
  simp only[cV] at e;split at e
  . rename_i d ds';split at e
    . rename_i ρ1 e1;simp only[aE] at r;obtain ⟨y,ys,rfl,r1,r2⟩:=r;simp only[gC];refine ⟨y,ys,rfl,mY t R r1 e1 λσ1 R1 l1 k1=>pW ts R1 r2 e λσ2 R2 l2 k2=>w σ2 R2 (l2.trans l1) λj hj=>?_⟩;simp only[mX,aM1,aPV] at hj;rw[k2 j hj.2,k1 j hj.1]
    . cases e
  . cases e
end
section
variable {C:Cw}{X:Cx}{pos:Pos}
theorem aF8{x:Str}{i:Nat}(hN:X.N.Nodup)(hi:X.N[i]? = some x)(hx:L2.Loc X.env.scope x)(hf:X.fn x=true\/X.env.scope.names.lookup x=some .local):PGw X (.Name x pos) (.nm i):=by unfold PGw;simp only[gOf];exact aA6 hN hi hx hf
theorem aF9:hV X [] []:=by unfold hV;simp only[gC];exact aA7
theorem aGA{e:Expr}{es:List Expr}{t:Tg}{ts:List Tg}(h1:PGw X e t)(h2:hV X es ts)(hs:gD e=true):hV X (e::es) (t::ts):=by unfold hV;simp only[gC];exact aA8 h1 h2 (by rw[pU hs];rfl)
theorem aGB{es:List Expr}{env:Env}(hs:∀ e∈es,gD e=true):(assignEach es env).length=es.length/\(assignEach es env).findIdx? (·.1)=none:=by
 induction es with
 | nil=>exact ⟨rfl,rfl⟩
 | cons e es ih =>
  obtain ⟨h1,h2⟩:=ih λx hx=>hs x (mcm hx);rw[pU (hs e mcs)];refine ⟨by rw[aOQ,aOQ,h1],?_⟩
  rw[List.findIdx?_cons];simp[h2]
theorem aGC{es:List Expr}{ts:List Tg}{k:Nat}(hc:X.calm=true)(h:hV X es ts)(hs:∀ e∈es,gD e=true)(hl:es.length=ts.length):PGw X (.Tuple es k pos) (.tp ts):=by have st:=aGB (env:=X.env) hs;unfold PGw;simp only[gOf];exact aF7 (n:=ts.length) hc h (by rw[st.1,hl]) st.2
theorem aGD{tg:Expr}{t:Tg}(h:PGw X tg t):PGv C X tg (aI t) :=
 ⟨_,h,λF H σ ρ ρ' d v Q R r e w=>mY t R r e λσ' R' _ _=>w σ' F H (aG.refl _) R'⟩
def d8(t:Tg)(ρ:Rho)(r:Res):aB:=(bI r).thS ρ λm d=>match m with | .fz=>(match aI t d ρ with | some ρ'=>.nx ρ' | none=>.stuck) | _=>.stuck
theorem aGE{tg e:Expr}{t:Tg}{g:Rho->Res}(he:PV C X e g)(hg:PGw X tg t)(hs:swapsWithSole [tg] e pos.line X.env=pure false)(hw:swappedStores [tg] e X.env=pure none)(hst:gD tg=true):PSv C X (.Assign [tg] e pos) (λρ=>d8 t ρ (g ρ)):=by
 refine PS.imp (aBA (gW he) hg hs hw (by rw[pU hst];rfl)) λEn σ H qq=>?_
 obtain ⟨ρ,F,R,w⟩:=qq;unfold d8 at w;refine iZ R w λm d v F' H' w' s R' rp fr=>?_;cases m with
 | fr=>exact (show False from w').elim
 | bo=>exact (show False from w').elim
 | fz =>
 cases eg:aI t d ρ with
 | none=>rw[eg] at w';exact (show False from w').elim
 | some ρ'=>rw[eg] at w';have rv:aC X.K F' d v:=rp;exact mY t R' rv eg λσ' R'' _ _=>w' σ' F' H' (aG.refl _) R''
def i9(i j:Nat)(ρ:Rho)(r:aS):aB:=match r with
 | .ok [(.fz,d),(.fz,e)]=>.nx ((ρ.set i (some (false,d))).set j (some (false,e)))
 | .exc c=>.exc c ρ
 | _=>.stuck
theorem aGF{i j:Nat}{x y:Str}{a b:Expr}{gs:Rho->aS}{px py pt:Pos}{kt k2 pt2}(hc:X.calm=true)(hN:X.N.Nodup)(hi:X.N[i]? = some x)(hj:X.N[j]? = some y)(hij:i≠j)(hx:X.env.scope.names.lookup x=some .local)(hy:X.env.scope.names.lookup y=some .local)(ha:PAv C X [a,b] gs)(hw:swappedStores [.Tuple [.Name x px,.Name y py] kt pt] (.Tuple [a,b] k2 pt2) X.env=pure (some [x,y])):PSv C X (.Assign [.Tuple [.Name x px,.Name y py] kt pt] (.Tuple [a,b] k2 pt2) pos) (λρ=>i9 i j ρ (gs ρ)):=by
 refine PS.imp (aBC hc hN hi hj hij hx hy ha hw) λEn σ H q=>?_;obtain ⟨ρ,F,R,w⟩:=q;dsimp only at w;refine ⟨ρ,F,R,?_⟩;cases er:gs ρ with
 | stuck=>rw[er] at w;exact w
 | exc c=>rw[er] at w;exact λF' H' s=>w σ F' H' s.fsame (R.step s)
 | ok xs =>
  rw[er] at w;unfold i9 at w;split at w
  . rename_i d e hxs;cases hxs;intro vs F' H' s rl;obtain ⟨v,u,rfl,r1,r2⟩:=rl.two;refine ⟨v,u,rfl,w _ F' H' s.fsame ?_⟩;have R1:=R.set (i:=i) (m:=false) s r1 (by intro z;cases z)
    exact R1.set (i:=j) (m:=false) (.refl R1.sub) r2 (by intro z;cases z)
  . rename_i hxs;cases hxs
  . exact w.elim
end
section
variable {C:Cw}{X:Cx}{e:Expr}{g:Rho->Res}{pos p:Pos}
theorem uW{t:Tg}{tgN:List Str}{aF:List Nat}{gi gt ge:Rho->Res}(hsl:∀ j∈eN t,aF.length<=j){σ:L2.St}{H:Hp}{Q:VK}(q:tG (C.at X) (λρ=>bY (gi ρ) ρ aF tgN.length (aI t) gt ge) σ H Q):kP aF tgN.length (tIv (C.at X) gi) (gOf X.K t) (tT (C.nox.at X) gt) (tG (C.nox.at X) λρ=>bI (ge ρ)) σ H Q:=by
 rw[a9] at q;obtain ⟨ρ,F,RS,w⟩:=q;unfold kP;refine ⟨ρ,F,RS,?_⟩;cases er:gi ρ with
 | stuck=>rw[er] at w;exact w
 | exc c=>rw[er] at w;exact w
 | ok m d =>
  rw[er] at w;cases d with
  | lst ds =>
   unfold bY at w;rw[Res.thn_ok] at w;dsimp only at w;split at w
   . rename_i hsz;intro J F1 H1 s1 hJ Da hDa;cases et:bD (aI t) gt ge (cL aF ρ++List.replicate tgN.length none) ds with
     | none=>rw[et] at w;exact w.elim
     | some total =>
      rw[et] at w;have hD0:H Da=none:=s1.same.free hDa;have hF1:F1 Da=none:=s1.sub.free hDa;have R0:=aFE aF tgN.length RS;refine ⟨λi m ys H'=>m=ds.length-i/\i<=ds.length/\H' Da=some (.lst ys)/\∃ F' zs,aL F H F' H'/\aG F1 F'/\F' Da=none/\aE X.K F' zs ys/\zs.length<=i /\
       ∃ a8,bD (aI t) gt ge (cL aF ρ++List.replicate tgN.length none) (ds.drop i)=some a8/\total=zs++a8,
       ⟨ds.length,by simp,aOV _,bU,F1,[],s1.upd hD0 hF1,aG.refl _,hF1,aE.nil,aNH _,total,by simpa using et,rfl⟩,?_⟩
      rintro i m ys H' ⟨rfl,hile,hD,F',zs,st,sF,hFD,rz,hzl,a8,ec,etot⟩;refine ⟨hD,?_⟩;by_cases hlt:i<ds.length
      . refine .inr ⟨hJ.go i H' (sF.trans st.sub) hlt,by rw[rz.length];omega,λv H2 y=>?_⟩
        obtain ⟨F2,d,ed,s2,rd⟩:=hJ.yld i F' H' v H2 sF st.sub hlt y;have hd:ds.drop i=d::ds.drop (i+1):=by rw[aPH hlt];rw[aPC hlt] at ed;cases ed;rfl
        rw[hd] at ec;unfold bD at ec;have hD2:H2 Da=some (.lst ys):=s2.same _ _ hD;have hF2:F2 Da=none:=s2.new _ hFD (by rw[hD];exact λz=>nomatch z)
        cases eg:aI t d (cL aF ρ++List.replicate tgN.length none) with
        | none=>rw[eg] at ec;cases ec
        | some ρ1 =>
        rw[eg] at ec;dsimp only at ec;have R2:=(R0.step st).step s2;refine mY t R2 rd eg λσ1 R1 len1 keep1=>?_;refine ⟨⟨len1.symm,λj u ej=>?_⟩,ρ1,F2,R1,?_⟩
        . by_cases hj:j∈eN t
          . have:=hsl j hj;rw[aNU (by simpa[dM] using this),aNV] at ej
            split at ej <;> cases ej
          . rw[keep1 j hj];exact ej
        cases ett:gt ρ1 with
        | stuck=>rw[ett] at ec;cases ec
        | exc c=>rw[ett] at ec;cases ec
        | ok mt dt =>
         cases dt with
         | bl b =>
          rw[ett] at ec;intro F3 H3 s3;have hD3:H3 Da=some (.lst ys):=s3.same _ _ hD2;have hF3:F3 Da=none:=s3.new _ hF2 (by rw[hD2];exact λz=>nomatch z)
          cases b with
          | false=>rw[if_neg aOK];exact ⟨ds.length-(i+1),by omega,rfl,hlt,hD3,F3,zs,(st.trans s2).trans s3,(sF.trans s2.fsame).trans s3.fsame,hF3,rz.mono (s2.fsame.trans s3.fsame) _ _,Nat.le_succ_of_le hzl,a8,ec,etot⟩
          | true =>
           rw[if_pos rfl,a9];refine ⟨_,F3,R1.step s3,?_⟩;dsimp only at ec;cases ee:bI (ge ρ1) with
           | stuck=>rw[ee] at ec;cases ec
           | exc c=>rw[ee] at ec;cases ec
           | ok me ye =>
            rw[ee] at ec;dsimp only at ec;have hme:me=.fz:=by
             cases h:ge ρ1 with
             | ok m' d'=>rw[h] at ee;cases m' <;> cases ee <;> rfl
             | exc c=>rw[h] at ee;cases ee
             | stuck=>rw[h] at ee;cases ee
            subst hme;cases er2:bD (aI t) gt ge (cL aF ρ++List.replicate tgN.length none) (ds.drop (i+1)) with
            | none=>rw[er2] at ec;cases ec
            | some rest' =>
             rw[er2] at ec;cases ec;intro u F4 H4 s4 ru _;have hD4:H4 Da=some (.lst ys):=s4.same _ _ hD3;have hF4:F4 Da=none:=s4.new _ hF3 (by rw[hD3];exact λz=>nomatch z)
             refine ⟨hD4,ds.length-(i+1),by omega,rfl,hlt,bU,F4,zs++[ye],(((st.trans s2).trans s3).trans s4).upd hD0 hF4,((sF.trans s2.fsame).trans s3.fsame).trans s4.fsame,hF4,?_,by simp;omega,rest',er2,by rw[etot];simp⟩
             exact aE.append (rz.mono ((s2.fsame.trans s3.fsame).trans s4.fsame) _ _) (aE.cons ru aE.nil)
         | _=>rw[ett] at ec;cases ec
      . have ei:i=ds.length:=by omega
        subst ei;rw[aPI] at ec;cases ec;rw[aNP] at etot;subst etot;exact .inl ⟨hJ.stop _ H' (sF.trans st.sub) (aNH _),w (.ref Da) F' H' st ⟨Da,rfl,hFD,ys,hD,rz⟩ λ_ a ea=>by cases ea;exact hD0⟩
   . exact w.elim
  | _=>exact w.elim
theorem aGG{aP elt tg:Expr}{t:Tg}{tgN:List Str}{ifs:List Expr}{scope:Scope}{aF:List Nat}{aH:List Str}{gi gt ge:Rho->Res}(hc:X.calm=true)(hi:PIv C X tg aP gi)(cP:∀ y∈scope.names,y.2 ≠ .cell)(dD:scope.kind=.function)(eS:∀ y∈scope.names,y.2=.local->scope.names.lookup y.1=some .local)(dE:∀ y∈scope.names,y.2=.free->X.env.kindOf y.1=some .cell\/X.env.kindOf y.1=some .free)(dX:aH.map some=aF.map λi=>X.N[i]?)(eU:∀ y∈aH,(y,NameKind.free)∈scope.names)(eT:∀ y∈aH,(relabel scope X.env).names.lookup y=some .cell\/(relabel scope X.env).names.lookup y=some .free)(hsl:∀ j∈eN t,aF.length<=j)(hg:∀ cl A fp s3 H3,PGw (bE X scope (aH++tgN) cl A fp s3 H3) tg t)(hf:∀ cl A fp s3 H3,c9 (bE X scope (aH++tgN) cl A fp s3 H3) ifs (tT (C.nox.at X) gt))(he:∀ cl A fp s3 H3,PV C.nox (bE X scope (aH++tgN) cl A fp s3 H3) elt ge)(hs:∀ x,foldedSetIterable aP X.env x=pure x:=by intro _;rfl):PV C X (.ListComp elt [⟨tg,aP,ifs,0⟩] scope pos) (λρ=>bY (gi ρ) ρ aF tgN.length (aI t) gt ge):=by
 have capLen:aH.length=aF.length:=by simpa using congrArg List.length dX
 refine PE.imp (aFA (aH:=aH) (tgN:=tgN) (gt:=gOf X.K t) (tt:=tT (C.nox.at X) gt) (te:=tG (C.nox.at X) λρ=>bI (ge ρ)) hc hi cP dD eS dE dX eU eT
  hg hf (λcl A fp s3 H3=>gW (he cl A fp s3 H3)) hs) λσ H Q q=>uW hsl q
theorem aGH(fz:Bool){i:Nat}{x:Str}{pos' spos:Pos}{aP elt tg:Expr}{t:Tg}{tgN:List Str}{ifs:List Expr}{scope:Scope}{aF:List Nat}{aH:List Str}{gi gt ge:Rho->Res}(hc:X.calm=true)(hi:PIv C X tg aP gi)(cP:∀ y∈scope.names,y.2 ≠ .cell)(dD:scope.kind=.function)(eS:∀ y∈scope.names,y.2=.local->scope.names.lookup y.1=some .local)(dE:∀ y∈scope.names,y.2=.free->X.env.kindOf y.1=some .cell\/X.env.kindOf y.1=some .free)(dX:aH.map some=aF.map λi=>X.N[i]?)(eU:∀ y∈aH,(y,NameKind.free)∈scope.names)(eT:∀ y∈aH,(relabel scope X.env).names.lookup y=some .cell\/(relabel scope X.env).names.lookup y=some .free)(hsl:∀ j∈eN t,aF.length<=j)(hg:∀ cl A fp s3 H3,PGw (bE X scope (aH++tgN) cl A fp s3 H3) tg t)(hf:∀ cl A fp s3 H3,c9 (bE X scope (aH++tgN) cl A fp s3 H3) ifs (tT (C.nox.at X) gt))(he:∀ cl A fp s3 H3,PV C.nox (bE X scope (aH++tgN) cl A fp s3 H3) elt ge)(hN:X.N.Nodup)(hx:X.N[i]? = some x)(hk:X.env.scope.names.lookup x=some .local)(hsw:swapsWith (.ListComp elt [⟨tg,aP,ifs,0⟩] scope pos) (some (.Name x pos')) spos.line X.env=pure true)(hs:∀ x,foldedSetIterable aP X.env x=pure x:=by intro _;rfl):PSv C X (.Assign [.Name x pos'] (.ListComp elt [⟨tg,aP,ifs,0⟩] scope pos) spos) (λρ=>d5 ρ i (if fz=true then bI (bY (gi ρ) ρ aF tgN.length (aI t) gt ge) else bY (gi ρ) ρ aF tgN.length (aI t) gt ge)):=by
 refine PS.imp (aFB (aH:=aH) (tgN:=tgN) (gt:=gOf X.K t) (tt:=tT (C.nox.at X) gt) (te:=tG (C.nox.at X) λρ=>bI (ge ρ)) hc hi cP dD eS dE dX eU eT
  hg hf (λcl A fp s3 H3=>gW (he cl A fp s3 H3)) hN hx hk hsw hs) λE σ H q=>uW hsl ?_
 cases fz with
 | false=>exact pL q
 | true=>have q:=pL q;unfold j7 at q;rw[a9] at q ⊢;obtain ⟨ρ,F,R,w⟩:=q;exact ⟨ρ,F,R,aX.frz w⟩
end
def pX:D->Option Str
 | .str z=>some z
 | .int i=>if mW i=true then some (i8 i) else none
 | _=>none
def mZ(r:Res):Res:=r.thn λ_ d=>match pX d with | some z=>.ok .fz (.str z) | none=>.stuck
section
variable {C:Cw}{X:Cx}{e:Expr}{g:Rho->Res}{pos p:Pos}
theorem aGI(he:PV C X e g):PV C X (.FormattedValue e (-1) none pos) (λρ=>mZ (g ρ)):=by
 intro aA s σ H Q I q;rw[a9] at q;obtain ⟨ρ,F,R,w⟩:=q;refine FormattedValue_plain (thn (he aA s σ H (λv H1=>∃ F1 m d,aL F H F1 H1/\Rp X.K F1 H1 m d v/\g ρ=.ok m d) I ?_) λu s1 ⟨v,H1,I1,rv,F1,m,d,st1,rp,eg⟩=>?_)
 . rw[a9];refine ⟨ρ,F,R,?_⟩;cases er:g ρ with
   | stuck=>rw[er] at w;exact w
   | exc c=>rw[er] at w;exact w
   | ok m d=>exact λv F1 H1 s1 r1 _=>⟨F1,m,d,s1,r1,rfl⟩
 . rw[eg] at w;have w1:aX (C.at X) F1 H1 σ (match pX d with | some z=>.ok .fz (.str z) | none=>.stuck) Q:=aX.step st1 w
   cases d with
   | str z=>obtain ⟨rfl,hz,hk⟩:=rp.str;obtain ⟨t,rfl⟩:=rv;exact formatField_str (λt' tk=>⟨.str z,H1,I1.tok _,⟨_,rfl⟩,w1 _ F1 H1 (.refl st1.sub) (eM ⟨hz,hk⟩) (by intro z;cases z)⟩) hz
   | int i =>
    cases rp.int;obtain ⟨t,rfl⟩:=rv;unfold pX at w1;dsimp only at w1;split at w1
    . rename_i z hz;split at hz
      . rename_i hs;cases hz;have hl:i.natAbs.log2<1920:=aOX hs;have h1:(i8 i).length<=1921:=int_text_len_1921 hl;have hzz:sizeLine=16777216:=aNN;exact formatField_int_small hl ⟨.str (i8 i),H1,I1.tok _,⟨_,rfl⟩,w1 _ F1 H1 (.refl st1.sub) (eM ⟨by omega,uV i⟩) (by intro z;cases z)⟩
      . cases hz
    . exact w1.elim
   | _=>exact w1.elim
end
def fN(out:Str):List (Rho->Res)->Rho->Res
 | [],_=>if out.length<=sizeLine then .ok .fz (.str out) else .stuck
 | g::gs,ρ=>(g ρ).thn λ_ d=>match d with
  | .str y=>if (out++y).length<=sizeLine then fN (out++y) gs ρ else .stuck
  | _=>.stuck
inductive PVL(C:Cw)(X:Cx):List Expr->List (Rho->Res)->Prop where
 | nil:PVL C X [] []
 | cons {e:Expr} {g:Rho->Res} {es:List Expr} {gs:List (Rho->Res)} (h:PV C X e g) (r:PVL C X es gs):PVL C X (e::es) (g::gs)
theorem uX{C:Cw}{X:Cx}:∀ {es:List Expr} {gs:List (Rho->Res)},PVL C X es gs->∀ (out:Str) (aA:LAO) (s:Shared) (σ:L2.St) (H F:Hp) (ρ:Rho) (Q:VK),PyData.strOk out=true->Inv X aA σ H s->aZ X.K C.F0 C.H0 F H σ ρ->aX (C.at X) F H σ (fN out gs ρ) Q->wpAny (model X.prog X.w) X.A (joinParts out (evalEach es X.env)) (EP X aA σ Q) X.xe s
 | _,_,.nil,out,aA,s,σ,H,F,ρ,Q,hk,I,R,w=>by
  unfold fN at w;split at w
  . rename_i hl;exact joinParts_nil ⟨.str out,H,I.tok _,⟨_,rfl⟩,w _ F H (.refl R.sub) (eM ⟨hl,hk⟩) (by intro z;cases z)⟩ hl
  . exact w.elim
 | _,_,.cons (e:=e) (g:=g) (gs:=gs) h r,out,aA,s,σ,H,F,ρ,Q,hk,I,R,w=>by
  refine joinParts_cons (thn (h aA s σ H (λv H1=>∃ F1 m d,aL F H F1 H1/\Rp X.K F1 H1 m d v/\g ρ=.ok m d) I ?_) λu s1 ⟨v,H1,I1,rv,F1,m,d,st1,rp,eg⟩=>?_)
  . rw[a9];refine ⟨ρ,F,R,?_⟩;unfold fN at w;cases er:g ρ with
    | stuck=>rw[er] at w;exact w
    | exc c=>rw[er] at w;exact w
    | ok m d=>exact λv F1 H1 s1 r1 _=>⟨F1,m,d,s1,r1,rfl⟩
  . unfold fN at w;rw[eg] at w;cases d with
    | str y =>
     have w1:aX (C.at X) F1 H1 σ (if (out++y).length<=sizeLine then fN (out++y) gs ρ else .stuck) Q:=aX.step st1 w;split at w1
     . rename_i hl;obtain ⟨rfl,hz,hy⟩:=rp.str;obtain ⟨t,rfl⟩:=rv;exact ⟨hl,uX r (out++y) aA s1 σ H1 F1 ρ Q (tZ hk hy) I1 (R.step st1) w1⟩
     . exact w1.elim
    | _=>exact (show False from w).elim
theorem aGJ{C:Cw}{X:Cx}{e1 e2:Expr}{es:List Expr}{gs:List (Rho->Res)}{pos:Pos}(h:PVL C X (e1::e2::es) gs):PV C X (.JoinedStr (e1::e2::es) pos) (fN Str.empty gs):=by intro aA s σ H Q I q;rw[a9] at q;obtain ⟨ρ,F,R,w⟩:=q;exact JoinedStr_many (uX h Str.empty aA s σ H F ρ Q (by decide +kernel) I R w)
section
open PySem.SeqAt
open PySem.AutoSeq1 (wpAny_loadPart')
open PySem.MeetsSeq PySem.MeetsSeq2 PySem.MeetsSeq3
end
section
variable {prog:Program}{w:World}{A:Around}{E:VSP}{s:Shared}
end
section
variable {C:Cw}{X:Cx}
def jA:List (Md×D)->Option (Md×D):=λxs=>match xs with
 | [(_,.str z)]=>if z.length<=640 then (PySem.intText? z).map λn=>(.fz,.int n) else none
 | _=>pT xs
theorem aGK:dH X (.type "int") jA:=by
 obtain ⟨r,h1,h2⟩:=aF0 (X:=X);refine ⟨λxs H Q=>r xs H Q\/∃ z n,xs=[.str z]/\z.length<=640/\PySem.intText? z=some n/\Q (.int n) H,?_,λF H xs vs k d Q s rx e w=>?_⟩
 . intro aA s σ H xs us Q I rr h;rcases h with h | ⟨z,n,rfl,hl,hn,q⟩
   . exact h1 aA s σ H xs us Q I rr h
   . obtain ⟨u,rfl,t,rfl⟩:=fH rr;exact PySem.W.KIN.call_text hn hl ⟨.int n,H,I.tok _,⟨_,rfl⟩,q⟩
 . unfold jA at e;split at e
   . rename_i m z;split at e
     . rename_i hl;cases en:PySem.intText? z with
       | none=>rw[en] at e;cases e
       | some n=>rw[en] at e;cases e;obtain ⟨v,rfl,r0⟩:=rx.one;obtain ⟨rfl,_⟩:=r0.str;exact .inr ⟨z,n,rfl,hl,en,w _ F H (.refl s) (cE _) (by intro z;cases z)⟩
     . cases e
   . exact .inl (h2 F H xs vs k d Q s rx e w)
def m6:Md->D->Md->D->Option (Md×D):=λ_ x _ y=>match x,y with
 | .str z,.int n=>if (decide (n<1)&&decide (-1000<=n))=true then some (.fz,.str Str.empty) else none
 | _,_=>none
theorem aGL:OpD C X (binaryOp .Mult) m6:=by
 refine ⟨λx y H Q=>∃ z n,x=.str z/\y=.int n/\n<1 /\ -1000<=n/\Q (.str Str.empty) H,?_,?_⟩
 . intro aA s σ H x y v u Q I rx ry h;obtain ⟨z,n,rfl,rfl,h1,h2,q⟩:=h;obtain ⟨t,rfl⟩:=rx;obtain ⟨t',rfl⟩:=ry;exact PySem.P.mul_str_none h1 (by omega) ⟨.str Str.empty,H,I.tok _,⟨_,rfl⟩,q⟩
 . intro F H m x n y v u k d Q s rx ry e w;unfold m6 at e;split at e
   . rename_i z i;obtain ⟨rfl,hz,hk⟩:=rx.str;cases ry.int;split at e
     . rename_i hc;simp only[aOI,aOW] at hc;cases e;exact ⟨z,i,rfl,rfl,hc.1,hc.2,w _ F H (.refl s) (eM ⟨by decide +kernel,by decide +kernel⟩) (by intro z;cases z)⟩
     . cases e
   . cases e
end
section
open PySem.SeqAt
open PySem.AutoSeq1 (wpAny_loadPart')
open PySem.MeetsSeq PySem.MeetsSeq2 PySem.MeetsSeq3
variable {prog:Program}{w:World}{A:Around}{E:VSP}{s:Shared}
theorem hX{it t:Addr}{i:Nat}{xs:Array Value}{x:Value}{Q:VSP}(hi:s.heap.IsTupleIter it t i)(ht:IsTup s.heap t xs)(hx:xs[i]? = some x)(q:∀ h',h'.IsTupleIter it t (i+1)->Heap.SameBut it s.heap h'->Q x { s with heap:=h' }):wpAny (model prog w) A (Builtin.SmallTypes.nextOf (.ref it)) Q E s:=by
 have ty:=hi.typeIs;obtain ⟨o,ho,hc,hd⟩:=hi;obtain ⟨p,hp,_,n,hs⟩:=ht
 delta Builtin.SmallTypes.nextOf
 apply aNA;apply aOE (name:=Str.ofString "__next__") ty aPW;refine aOG aPW ty aPX ?w (aPY _)
 case w =>
  refine aNA (m:=field (.ref it) 0) (aOB ho hd (x:=.ref t) rfl ?_);rw[show (Value.ref t==Value.none)=false from rfl,if_neg aOK]
  refine aNA (m:=field (.ref it) 1) (aOB ho hd (x:=.int i 0) rfl ?_);apply aNA;apply aPZ hp hs;rw[aN8];simp only[hx];apply aNA;apply wpAny_setField ho hd (by simp)
  refine aNC ⟨x,rfl,aNC (q _ ⟨_,Heap.get?_update_self _ ho (Obj.isFreed_of_fields (Obj.data_mapFields hd _)),?_,?_⟩ (Heap.SameBut.update ..))⟩
  . rw[Obj.cls_mapFields,hc]
  . rw[Obj.data_mapFields hd];simp[rawInt]
theorem jB{it t:Addr}{i:Nat}{xs:Array Value}{Q:VSP}(h0:A.handled=none)(hi:s.heap.IsTupleIter it t i)(ht:IsTup s.heap t xs)(hx:xs[i]? = none)(q:∀ h' e,Heap.ExtBut it s.heap h'->(∃ o,h'.get? e=some o/\o.cls=.type "StopIteration")->E (.ref e) { s with heap:=h' }):wpAny (model prog w) A (Builtin.SmallTypes.nextOf (.ref it)) Q E s:=by
 have ty:=hi.typeIs;obtain ⟨o,ho,hc,hd⟩:=hi;obtain ⟨p,hp,_,n,hs⟩:=ht
 delta Builtin.SmallTypes.nextOf
 apply aNA;apply aOE (name:=Str.ofString "__next__") ty aPW;refine aOG aPW ty aPX ?w (aPY _)
 case w =>
  refine aNA (m:=field (.ref it) 0) (aOB ho hd (x:=.ref t) rfl ?_);rw[show (Value.ref t==Value.none)=false from rfl,if_neg aOK]
  refine aNA (m:=field (.ref it) 1) (aOB ho hd (x:=.int i 0) rfl ?_);apply aNA;apply aPZ hp hs;rw[aN8];simp only[hx];apply aNA;apply aNE;apply aNA;apply wpAny_setField ho hd (by simp)
  refine aNA (m:=newExc (.type "StopIteration") []) ?_;simp only[newExc,newTuple];apply aNA;refine aND ?_ (by size_fits)
  apply aNA (m:=firstArgMember _ _);refine wpAny_of_eq (a:=.none) ?_ ?_
  . first | rfl | (unfold firstArgMember;rfl)
  refine aND (hd:=by size_fits) ?_
  simp only[raiseNew];apply aNA;apply wpAny_handled
  first | rw[show A.in1.handled=none from h0] | rw[h0]
  refine wpAny_throw ?_;exact q _ _ ((Heap.SameBut.extBut (Heap.SameBut.update ..)).push _ |>.push _) ⟨_,aMQ _ rfl,rfl⟩
theorem cF{h h':Heap}{a:Addr}{xs:Array Value}(x:IsTup h a xs)(k:∀ o,h.get? a=some o->h'.get? a=some o):IsTup h' a xs:=by obtain ⟨o,ho,r⟩:=x;exact ⟨o,k o ho,r⟩
theorem aGM{z TI TO i j l m:Addr}{ki kj:Nat}{xs ys:Array Value}{x y a b:Value}{Q:VSP}(D:ZipApart z TI TO i j l m)(hz:IsZip s.heap z TI TO .none)(hI:IsPair s.heap TI (.ref i) (.ref j))(hO:IsPair s.heap TO a b)(hi:s.heap.IsTupleIter i l ki)(hj:s.heap.IsTupleIter j m kj)(hl:IsTup s.heap l xs)(hm:IsTup s.heap m ys)(hx:xs[ki]? = some x)(hy:ys[kj]? = some y)(q:∀ h',IsZip h' z TI TO (rawInt s.heap.objs.size)->IsPair h' TO x y->h'.IsTupleIter i l (ki+1)->h'.IsTupleIter j m (kj+1)->IsPair h' s.heap.objs.size x y->h'.objs.size=s.heap.objs.size+1->(∀ c o,c≠z->c≠TO->c≠i->c≠j->s.heap.get? c=some o->h'.get? c=some o)->Q (.ref s.heap.objs.size) { s with heap:=h' }):wpAny (model prog w) A (Builtin.«zip.__next__» ⟨[.ref z],[]⟩) (λf s'=>∃ v,f=.done (.ret v)/\Q v s') E s:=by
 refine aNA (m:=field (.ref z) 2) (aOB hz rfl (x:=.bool false) rfl ?_);refine aNA (m:=field (.ref z) 3) (aOB hz rfl (x:=.ref TI) rfl ?_);apply aNA;apply aPZ hI rfl;refine aNA (m:=Builtin.SmallTypes.ownedTupleIsFree (.ref z)) ?_
 delta Builtin.SmallTypes.ownedTupleIsFree
 apply aNA;refine aOB hz rfl (x:=.none) rfl ?_;apply aNC;simp only[aOA];apply aNA;apply aNE;apply aNA;refine aOB hz rfl (x:=.ref TO) rfl ?_;apply aNA;refine aP0 hz (by simp) λH1 z1 s1=>?_
 have z1:IsZip H1 z TI TO .ellipsis:=z1;apply aNA;simp only[List.zipIdx_cons,List.zipIdx_nil,aPK,aPJ];apply aNA;apply aNA;apply aP1;refine aNA (m:=Builtin.SmallTypes.nextOf (.ref i)) ?_;refine hX (hi.extBut s1.extBut D.i1z) (cF hl λo e=>s1.extBut _ o D.l1z e) hx λH2 i2 s2=>?_;apply aNC;have o2:IsPair H2 TO a b:=s2.extBut _ _ D.TOi1 (s1.extBut _ _ D.TOz hO);apply aNA;apply aPZ o2 rfl;apply aNA;refine aP2 o2 λH3 o3 s3=>?_;have o3:IsPair H3 TO x b:=o3;apply aNA;apply wpAny_letGo;apply aNC;apply aNA;apply aNA;apply aP1;refine aNA (m:=Builtin.SmallTypes.nextOf (.ref j)) ?_;have j3:H3.IsTupleIter j m kj:=((hj.extBut s1.extBut D.i2z).extBut s2.extBut D.i12.symm).extBut s3.extBut D.TOi2.symm;have m3:IsTup H3 m ys:=cF hm λo e=>s3.extBut _ o D.l2TO (s2.extBut _ o D.l2i1 (s1.extBut _ o D.l2z e));refine hX j3 m3 hy λH4 j4 s4=>?_;apply aNC;have o4:IsPair H4 TO x b:=s4.extBut _ _ D.TOi2 o3;apply aNA;apply aPZ o4 rfl;apply aNA;refine aP2 o4 λH5 o5 s5=>?_;have o5:IsPair H5 TO x y:=o5;apply aNA;apply wpAny_letGo;refine aNC (aNC ?_);apply aNA;apply aPZ o5 rfl;apply aNA;refine wpAny_newTuple ?_;have sz:H5.objs.size=s.heap.objs.size:=by rw[s5.1,s4.1,s3.1,s2.1,s1.1]
 have z5:IsZip H5 z TI TO .ellipsis:=s5.extBut _ _ D.TOz.symm (s4.extBut _ _ D.i2z.symm (s3.extBut _ _ D.TOz.symm (s2.extBut _ _ D.i1z.symm z1)));have k5:∀ c o,c≠z->c≠TO->c≠i->c≠j->s.heap.get? c=some o->H5.get? c=some o:=λc o c1 c2 c3 c4 e =>
  s5.extBut _ _ c2 (s4.extBut _ _ c4 (s3.extBut _ _ c2 (s2.extBut _ _ c3 (s1.extBut _ _ c1 e))))
 have i5:H5.IsTupleIter i l (ki+1):=((i2.extBut s3.extBut D.TOi1.symm).extBut s4.extBut D.i12).extBut s5.extBut D.TOi1.symm;have j5:H5.IsTupleIter j m (kj+1):=j4.extBut s5.extBut D.TOi2.symm;have zl:z<H5.objs.size:=aMR z5;refine aNA (m:=Builtin.SmallTypes.ownedTupleHandOut (.ref z) (.ref H5.objs.size)) ?_
 delta Builtin.SmallTypes.ownedTupleHandOut
 have z6:IsZip (H5.push { cls:=.type "tuple", data:=.seq #[x,y] }) z TI TO .ellipsis:=hps z5;apply aNA;refine aP0 z6 (by simp) λH7 z7 s7=>?_
 have z7:IsZip H7 z TI TO (rawInt H5.objs.size):=z7;refine aP0 z7 (by simp) λH8 z8 s8=>?_
 have z8:IsZip H8 z TI TO (rawInt H5.objs.size):=z8;have up:∀ c o,c≠z->H5.get? c=some o->H8.get? c=some o:=λc o c1 e=>s8.extBut _ _ c1 (s7.extBut _ _ c1 (hps e));have t8:IsPair H8 H5.objs.size x y:=s8.extBut _ _ (aNF zl) (s7.extBut _ _ (aNF zl) (aMQ _ rfl));have n8:H8.objs.size=H5.objs.size+1:=by rw[s8.1,s7.1,aPP]
 rw[sz] at z8 t8 n8;apply aNC;refine ⟨_,rfl,?_⟩;show Q (.ref H5.objs.size) _;rw[sz];exact q H8 z8 (up _ _ D.TOz o5) (i5.at λo e=>up _ o D.i1z e) (j5.at λo e=>up _ o D.i2z e) t8 n8 λc o c1 c2 c3 c4 e=>up c o c1 (k5 c o c1 c2 c3 c4 e)
theorem aGN{z TI TO i j l m:Addr}{ki kj:Nat}{xs ys:Array Value}{a b:Value}{Q:Fin->Shared->Prop}(h0:A.handled=none)(D:ZipApart z TI TO i j l m)(hz:IsZip s.heap z TI TO .none)(hI:IsPair s.heap TI (.ref i) (.ref j))(hO:IsPair s.heap TO a b)(hi:s.heap.IsTupleIter i l ki)(hj:s.heap.IsTupleIter j m kj)(hl:IsTup s.heap l xs)(hm:IsTup s.heap m ys)(hn:xs[ki]? = none\/ys[kj]? = none)(q:∀ h' e,(∀ c o,c≠z->c≠TO->c≠i->c≠j->s.heap.get? c=some o->h'.get? c=some o)->(∃ o,h'.get? e=some o/\o.cls=.type "StopIteration")->E (.ref e) { s with heap:=h' }):wpAny (model prog w) A (Builtin.«zip.__next__» ⟨[.ref z],[]⟩) Q E s:=by
 refine aNA (m:=field (.ref z) 2) (aOB hz rfl (x:=.bool false) rfl ?_);refine aNA (m:=field (.ref z) 3) (aOB hz rfl (x:=.ref TI) rfl ?_);apply aNA;apply aPZ hI rfl;refine aNA (m:=Builtin.SmallTypes.ownedTupleIsFree (.ref z)) ?_
 delta Builtin.SmallTypes.ownedTupleIsFree
 apply aNA;refine aOB hz rfl (x:=.none) rfl ?_;apply aNC;simp only[aOA];apply aNA;apply aNE;apply aNA;refine aOB hz rfl (x:=.ref TO) rfl ?_;apply aNA;refine aP0 hz (by simp) λH1 z1 s1=>?_
 have z1:IsZip H1 z TI TO .ellipsis:=z1;apply aNA;simp only[List.zipIdx_cons,List.zipIdx_nil,aPK,aPJ];apply aNA;apply aNA;apply aP1;refine aNA (m:=Builtin.SmallTypes.nextOf (.ref i)) ?_;have i1:=hi.extBut s1.extBut D.i1z;have l1:IsTup H1 l xs:=cF hl λo e=>s1.extBut _ o D.l1z e;cases hx:xs[ki]? with
 | none =>
  refine jB h0 i1 l1 hx λH2 e s2 he=>?_;obtain ⟨oe,g,c⟩:=he;have z2:IsZip H2 z TI TO .ellipsis:=s2 _ _ D.i1z.symm z1;have ez:e≠z:=by rintro rfl;rw[z2] at g;cases g;simp at c
  refine aP0 z2 (by simp) λH3 _ s3=>?_
  exact q H3 e (λc o c1 _ c3 _ x=>s3.extBut _ _ c1 (s2 _ _ c3 (s1.extBut _ _ c1 x))) ⟨oe,s3.extBut _ _ ez g,c⟩
 | some x =>
  have hy:ys[kj]? = none:=by
   rcases hn with h | h
   . rw[hx] at h;cases h
   . exact h
  refine hX i1 l1 hx λH2 i2 s2=>?_;apply aNC;have o2:IsPair H2 TO a b:=s2.extBut _ _ D.TOi1 (s1.extBut _ _ D.TOz hO);apply aNA;apply aPZ o2 rfl;apply aNA;refine aP2 o2 λH3 o3 s3=>?_;apply aNA;apply wpAny_letGo;apply aNC;apply aNA;apply aNA;apply aP1;refine aNA (m:=Builtin.SmallTypes.nextOf (.ref j)) ?_;have j3:H3.IsTupleIter j m kj:=((hj.extBut s1.extBut D.i2z).extBut s2.extBut D.i12.symm).extBut s3.extBut D.TOi2.symm;have m3:IsTup H3 m ys:=cF hm λo e=>s3.extBut _ o D.l2TO (s2.extBut _ o D.l2i1 (s1.extBut _ o D.l2z e));refine jB h0 j3 m3 hy λH4 e s4 he=>?_;obtain ⟨oe,g,c⟩:=he;have z4:IsZip H4 z TI TO .ellipsis:=s4 _ _ D.i2z.symm (s3.extBut _ _ D.TOz.symm (s2.extBut _ _ D.i1z.symm z1));have ez:e≠z:=by rintro rfl;rw[z4] at g;cases g;simp at c
  refine aP0 z4 (by simp) λH5 _ s5=>?_
  exact q H5 e (λc o c1 c2 c3 c4 x=>s5.extBut _ _ c1 (s4 _ _ c4 (s3.extBut _ _ c2 (s2.extBut _ _ c3 (s1.extBut _ _ c1 x))))) ⟨oe,s5.extBut _ _ ez g,c⟩
theorem aGO{z TI TO i j l m:Addr}{ki kj:Nat}{xs ys:Array Value}{x y a b:Value}{Q:Option Value->Shared->Prop}(D:ZipApart z TI TO i j l m)(hz:IsZip s.heap z TI TO .none)(hI:IsPair s.heap TI (.ref i) (.ref j))(hO:IsPair s.heap TO a b)(hi:s.heap.IsTupleIter i l ki)(hj:s.heap.IsTupleIter j m kj)(hl:IsTup s.heap l xs)(hm:IsTup s.heap m ys)(hx:xs[ki]? = some x)(hy:ys[kj]? = some y)(q:∀ h',IsZip h' z TI TO (rawInt s.heap.objs.size)->IsPair h' TO x y->h'.IsTupleIter i l (ki+1)->h'.IsTupleIter j m (kj+1)->IsPair h' s.heap.objs.size x y->h'.objs.size=s.heap.objs.size+1->(∀ c o,c≠z->c≠TO->c≠i->c≠j->s.heap.get? c=some o->h'.get? c=some o)->Q (some (.ref s.heap.objs.size)) { s with heap:=h' }):wpAny (model prog w) A (pyNext (.ref z)) Q E s:=by
 have ty:s.TypeIs (.ref z) "zip" := ⟨_,hz,rfl⟩
 delta pyNext
 apply aNA;apply aP3;apply aOE (name:=Str.ofString "__next__") ty aP4;refine aOG aP4 ty aP5 ?w (aP6 _)
 case w=>exact aGM D hz hI hO hi hj hl hm hx hy λh' a1 a2 a3 a4 a5 a6 a7=>aNC (q h' a1 a2 a3 a4 a5 a6 a7)
theorem aGP{z TI TO i j l m:Addr}{ki kj:Nat}{xs ys:Array Value}{a b:Value}{Q:Option Value->Shared->Prop}(h0:A.handled=none)(D:ZipApart z TI TO i j l m)(hz:IsZip s.heap z TI TO .none)(hI:IsPair s.heap TI (.ref i) (.ref j))(hO:IsPair s.heap TO a b)(hi:s.heap.IsTupleIter i l ki)(hj:s.heap.IsTupleIter j m kj)(hl:IsTup s.heap l xs)(hm:IsTup s.heap m ys)(hn:xs[ki]? = none\/ys[kj]? = none)(q:∀ h',(∀ c o,c≠z->c≠TO->c≠i->c≠j->s.heap.get? c=some o->h'.get? c=some o)->Q none { s with heap:=h' }):wpAny (model prog w) A (pyNext (.ref z)) Q E s:=by
 have ty:s.TypeIs (.ref z) "zip" := ⟨_,hz,rfl⟩
 delta pyNext
 apply aNA;apply aP3;apply aOE (name:=Str.ofString "__next__") ty aP4;refine aOG aP4 ty aP5 ?w (aP6 _)
 case w=>refine aGN h0 D hz hI hO hi hj hl hm hn λh' e k he=>?_;obtain ⟨o,g,c⟩:=he;apply aNA;refine aP7 (T := "StopIteration") (b:=true) ⟨o,g,c⟩ isSubtype_stop ?_;exact aNC (q _ k)
def tIt(l:Addr):Obj:={ cls:=.type "tuple_iterator", data:=.fields #[.ref l,.int 0 0] }
def zp2(h:Heap)(l m:Addr):Heap:=(h.push (tIt l)).push (tIt m)
def zp3(h:Heap)(l m:Addr):Heap:=(zp2 h l m).push { cls:=.type "tuple", data:=.seq #[.ref h.objs.size,.ref (h.push (tIt l)).objs.size] }
def zp4(h:Heap)(l m:Addr):Heap:=(zp3 h l m).push { cls:=.type "tuple", data:=.seq #[.none,.none] }
def zp5(h:Heap)(l m:Addr):Heap:=(zp4 h l m).push { cls:=.type "zip", data:=.fields #[.none,.bool false,.bool false,.ref (zp2 h l m).objs.size,.ref (zp3 h l m).objs.size] }
theorem zs2(h:Heap)(l m:Addr):(zp2 h l m).objs.size=h.objs.size+2:=by unfold zp2;rw[aPP,aPP]
theorem zs3(h:Heap)(l m:Addr):(zp3 h l m).objs.size=h.objs.size+3:=by unfold zp3;rw[aPP,zs2]
theorem zs4(h:Heap)(l m:Addr):(zp4 h l m).objs.size=h.objs.size+4:=by unfold zp4;rw[aPP,zs3]
theorem zs5(h:Heap)(l m:Addr):(zp5 h l m).objs.size=h.objs.size+5:=by unfold zp5;rw[aPP,zs4]
theorem aGQ(l m:Addr)(xs ys:Array Value):Meets (Builtin.«zip.__new__» ⟨[.type "zip", .ref l,.ref m],[]⟩) (λ_ R s=>s.heap.IsTuple l xs/\s.heap.IsTuple m ys/\R (.ok (.ret (.ref (zp4 s.heap l m).objs.size))) { s with heap:=zp5 s.heap l m }) :=
 .of_wp λprog w A R s h=>by
  obtain ⟨hp,g,d,tk,os⟩:=s;obtain ⟨hl,hm,h⟩:=h;have f:=sub_zip;have e1:Heap.IsTuple (Shared.heap ⟨hp,g,d,tk,os⟩) l xs:=hl;have e2:Heap.IsTuple (Shared.heap ⟨hp.push { cls:=.type "tuple_iterator", data:=.fields #[.ref l,.int 0 0] },g,d,tk,os⟩) m ys:=Heap.IsTuple.push hm _
  wp_walk using aNI e1,aNI e2
  exact ⟨_,rfl,h⟩
theorem aGR{l m:Addr}{xs ys:Array Value}{Q:VSP}(hl:s.heap.IsTuple l xs)(hm:s.heap.IsTuple m ys)(q:∀ h',IsZip h' (s.heap.objs.size+4) (s.heap.objs.size+2) (s.heap.objs.size+3) .none->IsPair h' (s.heap.objs.size+2) (.ref s.heap.objs.size) (.ref (s.heap.objs.size+1))->IsPair h' (s.heap.objs.size+3) .none .none->h'.IsTupleIter s.heap.objs.size l 0->h'.IsTupleIter (s.heap.objs.size+1) m 0->h'.objs.size=s.heap.objs.size+5->(∀ c o,s.heap.get? c=some o->h'.get? c=some o)->Q (.ref (s.heap.objs.size+4)) { s with heap:=h' }):wpAny (model prog w) A (call (.type "zip") [.ref l,.ref m]) Q E s:=by
 have p4:∀ {c:Addr} {o:Obj},(zp4 s.heap l m).get? c=some o->(zp5 s.heap l m).get? c=some o:=λe=>hps e;have p3:∀ {c:Addr} {o:Obj},(zp3 s.heap l m).get? c=some o->(zp5 s.heap l m).get? c=some o:=λe=>p4 (hps e);have p2:∀ {c:Addr} {o:Obj},(zp2 s.heap l m).get? c=some o->(zp5 s.heap l m).get? c=some o:=λe=>p3 (hps e);have p1:∀ {c:Addr} {o:Obj},(s.heap.push (tIt l)).get? c=some o->(zp5 s.heap l m).get? c=some o:=λe=>p2 (hps e);have w1:(s.heap.push (tIt l)).objs.size=s.heap.objs.size+1:=aPP ..;have g5:(zp5 s.heap l m).get? (zp4 s.heap l m).objs.size=some _:=aMQ _ rfl;have g4:(zp5 s.heap l m).get? (zp3 s.heap l m).objs.size=some _:=p4 (aMQ _ rfl);have g3:(zp5 s.heap l m).get? (zp2 s.heap l m).objs.size=some _:=p3 (aMQ _ rfl);have g2:(zp5 s.heap l m).get? (s.heap.push (tIt l)).objs.size=some (tIt m):=p2 (aMQ _ rfl);have g1:(zp5 s.heap l m).get? s.heap.objs.size=some (tIt l):=p1 (aMQ _ rfl);refine callType_new F.called_zip (by decide) (F.typeCall_zip_2 _ _) (F.newCall_zip_2 _ _) (λobj=>F.args_object_init_3 obj _ _) F.entry_zip_new (aGQ l m xs ys) ⟨hl,hm,?_⟩
 show _/\_;rw[zs2,zs3,zs4] at g5;rw[w1,zs2] at g3;rw[zs3] at g4;rw[w1] at g2;rw[zs4];refine ⟨⟨_,g5,rfl⟩,q _ g5 g3 g4 ⟨_,g1,rfl,rfl⟩ ⟨_,g2,rfl,rfl⟩ (zs5 ..) λc o x=>p1 (hps x)⟩
end
section
variable {X:Cx}{aA:LAO}{σ:L2.St}{H:Hp}{s:Shared}{h':Heap}
theorem aGS{t':Nat}{its:List Addr}{n:Addr}{xs:List V}(I:Inv X aA σ H s)(k:∀ b o,b∉its->s.heap.get? b=some o->h'.get? b=some o)(hf:∀ b∈its,dY X aA H b)(hn:s.heap.objs.size<=n)(new:∃ us,aO xs us/\fF h' n us.toArray)(hz:xs.length<=sizeLine):Inv X aA σ (upd H n (.tup xs)) { s with heap:=h',toks:=t' }:=by
 have fr:H n=none:=I.hok.fresh hn;have lt:∀ {b o},s.heap.get? b=some o->b≠n:=λe z=>absurd (aMR e) (by rw[z];exact Nat.not_lt.mpr hn)
 have nb:∀ {b u},H b=some u->b≠n:=λe z=>by rw[z,fr] at e;cases e
 have ni:∀ {b u},H b=some u->b∉its:=λe z=>by rw[(hf _ z).1] at e;cases e
 refine I.call (g':=s.gens) (d':=s.drawn) (ch:=its) ⟨λb o e _ _ hx=>k b o hx e,λb o e _ _ hx=>⟨o.slots,k b o hx e⟩,λb o e h0 _=>by rw[aR (lt e)];exact h0,λb o e hx=>⟨o,k b o hx e⟩,
  λb u e=>by rw[aR (nb e)];exact e,λb u v e=>by rw[aR (nb e)];exact e,λb u e=>⟨#[],by rw[aR (nb e),e];simp⟩⟩ (λb u e=>?_) I.bare λb hb=>?_
 . by_cases hb:b=n
   . subst hb;rw[bU] at e;cases e;exact ⟨hz,new⟩
   . rw[aR hb] at e;refine (I.hok b u e).stay (λc v hc q=>k c v ?_ q) (λc q=>?_) λc v q=>?_
     . rcases hc with z | z
       . rw[z];exact ni e
       . exact ni z
     . rw[aR (nb q)];exact q
     . rw[aR (nb q)];exact q
 . obtain ⟨f0,f1,f2,f3,f4,f5⟩:=hf b hb;exact ⟨f3,f1,f4,f5⟩
theorem aGT{t':Nat}{its:List Addr}(I:Inv X aA σ H s)(k:∀ b o,b∉its->s.heap.get? b=some o->h'.get? b=some o)(hf:∀ b∈its,dY X aA H b):Inv X aA σ H { s with heap:=h',toks:=t' }:=by
 have ni:∀ {b u},H b=some u->b∉its:=λe z=>by rw[(hf _ z).1] at e;cases e
 refine I.call (g':=s.gens) (d':=s.drawn) (ch:=its) ⟨λb o e _ _ hx=>k b o hx e,λb o e _ _ hx=>⟨o.slots,k b o hx e⟩,λb o e h0 _=>h0,λb o e hx=>⟨o,k b o hx e⟩,
  λb u e=>e,λb u v e=>e,λb u e=>⟨#[],by rw[e];simp⟩⟩ (λb u e=>?_) I.bare λb hb=>?_
 . refine (I.hok b u e).stay (λc v hc q=>k c v ?_ q) (λ_ q=>q) λ_ _ q=>q;rcases hc with z | z
   . rw[z];exact ni e
   . exact ni z
 . obtain ⟨f0,f1,f2,f3,f4,f5⟩:=hf b hb;exact ⟨f3,f1,f4,f5⟩
end
section
variable {C:Cw}{X:Cx}{tg e:Expr}{g:Rho->Res}{gs:Rho->aS}{pos p:Pos}
theorem aGU(n l m:Nat)(hl:l<n)(hm:m<n):ZipApart (n+4) (n+2) (n+3) n (n+1) l m:=by constructor <;> (refine λ(q:@Eq Nat _ _)=>?_;omega)
theorem aGV:bootBuiltins ("zip" : Str)=some (.type "zip"):=by first | rfl | decide +kernel | kernel_rfl
end
open PySem.AutoSeq1 (wpAny_loadPart')
theorem aGW{prog:Program}{w:World}{A:Around}(hh:A.handled=none)(it t:Addr)(hne:t≠it)(items:Array Value):Draws prog w A it [it,t] items.size (λi v=>items[i]? = some v) (λi h=>h.IsTupleIter it t i/\IsTup h t items) where
 live:=λ_ _ st=>let ⟨o,ho,_⟩:=st.1;⟨o,ho⟩
 frame:=λ_ _ _ st hk=>⟨st.1.at λo e=>hk it (by simp) o e,cF st.2 λo e=>hk t (by simp) o e⟩
 item:=λi s Q E hi st hQ=>by
  refine hX st.1 st.2 (x:=items[i]) (by simp[hi]) λh' hit' hs'=>?_
  exact hQ _ h' s.toks (by simp[hi]) ⟨hit',cF st.2 λo e=>hs'.extBut _ o hne e⟩ hs'
 done:=λs Q E st hE=>jB hh st.1 st.2 (by simp) hE
theorem aGX(l:Addr)(items:Array Value):Meets (Builtin.«enumerate.__new__» ⟨[.type "enumerate", .ref l],[]⟩) (λ_ R s=>s.heap.IsTuple l items/\R (.ok (.ret (.ref (s.heap.push { cls:=.type "tuple_iterator", data:=.fields #[.ref l,.int 0 0] }).objs.size))) { s with heap:=(s.heap.push { cls:=.type "tuple_iterator", data:=.fields #[.ref l,.int 0 0] }).push { cls:=.type "enumerate", data:=.fields #[.none,.bool false,.ref s.heap.objs.size,rawInt 0,.none,.none] } }) :=
 .of_wp λprog w A R s h=>by
  obtain ⟨hp,g,d,tk,os⟩:=s;obtain ⟨hL,h⟩:=h;have hsub:=sub_enumerate;have hL:Heap.IsTuple (Shared.heap ⟨hp,g,d,tk,os⟩) l items:=hL;obtain ⟨o,ho,hc,n,hd⟩:=id hL
  wp_walk using wpAny_loadPart' ho
  refine wpAny_stack_any λst=>aNC ?_;split
  . rename_i c _ _ _ _ _;cases (c==Value.type "enumerate")
    . wp_walk using wpAny_loadPart' ho,aNI hL
      exact ⟨_,rfl,h⟩
    . wp_walk using wpAny_loadPart' ho,aNI hL
      exact ⟨_,rfl,h⟩
  . wp_walk using wpAny_loadPart' ho,aNI hL
    exact ⟨_,rfl,h⟩
section
variable {prog:Program}{w:World}{A:Around}{E:VSP}{s:Shared}
theorem aGY{a:Addr}{us:Array Value}{Q:VSP}(ha:s.heap.IsTuple a us)(q:∀ g,IsEnum g (s.heap.objs.size+1) s.heap.objs.size 0 .none->g.IsTupleIter s.heap.objs.size a 0->(∀ c u,s.heap.get? c=some u->g.get? c=some u)->Q (.ref (s.heap.objs.size+1)) { s with heap:=g }):wpAny (model prog w) A (call (.type "enumerate") [.ref a]) Q E s:=by
 let i0:Obj:={ cls:=.type "tuple_iterator", data:=.fields #[.ref a,.int 0 0] }
 let e0:Obj:={ cls:=.type "enumerate", data:=.fields #[.none,.bool false,.ref s.heap.objs.size,rawInt 0,.none,.none] }
 have z1:(s.heap.push i0).objs.size=s.heap.objs.size+1:=aPP ..;have g1:((s.heap.push i0).push e0).get? (s.heap.objs.size+1)=some e0:=by rw[<- z1];exact aMQ _ rfl
 have g0:((s.heap.push i0).push e0).get? s.heap.objs.size=some i0:=hps (aMQ _ rfl);have up:∀ c u,s.heap.get? c=some u->((s.heap.push i0).push e0).get? c=some u:=λc u z=>hps (hps z);have fin:(∃ o,((s.heap.push i0).push e0).get? (s.heap.objs.size+1)=some o/\o.cls=.type "enumerate")/\Q (.ref (s.heap.objs.size+1)) { s with heap:=(s.heap.push i0).push e0 }:=⟨⟨e0,g1,rfl⟩,q _ g1 ⟨i0,g0,rfl,rfl⟩ up⟩
 rw[<- z1] at fin;exact callType_new F.called_enumerate (by decide) (F.typeCall_enumerate_1 _) (F.newCall_enumerate_1 _) (λo=>F.args_object_init_2 o _) F.entry_enumerate_new (aGX a us) ⟨ha,fin⟩
end
def Ite(Sq:Hp->List V->Prop):It :=
 ⟨fun i H => ∃ xs x, Sq H xs ∧ xs[i]? = some x,
  λi H v H'=>∃ p x,v=.ref p/\H p=none/\H'=upd H p (.tup [.int i,x])/\∀ xs,Sq H xs->xs[i]? = some x,
  λi H=>∃ xs,Sq H xs/\xs.length<=i⟩
section
variable {P:Program}{w:World}{K:Fg}{elts:List Expr}{cx:Nat}{pos:Pos}
theorem uY{Sq:Hp->List V->Prop}(e it l:Addr)(hei:e≠it)(hel:e≠l)(hli:l≠it)(It':Nat->Heap->Prop)(At:Heap->Array Value->Prop)(live:∀ i h,It' i h->∃ o,h.get? it=some o/\∀ v,o.data ≠ .cell v)(keep:∀ i h h',It' i h->(∀ o,h.get? it=some o->h'.get? it=some o)->It' i h')(dr:∀ A:Around,A.handled=none->∀ items:Array Value,Draws P w A it [it,l] items.size (λi v=>items[i]? = some v) (λi h=>It' i h/\At h items))(dn:∀ (A:Around) (s:Shared) (items:Array Value) (k:Nat) (Q E:VSP),A.handled=none->It' k s.heap->At s.heap items->items[k]? = none->(∀ h' x,Heap.ExtBut it s.heap h'->(∃ o,h'.get? x=some o/\o.cls=.type "StopIteration")->E (.ref x) { s with heap:=h' })->wpAny (model P w) A (Builtin.SmallTypes.nextOf (.ref it)) Q E s)(look:∀ (X:Cx) (aA:LAO) (s:Shared) (σ:L2.St) (H:Hp) (xs:List V),X.prog=P->X.w=w->X.K=K->Inv X aA σ H s->Sq H xs->∃ us,aO xs us/\At s.heap us.toArray)(inj:∀ (X:Cx) (aA:LAO) (s:Shared) (σ:L2.St) (H:Hp) (xs ys:List V),X.prog=P->X.w=w->X.K=K->Inv X aA σ H s->Sq H xs->Sq H ys->ys=xs):fY P w K (.Tuple elts cx pos) (Ite Sq) [e,it] e (λk h=>(∃ old,IsEnum h e it k old)/\It' k h) where
 mem:=by simp
 obj:=λk h st b hb=>by
  obtain ⟨⟨old,he⟩,hi⟩:=st;simp only[aM0,aP8,aP9] at hb;rcases hb with rfl | rfl
  . exact ⟨_,he,λv e=>by cases e⟩
  . obtain ⟨o,e,d⟩:=live k h hi;exact ⟨o,e,d⟩
 keep:=λk h h' st q=>by obtain ⟨⟨old,he⟩,hi⟩:=st;exact ⟨⟨old,q e (by simp) _ he⟩,keep k h h' hi λo e=>q it (by simp) o e⟩
 item:=by
  intro X hP hw hK hc k aA s σ H E I hf st hg;obtain ⟨⟨old,he⟩,hi⟩:=st;obtain ⟨xs,x,ql,hx⟩:=hg;obtain ⟨us,r1,p1⟩:=look X aA s σ H xs hP hw hK I ql;obtain ⟨u,hu,ru⟩:=r1.get hx;have hlt:k<us.toArray.size:=by rw[aNO];exact (aM3.mp hu).1
  refine wpAny_pyNext_enum_itemD (dr X.A.in1 (I.ok.hd hc) us.toArray) he ⟨hi,p1⟩ hlt hei (by simp[hei,hel]) λx' h' tk hx' a1 a2 a3 a4 a5=>?_
  have:x'=u:=by rw[List.getElem?_toArray] at hx';rw[hu] at hx';exact (aMP hx').symm
  subst this;refine ⟨_,rfl,wpAny_letOwnedTupleGo_enum (s:={ s with heap:=h',toks:=tk+1 }) a1 λh2 b1 b2=>?_⟩
  have en:s.heap.objs.size≠e:=λq=>absurd (aMR he) (by rw[<- q];exact aMT _)
  have up:∀ b o,b∉[e,it]->s.heap.get? b=some o->h2.get? b=some o:=λb o hb z=>by simp only[aM0,aP8,aP9,aPV] at hb;exact b2.extBut _ _ hb.1 (a5 b o hb.1 hb.2 z)
  have I2:=aGS (t':=tk+1) (xs:=[.int k,x]) I up hf (aNH _) ⟨[.int k tk,x'],.cons ⟨tk,rfl⟩ (.cons ru .nil),⟨_,b2.extBut _ _ en a3,rfl,rfl,_,rfl⟩⟩ (show 2<=sizeLine by decide +kernel)
  refine ⟨.ref s.heap.objs.size,_,I2,rfl,⟨_,x,rfl,I.hok.fresh (aNH _),rfl,λzs q=>by rw[inj X aA s σ H xs zs hP hw hK I ql q];exact hx⟩,?_,λb hb=>?_⟩
  . have ek:((k:Int)+1)=((k+1:Nat):Int):=by omega
    rw[ek] at b1;exact ⟨⟨x',b1⟩,keep _ _ _ a2.1 λo z=>b2.extBut _ o hei.symm z⟩
  . have hb0:=hb;obtain ⟨o,z⟩:∃ o,s.heap.get? b=some o:=by
      simp only[aM0,aP8,aP9] at hb;rcases hb with rfl | rfl
      . exact ⟨_,he⟩
      . obtain ⟨o,z,_⟩:=live _ _ hi;exact ⟨o,z⟩
    rw[aR λq=>absurd (aMR z) (by rw[q];exact aMT _)]
    exact (hf b hb0).1
 done:=by
  intro X hP hw hK hc k aA s σ H E I hf st hg;obtain ⟨⟨old,he⟩,hi⟩:=st;obtain ⟨xs,ql,hn⟩:=hg;obtain ⟨us,r1,p1⟩:=look X aA s σ H xs hP hw hK I ql;have e1:=r1.length;have te:s.TypeIs (.ref e) "enumerate" := ⟨_,he,rfl⟩
  delta pyNext
  apply aNA;apply aP3;apply aOE (name:=Str.ofString "__next__") te F.slot_enumerate_next;refine aOG F.slot_enumerate_next te F.entry_enumerate_next ?nx (F.args_enumerate_next_1 _);refine aNA (m:=field (.ref e) 2) (aOB he rfl (x:=.ref it) rfl ?_);refine aNA (dn X.A.in1 s us.toArray k _ _ (I.ok.hd hc) hi p1 (by simp;omega) λh' x he' hx'=>?_)
  obtain ⟨o,ho,hc'⟩:=hx';refine aNA (aP7 (T := "StopIteration") (b:=true) ⟨o,ho,hc'⟩ isSubtype_stop ?_);refine aNC ⟨rfl,aGT (t':=s.toks) I (λb o hb z=>he' b o (by
   simp only[aM0,aP8,aP9,aPV] at hb;exact hb.2) z) hf⟩
 self:=λ_ _ _ _ _ st h=>by obtain ⟨⟨old,he⟩,_⟩:=st;exact aQA he h
theorem aGZ(e it l:Addr)(hei:e≠it)(hel:e≠l)(hli:l≠it):fY P w K (.Tuple elts cx pos) (Ite λH=>SqL K H l) [e,it] e (λk h=>(∃ old,IsEnum h e it k old)/\h.IsListIter it l k) :=
 uY e it l hei hel hli (fun k h => h.IsListIter it l k) (fun h xs => h.IsList l xs) (fun i h st => by
     obtain ⟨o,e,_,d⟩:=st;exact ⟨o,e,λv q=>by rw[d] at q;cases q⟩) (λi h h' st k=>st.at k) (λA hA items=>Draws.list hA it l hli items)
  (λA s items k Q E hA st ha hx q=>wpAny_nextOf_list_end hA st ha hx q)
  (λX aA s σ H xs hP hw hK I q=>by
   subst hK;obtain ⟨us,r,p,_⟩:=I.list q;exact ⟨us,r,p.isList⟩)
  (λX aA s σ H xs ys hP hw hK I q q'=>by subst hK;exact I.list_inj q' q)
theorem aG0(e it l:Addr)(hei:e≠it)(hel:e≠l)(hli:l≠it):fY P w K (.Tuple elts cx pos) (Ite λH=>SqT K H l) [e,it] e (λk h=>(∃ old,IsEnum h e it k old)/\h.IsTupleIter it l k) :=
 uY e it l hei hel hli (fun k h => h.IsTupleIter it l k) (fun h xs => IsTup h l xs) (fun i h st => by
     obtain ⟨o,e,_,d⟩:=st;exact ⟨o,e,λv q=>by rw[d] at q;cases q⟩) (λi h h' st k=>st.at k) (λA hA items=>aGW hA it l hli items)
  (λA s items k Q E hA st ha hx q=>jB hA st ha hx q)
  (λX aA s σ H xs hP hw hK I q=>by
   subst hK;obtain ⟨us,r,p,_⟩:=I.tuple q;exact ⟨us,r,p⟩)
  (λX aA s σ H xs ys hP hw hK I q q'=>by subst hK;exact I.tuple_inj q' q)
end
section
variable {C:Cw}{X:Cx}{tg e:Expr}{g:Rho->Res}{gs:Rho->aS}{pos p:Pos}
theorem aG1:bootBuiltins ("enumerate" : Str)=some (.type "enumerate"):=by first | rfl | decide +kernel | kernel_rfl
def uZ(K:Fg)(ta:TA):TI:=λσ H R=>ta σ H λvs H1=>∃ a xs,vs=[.ref a]/\((SqL K H1 a xs/\R (Ite λH=>SqL K H a) H1)\/(SqT K H1 a xs/\R (Ite λH=>SqT K H a) H1))
theorem aG2{a:Expr}{ta:TA}{elts:List Expr}{cx}{pp:Pos}(hg:Gl X "enumerate")(hm:X.mg "enumerate" = none)(ha:PA X [a] ta)(hs:starEach [a] X.env=[(false,eval a X.env)]:=by rfl):PI X (.Tuple elts cx pp) (.Call (.Name "enumerate" p) [a] [] pos) (uZ X.K ta):=by
 intro aA s σ H R I h;refine Call_ (gS I hg hm aG1 (aNJ (thn (ha pos aA s σ H _ I h) λus s1 q1=>?_) (by rw[hs];rfl) (by rfl)))
 obtain ⟨vs,H1,I1,r1,l,xs,rfl,q⟩:=q1;cases r1 with
 | cons r rr =>
  cases rr;cases r;have fb:∀ b:Addr,s1.heap.objs.size<=b->dY X aA H1 b:=λb hb=>I1.fpOk hb (I1.hok.fresh hb);have fin:∀ b:Addr,b∈[s1.heap.objs.size+1,s1.heap.objs.size]->dY X aA H1 b:=λb hb=>by
   simp only[aM0,aP8,aP9] at hb;rcases hb with rfl | rfl
   . exact fb _ (Nat.le_succ _)
   . exact fb _ (aNH _)
  rcases q with ⟨ql,q⟩ | ⟨ql,q⟩
  . obtain ⟨ls,_,p1,_⟩:=I1.list ql;have ll:l<s1.heap.objs.size:=by obtain ⟨o,n,e,_⟩:=id p1;exact aMR e
    refine call_enumerate_list p1.isList λh' a1 a2 a3 a4=>aQA (s:={ s1 with heap:=h' }) a1 ?_
    exact ⟨_,[s1.heap.objs.size+1,s1.heap.objs.size],_,_,H1,rfl,I1.kept (t':=s1.toks) a4,aGZ _ _ l (Nat.succ_ne_self _) (aNF (aPQ ll)) (aMU ll),⟨⟨_,a1⟩,a2⟩,fin,q⟩
  . obtain ⟨ls,_,p1,_⟩:=I1.tuple ql;have ll:l<s1.heap.objs.size:=by obtain ⟨o,e,_⟩:=id p1;exact aMR e
    refine aGY (show s1.heap.IsTuple l ls.toArray from p1) λh' a1 a2 a4=>aQA (s:={ s1 with heap:=h' }) a1 ?_
    exact ⟨_,[s1.heap.objs.size+1,s1.heap.objs.size],_,_,H1,rfl,I1.kept (t':=s1.toks) a4,aG0 _ _ l (Nat.succ_ne_self _) (aNF (aPQ ll)) (aMU ll),⟨⟨_,a1⟩,a2⟩,fin,q⟩
def cW:Nat->List D->List D
 | _,[]=>[]
 | i,d::ds=>.tup [.int i,d]::cW (i+1) ds
theorem m7:∀ {ds:List D} {i:Nat},(cW i ds).length=ds.length
 | [],_=>rfl
 | d::ds,i=>by simp only[cW,aOQ,m7]
theorem u5:∀ {ds:List D} {j i:Nat} {d:D},ds[i]? = some d->(cW j ds)[i]? = some (.tup [.int ((j+i:Nat):Int),d])
 | [],_,_,_,h=>by simp at h
 | x::ds,j,0,d,h=>by simp at h;subst h;rfl
 | x::ds,j,i+1,d,h=>by
  have:=u5 (ds:=ds) (j:=j+1) (i:=i) (by simpa using h)
  have e:j+1+i=j+(i+1):=by omega
  rw[e] at this;simpa[cW] using this
theorem u6{K:Fg}{F:Hp}{Sq:Hp->List V->Prop}{ds:List D}{xs:List V}(qa:∀ H,aG F H->Sq H xs)(ra:aE K F ds xs):kN K F (Ite Sq) (cW 0 ds) where
 go:=λi H s hi=>by
  rw[m7] at hi;have h1:i<xs.length:=by rw[ra.length];omega
  exact ⟨xs,xs[i],qa H s,by simp[h1]⟩
 stop:=λi H s hi=>by rw[m7] at hi;exact ⟨xs,qa H s,by rw[ra.length];omega⟩
 yld:=λi Fc H x H' s1 s2 hi y=>by rw[m7] at hi;obtain ⟨p,u,rfl,hp,rfl,hx⟩:=y;have ex:=hx xs (qa H (s1.trans s2));obtain ⟨u',e1,r1⟩:=ra.get' (aPC hi);rw[ex] at e1;cases e1;refine ⟨_,_,u5 (aPC hi),aL.laid (.tup [.int i,u]) s2 hp,?_⟩;refine aC.tup_of (s2.free hp) ?_;simp only[aE];exact ⟨.int i,[u],rfl,by simp only[aC,aPT],u,[],rfl,r1.mono s1 _ _,rfl⟩
def gE(r:aS):Res:=r.thn λxs=>match xs with
 | [(.fz,.lst ds)]=>.ok .fz (.lst (cW 0 ds))
 | [(.fz,.tup ds)]=>.ok .fz (.lst (cW 0 ds))
 | _=>.stuck
theorem aG3{a:Expr}{elts:List Expr}{cx}{pp:Pos}(hg:Gl X "enumerate")(hm:X.mg "enumerate" = none)(ha:PAv C X [a] gs)(hs:starEach [a] X.env=[(false,eval a X.env)]:=by rfl):PIv C X (.Tuple elts cx pp) (.Call (.Name "enumerate" p) [a] [] pos) (λρ=>gE (gs ρ)):=by
 refine PI.imp (aG2 hg hm ha hs) λσ H R q=>?_;obtain ⟨ρ,F,RS,w⟩:=q;dsimp only at w;unfold uZ;refine ⟨ρ,F,RS,?_⟩;cases er:gs ρ with
 | stuck=>rw[er] at w;exact w
 | exc c=>rw[er] at w;exact w
 | ok xs =>
  rw[er] at w;intro vs F' H' st rp;unfold gE at w;rw[aS.thn_ok] at w;split at w
  . rename_i ds;obtain ⟨v,rfl,r⟩:=rp.one;have r:aC X.K F' (.lst ds) v:=r;simp only[aC] at r;obtain ⟨a1,x1,rfl,q1,l1⟩:=r;exact ⟨a1,x1,rfl,.inl ⟨st.sub.seq q1,w _ F' H' st (u6 (λH s=>s.seq q1) l1)⟩⟩
  . rename_i ds;obtain ⟨v,rfl,r⟩:=rp.one;have r:aC X.K F' (.tup ds) v:=r;simp only[aC] at r;obtain ⟨a1,x1,rfl,q1,l1⟩:=r;exact ⟨a1,x1,rfl,.inr ⟨aG.seqT st.sub q1,w _ F' H' st (u6 (λH s=>aG.seqT s q1) l1)⟩⟩
  . exact w.elim
end
end D3
namespace D3
open PySem PySem.Spec PySem.Calls PyProof.Rows L2 PySem.W
section
variable {prog:Program}{w:World}{A:Around}{E:VSP}{s:Shared}{K:Fg}{x D:Addr}{ox:Obj}{od:Option Obj}
def XAt(h:Heap)(x:Addr)(ox:Obj)(D:Addr):Prop:=h.get? x=some ox/\ox.cls=.ref D
structure XCls(K:Fg)(D:Addr):Prop where
 ga:PySem.W.findIn K (.ref D) "__getattribute__" = some (some (.builtin "BaseException.__getattribute__"))
 gn:PySem.W.findIn K (.ref D) "__getattr__" = some none
 ca:PySem.W.findIn K (.ref D) "__class__" = some (some (.builtin "object.__class__"))
 bx:PySem.W.mroIn K D (.type "BaseException")=some true
 ob:PySem.W.mroIn K D (.type "object")=some true
 hn:PySem.W.specialIn K (.builtin "object.__class__") "__get__" = some (some (.builtin "getset_descriptor.__get__"))
 tk:PySem.W.takesIn K (.builtin "object.__class__")=some true
end
end D3
namespace D3
open PySem PySem.Spec PySem.Calls PyProof.Rows L2
structure Fly(P:Program)(w:World)(outer:List Env)(H:Hp)(s:Shared)(H1:Hp)(B hp:Heap):Prop where
 un:Un (frs outer) [] H H1 s.heap hp
 ok:HOk P w H1 hp
 kb:∀ b o,hp.get? b=some o->s.heap.get? b≠none->b∉frs outer->B.get? b=some o
 kh:∀ b u,H1 b=some u->∃ o,hp.get? b=some o/\B.get? b=some o
 fr:∀ b∈frs outer,H b=none/\∃ o,s.heap.get? b=some o/\∀ vs,o.data ≠ .fields vs
section
variable {P:Program}{w:World}{outer:List Env}{H H1:Hp}{s:Shared}{B hp h':Heap}
theorem fO{b:Addr}:b∉([]:List Addr):=by simp
theorem Fly.slots(f:Fly P w outer H s H1 B hp)(up:hp.UpToSlots h'){b:Addr}(hb:b∈frs outer):∃ o sl sl',s.heap.get? b=some o/\hp.get? b=some { o with slots:=sl }/\h'.get? b=some { o with slots:=sl' }:=by obtain ⟨hn,o,e,nf⟩:=f.fr b hb;obtain ⟨sl,e1⟩:=f.un.slot b o e hn hb fO;obtain ⟨sl',e2⟩:=up b _ e1 nf;exact ⟨o,sl,sl',e,e1,e2⟩
theorem Fly.on(f:Fly P w outer H s H1 B hp)(st:B.StaysIn h')(up:hp.UpToSlots h'):Fly P w outer H s H1 B h' where
 un:={
  keep:=λb o e n hb _=>st b o (f.kb b o (f.un.keep b o e n hb fO) (by rw[e];exact λz=>nomatch z) hb)
  slot:=λb o e n hb _=>by obtain ⟨o',sl,sl',e0,_,e2⟩:=f.slots up hb;rw[e] at e0;cases e0;exact ⟨sl',e2⟩
  free:=f.un.free
  there:=λb o e _=>by
   by_cases hb:b∈frs outer
   . obtain ⟨o',sl,sl',e0,_,e2⟩:=f.slots up hb;exact ⟨_,e2⟩
   . obtain ⟨o',e1⟩:=f.un.there b o e fO;exact ⟨o',st b o' (f.kb b o' e1 (by rw[e];exact λz=>nomatch z) hb)⟩
  tups:=f.un.tups
  frzs:=f.un.frzs
  tbls:=f.un.tbls }
 ok := fun a o e => (f.ok a o e).stay (fun b u hb q => by
     have:∃ u',H1 b=some u':=by
      rcases hb with rfl | hb
      . exact ⟨o,e⟩
      . exact ⟨_,hb⟩
     obtain ⟨u',eu⟩:=this;obtain ⟨o',e1,e2⟩:=f.kh b u' eu;rw[q] at e1;cases e1;exact st b u e2) (λ_ q=>q) λ_ _ q=>q
 kb:=λb o e ns hb=>by
  cases e0:s.heap.get? b with
  | none=>exact absurd e0 ns
  | some o0=>obtain ⟨o',e1⟩:=f.un.there b o0 e0 fO;have e2:=f.kb b o' e1 ns hb;have e3:=st b o' e2;rw[e] at e3;cases e3;exact e2
 kh:=λb u e=>by obtain ⟨o,_,e2⟩:=f.kh b u e;exact ⟨o,st b o e2,e2⟩
 fr:=f.fr
end
def CX1(P:Program)(w:World):CXT:=λouter H s E ev s'=>∃ (e C:Addr) (a0:Value) (H1:Hp) (B:Heap),
 ev=.ref e/\s'.os=s.os/\AllBare s'.gens/\Heap.FlyingW B outer e (.ref C) a0 s'.heap/\Fly P w outer H s H1 B s'.heap/\E (.ref C) none H1
section
variable {X:Cx}{aA:LAO}{σ:L2.St}{H H1:Hp}{s s':Shared}{B hp:Heap}{E:XK}
theorem aG4(I:Inv X aA σ H s):∀ b∈frs X.stack,H b=none/\∃ o,s.heap.get? b=some o/\∀ vs,o.data ≠ .fields vs:=λb hb =>
 ⟨I.stkFree b hb,(I.stack.mem hb).2⟩
theorem Fly.inv(I:Inv X aA σ H s)(f:Fly X.prog X.w X.stack H s H1 B s'.heap)(ho:s'.os=s.os)(hg:AllBare s'.gens):Inv X aA σ H1 s' :=
 Inv.call' (ch:=[]) I ho f.un f.ok hg (λb z=>absurd z fO)
theorem Fly.out(I:Inv X aA σ H s)(f:Fly X.prog X.w X.stack H s H1 B s'.heap)(ho:s'.os=s.os)(hg:AllBare s'.gens)(hx:X.ex=[])(hs:X.stack=X.env::X.outer)(hf:X.env.frame=some X.env.locals){h':Heap}(st:B.StaysIn h')(up:s'.heap.UpToSlots h'):Fly X.prog X.w X.outer X.H₀ X.s₀ H1 B h':=by
 have I1:=f.inv I ho hg;have f1:=f.on st up;have ub:=I1.base;rw[hx] at ub;have old:∀ b o,X.s₀.heap.get? b=some o->∃ o',s.heap.get? b=some o':=λb o e=>I.base.there b o e (by rw[hx];exact fO)
 have nl:∀ b o,X.s₀.heap.get? b=some o->b≠X.env.locals:=λb o e z=>absurd (aMR e) (by rw[z];exact Nat.not_lt.mpr I.ok.above)
 have sub:∀ b,b∉frs X.outer->b≠X.env.locals->b∉frs X.stack:=λb h1 h2 z=>by
  rcases aM0.mp (I.stkSub b z) with q | q
  . exact h2 q
  . exact h1 q
 have sup:∀ b,b∈frs X.outer->b∈frs X.stack:=λb hb=>by rw[hs];unfold frs;rw[aMZ,hf];exact mcm hb
 refine ⟨⟨λb o e n hb _=>?_,λb o e n hb _=>?_,ub.free,λb o e _=>?_,ub.tups,ub.frzs,ub.tbls⟩,f1.ok,λb o e ns hb=>?_,f1.kh,λb hb=>?_⟩
 . have e1:=ub.keep b o e n hb fO;obtain ⟨o',e0⟩:=old b o e;exact st b o (f.kb b o e1 (by rw[e0];exact λz=>nomatch z) (sub b hb (nl b o e)))
 . obtain ⟨sl,e1⟩:=ub.slot b o e n hb fO;obtain ⟨o',sl1,sl2,e0,e1',e2⟩:=f.slots up (sup b hb);have q:=aMP (e1.symm.trans e1');refine ⟨sl2,?_⟩;rw[e2];obtain ⟨c1,d1,t1,l1⟩:=o;obtain ⟨c2,d2,t2,l2⟩:=o';simp only[Obj.mk.injEq] at q;obtain ⟨rfl,rfl,rfl,_⟩:=q;rfl
 . obtain ⟨o',e0⟩:=old b o e;exact f1.un.there b o' e0 fO
 . cases e0:X.s₀.heap.get? b with
   | none=>exact absurd e0 ns
   | some o0=>obtain ⟨o',e1⟩:=old b o0 e0;exact f1.kb b o e (by rw[e1];exact λz=>nomatch z) (sub b hb (nl b o0 e0))
 . exact ⟨I.ok.frf b hb,(I.ok.funs.mem hb).2⟩
def kT(h:Heap)(l:List Env):Heap:=PySem.W.hideAll h (frs l)
theorem Fly.raise(I:Inv X aA σ H s)(hx:X.ex=[])(hs:X.stack=X.env::X.outer)(hf:X.env.frame=some X.env.locals){h':Heap}(st:(kT s.heap X.stack).StaysIn h')(up:s.heap.UpToSlots h'):Fly X.prog X.w X.outer X.H₀ X.s₀ H (kT s.heap X.stack) h':=by
 have f:Fly X.prog X.w X.stack H s H (kT s.heap X.stack) s.heap :=
  ⟨Un.refl,I.hok,λb o e _ hb=>aMV _ e hb,λb u e=>by
   have hn:b∉frs X.stack:=λz=>by rw[I.stkFree b z] at e;cases e
   have:∃ o,s.heap.get? b=some o:=by
    have:=I.hok b u e;cases u with
    | lst xs=>obtain ⟨_,_,_,_,e⟩:=this;exact ⟨_,e⟩
    | tup xs=>obtain ⟨_,_,_,o,e,_⟩:=this;exact ⟨_,e⟩
    | dK kvs=>obtain ⟨_,_,_,_,o,_,_,e,_⟩:=this;exact ⟨_,e⟩
    | dT kvs=>obtain ⟨_,_,_,_,o,_,_,e,_⟩:=this;exact ⟨_,e⟩
    | set S n=>obtain ⟨o,_,_,_,e,_⟩:=this;exact ⟨_,e⟩
    | ins C dx fs=>obtain ⟨_,_,_,e,_⟩:=this;exact ⟨_,e⟩
    | own y=>obtain ⟨_,e⟩:=this;exact ⟨_,e⟩
    | xd fs=>obtain ⟨_,⟨_,_,_,e,_⟩,_⟩:=this;exact ⟨_,e⟩
    | rng lo hi=>obtain ⟨_,_,_,e⟩:=this;exact ⟨_,e⟩
    | frz ob u=>obtain ⟨e,_⟩:=this;exact ⟨_,e⟩
    | tbl ps=>exact ⟨_,this⟩
    | met f y=>exact ⟨_,this⟩
    | ext φ=>obtain ⟨_,⟨_,e⟩,_⟩:=this;exact ⟨_,e⟩
   obtain ⟨o,eo⟩:=this;exact ⟨o,eo,aMV _ eo hn⟩,aG4 I⟩
 exact f.out I rfl I.bare hx hs hf st up
end
def pY:List Value:=[.type "ValueError", .type "Exception", .type "BaseException", .type "object"]
def kU(K:Fg)(C:Addr):Prop:=PySem.W.excIn K C pY "ValueError.__new__" = true
def pZ(C:Cw)(X:Cx):Prop:=∀ (aA:LAO) (σ:L2.St) (H:Hp) (s:Shared) (c:Str) (Cc:Addr) (vs:List Value) (h':Heap) (e:Addr),Inv X aA σ H s->X.mg c=some (.ref Cc)->C.EE c σ H ->
 Heap.MadeExcOf s.heap h' e (.ref Cc) vs->X.xe (.ref e) { s with heap:=h' }
def rzR(c:Str)(ρ:Rho):aS->aB
 | .ok xs=>if xs.length<=sizeLine then .exc c ρ else .stuck
 | .exc c'=>.exc c' ρ
 | .stuck=>.stuck
theorem aG5{K:Fg}{C:Addr}(q:kU K C):∃ bm N nm qn bs hd sn sub ab col dd k0 k1 k2 k3 k5,∀ h:Heap,K.In h->h.get? C=some (excClassObj nm qn C N bs bm hd sn sub ab col dd k0 k1 k2 k3 k5 "ValueError.__new__")/\h.Ns N (h.nsMap N)/\h.nsMap N "__init__" = none/\OwnTail h pY bm:=by
 unfold kU PySem.W.excIn at q;split at q
 . rename_i dd cd sl ho;split at q
   . rename_i C' bm k0 k1 k2 k3 n k5 hm hs;rw[aOI,aOI,aOI,aOI,aOI] at q;obtain ⟨⟨⟨⟨⟨q1,q2⟩,q3⟩,q4⟩,q5⟩,q6⟩:=q;obtain ⟨nm,bs,mro,ns,qn,hd,sn,sub,ab,col,del⟩:=cd;have e1:C'=C:=aO7.mp q1;have e2:n = "ValueError.__new__" := aO7.mp q2;have e3:del=false:=by simpa using q3
     have e4:sl = #[k0,k1,k2,k3,some (.builtin n),k5]:=Array.ext' hs;have e5:mro=.ref C'::bm:=hm;subst e1 e2 e3 e4 e5;refine ⟨bm,ns,nm,qn,bs,hd,sn,sub,ab,col,dd,k0,k1,k2,k3,k5,λh X=>⟨X _ _ ho,.of_isNs (PySem.W.isNs_of_in X q5),PySem.W.nsMap_none_of_in X q5 (aO7.mp q6),PySem.W.tail_of_in X q4⟩⟩
   . cases q
 . cases q
theorem u7{K:Fg}{F H:Hp}:∀ {xs:List (Md×D)} {vs:List V},RpL K F H xs vs->vs.length=xs.length
 | [],_,h=>by rw[show _=[] from h];rfl
 | _::_,_,h=>by obtain ⟨v,us,rfl,_,r⟩:=h;rw[aOQ,aOQ,u7 r]
section
variable {C:Cw}{X:Cx}{e:Expr}{es:List Expr}{gs:Rho->aS}{x:Str}{np cpos pos:Pos}
theorem aG6{Cc:Addr}(hm:X.mg x=some (.ref Cc))(Z:kU X.K Cc)(hh:X.A.handled=none)(hr:pZ C X)(hg:Gl X x)(ha:PAv C X (e::es) gs)(hd:(x==("__debug__" : Str))=false)(hst:∀ y∈e::es,cC y=true):PSv C X (.Raise (some (.Call (.Name x np) (e::es) [] cpos)) none pos) (λρ=>rzR x ρ (gs ρ)):=by
 intro aA s σ H En I q;obtain ⟨ρ,F,R,w⟩:=q;obtain ⟨bm,N,nm,qn,bs,hdc,sn,sub,ab,col,dd,k0,k1,k2,k3,k5,hobj⟩:=aG5 Z;have vb:=_root_.PySem.F.excBase_ValueError;have B0:=hobj X.base I.mod.kin;have st:=cU (es:=es) (env:=X.env) (hst e mcs);refine wpAny_Raise_call_subU (C:=Cc) (nm:=nm) (q:=qn) (N:=N) (bs:=bs) (bm:=bm) (hdct:=hdc) (sn:=sn) (sub:=sub) (ab:=ab) (col:=col) (dd:=dd) (k0:=k0) (k1:=k1) (k2:=k2) (k3:=k3) (k5:=k5)
  vb vb.hasB vb (mN:=X.base.nsMap N) (B0.2.2.2.hasType vb.hasBase) hh (hU _ _ hst) B0.2.2.1 (lX I hg hm ⟨rfl,?_⟩ hd)
 rw[st];refine Calls.evalArgs_plain ?_;have main:=ha cpos aA s σ H (λvs H1=>vs.length<=sizeLine/\C.EE x σ H1) I ?_
 . rw[st] at main;refine aM7 main (λus s2 h2=>?_) λ_ _ z=>z;obtain ⟨vs,H1,I1,r1,hl,he⟩:=h2;have B1:=hobj s2.heap I1.kIn;exact ⟨rfl,by rw[<- r1.length];exact hl,B1.1,B0.2.1.keeps I1.bk,B1.2.2.2,λh' ex made=>hr aA σ H1 s2 x Cc us h' ex I1 hm he made⟩
 . refine ⟨ρ,F,R,?_⟩;dsimp only at w;cases er:gs ρ with
   | stuck=>rw[er] at w;exact w
   | exc c=>rw[er] at w;exact λF' H' st=>w σ F' H' st.fsame (R.step st)
   | ok xs =>
    rw[er] at w;intro vs F' H' st rp;have w:bX (C.at X) F (if xs.length<=sizeLine then .exc x ρ else .stuck) En:=w;split at w
    . rename_i hl;exact ⟨by rw[u7 rp];exact hl,w σ F' H' st.fsame (R.step st)⟩
    . exact w.elim
structure FnCx(X:Cx):Prop where
 hx:X.ex=[]
 hs:X.stack=X.env::X.outer
 hf:X.env.frame=some X.env.locals
end
section
variable {P:Program}{w:World}{K:Fg}{mg:SOV}{base:Heap}{N:List Str}{aQ:Str}{scope:Scope}{f:Addr}{cdv:Value}{A:Around}{outer:List Env}{s:Shared}{H:Hp}{E:XK}
theorem fnCx:FnCx (dG (CX1 P w) P w K mg base N aQ scope f cdv A outer s H E):=⟨rfl,rfl,rfl⟩
def m8(mg:SOV)(E:XK):XE:=λc _ H'=>∀ u,mg c=some u->E u none H'
theorem aG7{C:Cw}(hE:C.EE=m8 mg E):XOk (CX1 P w) C (dG (CX1 P w) P w K mg base N aQ scope f cdv A outer s H E):=by intro aA σ H1 s1 ev s' I h;obtain ⟨e,Cc,a0,H2,B,rfl,ho,hg,fl,fy,c,hm,he⟩:=h;rw[hE] at he;have I0:=I.ok.frames;refine wpAny_leaves_onW I0 rfl fl λh' fl' up=>?_;exact ⟨e,Cc,a0,H2,B,rfl,ho.trans I.os,hg,fl',fy.out I ho hg rfl rfl rfl fl'.1 up,he _ hm⟩
theorem aG8{C:Cw}(hE:C.EE=m8 mg E):pZ C (dG (CX1 P w) P w K mg base N aQ scope f cdv A outer s H E):=by
 intro aA σ H1 s1 c Cc vs h1 e I hm he made;rw[hE] at he;have I0:=I.ok.frames;have hin:∀ env∈(dG (CX1 P w) P w K mg base N aQ scope f cdv A outer s H E).stack,∀ a,env.frame=some a->a∈frs (dG (CX1 P w) P w K mg base N aQ scope f cdv A outer s H E).stack:=λenv he a ha=>aNK.mpr ⟨env,he,ha⟩;have FF:s1.heap.FunFrames (kT s1.heap (dG (CX1 P w) P w K mg base N aQ scope f cdv A outer s H E).stack) _:=PySem.W.funFrames_hide I.stack hin;have st0:(kT s1.heap (dG (CX1 P w) P w K mg base N aQ scope f cdv A outer s H E).stack).StaysIn s1.heap:=λb o q=>PySem.W.of_hideAll _ q;refine wpAny_leaves_madeW (s:={ s1 with heap:=h1 }) I0 rfl st0 FF made λh' t fl _ _ up=>?_
 have up0:s1.heap.UpToSlots h':=(Heap.UpToSlots.of_keeps made.keeps).trans up;exact ⟨e,Cc,.ref t,H1,_,rfl,I.os,I.bare,fl,Fly.raise I rfl rfl rfl fl.1 up0,he _ hm⟩
end
structure HX where
 cls:Str
 slot:Option Nat
 g:Rho->aB
def qA(K:Fg)(mg:SOV)(xt:Str->Str->Option Bool):Prop:=∀ c x b,xt c x=some b->∃ C C2,PySem.W.nsIn K mainGlobals c=some (some (.ref C))/\mg c=some (.ref C)/\mg x=some (.ref C2) /\
 PySem.W.mroIn K C2 (.type "BaseException")=some true/\PySem.W.typeIn K (.ref C2)=some (.type "type")/\PySem.W.mroIn K C (.ref C2)=some b
section
variable {X:Cx}{aA:LAO}{σ:L2.St}{H:Hp}{s:Shared}{e:Addr}
end
section
variable {C:Cw}{X:Cx}{aA:LAO}{σ:L2.St}{H H1:Hp}{s s0:Shared}{e Cc:Addr}{a0:Value}{B:Heap}
end
section
variable {C:Cw}{X:Cx}{aA:LAO}{σ:L2.St}{H:Hp}{s:Shared}{D:eV}{hs:List ExceptHandler}{hx:List HX}{xt:Str->Str->Option Bool}
end
def m9(mg:SOV)(n:Str)(cv:V):Prop:=(∃ C,mg n=some (.ref C)/\cv=.ref C)\/(mg n=none/\n ≠ "__name__" /\ ∃ T,bootBuiltins n=some (.type T)/\cv=.ty T)
def u8:V->Value | .ref a=>.ref a | .ty T=>.type T | _=>.none
def qB(K:Fg)(mg:SOV)(xis:Str->Str->Option Bool):Prop:=∀ c n b,xis c n=some b->∃ C cv,PySem.W.nsIn K mainGlobals c=some (some (.ref C))/\XCls K C/\m9 mg n cv/\PySem.W.kitOne K (.ref C) (u8 cv)=some b
section
variable {C:Cw}{X:Cx}{e:Expr}{g:Rho->Res}{p q pos tp:Pos}{n:Str}{xis:Str->Str->Option Bool}
end
theorem aG9{P:Program}{w:World}{K:Fg}{mg:SOV}{base:Heap}{x aQ:Str}{st:Stmt}{f:Addr}{fd:FuncData}{N ps:List Str}{k:Nat}{g:Rho->aB}(F:Fun K x aQ st f fd)(S:l8 N ps (eK st))(hbody:∀ (C:Cw) (cdv:Value) (A:Around) (outer:List Env) (s:Shared) (H:Hp) (E:XK),C.EE=m8 mg E->cD k (A.deeper (envOfC aQ (eK st) s.heap.objs.size f cdv))->PBv C (dG (CX1 P w) P w K mg base N aQ (eK st) f cdv A outer s H E) (iT st) g):cQ P w K mg base (CX1 P w) (k+1) f fd ps (spV K mg ps.length (phi ps.length N.length g)):=by
 obtain ⟨oc,od,kV,doc,pm,an,cdv,ct,osl,rfl,lk,hcd⟩:=F.ex;refine fn_of lk hcd S (λvs H Q E h=>h.1) λA outer s H vs Q E hr h=>?_;obtain ⟨hl,F0,ds,sF,rl,h⟩:=h;have hl':ds.length=ps.length:=by rw[<- rl.length];exact hl
 let C:Cw:=⟨K,F0,H,m8 mg E⟩
 refine ⟨_,hbody C cdv A outer s H E rfl hr,fM N.length ds,F0,aFI sF rl,?_⟩;unfold phi at h;rw[if_pos hl'] at h;cases er:g (fM N.length ds) with
 | nx ρ=>rw[er] at h;exact λσ' F' H' _ R=>h.2 .non F' H' R.st tX (by intro z;cases z)
 | rt m d=>rw[er] at h;exact λv F' H' s rp fr=>h.2 v F' H' s rp fr
 | bk ρ=>rw[er] at h;exact h.elim
 | ct ρ=>rw[er] at h;exact h.elim
 | exc c ρ=>rw[er] at h;exact λσ' F' H' _ R u hu=>h F' H' u R.st hu
 | stuck=>rw[er] at h;exact h.elim
section
variable {C:Cw}{X:Cx}{e:Expr}{g:Rho->Res}{x:Str}{p ap cp pos:Pos}
end
end D3
namespace D3
open PySem PySem.Spec PyProof.Rows L2
section
variable {prog:Program}{w:World}{A:Around}{R:Result->Shared->Prop}{J:Addr}{fp wr:List Addr}{n:Nat}{P:Nat->Value->Prop}{St:Nat->Heap->Prop}{ns:List Int}{S:Addr}
end
section
variable {prog:Program}{w:World}{A:Around}{E:VSP}{s:Shared}
end
section
variable {C:Cw}{X:Cx}{e:Expr}{g:Rho->Res}{p q kp pos:Pos}{j}
end
theorem aE.drop{K:Fg}{F:Hp}:∀ (n:Nat) {ds:List D} {xs:List V},aE K F ds xs->aE K F (ds.drop n) (xs.drop n)
 | 0,_,_,h=>h
 | n+1,[],xs,h=>by simp only[aE] at h;subst h;simp[aE]
 | n+1,d::ds,xs,h=>by simp only[aE] at h;obtain ⟨v,vs,rfl,_,t⟩:=h;exact aE.drop n t
theorem aE.take{K:Fg}{F:Hp}:∀ (n:Nat) {ds:List D} {xs:List V},aE K F ds xs->aE K F (ds.take n) (xs.take n)
 | 0,_,_,_=>by simp[aE]
 | n+1,[],xs,h=>by simp only[aE] at h;subst h;simp[aE]
 | n+1,d::ds,xs,h=>by simp only[aE] at h;obtain ⟨v,vs,rfl,r,t⟩:=h;simp only[List.take_succ_cons,aE];exact ⟨v,_,rfl,r,aE.take n t⟩
def d9(xs:List D)(lo hi:Option Int):List D:=(xs.drop (HT.sIx xs.length 0 lo)).take (HT.sIx xs.length xs.length hi-HT.sIx xs.length 0 lo)
theorem aE.cut{K:Fg}{F:Hp}{ds:List D}{xs:List V}(h:aE K F ds xs)(lo hi:Option Int):aE K F (d9 ds lo hi) (fJ xs lo hi):=by unfold d9 fJ;rw[h.length];exact (h.drop _).take _
def kW(n:Nat)(lo hi:Option Int):Bool:=HT.sIx n 0 lo==0&&HT.sIx n n hi==n
def slP(x:Res)(lo hi:Option (Rho->Res))(ρ:Rho):Res:=x.thn λm d=>match d with
 | .str z=>cT lo ρ λl=>cT hi ρ λh=>.ok .fz (.str (Txt.slice z l h))
 | .lst ds=>cT lo ρ λl=>cT hi ρ λh=>.ok .fr (.lst (d9 ds l h))
 | .tup ds=>cT lo ρ λl=>cT hi ρ λh=>if (kW ds.length l h&&m != .fz)=true then .stuck else .ok .fz (.tup (d9 ds l h))
 | _=>.stuck
section
variable {C:Cw}{X:Cx}{a:Expr}{ga:Rho->Res}{pos:Pos}
theorem aHA{lo hi:Option Expr}{gl gh:Option (Rho->Res)}{p2:Pos}(ha:PV C X a ga)(hl:POv C X lo gl)(hh:POv C X hi gh):PV C X (.Subscript a (.Slice lo hi none p2) pos) (λρ=>slP (ga ρ) gl gh ρ):=by
 refine PE.imp (aCK (aEA.or (aCT.or (aCL.or aF6))) ha (uB hl) (uB hh)) λσ H Q q=>?_;unfold tSl;rw[a9] at q ⊢;obtain ⟨ρ,F,R,w⟩:=q
 try dsimp only at w
 refine ⟨ρ,F,R,?_⟩;cases er:ga ρ with
 | stuck=>rw[er] at w;exact w
 | exc c=>rw[er] at w;exact w
 | ok m d =>
  rw[er] at w;intro v F1 H1 s1 rp _;cases d with
  | str z=>obtain ⟨rfl,hz,hk⟩:=rp.str;have w1:aX (C.at X) F1 H1 σ (cT gl ρ λl=>cT gh ρ λh=>.ok .fz (.str (Txt.slice z l h))) Q:=aX.step s1 w;refine iW (R.step s1) w1 λl F2 H2 s2 R2 w2=>iW R2 w2 λh F3 H3 s3 R3 w3=>.inl ?_;exact ⟨z,rfl,hz,w3 _ F3 H3 (.refl R3.sub) (eM ⟨aMY (aO3 z _ _) hz,aEB hk⟩) (by intro z;cases z)⟩
  | lst ds=>have w1:aX (C.at X) F1 H1 σ (cT gl ρ λl=>cT gh ρ λh=>.ok .fr (.lst (d9 ds l h))) Q:=aX.step s1 w;refine iW (R.step s1) w1 λl F2 H2 s2 R2 w2=>iW R2 w2 λh F3 H3 s3 R3 w3=>.inr (.inl ?_);obtain ⟨p,xs,rfl,hq,rl⟩:=((rp.step s2).step s3).seqL R3.sub;exact ⟨p,xs,rfl,hq,λp' hp'=>w3 (.ref p') F3 _ (aL.fresh _ R3.sub hp') ⟨p',rfl,R3.sub.free hp',_,bU,rl.cut l h⟩ λ_ a ea=>by cases ea;exact hp'⟩
  | tup ds =>
   have w1:aX (C.at X) F1 H1 σ (cT gl ρ λl=>cT gh ρ λh=>if (kW ds.length l h&&m != .fz)=true then .stuck else .ok .fz (.tup (d9 ds l h))) Q:=aX.step s1 w;refine iW (R.step s1) w1 λl F2 H2 s2 R2 w2=>iW R2 w2 λh F3 H3 s3 R3 w3=>.inr (.inr ?_);obtain ⟨p,xs,rfl,hq,rl⟩:=((rp.step s2).step s3).seqT R3.sub;have lw:kW ds.length l h=true↔HT.sIx xs.length 0 l=0/\HT.sIx xs.length xs.length h=xs.length:=by rw[rl.length];unfold kW;simp
   cases hw:kW ds.length l h with
   | true =>
    cases m with
    | fz =>
     rw[hw,if_neg (by decide)] at w3
     have e:=lw.mp hw;have ec:d9 ds l h=ds:=by unfold d9;rw[<- rl.length,e.1,e.2,rl.length,aPR,Nat.sub_zero];exact aQB
     rw[ec] at w3;exact .inr ⟨p,xs,rfl,hq,e,w3 (.ref p) F3 H3 (.refl R3.sub) ((rp.step s2).step s3) (by intro z;cases z)⟩
    | fr=>rw[hw,if_pos (by decide)] at w3;exact w3.elim
    | bo=>rw[hw,if_pos (by decide)] at w3;exact w3.elim
   | false =>
    rw[hw,if_neg (by simp)] at w3
    refine .inl ⟨p,xs,rfl,hq,λz=>?_,λp' hp'=>w3 (.ref p') _ _ (aL.laid (.tup (fJ xs l h)) R3.sub hp') (aC.tup_of (R3.sub.free hp') (rl.cut l h)) (by intro z;cases z)⟩
    rw[lw.mpr z] at hw;cases hw
  | _=>exact (show False from w).elim
end
section
variable {C:Cw}{X:Cx}{pos:Pos}
theorem aHB:PV C X (.Dict [] [] pos) (λ_=>.ok .fr (.dct [])):=by refine PE.imp aC9 λσ H Q q=>?_;rw[a9] at q;obtain ⟨ρ,F,R,w⟩:=q;intro p hp;exact w (.ref p) F _ (aL.fresh _ R.sub hp) ⟨p,rfl,R.sub.free hp,[],bU,by simp[aK]⟩ λ_ a ea=>by cases ea;exact hp
end
def aV(kvs:List (Key×D))(k:Key):Option D:=(kvs.find? λkv=>decide (kv.1=k)).map (·.2)
theorem aK.val{K:Fg}{F:Hp}:∀ {kvs:List (Key×D)} {xs:List (Key×V)} (k:Key),aK K F kvs xs->match aV kvs k with | some d=>∃ v,cR xs k=some v/\aC K F d v | none=>cR xs k=none
 | [],xs,k,h=>by simp only[aK] at h;subst h;rfl
 | (k',d)::kvs,xs,k,h=>by
  simp only[aK] at h;obtain ⟨y,ys,rfl,r,t⟩:=h;by_cases e:k'=k
  . have e1:aV ((k',d)::kvs) k=some d:=by simp[aV,aOO,e]
    rw[e1];exact ⟨y,mJ e,r⟩
  . have e1:aV ((k',d)::kvs) k=aV kvs k:=by simp[aV,aOO,e]
    rw[e1,mK (p:=(k',y)) e];exact aK.val k t
section
variable {X:Cx}
def rIxK:R2:=λx y H Q=>∃ a v,x=.ref a/\f6 H a y (some v)/\Q v H
theorem aHC(hu:X.A.units+1<cLine):IxR X rIxK:=by
 intro value slice aA s σ H x y v u Q I rx ry h hsub;obtain ⟨a,w',rfl,g,q⟩:=h;cases (show v=Value.ref a from rx)
 have hT:s.TypeIs (.ref a) "dict" := aC5 I g;unfold subscriptTail;refine aNA ?_;rw[getitemInPython_of_ne hT.not_modules];refine aNA (aOU hT PySem.F.slot_dict_getitem.lookup ?_);have fin:wpAny (model X.prog X.w) X.A (subscripted slice false (.ref a) u) (λr s3=>wpAny (model X.prog X.w) X.A (letTemporaryGo value (.ref a) r >>= λ_=>pure r) (EP X aA σ Q) X.xe s3) X.xe s:=by rw[hsub];exact wpAny_operating (aC1 hu I g ry λz s3 I3 rz=>aNA (wpAny_letTemporaryGo (aNC ⟨w',H,I3,rz,q⟩)))
 first
  | exact aNC (aNA fin)
  | exact aNA (aNC (aNA fin))
  | exact aNA fin
end
def ixK:Md->D->Md->D->Option (Md×D):=λ_ x _ y=>match x,iX y with
 | .dct kvs,some k=>(aV kvs k).map λd=>(.fz,d)
 | _,_=>none
theorem qC{K:Fg}{F H:Hp}{m n:Md}{kvs:List (Key×D)}{y:D}{k:Key}{v u:V}(s:aG F H)(rx:Rp K F H m (.dct kvs) v)(ry:Rp K F H n y u)(ek:iX y=some k):∃ a xs,v=.ref a/\H a=some (.dK xs)/\aK K F kvs xs/\f6 H a u (cR xs k):=by obtain ⟨a,xs,rfl,hh,rk⟩:=rx.dict s;exact ⟨a,xs,rfl,hh,rk,.inl ⟨xs,k,.inl hh,pK ek ry,rfl⟩⟩
section
variable {C:Cw}{X:Cx}{a b:Expr}{ga gb:Rho->Res}{pos:Pos}
def inK(neg:Bool):Md->D->Md->D->Option (Md×D):=λ_ x _ y=>match iX x,y with
 | some k,.dct kvs=>some (.fz,.bl (if neg then !(aV kvs k).isSome else (aV kvs k).isSome))
 | _,_=>none
theorem u9{K:Fg}{F:Hp}{kvs:List (Key×D)}{xs:List (Key×V)}(k:Key)(h:aK K F kvs xs):(cR xs k).isSome=(aV kvs k).isSome:=by
 have:=aK.val k h;cases e:aV kvs k with
 | none=>rw[e] at this;have this:cR xs k=none:=this;rw[this];rfl
 | some d=>rw[e] at this;obtain ⟨v,ev,_⟩:=this;rw[ev];rfl
theorem vA(hu:X.A.units+1<cLine):OpD C X (compareOp .In) (inK false):=by
 refine ⟨λx y H Q=>∃ a o,y=.ref a/\f6 H a x o/\Q (.bl o.isSome) H,?_,?_⟩
 . intro aA s σ H x y v u Q I rx ry h;obtain ⟨a,o,rfl,g,q⟩:=h;cases (show u=Value.ref a from ry)
   exact d_in hu I g rx λs3 I3=>⟨.bl o.isSome,H,I3,rfl,q⟩
 . intro F H m x n y v u k d Q s rx ry e w;unfold inK at e;split at e
   . rename_i ky kvs ek;cases e;obtain ⟨p,xs,rfl,hh,rk,g⟩:=qC s ry rx ek;exact ⟨p,_,rfl,g,by rw[u9 ky rk];exact w _ F H (.refl s) (bV _) (by intro z;cases z)⟩
   . cases e
theorem vB(hu:X.A.units+1<cLine):OpD C X (compareOp .NotIn) (inK true):=by
 refine ⟨λx y H Q=>∃ a o,y=.ref a/\f6 H a x o/\Q (.bl (!o.isSome)) H,?_,?_⟩
 . intro aA s σ H x y v u Q I rx ry h;obtain ⟨a,o,rfl,g,q⟩:=h;cases (show u=Value.ref a from ry)
   exact aC2 hu I g rx λs3 I3=>⟨.bl (!o.isSome),H,I3,rfl,q⟩
 . intro F H m x n y v u k d Q s rx ry e w;unfold inK at e;split at e
   . rename_i ky kvs ek;cases e;obtain ⟨p,xs,rfl,hh,rk,g⟩:=qC s ry rx ek;exact ⟨p,_,rfl,g,by rw[u9 ky rk];exact w _ F H (.refl s) (bV _) (by intro z;cases z)⟩
   . cases e
def kX:List (Md×D)->Option (Md×D)
 | [(_,.dct kvs)]=>some (.fr,.dct kvs)
 | _=>none
theorem aHD:dH X (.type "dict") kX:=by
 refine ⟨λvs H Q=>∃ a xs,vs=[.ref a]/\H a=some (.dK xs)/\∀ p,H p=none->Q (.ref p) (upd H p (.dK xs)),?_,?_⟩
 . intro aA s σ H vs us Q I r h;obtain ⟨a,xs,rfl,hh,q⟩:=h;obtain ⟨u,rfl,ru⟩:=fH r;cases (show u=Value.ref a from ru)
   exact aDA I (.inl hh) λp s' hp I'=>⟨.ref p,_,I',rfl,q p hp⟩
 . intro F H xs vs k d Q s rx e w;unfold kX at e;split at e
   . rename_i m kvs;cases e;obtain ⟨v,rfl,r⟩:=rx.one;obtain ⟨a,ys,rfl,hh,rk⟩:=r.dict s;exact ⟨a,ys,rfl,hh,λp hp=>w (.ref p) F _ (aL.fresh _ s hp) ⟨p,rfl,s.free hp,ys,bU,rk⟩ λ_ b eb=>by cases eb;exact hp⟩
   . cases e
end
def dN(kvs:List (Key×D))(k:Key)(d:D):List (Key×D):=if (kvs.any λkv=>decide (kv.1=k))=true then kvs.map (λkv=>if kv.1=k then (kv.1,d) else kv) else kvs++[(k,d)]
theorem aK.keys{K:Fg}{F:Hp}:∀ {kvs:List (Key×D)} {xs:List (Key×V)},aK K F kvs xs->xs.map (·.1)=kvs.map (·.1)
 | [],xs,h=>by simp only[aK] at h;subst h;rfl
 | (k,d)::kvs,xs,h=>by simp only[aK] at h;obtain ⟨y,ys,rfl,_,t⟩:=h;simp[aK.keys t]
theorem aK.snoc{K:Fg}{F:Hp}{k:Key}{d:D}{v:V}(r:aC K F d v):∀ {kvs:List (Key×D)} {xs:List (Key×V)},aK K F kvs xs->aK K F (kvs++[(k,d)]) (xs++[(k,v)])
 | [],xs,h=>by simp only[aK] at h;subst h;simp only[List.nil_append,aK];exact ⟨v,[],rfl,r,rfl⟩
 | (k',d')::kvs,xs,h=>by simp only[aK] at h;obtain ⟨y,ys,rfl,r',t⟩:=h;simp only[List.cons_append,aK];exact ⟨y,_,rfl,r',aK.snoc r t⟩
theorem aK.repl{K:Fg}{F:Hp}{k:Key}{d:D}{v:V}(r:aC K F d v):∀ {kvs:List (Key×D)} {xs:List (Key×V)},aK K F kvs xs->aK K F (kvs.map λkv=>if kv.1=k then (kv.1,d) else kv) (xs.map λkv=>if kv.1=k then (kv.1,v) else kv)
 | [],xs,h=>by simp only[aK] at h;subst h;simp[aK]
 | (k',d')::kvs,xs,h=>by
  simp only[aK] at h;obtain ⟨y,ys,rfl,r',t⟩:=h;have ih:=aK.repl (k:=k) r t;by_cases e:k'=k
  . simp only[aOR,e,aOA,aK];exact ⟨v,_,rfl,r,ih⟩
  . simp only[aOR,e,aN9,aK];exact ⟨y,_,rfl,r',ih⟩
theorem aK.put{K:Fg}{F:Hp}{k:Key}{d:D}{v:V}{kvs:List (Key×D)}{xs:List (Key×V)}(h:aK K F kvs xs)(r:aC K F d v):aK K F (dN kvs k d) (cS xs k v):=by
 have e:(xs.any λkv=>decide (kv.1=k))=(kvs.any λkv=>decide (kv.1=k)):=by
  have:=h.keys;have a1:∀ {β:Type} (l:List (Key×β)),(l.any λkv=>decide (kv.1=k))=(l.map (·.1)).any (λx=>decide (x=k)):=λl=>by rw[List.any_map];rfl
  rw[a1,a1,this]
 unfold dN cS;rw[e];split
 . exact aK.repl r h
 . exact aK.snoc r h
theorem aK.len{K:Fg}{F:Hp}{kvs:List (Key×D)}{xs:List (Key×V)}(h:aK K F kvs xs):xs.length=kvs.length:=by have:=congrArg List.length h.keys;simpa using this
def fP(ρ:Rho)(i:Nat)(rk rv:Res):aB:=match ρ[i]? with
 | some (some (true,.dct kvs))=>(bI rv).thS ρ λm d=>match m with
  | .fz=>rk.thS ρ λ_ kd=>(match iX kd with
   | some k=>if kvs.length<sizeLine then .nx (ρ.set i (some (true,.dct (dN kvs k d)))) else .stuck
   | none=>.stuck)
  | _=>.stuck
 | _=>.stuck
section
variable {C:Cw}{X:Cx}{e ke:Expr}{g gk:Rho->Res}{x:Str}{p sp pos:Pos}
theorem aHE(i:Nat)(hu:X.A.units+1<cLine)(hv:PE X (.Name x p) (jZ i))(hk:PV C X ke gk)(he:PV C X e g)(hsw:swapsWith e (some (.Subscript (.Name x p) ke sp)) pos.line X.env=pure false):PSv C X (.Assign [.Subscript (.Name x p) ke sp] e pos) (λρ=>fP ρ i (gk ρ) (g ρ)):=by
 refine PS.imp (aC6 hu hv hk (gW he) hsw) λE σ H q=>?_;obtain ⟨ρ,F,R,w⟩:=q;dsimp only at w;unfold tU;cases e0:ρ[i]? with
 | none=>unfold fP at w;rw[e0] at w;exact w.elim
 | some o =>
  cases o with
  | none=>unfold fP at w;rw[e0] at w;exact w.elim
  | some bd =>
   obtain ⟨b,d0⟩:=bd;cases b with
   | false=>unfold fP at w;rw[e0] at w;exact w.elim
   | true =>
    cases d0 with
    | dct kvs =>
     unfold fP at w;rw[e0] at w;dsimp only at w;obtain ⟨v0,ev0,rp0,hn0⟩:=R.slot i true _ e0;obtain ⟨a,ea,hfa,xs,hh,rk⟩:=rp0;subst ea;refine iZ R w λm d v F' H' w' s R' rp fr=>?_;cases m with
     | fr=>exact (show False from w').elim
     | bo=>exact (show False from w').elim
     | fz =>
     dsimp only at w';refine ⟨.ref a,ev0,?_⟩;refine iZ R' w' λm2 kd u F2 H2 w2 s2 R2 rp2 _=>?_;cases ek:iX kd with
     | none=>rw[ek] at w2;exact w2.elim
     | some k =>
      rw[ek] at w2;dsimp only at w2;split at w2
      . rename_i hl;have hh2:H2 a=some (.dK xs):=s2.same _ _ (s.same _ _ hh);refine ⟨a,_,rfl,.inl ⟨xs,k,hh2,pK ek rp2,by rw[rk.len];exact hl,rfl⟩,?_⟩
        exact w2 σ F2 _ (aG.refl _) (R2.mut e0 ev0 ⟨_,bU,aK.put (rk.mono (s.fsame.trans s2.fsame) _ _) (aC.mono s2.fsame _ _ rp)⟩)
      . exact w2.elim
    | _=>unfold fP at w;rw[e0] at w;exact w.elim
end
section
variable {C:Cw}{X:Cx}{a b:Expr}{ga gb:Rho->Res}{pos:Pos}
theorem aHF(hu:X.A.units+1<cLine)(ha:PV C X a ga)(hb:PV C X b gb)(hs:mH b):PV C X (.Subscript a b pos) (λρ=>op2 ixK (ga ρ) (gb ρ)):=by
 refine PE.imp (tM (aHC hu) ha hb hs) λσ H Q q=>kE (λF H m x n y v u k d Q s rx ry e w=>?_) q;unfold ixK at e;split at e
 . rename_i kvs ky ek;obtain ⟨p,xs,rfl,hh,rk,g⟩:=qC s rx ry ek;cases eg:aV kvs ky with
   | none=>rw[eg] at e;cases e
   | some d'=>rw[eg] at e;cases e;have:=aK.val ky rk;rw[eg] at this;obtain ⟨v',ev,rv⟩:=this;rw[ev] at g;exact ⟨p,v',rfl,g,w v' F H (.refl s) rv (by intro z;cases z)⟩
 . cases e
theorem aHG{neg:Bool}{op:CmpOp}(ho:op=if neg then .NotIn else .In)(hu:X.A.units+1<cLine)(ha:PV C X a ga)(hb:PV C X b gb)(hm:behindInMarks op b=false):PV C X (.Compare a [op] [b] pos) (λρ=>op2 (inK neg) (ga ρ) (gb ρ)):=by
 cases neg with
 | false=>subst ho;exact kG (vA hu) ha hb hm
 | true=>subst ho;exact kG (vB hu) ha hb hm
end
end D3
namespace D3
open PySem PySem.Spec PyProof.Rows L2 PySem.SeqAt PySem.MeetsSeq
section
variable {X:Cx}{o e:Expr}{apos cpos:Pos}{td ty:TE}
end
section
variable {C:Cw}{X:Cx}{o e:Expr}{apos cpos:Pos}{go g:Rho->Res}
end
end D3
namespace D3
open PySem PySem.Spec PyProof.Rows L2
def eA(kb:List (Key×D)):List (Key×D)->Option Bool
 | []=>some true
 | (k,d)::r=>match aV kb k with
  | none=>some false
  | some e=>(match aU d,aU e with
   | some p,some q=>if (fL p&&fL q)=true then (eA kb r).map λb=>PyData.eqv p q&&b else none
   | _,_=>none)
def eqN(neg:Bool):Md->D->Md->D->Option (Md×D):=λ_ x _ y=>match x,y with
 | .dct ka,.dct kb=>(eA kb ka).map λr=>(.fz,.bl (if neg then !(ka.length==kb.length&&r) else (ka.length==kb.length&&r)))
 | _,_=>none
section
variable {C:Cw}{X:Cx}
theorem vC{aA:LAO}{σ:L2.St}{F H:Hp}{s:Shared}(hu:X.A.units+64<cLine)(I:L2.Inv X aA σ H s)(sF:aG F H){kb:List (Key×D)}{ys:List (Key×V)}{vb:List (Key×Value)}(rb:aK X.K F kb ys)(kvb:KV ys vb):∀ {ka:List (Key×D)} {xs:List (Key×V)} {va:List (Key×Value)} {r:Bool},aK X.K F ka xs->KV xs va->eA kb ka=some r->PySem.W.KeqHits X.A.in1 s vb va r
 | [],xs,va,r,h,kv,e=>by simp only[aK] at h;subst h;cases kv;cases e;exact .nil
 | (k,d)::ka,xs,va,r,h,kv,e=>by
  simp only[aK] at h;obtain ⟨y,xs',rfl,ry,t⟩:=h;cases kv with
  | cons h1 t1 =>
   rename_i q1 va';obtain ⟨k1,u1⟩:=q1;obtain ⟨e1,r1⟩:=h1;dsimp only at e1 r1;subst e1;unfold eA at e;have hv:=aK.val k rb;have hr:=kvb.val k;cases eg:aV kb k with
   | none=>rw[eg] at e hv;cases e;have hv:cR ys k=none:=hv;rw[hv] at hr;exact .miss (dF.none_of hr)
   | some ee =>
    rw[eg] at e hv;obtain ⟨v2,ev2,rv2⟩:=hv;rw[ev2] at hr;obtain ⟨u2,eu2,ru2⟩:=dF.some_of hr;dsimp only at e;split at e
    . rename_i p q ep eq;split at e
      . rename_i hs;cases eh:eA kb ka with
        | none=>rw[eh] at e;cases e
        | some b=>rw[eh] at e;cases e;rw[aOI] at hs;have hs1:=aOX hs.1;obtain ⟨⟨as,ra⟩,ca⟩:=mQ I sF d p y u1 ry r1 ep;obtain ⟨⟨bs,rb'⟩,cb⟩:=mQ I sF ee q v2 u2 rv2 ru2 eq;exact .hit eu2 (SeqAt.eqAt_reads p q X.A.in1 s u1 u2 as bs ra rb' ca cb (by show X.A.units+1+min p.depth q.depth<cLine;have:=Nat.min_le_left p.depth q.depth;omega)) (vC hu I sF rb kvb t t1 eh)
      . cases e
    . cases e
theorem vD{f:Value->Value->Sem Value}{neg:Bool}(hu:X.A.units+64<cLine)(rule:∀ (s:Shared) (a b:Addr) (ka kb:List (Key×Value)) (r:Bool) (Q:VSP),(a==sysModules)=false->(b==sysModules)=false->s.heap.DictOf (bO X.prog X.w) a ka->s.heap.DictOf (bO X.prog X.w) b kb->(ka.length=kb.length->PySem.W.KeqHits X.A.in1 s kb ka r)->Q (.bool (if neg then !(ka.length==kb.length&&r) else (ka.length==kb.length&&r))) s->wpAny (model X.prog X.w) X.A (f (.ref a) (.ref b)) Q X.xe s):OpD C X f (eqN neg):=by
 refine ⟨λx y H Q=>∃ F m n ka kb r,aG F H/\Rp X.K F H m (.dct ka) x/\Rp X.K F H n (.dct kb) y/\eA kb ka=some r/\Q (.bl (if neg then !(ka.length==kb.length&&r) else (ka.length==kb.length&&r))) H,?_,?_⟩
 . intro aA s σ H x y v u Q I rx ry h;obtain ⟨F,m,n,ka,kb,r,sF,hd,he,eh,hQ⟩:=h;obtain ⟨a,xs,rfl,ha,ra⟩:=hd.dict sF;obtain ⟨b,ys,rfl,hb,rb⟩:=he.dict sF;cases rx;cases ry;obtain ⟨_,sa,va,rva,da⟩:=pG I.hok ha;obtain ⟨_,sb,vb,rvb,db⟩:=pG I.hok hb;have la:va.length=ka.length:=by rw[<- ra.len];exact (aMO rva).symm
   have lb:vb.length=kb.length:=by rw[<- rb.len];exact (aMO rvb).symm
   refine rule s a b va vb r _ sa sb da db (λ_=>vC hu I sF rb rvb ra rva eh) ⟨.bl _,H,I,rfl,?_⟩;rw[la,lb];exact hQ
 . intro F H m x n y v u k d Q s rx ry e w;unfold eqN at e;split at e
   . rename_i ka kb;cases eh:eA kb ka with
     | none=>rw[eh] at e;cases e
     | some r=>rw[eh] at e;cases e;exact ⟨F,m,n,ka,kb,r,s,rx,ry,eh,w _ F H (.refl s) (bV _) (by intro z;cases z)⟩
   . cases e
theorem vE(hu:X.A.units+64<cLine):OpD C X (compareOp .Eq) (eqN false):=vD hu λs a b ka kb r Q sa sb da db hits q=>PySem.W.keq_eq sa sb da db (by omega) hits q
theorem vF(hu:X.A.units+64<cLine):OpD C X (compareOp .NotEq) (eqN true):=vD hu λs a b ka kb r Q sa sb da db hits q=>PySem.W.keq_ne sa sb da db (by omega) hits q
end
def hZ(w:World)(K:Fg):List (Str×Str)->List DictEntry->Prop
 | [],es=>es=[]
 | (z,f)::r,es=>∃ t a es',es=⟨PyData.keyHash w.params z,.str z t,.ref a⟩::es'/\PySem.W.nsIn K mainGlobals f=some (some (.ref a))/\hZ w K r es'
structure gG(w:World)(K:Fg)(mg:SOV)(x:Str)(tb:List (Str×Str)):Prop where
 ex:∃ a ob es ep,mg x=some (.ref a)/\K.lookup a=some ob/\ob.ExactDict/\ob.data=.dict es ep/\hZ w K tb es.toList
 nd:(tb.map (·.1)).Nodup
theorem hZ.pairs{P:Program}{w:World}{K:Fg}:∀ {tb:List (Str×Str)} {es:List DictEntry},hZ w K tb es->∃ kvs:List (Key×Value),Pairs (bO P w) es kvs/\kvs.map (·.1)=tb.map (λp=>.inr p.1)/\(∀ e∈es,∃ k,(bO P w).is k e.key=true/\e.hash=(bO P w).hash k)/\∀ z f,tb.lookup z=some f->∃ a,valueAt kvs (.inr z)=some (.ref a)/\PySem.W.nsIn K mainGlobals f=some (some (.ref a))
 | [],es,h=>by
  have h:es=[]:=h;subst h;refine ⟨[],.nil,rfl,λe h=>?_,λz f h=>?_⟩
  . cases h
  . cases h
 | (z,f)::r,es,h=>by
  obtain ⟨t,a,es',rfl,hn,hr⟩:=h;obtain ⟨kvs,p1,p2,p3,p4⟩:=hZ.pairs (P:=P) hr;have hi:(bO P w).is (.inr z) (.str z t)=true:=by show Value.isStrOf z (.str z t)=true;simp[Value.isStrOf]
  refine ⟨(.inr z,.ref a)::kvs,.cons hi rfl p1,by simp[p2],λe he=>?_,λz' f' hz=>?_⟩
  . rcases aM0.mp he with rfl | he
    . exact ⟨.inr z,hi,rfl⟩
    . exact p3 e he
  . rw[aPM] at hz;unfold valueAt;by_cases e:z'=z
    . subst e;rw[aPN] at hz;cases hz;exact ⟨a,by simp[aOO],hn⟩
    . have:(z'==z)=false:=aMN.mpr e;rw[this] at hz;obtain ⟨a',q1,q2⟩:=p4 z' f' hz;refine ⟨a',?_,q2⟩;unfold valueAt at q1;simp[aOO];simpa[Ne.symm e] using q1
abbrev Tbl:=List (Str×Str)
abbrev Fns:=List Str
def jC(tb:List (Str×Str))(r:Res):Res:=r.thn λ_ d=>match d with
 | .str z=>(match tb.lookup z with | some f=>.ok .fz (.fn f) | none=>.stuck)
 | _=>.stuck
def kY(Φ:Str->List D->Res)(fs:List Str)(n:Nat)(r:Res)(as:aS):Res:=match r with
 | .ok .fz (.fn f)=>if fs.contains f=true then aD n (Φ f) as else .stuck
 | _=>.stuck
section
variable {C:Cw}{X:Cx}{e b:Expr}{es:List Expr}{gs:Rho->aS}{gb:Rho->Res}{p pos:Pos}{x:Str}{k n:Nat}{tb:List (Str×Str)}
theorem aHH(T:gG X.w X.K X.mg x tb)(hg:Gl X x)(hb:PV C X b gb)(hs:pI b)(hd:(x==("__debug__" : Str))=false):PV C X (.Subscript (.Name x p) b pos) (λρ=>jC tb (gb ρ)):=by
 obtain ⟨a,ob,es,ep,hm,hk,xd,hdt,te⟩:=T.ex;intro aA s σ H Q I h;rw[a9] at h;obtain ⟨ρ,F,R,w⟩:=h;have hb':=hb aA s σ H (λy H2=>∃ z f,y=.str z/\tb.lookup z=some f/\∀ fa,PySem.W.nsIn X.K mainGlobals f=some (some (.ref fa))->Q (.ref fa) H2) I (by
  rw[a9];refine ⟨ρ,F,R,?_⟩;cases er:gb ρ with
  | stuck=>rw[er] at w;exact w
  | exc c=>rw[er] at w;exact w
  | ok m d =>
   rw[er] at w;intro v F1 H1 s1 r1 _;have w1:aX (C.at X) F1 H1 σ (jC tb (.ok m d)) Q:=aX.step s1 w;unfold jC at w1;rw[Res.thn_ok] at w1;cases d with
   | str z =>
    dsimp only at w1;cases el:tb.lookup z with
    | none=>rw[el] at w1;exact w1.elim
    | some f =>
     rw[el] at w1;refine ⟨z,f,?_,el,λfa hf=>w1 (.ref fa) F1 H1 (.refl s1.sub) (by show aC _ _ _ _;simp only[aC];exact ⟨fa,rfl,hf⟩) (by intro z;cases z)⟩
     exact (pK (k:=.inr z) rfl r1)
   | _=>exact w1.elim)
 refine aC4 PySem.F.slot_dict_getitem.lookup hs (lX I hg hm (thn hb' λiv s2 ⟨y,H2,I2,ry,z,f,ey,el,q⟩=>?_) hd);subst ey;obtain ⟨kvs,p1,p2,p3,p4⟩:=hZ.pairs (P:=X.prog) te;have hh:s2.heap.get? a=some ob:=I2.kIn a ob hk
 have dd:s2.heap.DictOf (bO X.prog X.w) a kvs:=⟨ob,es,ep,hh,xd,hdt,λe he=>p3 e (by simpa using he),p1,by
  rw[p2];have:=T.nd;unfold List.Nodup at this ⊢;rw[List.pairwise_map] at this ⊢;exact this.imp λh z=>h (Sum.inr.inj z)⟩
 obtain ⟨fa,v1,v2⟩:=p4 z f el;exact ⟨dd.typeIs,wpAny_getItem_of (gT (k:=.inr z) ry) dd.mapOf v1 ⟨.ref fa,H2,I2.tok _,rfl,q fa v2⟩⟩
theorem aHI{i:Nat}{fs:List Str}{Φ:Str->List D->Res}{CX:CXT}(F:∀ f,fs.contains f=true->FnV X.prog X.w X.K X.mg X.base CX k f n (Φ f))(hr:cD k X.A)(hx:XOk CX (C.at X) X)(hv:PE X (.Name x p) (jZ i))(ha:PAv C X (e::es) gs)(he:starEach (e::es) X.env=(false,eval e X.env)::starEach es X.env)(hpl:(backTo pos (starEach es X.env)).any (·.1)=false):PV C X (.Call (.Name x p) (e::es) [] pos) (λρ=>kY Φ fs n (c7 ρ i) (gs ρ)):=by
 intro aA s σ H Q I h;rw[a9] at h;obtain ⟨ρ,G,R,w⟩:=h;unfold kY at w;split at w;rotate_left
 . exact w.elim
 rename_i f eg;split at w;rotate_left
 . exact w.elim
 rename_i hf;obtain ⟨fa,fd,ps,FF,hm,hk,hb⟩:=(F f hf).ex;have sl:ρ[i]? = some (some (false,.fn f)):=by
  unfold c7 at eg;split at eg
  . rename_i d q;cases eg;exact q
  . cases eg
  . cases eg
 obtain ⟨v,ev,rv,_⟩:=R.slot i false (.fn f) sl;have rv:aC X.K G (.fn f) v:=rv;simp only[aC] at rv;obtain ⟨a,rfl,na⟩:=rv;have ea:a=fa:=by have:=aQC I.ok.mod.kin I.ok.mod.glob na;rw[hm] at this;cases this;rfl
 subst ea;refine aN2 (thn (hv aA s σ H (λv' H'=>v'=.ref a/\H'=H) I ⟨.ref a,ev,rfl,rfl⟩) λu s0 ⟨v',H0,I0,ru,e1,e2⟩=>?_);subst e1 e2;obtain rfl:u=Value.ref a:=ru;refine PySem.W.callWith_K (h₀:=X.base) I0.ok.mod.kin hk (thn (ha pos aA s0 σ H0 (λvs H1=>spV X.K X.mg n (Φ f) vs H1 Q λu _ H'=>∃ c,X.mg c=some u/\C.EE c σ H') I0 ?_) λus s1 ⟨vs,H1,I1,r,q⟩=>⟨I1.kIn,uM FF hr hb (λe s' hc=>hx aA σ H1 s1 e s' I1 hc) I1 r q⟩) he hpl;refine ⟨ρ,G,R,?_⟩;cases er:gs ρ with
 | stuck=>rw[er] at w;exact w
 | exc c=>rw[er] at w;exact w
 | ok xs =>
  rw[er] at w;intro vs F1 H1 s1 r1;have w1:aX (C.at X) F1 H1 σ (aD n (Φ f) (.ok xs)) Q:=aX.step s1 w;unfold aD at w1;rw[aS.thn_ok] at w1;cases ef:cK xs with
  | none=>rw[ef] at w1;exact w1.elim
  | some ds =>
   rw[ef] at w1;dsimp only at w1;split at w1
   . rename_i hn;have rl:=r1.fz ef;refine ⟨by rw[rl.length];exact hn,F1,ds,s1.sub,rl,?_⟩
     cases ep:Φ f ds with
     | stuck=>rw[ep] at w1;exact w1
     | exc c=>rw[ep] at w1;exact λF' H' u st hu=>⟨c,hu,w1 F' H' st⟩
     | ok m d =>
      rw[ep] at w1;cases m with
      | bo=>exact w1.elim
      | fz=>exact ⟨by decide,w1⟩
      | fr=>exact ⟨by decide,w1⟩
   . exact w1.elim
end
section
variable {X:Cx}
end
theorem aZ.frz{K:Fg}{F0 H0 F H:Hp}{σ:L2.St}{ρ:Rho}(R:aZ K F0 H0 F H σ ρ){i:Nat}{d:D}(e:ρ[i]? = some (some (true,d))):∃ F',aG F F'/\aZ K F0 H0 F' H σ (ρ.set i (some (false,d))):=by
 obtain ⟨v,ev,rp,hn⟩:=R.slot i true d e;obtain ⟨x,rfl,nx,t⟩:=rp;obtain ⟨o,ho,r⟩:=t.freeze nx;have sm:aG F (upd F x o):=λb u q=>by rw[aR (cJ q nx)];exact q
 have hi:i<ρ.length:=(aM3.mp e).1;refine ⟨upd F x o,sm,R.st.freeze (hn rfl x rfl) nx ho,λj m d' ej=>?_,λj k d1 d2 a hjk e1 e2 q1 q2=>?_,by rw[aPE];exact R.len⟩
 . by_cases hj:j=i
   . subst hj;rw[aM5 hi] at ej;cases ej;exact ⟨.ref x,ev,r,by intro z;cases z⟩
   . rw[aM6 (λz=>hj z.symm)] at ej;obtain ⟨v',ev',rp',hn'⟩:=R.slot j m d' ej;refine ⟨v',ev',?_,hn'⟩;cases m with
     | false=>exact aC.mono sm _ _ rp'
     | true =>
      obtain ⟨a,rfl,na,t'⟩:=rp';have ax:a≠x:=λz=>by subst z;exact R.apart j i d' d a hj ej e ev' ev
      refine ⟨a,rfl,by rw[aR ax];exact na,?_⟩
      cases d' with
      | lst ds=>obtain ⟨xs,q,rr⟩:=t';exact ⟨xs,q,rr.mono sm _ _⟩
      | dct ds=>obtain ⟨xs,q,rr⟩:=t';exact ⟨xs,q,rr.mono sm _ _⟩
      | ins c fs=>obtain ⟨C,dx,gs,n,q,rr⟩:=t';exact ⟨C,dx,gs,n,q,rr.mono sm _ _⟩
      | set ks=>obtain ⟨S,q,rr⟩:=t';exact ⟨S,q,rr⟩
      | _=>exact t'.elim
 . have own:∀ {j:Nat} {d1:D},(ρ.set i (some (false,d)))[j]? = some (some (true,d1))->ρ[j]? = some (some (true,d1)):=λ{j d1} z=>by
     by_cases hj:j=i
     . subst hj;rw[aM5 hi] at z;cases z
     . rw[aM6 (λy=>hj y.symm)] at z;exact z
   exact R.apart j k d1 d2 a hjk (own e1) (own e2) q1 q2
def kZ(ρ:Rho)(i:Nat):aB:=match ρ[i]? with
 | some (some (true,d))=>.nx (ρ.set i (some (false,d)))
 | _=>.stuck
theorem aHJ{C:Cw}{X:Cx}{sts:List Stmt}{i:Nat}{g:Rho->aB}(h:PBv C X sts g):PBv C X sts (λρ=>(kZ ρ i).thn g):=by
 refine PSs.imp h λE σ H q=>?_;obtain ⟨ρ,F,R,w⟩:=q;dsimp only at w;unfold kZ at w;split at w
 . rename_i d e;obtain ⟨F',sm,R'⟩:=R.frz e;exact ⟨_,F',R',bX.mono sm w⟩
 . exact w.elim
def Ent(w:World):List Str->List (Int×Value)->Prop
 | [],l=>l=[]
 | x::xs,l=>∃ t r,l=(hashStr w x,.str x t)::r/\Ent w xs r
def qD(w:World):Bool:=w.params.followText "set-order"
def SetX(w:World)(h:Heap)(a:Addr)(xs:List Str):Prop:=∃ o es ep t,h.get? a=some o/\o.ExactSet/\o.data=.set es ep t/\Ent w xs es.toList/\xs.Nodup/\xs.length<scanBound/\t.fits es.size=true/\t.led = !qD w/\(xs=[]\/t.plain=false)
section
variable {prog:Program}{w:World}{A:Around}{E:VSP}{s:Shared}
end
section
variable {prog:Program}{w:World}{A:Around}{E:VSP}{s:Shared}
end
section
variable {prog:Program}{w:World}{A:Around}{E:VSP}{s:Shared}
end
def Small(m:Nat):Prop:=m=7\/m=15\/m=31
section
variable {m:Nat}{ow:Array (Option Nat)}
end
def SetM(w:World)(h:Heap)(a:Addr)(xs:List Str):Prop:=∃ o es ep t,h.get? a=some o/\o.ExactSet/\o.data=.set es ep t/\Ent w xs es.toList/\xs.Nodup/\xs.length<scanBound/\t.fits es.size=true/\t.led = !qD w/\(xs=[]\/t.plain=false)/\Small t.mask/\t.dummies = #[]
section
variable {prog:Program}{w:World}{A:Around}{E:VSP}{s:Shared}
def Wide(h:Heap)(a:Addr)(n:Nat):Prop:=∀ o es ep t,h.get? a=some o->o.data=.set es ep t->n<=t.mask
end
section
variable {prog:Program}{w:World}{A:Around}{E:VSP}{s:Shared}
end
section
variable {prog:Program}{w:World}{A:Around}{E:VSP}{s:Shared}{I a:Addr}{i n ep:Nat}{o:Obj}{es:Array (Int×Value)}{t:SetTable}
end
section
variable {prog:Program}{w:World}{A:Around}{E:VSP}{s:Shared}
variable {I a:Addr}{ep:Nat}{o:Obj}{es:Array (Int×Value)}{t:SetTable}
end
section
variable {prog:Program}{w:World}{A:Around}{E:VSP}{s:Shared}{a:Addr}{xs:List Str}
end
def sx(w:World)(l:Addr)(ys:List Str):HO:=.ext λh=>SetX w h l ys
section
variable {X:Cx}
end
def txD:List D->Option (List Str)
 | []=>some []
 | .str x::ds=>(txD ds).map (x :: ·)
 | _::_=>none
theorem vG{K:Fg}{F:Hp}:∀ {ds:List D} {xs:List V} {ns:List Str},txD ds=some ns->aE K F ds xs->xs=ns.map V.str/\∀ x∈ns,x.length<=sizeLine/\PyData.strOk x=true
 | [],xs,ns,e,r=>by cases e;simp only[aE] at r;subst r;exact ⟨rfl,λx hx=>by cases hx⟩
 | d::ds,xs,ns,e,r=>by
  cases d with
  | str x =>
   simp only[txD] at e;cases q:txD ds with
   | none=>rw[q] at e;cases e
   | some ms=>rw[q] at e;cases e;simp only[aE] at r;obtain ⟨v,vs,rfl,rv,rr⟩:=r;obtain ⟨rfl,h2⟩:=vG q rr;simp only[aC] at rv;obtain ⟨rfl,h1⟩:=rv;exact ⟨rfl,λy hy=>(aM0.mp hy).elim (λe=>by subst e;exact h1) (h2 y)⟩
  | _=>cases e
section
variable {C:Cw}{X:Cx}{ga gb:Rho->Res}{ea eb:Expr}
end
section
variable {C:Cw}{X:Cx}{ga gb:Rho->Res}{ea eb:Expr}{p p1 p2 q q1 q2 pos:Pos}
end
section
variable {prog:Program}{w:World}{A:Around}{E:VSP}{s:Shared}{I l:Addr}{items:Array Value}
end
section
variable {C:Cw}{X:Cx}{ga:Rho->Res}{ea:Expr}{p p1 q1 pos:Pos}
end
section
variable {prog:Program}{w:World}{A:Around}{R:Result->Shared->Prop}{s:Shared}{b:Bool}{elt tg aP tg2 sH:Expr}{ifs:List Expr}{scope:Scope}{pos:Pos}{it acc:Value}{env:Env}
end
def AllF(ρ:Rho):Prop:=∀ (i:Nat) (m:Bool) (d:D),ρ[i]? = some (some (m,d))->m=false
def AR(K:Fg)(w:World)(b:Bool)(Da:Addr)(F:Hp)(zs:List D)(o:HO):Prop:=match b with
 | true=>∃ ys,o=.lst ys/\aE K F zs ys
 | false=>∃ (ns ys:List Str),zs=ns.map .str/\o=sx w Da ys/\ys.Nodup/\ys.length<=ns.length/\(∀ x,x∈ys↔x∈ns)/\∀ x∈ns,x.length<=sizeLine/\PyData.strOk x=true
section
variable {C:Cw}{X:Cx}
end
section
variable {C:Cw}{X:Cx}{elt aP tg sH tg2:Expr}{ifs:List Expr}{scope:Scope}{pos:Pos}{aF:List Nat}{aH tgN:List Str}{gi gt gi2 ge:Rho->Res}
variable (hc : X.calm = true) (hi : PIv C X tg aP gi) (cP : ∀ y ∈ scope.names, y.2 ≠ .cell) (dD : scope.kind = .function) (eS : ∀ y ∈ scope.names, y.2 = .local → scope.names.lookup y.1 = some .local)
    (dE:∀ y∈scope.names,y.2=.free->X.env.kindOf y.1=some .cell\/X.env.kindOf y.1=some .free)
    (dX:aH.map some=aF.map λi=>X.N[i]?) (eU:∀ y∈aH,(y,NameKind.free)∈scope.names)
    (eT:∀ y∈aH,(relabel scope X.env).names.lookup y=some .cell\/(relabel scope X.env).names.lookup y=some .free)
    (hn:tgN.length=2)
    (hg:∀ cl A fp s3 H3,PGw (bE X scope (aH++tgN) cl A fp s3 H3) tg (.nm aF.length)) (hf:∀ cl A fp s3 H3,c9 (bE X scope (aH++tgN) cl A fp s3 H3) ifs (tT (C.nox.at X) gt))
    (hi2:∀ cl A fp s3 H3,PIv C.nox (bE X scope (aH++tgN) cl A fp s3 H3) tg2 sH gi2) (hg2:∀ cl A fp s3 H3,PGw (bE X scope (aH++tgN) cl A fp s3 H3) tg2 (.nm (aF.length+1)))
    (he:∀ cl A fp s3 H3,PV C.nox (bE X scope (aH++tgN) cl A fp s3 H3) elt ge)
    (hs:∀ x,foldedSetIterable aP X.env x=pure x) (hs2:∀ env x,foldedSetIterable sH env x=pure x)
include hc hi cP dD eS dE dX eU eT hn hg hf hi2 hg2 he hs hs2
end
end D3
namespace D3
open PySem PySem.Spec PyProof.Rows L2 PySem.W
structure StrO(n:Nat)(lt:Nat->Nat->Bool):Prop where
 tr:∀ {i j k},lt i j=true->lt j k=true->lt i k=true
 asy:∀ {i j},lt i j=true->lt j i=false
 tot:∀ {i j},i<n->j<n->i≠j->lt i j=true\/lt j i=true
section
variable {n:Nat}{lt:Nat->Nat->Bool}{cmp:Nat->Nat->(Bool->Shared->Prop)->Shared->Prop}{J:Shared->Prop}
def Upto(lt:Nat->Nat->Bool)(p:Array Nat)(b:Nat):Prop:=∀ i j,i<j->j<b->lt (p.getD i 0) (p.getD j 0)=true
def Dnto(lt:Nat->Nat->Bool)(p:Array Nat)(b:Nat):Prop:=∀ i j,i<j->j<b->lt (p.getD j 0) (p.getD i 0)=true
end
section
variable {prog:Program}{w:World}{A:Around}{E:VSP}{s:Shared}
end
section
variable {prog:Program}{w:World}{A:Around}{E:VSP}{s:Shared}
end
section
variable {X:Cx}
end
end D3
namespace D3
open PySem PySem.Spec PyProof.Rows L2 PySem.SeqAt PySem.MeetsSeq
abbrev vH:Md->D->Md->D->Option (Md×D):=fI (λ_ _=>true) λi j=>.int (Builtin.bitAnd i j)
abbrev fBor:Md->D->Md->D->Option (Md×D):=fI (λ_ _=>true) λi j=>.int (Builtin.bitOr i j)
abbrev fShl:Md->D->Md->D->Option (Md×D):=fI (λi j=>decide (0<=j)&&decide (j<=1000000)&&decide (i.natAbs<2 ^ 64)) λi j=>.int (i * 2 ^ j.toNat)
abbrev fShr:Md->D->Md->D->Option (Md×D):=fI (λ_ j=>decide (0<=j)) λi j=>.int (i / 2 ^ j.toNat)
section
variable {C:Cw}{X:Cx}
theorem aHK:OpD C X (binaryOp .BitAnd) vH:=f7 aBT λ_ _ i j=>cE _
theorem aHL:OpD C X (binaryOp .BitOr) fBor:=f7 op_or λ_ _ i j=>cE _
theorem aHM:OpD C X (binaryOp .LShift) fShl:=iU aBR (λi j h=>by
 simp only[aOI,aOW] at h;exact ⟨h.1.1,h.1.2,h.2⟩) λ_ _ i j=>cE _
theorem aHN:OpD C X (binaryOp .RShift) fShr:=iU aBS (λi j h=>aOX h) λ_ _ i j=>cE _
end
section
variable {X:Cx}{o e:Expr}{apos cpos:Pos}{td ty:TE}
end
section
variable {C:Cw}{X:Cx}{o e:Expr}{apos cpos:Pos}{go g:Rho->Res}
end
end D3
namespace D3
open PySem PySem.Spec PyProof.Rows L2
section
variable {C:Cw}{X:Cx}{pos:Pos}{scope:Scope}{aF:List Nat}{aH:List Str}{x d m:Str}{p0 p1 p2 p3 p4 p5 p6 p7 p8 p9:Pos}{i j jd jm k0:Nat}
end
end D3
namespace L2
open PySem PySem.Spec PyProof.Rows D3
end L2
namespace D3
open PySem PySem.Spec PyProof.Rows L2
section
variable {C:Cw}{X:Cx}{pos:Pos}
end
abbrev Rise(xs:Array Nat):Prop:=xs.toList.Pairwise (· < ·)
def PlOk(t:SetTable):Prop:=t.plain=false\/(t.dummies = #[]/\Rise t.place)
def EntI(w:World):List Int->List (Int×Value)->Prop
 | [],l=>l=[]
 | x::xs,l=>∃ t r,l=(hashInt x,.int x t)::r/\EntI w xs r
def SetI(w:World)(h:Heap)(a:Addr)(xs:List Int):Prop:=∃ o es ep t,h.get? a=some o/\o.ExactSet/\o.data=.set es ep t/\EntI w xs es.toList/\xs.Nodup/\xs.length<scanBound/\t.fits es.size=true/\t.led = !qD w/\PlOk t
section
variable {prog:Program}{w:World}{A:Around}{E:VSP}{s:Shared}
end
section
variable {prog:Program}{w:World}{A:Around}{E:VSP}{s:Shared}
end
section
variable {prog:Program}{w:World}{A:Around}{E:VSP}{s:Shared}
end
section
variable {prog:Program}{w:World}{A:Around}{E:VSP}{s:Shared}
variable {I a:Addr}{ep:Nat}{o:Obj}{es:Array (Int×Value)}{t:SetTable}
end
section
variable {prog:Program}{w:World}{A:Around}{E:VSP}{s:Shared}{a:Addr}{xs:List Int}
end
section
variable {X:Cx}
end
section
variable {C:Cw}{X:Cx}{ga:Rho->Res}{ea:Expr}{p p1 q1 pos:Pos}
end
section
variable {C:Cw}{X:Cx}{e:Expr}{es:List Expr}{gs:Rho->aS}{p pos:Pos}{x:Str}{k n:Nat}{Φ:List D->Res}{CX:CXT}
end
section
variable {C:Cw}{X:Cx}{e ke:Expr}{g gk:Rho->Res}{x:Str}{p ap cp sp pos:Pos}
end
abbrev fQ(h:Heap)(z TI TO t:Addr)(b:Bool):Prop :=
 h.get? z=some { cls:=.type "zip", dict:=none,data:=.fields #[rawInt t,.bool b,.bool false,.ref TI,.ref TO],slots:=#[] }
section
open PySem.SeqAt
open PySem.AutoSeq1 (wpAny_loadPart')
open PySem.MeetsSeq PySem.MeetsSeq2 PySem.MeetsSeq3
variable {prog:Program}{w:World}{A:Around}{E:VSP}{s:Shared}
theorem vI{z TI TO t:Addr}{b:Bool}{x0 y0:Value}{Q:Bool->Shared->Prop}(hz:fQ s.heap z TI TO t b)(ht:IsPair s.heap t x0 y0)(q:∀ h',fQ h' z TI TO t true->Heap.SameBut z s.heap h'->Q false { s with heap:=h' }):wpAny (model prog w) A (Builtin.SmallTypes.ownedTupleIsFree (.ref z)) Q E s:=by
 delta Builtin.SmallTypes.ownedTupleIsFree
 refine aNA (aOB hz rfl (x:=rawInt t) rfl ?_);show wpAny _ _ (loadIfAlive _ >>= _) _ _ _;rw[show ((t:Int)).toNat=t from aN8 t]
 refine aNA (PySem.W.kdx_alive ht ?_);rw[show (some ({ cls:=.type "tuple", data:=.seq #[x0,y0] }:Obj)).isNone=false from rfl,if_neg aOK]
 refine aNA (m:=field (.ref z) 1) (aOB hz rfl (x:=.bool b) rfl ?_);cases b with
 | true =>
  rw[show ((Value.bool true != Value.bool true))=false from rfl,if_neg aOK]
  exact aNC (q s.heap hz (Heap.SameBut.refl ..))
 | false =>
  rw[show ((Value.bool false != Value.bool true))=true from rfl,if_pos rfl]
  refine aNA (aP0 hz (by simp) λH1 z1 s1=>?_)
  exact aNC (q H1 z1 s1)
theorem aHO{z TI TO t i j l m:Addr}{b:Bool}{ki kj:Nat}{xs ys:Array Value}{x y x0 y0:Value}{Q:VSP}(D:ZipApart z TI TO i j l m)(tz:t≠z)(ti:t≠i)(tj:t≠j)(hz:fQ s.heap z TI TO t b)(ht:IsPair s.heap t x0 y0)(hI:IsPair s.heap TI (.ref i) (.ref j))(hi:s.heap.IsTupleIter i l ki)(hj:s.heap.IsTupleIter j m kj)(hl:IsTup s.heap l xs)(hm:IsTup s.heap m ys)(hx:xs[ki]? = some x)(hy:ys[kj]? = some y)(q:∀ h',fQ h' z TI TO t true->h'.IsTupleIter i l (ki+1)->h'.IsTupleIter j m (kj+1)->IsPair h' s.heap.objs.size x y->h'.objs.size=s.heap.objs.size+1->(∀ c o,c≠z->c≠i->c≠j->s.heap.get? c=some o->h'.get? c=some o)->Q (.ref s.heap.objs.size) { s with heap:=h' }):wpAny (model prog w) A (Builtin.«zip.__next__» ⟨[.ref z],[]⟩) (λf s'=>∃ v,f=.done (.ret v)/\Q v s') E s:=by
 refine aNA (m:=field (.ref z) 2) (aOB hz rfl (x:=.bool false) rfl ?_);refine aNA (m:=field (.ref z) 3) (aOB hz rfl (x:=.ref TI) rfl ?_);apply aNA;apply aPZ hI rfl;refine aNA (m:=Builtin.SmallTypes.ownedTupleIsFree (.ref z)) (vI hz ht λH1 z1 s1=>?_);simp only[aN9,aPO];apply aNA;simp only[<- Array.forIn_toList,aPK,aPJ];apply aNA;apply aNA;apply aOD;refine aNA (m:=Builtin.SmallTypes.nextOf (.ref i)) ?_;refine hX (hi.extBut s1.extBut D.i1z) (cF hl λo e=>s1.extBut _ o D.l1z e) hx λH2 i2 s2=>?_;apply aNC;apply aNC;apply aNA;apply aNA;apply aOD;refine aNA (m:=Builtin.SmallTypes.nextOf (.ref j)) ?_;have j2:H2.IsTupleIter j m kj:=(hj.extBut s1.extBut D.i2z).extBut s2.extBut D.i12.symm;have m2:IsTup H2 m ys:=cF hm λo e=>s2.extBut _ o D.l2i1 (s1.extBut _ o D.l2z e);refine hX j2 m2 hy λH3 j3 s3=>?_;apply aNC;apply aNC;apply aNC;have sz:H3.objs.size=s.heap.objs.size:=by rw[s3.1,s2.1,s1.1]
 apply aNA;refine wpAny_newTuple (hsz:=by show 2<=sizeLine;rw[aNN];decide) ?_
 refine aNC ⟨_,rfl,?_⟩;show Q (.ref H3.objs.size) _;rw[sz];have up:∀ c o,c≠z->c≠i->c≠j->s.heap.get? c=some o->(H3.push { cls:=.type "tuple", data:=.seq #[x,y] }).get? c=some o:=λc o c1 c3 c4 e =>
  hps (s3.extBut _ _ c4 (s2.extBut _ _ c3 (s1.extBut _ _ c1 e)))
 refine q _ (hps (s3.extBut _ _ D.i2z.symm (s2.extBut _ _ D.i1z.symm z1))) ?_ ?_ ?_ ?_ up
 . exact (i2.extBut s3.extBut D.i12).at λo e=>hps e
 . exact j3.at λo e=>hps e
 . rw[<- sz];exact aMQ _ rfl
 . rw[aPP,sz]
theorem aHP{z TI TO t i j l m:Addr}{b:Bool}{ki kj:Nat}{xs ys:Array Value}{x0 y0:Value}{Q:Fin->Shared->Prop}(h0:A.handled=none)(D:ZipApart z TI TO i j l m)(tz:t≠z)(ti:t≠i)(tj:t≠j)(hz:fQ s.heap z TI TO t b)(ht:IsPair s.heap t x0 y0)(hI:IsPair s.heap TI (.ref i) (.ref j))(hi:s.heap.IsTupleIter i l ki)(hj:s.heap.IsTupleIter j m kj)(hl:IsTup s.heap l xs)(hm:IsTup s.heap m ys)(hn:xs[ki]? = none\/ys[kj]? = none)(q:∀ h' e,(∀ c o,c≠z->c≠i->c≠j->s.heap.get? c=some o->h'.get? c=some o)->(∃ o,h'.get? e=some o/\o.cls=.type "StopIteration")->E (.ref e) { s with heap:=h' }):wpAny (model prog w) A (Builtin.«zip.__next__» ⟨[.ref z],[]⟩) Q E s:=by
 refine aNA (m:=field (.ref z) 2) (aOB hz rfl (x:=.bool false) rfl ?_);refine aNA (m:=field (.ref z) 3) (aOB hz rfl (x:=.ref TI) rfl ?_);apply aNA;apply aPZ hI rfl;refine aNA (m:=Builtin.SmallTypes.ownedTupleIsFree (.ref z)) (vI hz ht λH1 z1 s1=>?_);simp only[aN9,aPO];apply aNA;simp only[<- Array.forIn_toList,aPK,aPJ];apply aNA;apply aNA;apply aOD;refine aNA (m:=Builtin.SmallTypes.nextOf (.ref i)) ?_;have i1:=hi.extBut s1.extBut D.i1z;have l1:IsTup H1 l xs:=cF hl λo e=>s1.extBut _ o D.l1z e;cases ex:xs[ki]? with
 | none=>refine jB h0 i1 l1 ex λH2 e s2 he=>?_;exact q H2 e (λc o c1 c3 c4 z=>s2 _ _ c3 (s1.extBut _ _ c1 z)) he
 | some x =>
  have ey:ys[kj]? = none:=hn.resolve_left (by rw[ex];exact λz=>nomatch z)
  refine hX i1 l1 ex λH2 i2 s2=>?_;apply aNC;apply aNC;apply aNA;apply aNA;apply aOD;refine aNA (m:=Builtin.SmallTypes.nextOf (.ref j)) ?_;have j2:H2.IsTupleIter j m kj:=(hj.extBut s1.extBut D.i2z).extBut s2.extBut D.i12.symm;have m2:IsTup H2 m ys:=cF hm λo e=>s2.extBut _ o D.l2i1 (s1.extBut _ o D.l2z e);refine jB h0 j2 m2 ey λH3 e s3 he=>?_;exact q H3 e (λc o c1 c3 c4 z=>s3 _ _ c4 (s2.extBut _ _ c3 (s1.extBut _ _ c1 z))) he
theorem aHQ{z TI TO t i j l m:Addr}{b:Bool}{ki kj:Nat}{xs ys:Array Value}{x y x0 y0:Value}{Q:Option Value->Shared->Prop}(D:ZipApart z TI TO i j l m)(tz:t≠z)(ti:t≠i)(tj:t≠j)(hz:fQ s.heap z TI TO t b)(ht:IsPair s.heap t x0 y0)(hI:IsPair s.heap TI (.ref i) (.ref j))(hi:s.heap.IsTupleIter i l ki)(hj:s.heap.IsTupleIter j m kj)(hl:IsTup s.heap l xs)(hm:IsTup s.heap m ys)(hx:xs[ki]? = some x)(hy:ys[kj]? = some y)(q:∀ h',fQ h' z TI TO t true->h'.IsTupleIter i l (ki+1)->h'.IsTupleIter j m (kj+1)->IsPair h' s.heap.objs.size x y->h'.objs.size=s.heap.objs.size+1->(∀ c o,c≠z->c≠i->c≠j->s.heap.get? c=some o->h'.get? c=some o)->Q (some (.ref s.heap.objs.size)) { s with heap:=h' }):wpAny (model prog w) A (pyNext (.ref z)) Q E s:=by
 have ty:s.TypeIs (.ref z) "zip" := ⟨_,hz,rfl⟩
 delta pyNext
 apply aNA;apply aP3;apply aOE (name:=Str.ofString "__next__") ty aP4;refine aOG aP4 ty aP5 ?w (aP6 _)
 case w=>exact aHO D tz ti tj hz ht hI hi hj hl hm hx hy λh' a1 a3 a4 a5 a6 a7=>aNC (q h' a1 a3 a4 a5 a6 a7)
theorem aHR{z TI TO t i j l m:Addr}{b:Bool}{ki kj:Nat}{xs ys:Array Value}{x0 y0:Value}{Q:Option Value->Shared->Prop}(h0:A.handled=none)(D:ZipApart z TI TO i j l m)(tz:t≠z)(ti:t≠i)(tj:t≠j)(hz:fQ s.heap z TI TO t b)(ht:IsPair s.heap t x0 y0)(hI:IsPair s.heap TI (.ref i) (.ref j))(hi:s.heap.IsTupleIter i l ki)(hj:s.heap.IsTupleIter j m kj)(hl:IsTup s.heap l xs)(hm:IsTup s.heap m ys)(hn:xs[ki]? = none\/ys[kj]? = none)(q:∀ h',(∀ c o,c≠z->c≠i->c≠j->s.heap.get? c=some o->h'.get? c=some o)->Q none { s with heap:=h' }):wpAny (model prog w) A (pyNext (.ref z)) Q E s:=by
 have ty:s.TypeIs (.ref z) "zip" := ⟨_,hz,rfl⟩
 delta pyNext
 apply aNA;apply aP3;apply aOE (name:=Str.ofString "__next__") ty aP4;refine aOG aP4 ty aP5 ?w (aP6 _)
 case w=>refine aHP h0 D tz ti tj hz ht hI hi hj hl hm hn λh' e k he=>?_;obtain ⟨o,g,c⟩:=he;apply aNA;refine aP7 (T := "StopIteration") (b:=true) ⟨o,g,c⟩ isSubtype_stop ?_;exact aNC (q _ k)
end
theorem aHS:typeLookup (.type "zip") "__getattr__" = pure none:=by rw[typeLookup_type,builtinLookup_eq_fast];kernel_rfl
theorem aHT:typeLookup (.type "zip") "keys" = pure none:=by rw[typeLookup_type,builtinLookup_eq_fast];kernel_rfl
theorem aHU:entryFor table "zip.__getattribute__" = some Builtin.«object.__getattribute__» :=
 entryFor_alias (id' := "object.__getattribute__") (by kernel_rfl) (by decide +kernel) (by decide +kernel) (by kernel_rfl)
theorem aHV(a:Addr)(fs:Array Value)(u:Tok):Meets (Builtin.«object.__getattribute__» ⟨[.ref a,.str "keys" u],[]⟩) (λA R s=>s.heap.get? a=some { cls:=.type "zip", dict:=none,data:=.fields fs,slots:=#[] }/\raisesAttr (.ref a) "keys" A R s) :=
 Meets.of_wp λprog w A R s hs=>by
  obtain ⟨hp,g,d,tk,os⟩:=s;obtain ⟨hx,hs⟩:=hs;have hT:(⟨hp,g,d,tk,os⟩:Shared).TypeIs (.ref a) "zip" := ⟨_,hx,rfl⟩;have hmiss:=aHT;have hname:(["__module__", "__name__", "__qualname__", "__doc__", "__annotations__"]:List Str).contains "keys" = false:=by decide +kernel
  unfold Builtin.«object.__getattribute__»
  repeat (any_goals (first | assumption | wp_step))
  exact wpAny_raiseAttrError hs.1 hs.2 (attrMsg_fits (by decide +kernel) (by size_fits))
section
variable {prog:Program}{w:World}{A:Around}{E:VSP}{s:Shared}
theorem aHW{a:Addr}{fs:Array Value}{Q:Option Value->Shared->Prop}(hx:s.heap.get? a=some { cls:=.type "zip", dict:=none,data:=.fields fs,slots:=#[] })(hA:A.handled=none)(q:∀ h' tk,(∀ b o,s.heap.get? b=some o->h'.get? b=some o)->Q none { s with heap:=h',toks:=tk }):wpAny (model prog w) A (getAttr? (.ref a) "keys") Q E s:=by
 obtain ⟨hp,g,d,tk,os⟩:=s;have hT:∀ tk',(⟨hp,g,d,tk',os⟩:Shared).TypeIs (.ref a) "zip" := λ_=>⟨_,hx,rfl⟩;have f1:=sub_AttributeError;have f3:=F.slot_zip_getattribute.lookup;have f4:=F.slot_zip_getattribute.bind (.ref a);have f5:=aHS;unfold getAttr? getAttrBy? getAttrBy
 repeat (any_goals (first | assumption | exact hT _ | ((with_reducible show wpAny _ _ (call (Value.builtin "zip.__getattribute__") _ _) _ _ _);refine call_meets F.slot_zip_getattribute (hT _) aHU (F.args_zip_getattribute_2 _ _) (aHV a fs _) ⟨hx,hA,λh' tk' e hx'=>?_⟩) | wp_step))
 obtain ⟨t',u',he⟩:=hx'.there;show wpAny _ _ (getattributeRaised _ _ _ _ _ _ _) _ _ _;unfold getattributeRaised
 repeat (any_goals (first | assumption | wp_step))
 exact q _ _ hx'.keeps
end
theorem qE:entryFor table "dict.update.loop" = some Builtin.«dict.update.loop»:=entryFor_of_tree (by kernel_rfl)
theorem jD:plainId "dict.update.loop" = true:=by decide +kernel
def jE{K:Type}[DecidableEq K](ks:Nat->K)(vs:Nat->Value):Nat->Nat->List (K×Value)->List (K×Value)
 | 0,_,kvs=>kvs
 | n+1,k,kvs=>jE ks vs n (k+1) (stored kvs (ks k) (vs k))
section
variable {prog:Program}{w:World}{K:Type}[DecidableEq K]{knd:KeyKind prog w K}{A:Around}{E:VSP}{s:Shared}
theorem vJ{kvs:List (K×Value)}{k:K}{v:Value}:(stored kvs k v).length<=kvs.length+1:=by unfold stored;split <;> simp
theorem vK {d p : Addr} {x y : Value} {k : K} {kvs : List (K × Value)} {Q : Unit → Shared → Prop} (hp : IsPair s.heap p x y) (hk : knd.is k x = true) (hd : s.heap.DictOf knd d kvs) (hz : kvs.length ≤ sizeLine) (q : ∀ h', h'.DictOf knd d (stored kvs k y) → Heap.SameBut d s.heap h' → Q () { s with heap := h', toks := s.toks + 1 }) (i : Int) :
    wpAny (model prog w) A (holding [.ref p] (do
     let sC <- (Builtin.Dict.pairItems (.ref p)).tryCatch λe=>do
      if !(<- isInstance e (.type "TypeError")) then throw e
      rule "dict.update.element-no-sequence"
      raiseError "TypeError" s!"cannot convert dictionary update sequence element #{i} to a sequence"
     match sC with
     | [k,v]=>holding [k,v] (dictSet d k v)
     | l =>
      rule "dict.update.element-length"
      raiseError "ValueError" s!"dictionary update sequence element #{i} has length {l.length}; 2 is required")) Q E s:=by
 refine aOD (aNA ?_);refine wpAny_tryCatch ?_;unfold Builtin.Dict.pairItems;refine aNA (aOH ⟨_,hp,rfl⟩ ?_);rw[if_pos (by decide)]
 refine aNA (aPZ hp rfl (aNC ?_));exact aOD (wpAny_dictSet_pairs hk hd q hz)
theorem loopU{R:Result->Shared->Prop}{z TI TO t i j l m d:Addr}{xs ys:Array Value}{x0 y0:Value}{ks:Nat->K}{vs:Nat->Value}{n0:Nat}(h0:A.handled=none)(D:ZipApart z TI TO i j l m)(tz:t≠z)(ti:t≠i)(tj:t≠j)(dz:d≠z)(di:d≠i)(dj:d≠j)(dI:d≠TI)(dl:d≠l)(dm:d≠m)(dt:d≠t)(zTI:TI≠i)(zTJ:TI≠j)(hn:n0=min xs.size ys.size)(hk:∀ q x,xs[q]? = some x->knd.is (ks q) x=true)(hv:∀ q y,ys[q]? = some y->vs q=y):∀ (n k:Nat) (s:Shared) (b:Bool) (c:Int) (kvs:List (K×Value)),n+k=n0->fQ s.heap z TI TO t b->IsPair s.heap t x0 y0->IsPair s.heap TI (.ref i) (.ref j)->s.heap.IsTupleIter i l k->s.heap.IsTupleIter j m k->IsTup s.heap l xs->IsTup s.heap m ys->s.heap.DictOf knd d kvs->kvs.length+n<=sizeLine->(∀ h' tk,(∀ b o,b≠z->b≠i->b≠j->b≠d->s.heap.get? b=some o->h'.get? b=some o)->h'.DictOf knd d (jE ks vs n k kvs)->R (.ok (.ret .none)) { s with heap:=h',toks:=tk })->codeAny (model prog w) A (.builtin "dict.update.loop" ⟨[.ref d,.ref z,rawInt c,.none],[]⟩) R s:=by
 intro n
 induction n with
 | zero =>
  intro k s b c kvs hnk hz ht hI hi hj hl hm hd hsz hR;refine aQD qE ?_;rw[aQE jD _];show wpAny _ A.in1 (pyNext (.ref z) >>= _) _ _ s;have he:xs[k]? = none\/ys[k]? = none:=by rw[aQF,aQF];omega
  refine aNA (aHR (A:=A.in1) h0 D tz ti tj hz ht hI hi hj hl hm he λh' kp=>?_);have hd':h'.DictOf knd d kvs:=let ⟨o,es,ep,ho,r⟩:=hd;⟨o,es,ep,kp d o dz di dj ho,r⟩
  refine aNA (m:=Builtin.Dict.addKeywords d []) (aNC ?_);exact aNC (hR h' s.toks (λb o b1 b2 b3 _ e=>kp b o b1 b2 b3 e) hd')
 | succ n ih =>
  intro k s b c kvs hnk hz ht hI hi hj hl hm hd hsz hR;have hkx:k<xs.size:=by omega
  have hky:k<ys.size:=by omega
  refine aQD qE ?_;rw[aQE jD _];show wpAny _ A.in1 (pyNext (.ref z) >>= _) _ _ s;refine aNA (aHQ (A:=A.in1) D tz ti tj hz ht hI hi hj hl hm (aQG hkx) (aQG hky) λh1 z1 i1 j1 p1 sz1 kp1=>?_);have hd1:h1.DictOf knd d kvs:=let ⟨o,es,ep,ho,r⟩:=hd;⟨o,es,ep,kp1 d o dz di dj ho,r⟩
  have ld:d<s.heap.objs.size:=let ⟨o,es,ep,ho,r⟩:=hd;aMR ho
  refine aNA (vK (s:={ s with heap:=h1 }) (knd:=knd) p1 (hk k _ (aQG hkx)) hd1 (by omega) (λh2 hd2 sb=>?_) c)
  have up:∀ b o,b≠z->b≠i->b≠j->b≠d->s.heap.get? b=some o->h2.get? b=some o:=λb o b1 b2 b3 b4 e=>sb.extBut b o b4 (kp1 b o b1 b2 b3 e);have keepL:l≠z/\l≠i/\l≠j:=⟨D.l1z,D.l1i1,D.l1i2⟩;have keepM:m≠z/\m≠i/\m≠j:=⟨D.l2z,D.l2i1,D.l2i2⟩
  refine aNC ⟨plainId_quiet jD _,ih (k+1) _ true (c+1) _ (by omega) (sb.extBut z _ dz.symm z1) (up t _ tz ti tj dt.symm ht) (up TI _ D.TIz zTI zTJ dI.symm hI) (i1.at λo e=>sb.extBut i o di.symm e) (j1.at λo e=>sb.extBut j o dj.symm e)
   (cF hl λo e=>up l o keepL.1 keepL.2.1 keepL.2.2 dl.symm e) (cF hm λo e=>up m o keepM.1 keepM.2.1 keepM.2.2 dm.symm e) hd2 (by have:=vJ (kvs:=kvs) (k:=ks k) (v:=ys[k]);omega) λh' tk kp hd'=>?_⟩
  refine hR h' tk (λb o b1 b2 b3 b4 e=>kp b o b1 b2 b3 b4 (up b o b1 b2 b3 b4 e)) ?_;have ev:vs k=ys[k]:=hv k _ (aQG hky);rw[<- ev] at hd';exact hd'
theorem loop0{R:Result->Shared->Prop}{z TI TO i j l m d:Addr}{xs ys:Array Value}{a b:Value}{ks:Nat->K}{vs:Nat->Value}{c:Int}{kvs:List (K×Value)}(h0:A.handled=none)(D:ZipApart z TI TO i j l m)(dz:d≠z)(di:d≠i)(dj:d≠j)(dI:d≠TI)(dO:d≠TO)(dl:d≠l)(dm:d≠m)(hk:∀ q x,xs[q]? = some x->knd.is (ks q) x=true)(hv:∀ q y,ys[q]? = some y->vs q=y)(hz:IsZip s.heap z TI TO .none)(hI:IsPair s.heap TI (.ref i) (.ref j))(hO:IsPair s.heap TO a b)(hi:s.heap.IsTupleIter i l 0)(hj:s.heap.IsTupleIter j m 0)(hl:IsTup s.heap l xs)(hm:IsTup s.heap m ys)(hd:s.heap.DictOf knd d kvs)(hsz:kvs.length+min xs.size ys.size<=sizeLine)(hR:∀ h' tk,(∀ b o,b≠z->b≠TO->b≠i->b≠j->b≠d->s.heap.get? b=some o->h'.get? b=some o)->h'.DictOf knd d (jE ks vs (min xs.size ys.size) 0 kvs)->R (.ok (.ret .none)) { s with heap:=h',toks:=tk }):codeAny (model prog w) A (.builtin "dict.update.loop" ⟨[.ref d,.ref z,rawInt c,.none],[]⟩) R s:=by
 refine aQD qE ?_;rw[aQE jD _];show wpAny _ A.in1 (pyNext (.ref z) >>= _) _ _ s;by_cases he:xs[0]? = none\/ys[0]? = none
 . have e0:min xs.size ys.size=0:=by rw[aQF,aQF] at he;omega
   refine aNA (aGP (A:=A.in1) h0 D hz hI hO hi hj hl hm he λh' kp=>?_);have hd':h'.DictOf knd d kvs:=let ⟨o,es,ep,ho,r⟩:=hd;⟨o,es,ep,kp d o dz dO di dj ho,r⟩
   refine aNA (m:=Builtin.Dict.addKeywords d []) (aNC ?_);rw[e0] at hR;exact aNC (hR h' s.toks (λb o b1 b2 b3 b4 _ e=>kp b o b1 b2 b3 b4 e) hd')
 . rw[aPV,aQF,aQF] at he;have hkx:0<xs.size:=by omega
   have hky:0<ys.size:=by omega
   obtain ⟨n,hn⟩:∃ n,min xs.size ys.size=n+1:=⟨min xs.size ys.size-1,by omega⟩
   refine aNA (aGO (A:=A.in1) D hz hI hO hi hj hl hm (aQG hkx) (aQG hky) λh1 z1 o1 i1 j1 p1 sz1 kp1=>?_);have hd1:h1.DictOf knd d kvs:=let ⟨o,es,ep,ho,r⟩:=hd;⟨o,es,ep,kp1 d o dz dO di dj ho,r⟩
   have lt:∀ {b:Addr} {o:Obj},s.heap.get? b=some o->s.heap.objs.size≠b:=λe=>aNF (aMR e);have lz:=lt hz;have li:s.heap.objs.size≠i:=let ⟨o,ho,_⟩:=hi;lt ho
   have lj:s.heap.objs.size≠j:=let ⟨o,ho,_⟩:=hj;lt ho
   have ld:s.heap.objs.size≠d:=let ⟨o,es,ep,ho,r⟩:=hd;lt ho
   refine aNA (vK (s:={ s with heap:=h1 }) (knd:=knd) p1 (hk 0 _ (aQG hkx)) hd1 (by omega) (λh2 hd2 sb=>?_) c)
   have up:∀ b o,b≠z->b≠TO->b≠i->b≠j->b≠d->s.heap.get? b=some o->h2.get? b=some o:=λb o b1 b2 b3 b4 b5 e=>sb.extBut b o b5 (kp1 b o b1 b2 b3 b4 e);refine aNC ⟨plainId_quiet jD _,loopU (t:=s.heap.objs.size) (x0:=xs[0]) (y0:=ys[0]) (n0:=n+1) (ks:=ks) (vs:=vs) h0 D lz li lj dz di dj dI dl dm ld.symm D.TIi1 D.TIi2 hn.symm hk hv n 1 _ false (c+1) _ rfl (sb.extBut z _ dz.symm z1) (sb.extBut _ _ ld p1)
    (up TI _ D.TIz D.TITO D.TIi1 D.TIi2 dI.symm hI) (i1.at λo e=>sb.extBut i o di.symm e) (j1.at λo e=>sb.extBut j o dj.symm e)
    (cF hl λo e=>up l o D.l1z D.l1TO D.l1i1 D.l1i2 dl.symm e) (cF hm λo e=>up m o D.l2z D.l2TO D.l2i1 D.l2i2 dm.symm e) hd2 (by have:=vJ (kvs:=kvs) (k:=ks 0) (v:=ys[0]);omega) λh' tk kp hd'=>?_⟩
   refine hR h' tk (λb o b1 b2 b3 b4 b5 e=>kp b o b1 b3 b4 b5 (up b o b1 b2 b3 b4 b5 e)) ?_;have ev:vs 0=ys[0]:=hv 0 _ (aQG hky);rw[<- ev] at hd';rw[hn];exact hd'
theorem aHX{z TI TO i j l m:Addr}{xs ys:Array Value}{a b:Value}{ks:Nat->K}{vs:Nat->Value}{Q:VSP}(h0:A.handled=none)(D:ZipApart z TI TO i j l m)(hz:IsZip s.heap z TI TO .none)(hI:IsPair s.heap TI (.ref i) (.ref j))(hO:IsPair s.heap TO a b)(hi:s.heap.IsTupleIter i l 0)(hj:s.heap.IsTupleIter j m 0)(hl:IsTup s.heap l xs)(hm:IsTup s.heap m ys)(hk:∀ q x,xs[q]? = some x->knd.is (ks q) x=true)(hv:∀ q y,ys[q]? = some y->vs q=y)(hsz:xs.size<=sizeLine)(q:∀ h' tk,(∀ b o,b≠z->b≠TO->b≠i->b≠j->s.heap.get? b=some o->h'.get? b=some o)->h'.DictOf knd s.heap.objs.size (jE ks vs (min xs.size ys.size) 0 [])->Q (.ref s.heap.objs.size) { s with heap:=h',toks:=tk }):wpAny (model prog w) A (call (.type "dict") [.ref z]) Q E s:=by
 refine callType_codes (Q₁:=λobj s₁=>obj=.ref s.heap.objs.size/\s₁={ s with heap:=s.heap.push { cls:=.type "dict", data:=.dict #[] } }) F.kt_called_dict (F.kt_typeCall_dict_1 _) F.entry_dict_init (kt_code_dict_new _ ⟨rfl,rfl⟩) ?_
 rintro obj s₁ ⟨rfl,rfl⟩;have hnew:(s.heap.push { cls:=.type "dict", data:=.dict #[] }).DictOf knd s.heap.objs.size []:=Heap.DictOf.new s.heap;refine ⟨hnew.typeIs,F.args_dict_init_2 _ _,?_⟩;unfold Builtin.«dict.__init__»;refine aNA ?_;unfold Builtin.Dict.selfAndRest;refine aNA (wpAny_notOrdered_dict hnew.typeIs ?_);show wpAny _ _ (pure (s.heap.objs.size,[Value.ref z])) _ _ _;refine aNC ?_;show wpAny _ _ (Builtin.Dict.updateFrom "dict.__init__" s.heap.objs.size (.ref z) [] .none) _ _ _;unfold Builtin.Dict.updateFrom;have hz1:IsZip (s.heap.push { cls:=.type "dict", data:=.dict #[] }) z TI TO .none:=hps hz;refine aNA (aOH ⟨_,hz1,rfl⟩ ?_);rw[if_pos (by decide)]
 refine aNA (aHW (A:=A.in1.in1) (s:={ s with heap:=s.heap.push { cls:=.type "dict", data:=.dict #[] } }) hz1 h0 λh1 tk1 kp1=>?_)
 rw[if_pos (show (none:Option Value).isNone=true from rfl)]
 refine aNA (aNE (aNA (wpAny_pyIter_zip (kp1 _ _ hz1) (aNC ⟨plainId_quiet jD _,?_⟩))));have up:∀ b o,s.heap.get? b=some o->h1.get? b=some o:=λb o e=>kp1 b o (hps e);have lt:∀ {b:Addr} {o:Obj},s.heap.get? b=some o->s.heap.objs.size≠b:=λe=>aNF (aMR e);have hd1:h1.DictOf knd s.heap.objs.size []:=let ⟨o,es,ep,ho,r⟩:=hnew;⟨o,es,ep,kp1 _ o ho,r⟩
 refine loop0 (knd:=knd) (A:=A.in1) (s:={ s with heap:=h1,toks:=tk1 }) (ks:=ks) (vs:=vs) h0 D (lt hz) (let ⟨o,ho,_⟩:=hi;lt ho) (let ⟨o,ho,_⟩:=hj;lt ho) (lt hI) (lt hO) (let ⟨o,ho,_⟩:=hl;lt ho) (let ⟨o,ho,_⟩:=hm;lt ho) hk hv
  (up _ _ hz) (up _ _ hI) (up _ _ hO) (hi.at λo e=>up _ o e) (hj.at λo e=>up _ o e) (cF hl λo e=>up _ o e) (cF hm λo e=>up _ o e) hd1 (by simp;omega) λh' tk kp hd'=>?_
 exact ⟨rfl,q h' tk (λb o b1 b2 b3 b4 e=>kp b o b1 b2 b3 b4 (aMU (aMR e)) (up b o e)) hd'⟩
end
def cG:List Str->List D->List (Key×D)->List (Key×D)
 | x::ns,d::ds,acc=>cG ns ds (dN acc (.inr x) d)
 | _,_,acc=>acc
def dA:List Str->List V->List (Key×V)->List (Key×V)
 | x::ns,v::vs,acc=>dA ns vs (cS acc (.inr x) v)
 | _,_,acc=>acc
def jF:List Str->List Value->List (Key×Value)->List (Key×Value)
 | x::ns,u::us,kvs=>jF ns us (stored kvs (.inr x) u)
 | _,_,kvs=>kvs
theorem vL{K:Fg}{F:Hp}:∀ {ns:List Str} {ds:List D} {vs:List V} {acc:List (Key×D)} {acc':List (Key×V)},aE K F ds vs->aK K F acc acc'->aK K F (cG ns ds acc) (dA ns vs acc')
 | [],ds,vs,acc,acc',h,r=>by unfold cG dA;exact r
 | x::ns,[],vs,acc,acc',h,r=>by simp only[aE] at h;subst h;unfold cG dA;exact r
 | x::ns,d::ds,vs,acc,acc',h,r=>by simp only[aE] at h;obtain ⟨y,ys,rfl,q,t⟩:=h;show aK K F (cG ns ds (dN acc (.inr x) d)) (dA ns ys (cS acc' (.inr x) y));exact vL t (aK.put r q)
theorem vM:∀ {ns:List Str} {vs:List V} {us:List Value} {acc:List (Key×V)} {acc':List (Key×Value)},aO vs us->KV acc acc'->KV (dA ns vs acc) (jF ns us acc')
 | [],vs,us,acc,acc',h,r=>by unfold dA jF;exact r
 | x::ns,_,_,acc,acc',.nil,r=>by unfold dA jF;exact r
 | x::ns,_,_,acc,acc',.cons h t,r=>vM (ns:=ns) t (KV.put r (.inr x) h)
theorem vN:∀ {ns:List Str} {vs:List V} {acc:List (Key×V)},(dA ns vs acc).length<=acc.length+ns.length
 | [],vs,acc=>by unfold dA;simp
 | x::ns,[],acc=>by unfold dA;simp
 | x::ns,v::vs,acc=>by have h1:=vN (ns:=ns) (vs:=vs) (acc:=cS acc (.inr x) v);have h2:=pF acc (.inr x) v;show (dA ns vs (cS acc (.inr x) v)).length<=_;rw[aOQ];omega
theorem vO(ns:List Str)(us:List Value):∀ (n k:Nat) (kvs:List (Key×Value)),n+k=min ns.length us.length->jE (λq=>(.inr (ns.getD q Str.empty):Key)) (λq=>us.getD q .none) n k kvs=jF (ns.drop k) (us.drop k) kvs
 | 0,k,kvs,h=>by
  have:ns.drop k=[]\/us.drop k=[]:=by rw[List.drop_eq_nil_iff,List.drop_eq_nil_iff];omega
  show kvs=_;rcases this with e | e
  . rw[e];rfl
  . rw[e];cases ns.drop k <;> rfl
 | n+1,k,kvs,h=>by
  have h1:k<ns.length:=by omega
  have h2:k<us.length:=by omega
  rw[aPH h1,aPH h2];have ih:=vO ns us n (k+1) (stored kvs (.inr ns[k]) us[k]) (by omega)
  have e1:ns.getD k Str.empty=ns[k]:=by rw[aPB,aPC h1];rfl
  have e2:us.getD k .none=us[k]:=by rw[aPB,aPC h2];rfl
  show jE _ _ n (k+1) (stored kvs (.inr (ns.getD k Str.empty)) (us.getD k .none))=_;rw[e1,e2];exact ih
def iA(ra rb:Res):Res:=ra.thn λ_ d=>rb.thn λ_ e=>match d,e with
 | .tup ds,.tup es=>(match txD ds with
  | some ns=>.ok .fr (.dct (cG ns es []))
  | none=>.stuck)
 | _,_=>.stuck
theorem vP:∀ {vs:List V} {us:List Value} {q:Nat} {u:Value},aO vs us->us[q]? = some u->∃ v,vs[q]? = some v/\L2.aN v u
 | _,_,q,u,.nil,e=>by simp at e
 | _,_,0,u,.cons h t,e=>by cases e;exact ⟨_,rfl,h⟩
 | _,_,q+1,u,.cons h t,e=>vP (q:=q) t e
section
variable {C:Cw}{X:Cx}{ga gb:Rho->Res}{ea eb:Expr}{p p1 q1 pos:Pos}
theorem aHY(hc:X.calm=true)(gd:Gl X "dict")(nd:X.mg "dict" = none)(gz:Gl X "zip")(nz:X.mg "zip" = none)(ha:PV C X ea ga)(hb:PV C X eb gb)(sa:cC ea=true)(sb:cC eb=true):PV C X (.Call (.Name "dict" p) [.Call (.Name "zip" p1) [ea,eb] [] q1] [] pos) (λρ=>iA (ga ρ) (gb ρ)):=by
 intro aA s σ H Q I h;refine aN2 (gS I gd nd uQ ?_ (by decide) (by decide))
 refine aNJ ?_ rfl rfl;show wpAny _ _ (spliced ((false,eval (.Call (.Name "zip" p1) [ea,eb] [] q1) X.env)::backTo pos (starEach [] X.env))) _ _ s;refine Calls.spliced_cons (aN2 (gS I gz nz aGV ?_ (by decide) (by decide)))
 refine aNJ (thn ((pE ha (pE hb sV (cU sb)) (cU sa)) q1 aA s σ H (λvs H1=>∃ (a b:Addr) (ns:List Str) (ys:List V),vs=[.ref a,.ref b]/\SqT X.K H1 a (ns.map V.str)/\SqT X.K H1 b ys/\∀ l,H1 l=none->Q (.ref l) (upd H1 l (.dK (dA ns ys [])))) I ?_) λus s1 ⟨vs,H1,I1,r1,a,b,ns,ys,ev,hqa,hqb,w⟩=>?_) (cU sa) (hU _ _ λy hy=>by simp only[aM0,aP8,aP9] at hy;subst hy;exact sb)
 . show tG (C.at X) ga σ H λv H1=>tG (C.at X) gb σ H1 λu H2=>∃ (a b:Addr) (ns:List Str) (ys:List V),[v,u]=[V.ref a,V.ref b]/\SqT X.K H2 a (ns.map V.str)/\SqT X.K H2 b ys/\∀ l,H2 l=none->Q (.ref l) (upd H2 l (.dK (dA ns ys [])));rw[a9] at h ⊢;obtain ⟨ρ,F,R,w⟩:=h;refine ⟨ρ,F,R,?_⟩;cases e1:ga ρ with
   | stuck=>simp only[iA,e1,Res.thn_stuck] at w;exact w
   | exc c=>simp only[iA,e1,Res.thn_exc] at w;exact w
   | ok m d =>
    simp only[iA,e1,Res.thn_ok] at w;intro v F1 H1 s1 r1 _;rw[a9];refine ⟨ρ,F1,R.step s1,?_⟩;cases e2:gb ρ with
    | stuck=>simp only[e2,Res.thn_stuck] at w;exact w.elim
    | exc c=>simp only[e2,Res.thn_exc] at w;exact aX.step s1 w
    | ok n e =>
     simp only[e2,Res.thn_ok] at w;intro u F2 H2 s2 r2 _;cases d with
     | tup ds =>
      cases e with
      | tup es =>
       dsimp only at w;cases t1:txD ds with
       | none=>rw[t1] at w;exact w.elim
       | some ns =>
        rw[t1] at w;obtain ⟨a,xs,rfl,qa,ra⟩:=(r1.step s2).seqT s2.sub;obtain ⟨b,ys,rfl,qb,rb⟩:=r2.seqT s2.sub;obtain ⟨rfl,_⟩:=vG t1 ra;have s12:=s1.trans s2;refine ⟨a,b,ns,ys,rfl,qa,qb,λl hl=>w (.ref l) F2 _ (s12.trans (aL.fresh _ s2.sub hl)) ⟨l,rfl,s2.sub.free hl,_,bU,vL rb (by simp only[aK])⟩ λ_ a' ea'=>?_⟩
        cases ea';cases q:H l with
        | none=>rfl
        | some o=>rw[s12.same _ _ q] at hl;cases hl
      | _=>exact w.elim
     | _=>exact w.elim
 . subst ev;cases r1 with
   | cons ra rr =>
    cases rr with
    | cons rb rr =>
     cases rr;cases ra;cases rb;obtain ⟨ls,rva,pa,hza⟩:=I1.tuple hqa;obtain ⟨ms,rvb,pb,hzb⟩:=I1.tuple hqb;have la:a<s1.heap.objs.size:=by obtain ⟨o,e,_⟩:=id pa;exact aMR e
     have lb:b<s1.heap.objs.size:=by obtain ⟨o,e,_⟩:=id pb;exact aMR e
     have D:=aGU s1.heap.objs.size a b la lb;refine aGR (show s1.heap.IsTuple a ls.toArray from pa) (show s1.heap.IsTuple b ms.toArray from pb) λh' a1 a2 a3 a4 a5 a6 a7=>Calls.spliced_nil ?_
     have hl:IsTup h' a ls.toArray:=cF pa λo e=>a7 _ o e;have hm:IsTup h' b ms.toArray:=cF pb λo e=>a7 _ o e;have len:ls.length=ns.length:=by have:=rva.length;rw[aN1] at this;exact this.symm
     refine aHX (s:={ s1 with heap:=h' }) (knd:=bO X.prog X.w) (ks:=λq=>(.inr (ns.getD q Str.empty):Key)) (vs:=λq=>ms.getD q .none) (I1.ok.hd hc) D a1 a2 a3 a4 a5 hl hm (λq x hx=>?_) (λq y hy=>?_) ?_ λh2 tk kp dd=>?_
     . have hx:ls[q]? = some x:=by simpa using hx
       obtain ⟨v,ev,rv⟩:=vP rva hx;rw[aNX] at ev;cases en:ns[q]? with
       | none=>rw[en] at ev;cases ev
       | some y=>rw[en] at ev;cases ev;rw[aPB,en];exact gT (k:=.inr y) rv
     . have hy:ms[q]? = some y:=by simpa using hy
       show ms.getD q .none=y;rw[aPB,hy];rfl
     . rw[aNO,len];rw[aN1] at hza;exact hza
     . have e0:min ls.toArray.size ms.toArray.size=min ns.length ms.length:=by rw[aNO,aNO,len]
       have dd:h2.DictOf (bO X.prog X.w) h'.objs.size (jF ns ms []):=by
        have:=vO ns ms (min ns.length ms.length) 0 [] (by omega)
        rw[aPR,aPR] at this;rw[e0,this] at dd;exact dd
       have kk:∀ c o,s1.heap.get? c=some o->h2.get? c=some o:=λc o e=>by have lc:=aMR e;have far:∀ k:Nat,c≠s1.heap.objs.size+k:=λk=>aMU (aMS lc (Nat.le_add_right _ k));exact kp c o (far 4) (far 3) (far 0) (far 1) (a7 c o e)
       have nl:s1.heap.objs.size<=h'.objs.size:=by rw[a6];omega
       have zlen:(dA ns ys []).length<=sizeLine:=by have:=vN (ns:=ns) (vs:=ys) (acc:=[]);rw[aN1] at hza;simp at this;omega
       refine ⟨.ref h'.objs.size,_,I1.laid (t':=tk) kk nl (pH zlen (aMN.mpr (Ne.symm (aMU (aMS I1.big nl)))) (vM rvb .nil) dd),rfl,w _ (I1.hok.fresh nl)⟩
end
end D3
set_option genSizeOfSpec false
set_option genInjectivity false
namespace D3
open PySem PySem.Spec PyProof.Rows L2
inductive KC where | s (y:Str) | i (n:Int) | t (tb:List (Str×Str))
 deriving DecidableEq
def KC.d:KC->D | .s y=>.str y | .i n=>.int n | .t _=>.non
inductive GV where | con (c:KC) | fn (n:Nat) | no | cls
 deriving DecidableEq
inductive Bn where | len | isinstance | all
 deriving DecidableEq
def Bn.name:Bn->Str
 | .len => "len" | .isinstance => "isinstance" | .all => "all"
def Bn.f:Bn->List (Md×D)->Option (Md×D)
 | .len=>f9 | .isinstance=>mP | .all=>iY
def Bn.id:Bn->String
 | .len => "len" | .isinstance => "isinstance" | .all => "all"
inductive Ty where | int | bool | str | tuple | list | dict
 deriving DecidableEq
def Ty.f:Ty->List (Md×D)->Option (Md×D)
 | .tuple=>i6 | .list=>i7 | .int=>jA | .str=>kS | .dict=>kX | _=>λ_=>none
def Ty.id:Ty->String
 | .int => "int" | .bool => "bool" | .str => "str" | .tuple => "tuple" | .list => "list" | .dict => "dict"
structure WD where
 Φ:Str->List D->Res
 I:Str->Option (List D->Res)
 cl:List CI
 xt:List ((Str×Str)×Bool)
 xi:List ((Str×Str)×Bool)
def WD.xf(W:WD):Str->Str->Option Bool:=λc x=>W.xt.lookup (c,x)
def WD.xg(W:WD):Str->Str->Option Bool:=λc x=>W.xi.lookup (c,x)
inductive E where
 | var (i:Nat) | non | bl (b:Bool) | int (i:Int) | str (x:Str)
 | glob (x:Str) (c:KC) | ty (t:Ty)
 | bin (op:Operator) (a b:E) | cmp (op:CmpOp) (a b:E)
 | andL (es:List E) | orL (es:List E) | not (a:E) | tru (a:E) | frz (a:E)
 | ix (a b:E) | slice (a:E) (lo hi:Option E)
 | tup (es:List E) | lst (es:List E)
 | call (f:Str) (n:Nat) (es:List E) | bcall (b:Bn) (es:List E)
 | items (a:E) | rng1 (a:E) | enum1 (a:E)
 | comp (elt it:E) (ts:List E) (aF:List Nat) (t:Tg) (n:Nat) | fmt (a:E) | fstr (es:List E)
 | tcall (t:Ty) (es:List E)
 | deed (x:Str) (tb:Tbl) (a:E) | callv (i:Nat) (fs:Fns) (n:Nat) (es:List E) | dzip (a b:E)
 | dnew | dix (a b:E) | din (neg:Bool) (a b:E) | deq (neg:Bool) (a b:E)
def noF:Md->D->Md->D->Option (Md×D):=λ_ _ _ _=>none
def aT:Operator->Md->D->Md->D->Option (Md×D)
 | .Add=>orO fAdd mV | .Sub=>fSub | .Mult=>orO fMul m6 | .Mod=>fMod | .FloorDiv=>fDiv | .Pow=>fPow | .BitAnd=>vH | .BitOr=>fBor | .LShift=>fShl | .RShift=>fShr | _=>noF
def bF:CmpOp->Md->D->Md->D->Option (Md×D)
 | .Lt=>orO fLt noK | .LtE=>fLe | .Gt=>fGt | .GtE=>fGe | .Eq=>fEq | .NotEq=>fNe | .In=>orO fIn (i4 false) | .NotIn=>orO aFJ (i4 true) | .Is=>fIs false | .IsNot=>fIs true
mutual
def evE(W:WD):E->Rho->Res
 | .var i,ρ=>c7 ρ i
 | .non,_=>.ok .fz .non
 | .bl b,_=>.ok .fz (.bl b)
 | .int i,_=>.ok .fz (.int i)
 | .str x,_=>.ok .fz (.str x)
 | .glob _ c,_=>.ok .fz c.d
 | .ty t,_=>.ok .fz (.ty t.id)
 | .bin op a b,ρ=>op2 (aT op) (evE W a ρ) (evE W b ρ)
 | .cmp op a b,ρ=>op2 (bF op) (evE W a ρ) (evE W b ρ)
 | .andL es,ρ=>evA W es ρ
 | .orL es,ρ=>cX W es ρ
 | .not a,ρ=>kJ (evE W a ρ)
 | .tru a,ρ=>kH (evE W a ρ)
 | .frz a,ρ=>bI (evE W a ρ)
 | .ix a b,ρ=>op2 ixD (evE W a ρ) (evE W b ρ)
 | .slice a lo hi,ρ=>slP (evE W a ρ) (evO W lo) (evO W hi) ρ
 | .tup es,ρ=>eY (bM W es ρ)
 | .lst es,ρ=>gZ (bM W es ρ)
 | .call f n es,ρ=>aD n (W.Φ f) (bM W es ρ)
 | .bcall b es,ρ=>eZ b.f (bM W es ρ)
 | .items a,ρ=>gB (bI (evE W a ρ))
 | .rng1 a,ρ=>hG (c8 (evE W a ρ) (.ok []))
 | .enum1 a,ρ=>gE (c8 (bI (evE W a ρ)) (.ok []))
 | .comp elt it ts aF t n,ρ=>bY (evE W it ρ) ρ aF n (aI t) (λρ=>evF W ts ρ) (λρ=>evE W elt ρ)
 | .fmt a,ρ=>mZ (evE W a ρ)
 | .fstr es,ρ=>fN Str.empty (evL W es) ρ
 | .tcall t es,ρ=>eZ t.f (bM W es ρ)
 | .dnew,_=>.ok .fr (.dct [])
 | .deed _ tb a,ρ=>jC tb (evE W a ρ)
 | .callv i fs n es,ρ=>kY W.Φ fs n (c7 ρ i) (bM W es ρ)
 | .dzip a b,ρ=>iA (evE W a ρ) (evE W b ρ)
 | .dix a b,ρ=>op2 ixK (evE W a ρ) (evE W b ρ)
 | .deq neg a b,ρ=>op2 (eqN neg) (evE W a ρ) (evE W b ρ)
 | .din neg a b,ρ=>op2 (inK neg) (evE W a ρ) (evE W b ρ)
def bM(W:WD):List E->Rho->aS
 | [],_=>.ok []
 | e::es,ρ=>c8 (evE W e ρ) (bM W es ρ)
def evA(W:WD):List E->Rho->Res
 | [],_=>.stuck
 | [e],ρ=>evE W e ρ
 | e::es,ρ=>dZ (evE W e ρ) (evA W es ρ)
def cX(W:WD):List E->Rho->Res
 | [],_=>.stuck
 | [e],ρ=>evE W e ρ
 | e::es,ρ=>orR (evE W e ρ) (cX W es ρ)
def evF(W:WD):List E->Rho->Res
 | [],_=>.ok .fz (.bl true)
 | e::es,ρ=>dZ (evE W e ρ) (evF W es ρ)
def evL(W:WD):List E->List (Rho->Res)
 | []=>[]
 | e::es=>evE W e::evL W es
def evO(W:WD):Option E->Option (Rho->Res)
 | none=>none
 | some e=>some (evE W e)
end
structure MG where
 G:List (Str×GV)
 mk0:List Str
 mki:List (Str×Str×Nat)
 iso:List Str
 xcs:List Str
 xns:List Str
structure MC where
 N:List Str
 sc:Scope
 g:MG
 fn:Bool
 calm:Bool
 rz:Bool
def MC.kind(m:MC)(x:Str):Option NameKind:=m.sc.names.lookup x
def MC.vis(m:MC)(x:Str):Bool:=(m.kind x==some .local||m.kind x==some .cell||m.kind x==some .free)&&x != "__debug__" && x != "__classdict__"
def MC.glob(m:MC)(x:Str)(v:GV):Bool:=m.kind x==some .globalImplicit&&m.g.G.lookup x==some v&&x != "__debug__" && x != "__name__"
def MC.gk(m:MC)(x:Str):Bool:=m.kind x==some .globalImplicit&&x != "__debug__"
def strK(x:Str):Bool:=decide (x.length<=sizeLine)&&PyData.strOk x
def k4:Expr->Bool | .Slice ..=>false | _=>true
def aHZ:Expr->Bool | .Tuple ..=>true | _=>false
def eO:Expr->Bool | .Set ..=>false | _=>true
def vQ:Expr->Bool | .UnaryOp .Not _ _=>false | .BoolOp ..=>false | .IfExp ..=>false | .Compare ..=>false | _=>true
def MC.sub(m:MC)(scope:Scope)(aH tgN:List Str):MC:={ m with N:=aH++tgN,sc:={ scope with names:=kR scope m.sc },fn:=false,rz:=false }
def MC.loc(m:MC)(i:Nat)(x:Str):Bool:=m.N[i]?==some x&&(m.kind x==some .local||(m.fn&&m.kind x==some .cell))
mutual
def mG(m:MC):Tg->Expr->Bool
 | .nm i,e=>match e with | .Name x _=>m.loc i x | _=>false
 | .tp ts,e=>match e with | .Tuple es _ _=>m.calm&&es.all gD&&mGs m ts es | _=>false
def mGs(m:MC):List Tg->List Expr->Bool
 | [],es=>es.isEmpty
 | t::ts,l=>match l with | e::es=>mG m t e&&mGs m ts es | _=>false
end
def eP:Nat->Expr->List Str
 | _,.Name x _=>[x]
 | n+1,.Tuple es _ _=>es.flatMap (eP n)
 | _,_=>[]
def nC(scope sc:Scope)(N:List Str)(aF:List Nat)(aH tgN:List Str):Bool :=
 scope.names.all (λy=>y.2 != .cell)&&scope.kind == .function&&scope.names.all (λy=>y.2 != .local||scope.names.lookup y.1==some .local) &&
 scope.names.all (λy=>y.2 != .free||sc.names.lookup y.1==some .cell||sc.names.lookup y.1==some .free)&&(aH.map some==aF.map λi=>N[i]?)&&aH.all (λy=>scope.names.contains (y,.free)) &&
 aH.all (λy=>(kR scope sc).lookup y==some .cell||(kR scope sc).lookup y==some .free)&&decide (aH++tgN).Nodup
def strK':KC->Bool | .s y=>strK y | .i _=>true | .t _=>false
structure SX(k:Nat)(W:WD)(m:MC)(C:Cw)(X:Cx):Prop where
 hN:X.N=m.N
 hs:X.env.scope=m.sc
 cm:m.calm=true->X.calm=true
 rm:m.calm=true->cD k X.A
 un:X.A.units+64<cLine
 xo:m.calm=true->XOk (CX1 X.prog X.w) (C.at X) X
 xt:qA X.K X.mg W.xf
 xi:qB X.K X.mg W.xg
 xc:∀ c,c∈m.g.xcs->∃ Cc,X.mg c=some (.ref Cc)/\kU X.K Cc
 xn:∀ n,n∈m.g.xns->∃ cv,m9 X.mg n cv
 con:∀ x c,m.g.G.lookup x=some (.con c)->match c with | .s y=>∃ t,X.mg x=some (.str y t) | .i n=>∃ t,X.mg x=some (.int n t) | .t tb=>gG X.w X.K X.mg x tb
 no:∀ x,m.g.G.lookup x=some .no->X.mg x=none
 mk0:∀ c,c∈m.g.mk0->MkV0 X.K X.mg c
 mki:∀ c key n,(c,key,n)∈m.g.mki->∀ Φ,W.I key=some Φ->∃ j,j+1<=k/\InV X.prog X.w X.K X.mg X.base (CX1 X.prog X.w) j c n Φ
 iso:∀ c,c∈m.g.iso->IsV X.K X.mg W.cl c
 fl:∀ i f,i∈W.cl->f∈i.flds->FlV X.K i.name f
 mt:∀ c m key n,CI.meth W.cl c m=some (key,n)->MtV X.prog X.w X.K X.mg X.base (CX1 X.prog X.w) k c m n (W.Φ key)
 fn:∀ x n,m.g.G.lookup x=some (.fn n)->FnV X.prog X.w X.K X.mg X.base (CX1 X.prog X.w) k x n (W.Φ x)
 fnn:m.fn=true->∀ x,X.fn x=true
section
variable {k:Nat}{W:WD}{m:MC}{C:Cw}{X:Cx}{x y:Expr}
theorem SX.gl(S:SX k W m C X){z:Str}{v:GV}(h:m.glob z v=true):Gl X z/\m.g.G.lookup z=some v/\(z==("__debug__" : Str))=false/\z ≠ "__name__" := by
 unfold MC.glob MC.kind at h;simp only[aOI,aO7,aQH] at h;obtain ⟨⟨⟨h1,h2⟩,h3⟩,h4⟩:=h;refine ⟨?_,h2,by simpa using h3,h4⟩
 show X.env.scope.names.lookup z=_;rw[S.hs];exact h1
theorem SX.gk(S:SX k W m C X){z:Str}(h:m.gk z=true):Gl X z/\(z==("__debug__" : Str))=false:=by
 unfold MC.gk MC.kind at h;simp only[aOI,aO7,aQH] at h;refine ⟨?_,by simpa using h.2⟩
 show X.env.scope.names.lookup z=_;rw[S.hs];exact h.1
theorem SX.vis(S:SX k W m C X){z:Str}(h:m.vis z=true):Vis X.env.scope z/\(z==("__debug__" : Str))=false/\(z==("__classdict__" : Str))=false:=by
 unfold MC.vis MC.kind at h;simp only[aOI,aOY,aO7,aQH] at h;obtain ⟨⟨h1,h2⟩,h3⟩:=h;refine ⟨?_,by simpa using h2,by simpa using h3⟩
 unfold Vis;rw[S.hs];rcases h1 with (h1 | h1) | h1
 . exact .inl h1
 . exact .inr (.inl h1)
 . exact .inr (.inr h1)
theorem aH0(b:Bn):bootBuiltins b.name=some (.builtin b.id):=by
 cases b
 . exact aFK
 . exact aFL
 . exact aFM
theorem aH1(b:Bn){c:Bool}(hc:c=true->X.calm=true)(h:(c||b == .len||b == .isinstance)=true):dH X (.builtin b.id) b.f:=by
 have hc:(b == .len||b == .isinstance)=false->X.calm=true:=λz=>hc (by cases c with | true=>rfl | false=>rw[Bool.false_or] at h;rw[h] at z;cases z)
 cases b
 . exact aEI
 . exact aEK
 . exact aEP (hc rfl)
theorem aH2{f:Value}:dH X f (λ_=>none):=⟨λ_ _ _=>False,λ_ _ _ _ _ _ _ _ _ h=>h.elim,λ_ _ _ _ _ _ _ _ _ e _=>by cases e⟩
theorem aH3(t:Ty):dH X (.type t.id) t.f:=by
 cases t
 . exact aGK
 . exact aH2
 . exact aF1
 . exact aFY
 . exact aFZ
 . exact aHD
theorem vR(t:Ty):bootBuiltins (t.id:Str)=some (.type t.id):=by
 cases t
 . exact aFN
 . exact aFO
 . exact aFP
 . exact aFQ
 . exact aFR
 . exact uQ
theorem aH4(op:Operator):(∃ φ,aT op=φ/\OpD C X (binaryOp op) φ)\/aT op=noF:=by
 cases op
 case Add=>exact .inl ⟨_,rfl,o_add.or aFW⟩
 case Sub=>exact .inl ⟨_,rfl,aDN⟩
 case Mult=>exact .inl ⟨_,rfl,o_mul.or aGL⟩
 case Mod=>exact .inl ⟨_,rfl,aDQ⟩
 case FloorDiv=>exact .inl ⟨_,rfl,aDS⟩
 case Pow=>exact .inl ⟨_,rfl,aDT⟩
 case BitAnd=>exact .inl ⟨_,rfl,aHK⟩
 case BitOr=>exact .inl ⟨_,rfl,aHL⟩
 case LShift=>exact .inl ⟨_,rfl,aHM⟩
 case RShift=>exact .inl ⟨_,rfl,aHN⟩
 all_goals exact .inr rfl
theorem vS{neg:Bool}:IsB (inK neg):=λm x n y k d e=>by
 unfold inK at e;split at e
 . cases e;exact ⟨_,rfl,rfl⟩
 . cases e
theorem vT{neg:Bool}:IsB (eqN neg):=λm x n y k d e=>by
 unfold eqN at e;split at e
 . rename_i ka kb;cases eh:eA kb ka with
   | none=>rw[eh] at e;cases e
   | some r=>rw[eh] at e;cases e;exact ⟨_,rfl,rfl⟩
 . cases e
theorem qF:IsB noK:=λ_ _ _ _ _ _ z=>by cases z
theorem aH5(op:CmpOp)(hu:X.A.units+64<cLine):(OpD C X (compareOp op) (bF op)/\IsB (bF op))\/bF op=noF:=by
 cases op
 case Lt=>exact .inl ⟨aDU.or pN,kQ mU qF⟩
 case LtE=>exact .inl ⟨aDV,mU⟩
 case Gt=>exact .inl ⟨aDW,mU⟩
 case GtE=>exact .inl ⟨aDX,mU⟩
 case Eq=>exact .inl ⟨o_eq hu,kQ uP qF⟩
 case NotEq=>exact .inl ⟨o_ne hu,kQ uP qF⟩
 case In=>exact .inl ⟨aDZ.or (uT aCV),kQ uO uU⟩
 case NotIn=>exact .inl ⟨aD0.or (uT aCW),kQ uO uU⟩
 case Is=>exact .inl ⟨aFS,uS⟩
 case IsNot=>exact .inl ⟨aFT,uS⟩
theorem vU{f:Value->Value->Sem Value}:OpD C X f noF:=⟨λ_ _ _ _=>False,λ_ _ _ _ _ _ _ _ _ _ _ _ h=>h.elim,λ_ _ _ _ _ _ _ _ _ _ _ _ _ _ e _=>by cases e⟩
theorem aH6(op:Operator):OpD C X (binaryOp op) (aT op):=by
 rcases aH4 (C:=C) (X:=X) op with ⟨φ,e,h⟩ | e
 . rw[e];exact h
 . rw[e];exact vU
theorem qG(op:CmpOp)(hu:X.A.units+64<cLine):OpD C X (compareOp op) (bF op)/\IsB (bF op):=by
 rcases aH5 (C:=C) op hu with h | e
 . exact h
 . rw[e];exact ⟨vU,λ_ _ _ _ _ _ z=>by cases z⟩
theorem fR(op:CmpOp){e:Expr}(h:eO e=true):behindInMarks op e=false:=by cases e <;> first | rfl | cases h
theorem qH{e:Expr}{env:Env}(h:eO e=true):∀ v,foldedSetIterable e env v=pure v:=by intro v;cases e <;> first | rfl | cases h
theorem vV{e:Expr}(h:k4 e=true):mH e:=by intro o i;cases e <;> first | rfl | cases h
theorem noSl{e:Expr}(h:k4 e=true):pI e:=by intro o i;cases e <;> first | rfl | cases h
theorem aH7{e:Expr}{env:Env}(h:vQ e=true):∀ whole,isTrue e env whole=(do let v <- whole;standAt e.pos;holding [v] (truthy v)):=by
 intro whole;cases e
 case UnaryOp op _ _=>cases op <;> first | rfl | cases h
 all_goals first | rfl | cases h
theorem SX.sub(S:SX k W m C X){scope:Scope}{aH tgN:List Str}(cl:List (Str×Addr))(A:Addr)(fp:List Addr)(s3:Shared)(H3:Hp):SX k W (m.sub scope aH tgN) C.nox (bE X scope (aH++tgN) cl A fp s3 H3):=by
 refine ⟨rfl,?_,S.cm,S.rm,S.un,λ_ aA σ H s e s' I h=>?_,S.xt,S.xi,S.xc,S.xn,S.con,S.no,S.mk0,S.mki,S.iso,S.fl,S.mt,S.fn,λz=>by cases z⟩
 rotate_left
 . obtain ⟨_,_,_,_,_,_,_,_,_,_,_,_,z⟩:=h;exact z.elim
 show (compEnvC scope cl A X.env).scope=_;unfold MC.sub;rw[<- S.hs];rfl
theorem SX.loc(S:SX k W m C X){i:Nat}{z:Str}(h:m.loc i z=true):X.N[i]? = some z/\L2.Loc X.env.scope z/\(X.fn z=true\/X.env.scope.names.lookup z=some .local):=by
 unfold MC.loc MC.kind at h;simp only[aOI,aOY,aO7] at h;refine ⟨by rw[S.hN];exact h.1,?_,?_⟩
 . unfold L2.Loc;rw[S.hs];rcases h.2 with q | q
   . exact .inl q
   . exact .inr q.2
 . rw[S.hs];rcases h.2 with q | q
   . exact .inr q
   . exact .inl (S.fnn q.1 z)
mutual
theorem sG(S:SX k W m C X)(hN:m.N.Nodup):∀ (t:Tg) {e:Expr},mG m t e=true->PGw X e t
 | .nm i,e,h=>by
  simp only[mG] at h;split at h
  . obtain ⟨a,b,c⟩:=S.loc h;exact aF8 (by rw[S.hN];exact hN) a b c
  . cases h
 | .tp ts,e,h=>by
  simp only[mG] at h;split at h
  . rw[aOI,aOI,aPA] at h;obtain ⟨p,l⟩:=sGs S hN ts h.2 h.1.2;exact aGC (S.cm h.1.1) p h.1.2 l
  . cases h
theorem sGs(S:SX k W m C X)(hN:m.N.Nodup):∀ (ts:List Tg) {es:List Expr},mGs m ts es=true->(∀ e∈es,gD e=true)->hV X es ts/\es.length=ts.length
 | [],[],h,_=>⟨aF9,rfl⟩
 | [],_::_,h,_=>by simp[mGs] at h
 | t::ts,[],h,_=>by simp[mGs] at h
 | t::ts,e::es,h,hs=>by simp only[mGs,aOI] at h;obtain ⟨p,l⟩:=sGs S hN ts h.2 λx hx=>hs x (mcm hx);exact ⟨aGA (sG S hN t h.1) p (hs e mcs),by rw[aOQ,aOQ,l]⟩
end
end
abbrev PE(m:MC)(f:E)(e:Expr):Prop:=∀ {k:Nat} {W:WD} {C:Cw} {X:Cx},SX k W m C X->PV C X e (evE W f)
abbrev PTE(m:MC)(f:E)(e:Expr):Prop:=∀ {k:Nat} {W:WD} {C:Cw} {X:Cx},SX k W m C X->PTv C X e (evE W f)
abbrev PIE(m:MC)(tg:Expr)(f:E)(e:Expr):Prop:=∀ {k:Nat} {W:WD} {C:Cw} {X:Cx},SX k W m C X->PIv C X tg e (evE W f)
inductive cY(m:MC):List E->List Expr->Prop
 | nil:cY m [] []
 | cons {f fs x xs}:cC x=true->PE m f x->cY m fs xs->cY m (f::fs) (x::xs)
inductive eB(m:MC):List E->List Expr->Prop
 | nil:eB m [] []
 | cons {f fs x xs}:PTE m f x->eB m fs xs->eB m (f::fs) (x::xs)
abbrev CkE(m:MC)(f:E)(e:Expr):Type:=Option (PLift (PE m f e))
abbrev CkT(m:MC)(f:E)(e:Expr):Type:=Option (PLift (PTE m f e))
abbrev CkI(m:MC)(tg:Expr)(f:E)(e:Expr):Type:=Option (PLift (PIE m tg f e))
abbrev dS(m:MC)(f:List E)(e:List Expr):Type:=Option (PLift (cY m f e))
abbrev CkF(m:MC)(f:List E)(e:List Expr):Type:=Option (PLift (eB m f e))
abbrev CkO(m:MC)(f:Option E)(e:Option Expr):Type:=Option (PLift (∀ {k:Nat} {W:WD} {C:Cw} {X:Cx},SX k W m C X->POv C X e (evO W f)))
theorem got{P:Prop}:∀ {o:Option (PLift P)},o.isSome=true->P
 | some p,_=>p.down
 | none,h=>nomatch h
section
variable {k:Nat}{W:WD}{m:MC}{C:Cw}{X:Cx}
theorem cY.star:∀ {fs:List E} {es:List Expr},cY m fs es->∀ x∈es,cC x=true
 | _,_,.nil=>λx hx=>by cases hx
 | _,_,.cons s _ q=>λx hx=>by
  rcases aM0.mp hx with rfl | hx
  . exact s
  . exact q.star x hx
theorem cY.es(S:SX k W m C X):∀ {fs:List E} {es:List Expr},cY m fs es->PAv C X es (bM W fs)
 | _,_,.nil=>by simp only[bM];exact mO
 | _,_,.cons s p q=>by simp only[bM];exact kL (p S) (q.es S) (cU s)
theorem cY.l(S:SX k W m C X):∀ {fs:List E} {es:List Expr},cY m fs es->PVL C X es (evL W fs)
 | _,_,.nil=>by simp only[evL];exact .nil
 | _,_,.cons s p q=>by simp only[evL];exact .cons (p S) (q.l S)
theorem cY.a{pos:Pos}(S:SX k W m C X):∀ {fs:List E} {es:List Expr},cY m fs es->PV C X (.BoolOp .And es pos) (evA W fs)
 | _,_,.nil=>λaA s σ H Q I q=>by rw[a9] at q;obtain ⟨ρ,F,R,w⟩:=q;exact w.elim
 | _,_,.cons s p .nil=>by simp only[evA];exact t9 (p S)
 | _,_,.cons s p (.cons s' p' q)=>by simp only[evA];exact aD6 (p S) (cY.a S (.cons s' p' q))
theorem cY.o{pos:Pos}(S:SX k W m C X):∀ {fs:List E} {es:List Expr},cY m fs es->PV C X (.BoolOp .Or es pos) (cX W fs)
 | _,_,.nil=>λaA s σ H Q I q=>by rw[a9] at q;obtain ⟨ρ,F,R,w⟩:=q;exact w.elim
 | _,_,.cons s p .nil=>by simp only[cX];exact t9 (p S)
 | _,_,.cons s p (.cons s' p' q)=>by simp only[cX];exact aD7 (p S) (cY.o S (.cons s' p' q))
theorem eB.a{pos:Pos}(S:SX k W m C X):∀ {fs:List E} {es:List Expr},eB m fs es->PWv C X (.BoolOp .And es pos) (evA W fs)
 | _,_,.nil=>λwhole aA s σ H Q I q=>by obtain ⟨ρ,F,R,w⟩:=q;exact w.elim
 | _,_,.cons p .nil=>by simp only[evA];exact t5 (p S)
 | _,_,.cons p (.cons p' q)=>by simp only[evA];exact aD4 (p S) (eB.a S (.cons p' q))
theorem eB.o{pos:Pos}(S:SX k W m C X):∀ {fs:List E} {es:List Expr},eB m fs es->PWv C X (.BoolOp .Or es pos) (cX W fs)
 | _,_,.nil=>λwhole aA s σ H Q I q=>by obtain ⟨ρ,F,R,w⟩:=q;exact w.elim
 | _,_,.cons p .nil=>by simp only[cX];exact t5 (p S)
 | _,_,.cons p (.cons p' q)=>by simp only[cX];exact aD5 (p S) (eB.o S (.cons p' q))
theorem eB.f(S:SX k W m C X):∀ {fs:List E} {es:List Expr},eB m fs es->c9 X es (tT (C.at X) (evF W fs))
 | _,_,.nil=>by
  have:evF W []=λ_=>.ok .fz (.bl true):=by funext ρ;simp only[evF]
  rw[this];exact aFC
 | f::fs,_,.cons p q=>by
  have:evF W (f::fs)=λρ=>dZ (evE W f ρ) (evF W fs ρ):=by funext ρ;simp only[evF]
  rw[this];exact aFD (p S) (q.f S)
section
variable {fs:List E}{es:List Expr}{r:dS m fs es}{t:CkF m fs es}{pos:Pos}
theorem gSt(h:r.isSome=true):∀ x∈es,cC x=true:=(got h).star
theorem gEs(h:r.isSome=true)(S:SX k W m C X):PAv C X es (bM W fs):=(got h).es S
theorem gL(h:r.isSome=true)(S:SX k W m C X):PVL C X es (evL W fs):=(got h).l S
theorem gA(h:r.isSome=true)(S:SX k W m C X):PV C X (.BoolOp .And es pos) (evA W fs):=(got h).a S
theorem gOr(h:r.isSome=true)(S:SX k W m C X):PV C X (.BoolOp .Or es pos) (cX W fs):=(got h).o S
theorem gWA(h:t.isSome=true)(S:SX k W m C X):PWv C X (.BoolOp .And es pos) (evA W fs):=(got h).a S
theorem gWO(h:t.isSome=true)(S:SX k W m C X):PWv C X (.BoolOp .Or es pos) (cX W fs):=(got h).o S
theorem gF(h:t.isSome=true)(S:SX k W m C X):c9 X es (tT (C.at X) (evF W fs)):=(got h).f S
end
end
noncomputable def aH8{m:MC}{a e}(r1:CkE m a e):CkE m (.frz a) e:=if h:r1.isSome=true then some ⟨λS=>gW (got h S)⟩ else none
noncomputable def aH9 {m : MC} {a e} (r1 : CkE m a e) : CkT m (.tru a) e := if h : (vQ e && r1.isSome) = true then some ⟨fun {k} {W} {C} {X} S => by
    simp only[aOI] at h;exact aD2 (got h.2 S) (aH7 h.1)⟩ else none
noncomputable def aIA{m:MC}{tg a e}(r1:CkE m a e):CkI m tg (.items a) e:=if h:r1.isSome=true then some ⟨λS=>aE1 (got h S)⟩ else none
noncomputable def aIB {m : MC} {i} {x} {p1} : CkE m (.var i) (.Name x p1) := if h : (m.N[i]? == some x && m.vis x) = true then some ⟨fun {k} {W} {C} {X} S => by
    simp only[aOI,aO7] at h;obtain ⟨h1,h2,h3⟩:=S.vis h.2
    exact aDI i (lW (by rw[S.hN];exact h.1) h1 h2 h3)⟩ else none
noncomputable def aIC {m : MC} {y} {c} {x} {p1} : CkE m (.glob y c) (.Name x p1) := if h : (x == y && m.glob x (.con c) && strK' c) = true then some ⟨fun {k} {W} {C} {X} S => by
    simp only[aOI,aO7] at h;obtain ⟨⟨rfl,h1⟩,h2⟩:=h;obtain ⟨g,l,hd,hn⟩:=S.gl h1;have:=S.con _ _ l;cases c with
    | s y=>obtain ⟨t,ht⟩:=this;exact aEL g ht h2 hd
    | i n=>obtain ⟨t,ht⟩:=this;exact aEM g ht hd
    | t tb=>cases h2⟩ else none
noncomputable def kE_ty {m : MC} {t} {x} {p1} : CkE m (.ty t) (.Name x p1) := if h : (x == (t.id : Str) && m.glob x .no) = true then some ⟨fun {k} {W} {C} {X} S => by
    simp only[aOI,aO7] at h;obtain ⟨rfl,h1⟩:=h;obtain ⟨g,l,hd,hn⟩:=S.gl h1;exact pv_ty g (S.no _ l) (vR t) hn hd⟩ else none
noncomputable def aID {m : MC} {p0} {p1} : CkE m (.non) (.Constant .none p0 p1) := if h : (true) = true then some ⟨fun {k} {W} {C} {X} S => by
    exact aDK⟩ else none
noncomputable def kE_bl {m : MC} {c} {b} {p1} {p2} : CkE m (.bl c) (.Constant (.bool b) p1 p2) := if h : (b == c) = true then some ⟨fun {k} {W} {C} {X} S => by
    simp only[aO7] at h;subst h;exact pv_bl⟩ else none
noncomputable def aIE {m : MC} {c} {b} {p1} {p2} : CkE m (.int c) (.Constant (.int b) p1 p2) := if h : (b == c) = true then some ⟨fun {k} {W} {C} {X} S => by
    simp only[aO7] at h;subst h;exact aDJ⟩ else none
noncomputable def aIF {m : MC} {c} {b} {p1} {p2} : CkE m (.str c) (.Constant (.str b) p1 p2) := if h : (b == c && strK b) = true then some ⟨fun {k} {W} {C} {X} S => by
    simp only[aOI,aO7] at h;obtain ⟨rfl,h⟩:=h;exact aDL h⟩ else none
noncomputable def aIG {m : MC} {op} {a} {b} {x} {o} {y} {p3} (r1 : CkE m a x) (r2 : CkE m b y) : CkE m (.bin op a b) (.BinOp x o y p3) := if h : (o == op && (r1.isSome && r2.isSome)) = true then some ⟨fun {k} {W} {C} {X} S => by
    simp only[aOI,aO7] at h;obtain ⟨rfl,h1,h2⟩:=h;exact pv_op (aH6 _) (got h1 S) (got h2 S)⟩ else none
noncomputable def aIH {m : MC} {op} {a} {b} {x} {o} {y} {p3} (r1 : CkE m a x) (r2 : CkE m b y) : CkE m (.cmp op a b) (.Compare x [o] [y] p3) := if h : (o == op && eO y && (r1.isSome && r2.isSome)) = true then some ⟨fun {k} {W} {C} {X} S => by
    simp only[aOI,aO7] at h;obtain ⟨⟨rfl,hs⟩,h1,h2⟩:=h;exact kG (qG _ S.un).1 (got h1 S) (got h2 S) (fR _ hs)⟩ else none
noncomputable def aII {m : MC} {es} {xs} {p1} (r1 : dS m es xs) : CkE m (.andL es) (.BoolOp .And xs p1) := if h : (r1.isSome) = true then some ⟨fun {k} {W} {C} {X} S => by
    exact gA h S⟩ else none
noncomputable def aIJ {m : MC} {es} {xs} {p1} (r1 : dS m es xs) : CkE m (.orL es) (.BoolOp .Or xs p1) := if h : (r1.isSome) = true then some ⟨fun {k} {W} {C} {X} S => by
    exact gOr h S⟩ else none
noncomputable def aIK {m : MC} {a} {x} {p1} (r1 : CkE m a x) : CkE m (.not a) (.UnaryOp .Not x p1) := if h : (r1.isSome) = true then some ⟨fun {k} {W} {C} {X} S => by
    exact aD8 (got h S)⟩ else none
noncomputable def aIL {m : MC} {a} {l} {u} {x} {lo} {hi} {p3} {p4} (r1 : CkE m a x) (r2 : CkO m l lo) (r3 : CkO m u hi) : CkE m (.slice a l u) (.Subscript x (.Slice lo hi none p3) p4) := if h : (r1.isSome && (r2.isSome && r3.isSome)) = true then some ⟨fun {k} {W} {C} {X} S => by
    simp only[aOI] at h;obtain ⟨h0,h1,h2⟩:=h;exact aHA (got h0 S) (got h1 S) (got h2 S)⟩ else none
noncomputable def kE_ix {m : MC} {a} {b} {x} {y} {p2} (r1 : CkE m a x) (r2 : CkE m b y) : CkE m (.ix a b) (.Subscript x y p2) := if h : (k4 y && (r1.isSome && r2.isSome)) = true then some ⟨fun {k} {W} {C} {X} S => by
    simp only[aOI] at h;obtain ⟨h0,h1,h2⟩:=h;exact pv_ix (got h1 S) (got h2 S) (vV h0)⟩ else none
noncomputable def aIM {m : MC} {es} {es0} {p1} {p2} (r1 : dS m es es0) : CkE m (.tup es) (.Tuple es0 p1 p2) := if h : (r1.isSome) = true then some ⟨fun {k} {W} {C} {X} S => by
    exact aEF (gEs h S)⟩ else none
noncomputable def aIN {m : MC} {es} {es0} {p1} (r1 : dS m es es0) : CkE m (.lst es) (.List es0 p1) := if h : (r1.isSome) = true then some ⟨fun {k} {W} {C} {X} S => by
    exact aEG (gEs h S)⟩ else none
noncomputable def aIO {m : MC} {g} {n} {es} {f} {p} {x} {xs} {cp} (r1 : dS m es (x :: xs)) : CkE m (.call g n es) (.Call (.Name f p) (x :: xs) [] cp) := if h : (m.calm && f == g && m.glob f (.fn n) && r1.isSome) = true then some ⟨fun {k} {W} {C} {X} S => by
    simp only[aOI,aO7] at h;obtain ⟨⟨⟨hq,rfl⟩,h1⟩,h2⟩:=h;obtain ⟨gl,l,hd,hn⟩:=S.gl h1;have st:=gSt h2;exact aFH (S.fn _ _ l) (S.rm hq) (S.xo hq) gl (gEs h2 S) hd (cU (st x mcs)) (hU _ _ λy hy=>st y (mcm hy))⟩ else none
noncomputable def aIP {m : MC} {a b} {f} {p1} {g} {p3} {x} {y} {p5} {p6} (r1 : CkE m a x) (r2 : CkE m b y) : CkE m (.dzip a b) (.Call (.Name f p1) [.Call (.Name g p3) [x, y] [] p5] [] p6) := if h : (m.calm && f == "dict" && g == "zip" && m.glob f .no && m.glob g .no && cC x && cC y && (r1.isSome && r2.isSome)) = true then some ⟨fun {k} {W} {C} {X} S => by
    simp only[aOI,aO7] at h;obtain ⟨⟨⟨⟨⟨⟨⟨hq,rfl⟩,rfl⟩,h1⟩,h2⟩,s1⟩,s2⟩,h3,h4⟩:=h;obtain ⟨gl,l,_,_⟩:=S.gl h1;obtain ⟨gl',l',_,_⟩:=S.gl h2;exact aHY (S.cm hq) gl (S.no _ l) gl' (S.no _ l') (got h3 S) (got h4 S) s1 s2⟩ else none
noncomputable def aIQ {m : MC} {b} {es} {f} {p} {x} {xs} {cp} (r1 : dS m es (x :: xs)) : CkE m (.bcall b es) (.Call (.Name f p) (x :: xs) [] cp) := if h : ((m.calm || b == .len || b == .isinstance) && f == b.name && m.glob f .no && r1.isSome) = true then some ⟨fun {k} {W} {C} {X} S => by
    rw[aOI,aOI,aOI] at h;obtain ⟨⟨⟨hq,hz⟩,h1⟩,h2⟩:=h;cases (aO7.mp hz);obtain ⟨gl,l,hd,hn⟩:=S.gl h1;have st:=gSt h2;exact aEH (aH1 b S.cm hq) gl (S.no _ l) (aH0 b) (gEs h2 S) hn hd (cU (st x mcs)) (hU _ _ λy hy=>st y (mcm hy))⟩ else none
noncomputable def aIR {m : MC} {t} {es} {f} {p1} {x} {xs} {p4} (r1 : dS m es (x :: xs)) : CkE m (.tcall t es) (.Call (.Name f p1) (x :: xs) [] p4) := if h : (f == (t.id : Str) && m.glob f .no && r1.isSome) = true then some ⟨fun {k} {W} {C} {X} S => by
    simp only[aOI,aO7] at h;obtain ⟨⟨rfl,h1⟩,h2⟩:=h;obtain ⟨gl,l,hd,hn⟩:=S.gl h1;exact aF2 (aH3 t) gl (S.no _ l) (vR t) (gEs h2 S) hn hd (gSt h2)⟩ else none
noncomputable def aIS {m : MC} {p0} : CkE m (.dnew) (.Dict [] [] p0) := if h : (true) = true then some ⟨fun {k} {W} {C} {X} S => by
    exact aHB⟩ else none
noncomputable def aIT {m : MC} {y} {tb} {a} {x} {p1} {b} {p3} (r1 : CkE m a b) : CkE m (.deed y tb a) (.Subscript (.Name x p1) b p3) := if h : (x == y && m.glob x (.con (.t tb)) && k4 b && r1.isSome) = true then some ⟨fun {k} {W} {C} {X} S => by
    simp only[aOI,aO7] at h;obtain ⟨⟨⟨rfl,h1⟩,h2⟩,h3⟩:=h;obtain ⟨gl,l,hd,hn⟩:=S.gl h1;exact aHH (S.con _ _ l) gl (got h3 S) (noSl h2) hd⟩ else none
noncomputable def aIU {m : MC} {i} {fs} {n} {es} {f} {p} {x} {xs} {cp} (r1 : dS m es (x :: xs)) : CkE m (.callv i fs n es) (.Call (.Name f p) (x :: xs) [] cp) := if h : (m.calm && m.N[i]? == some f && m.vis f && fs.all (fun g => m.g.G.lookup g == some (.fn n)) && r1.isSome) = true then some ⟨fun {k} {W} {C} {X} S => by
    simp only[aOI,aO7,aPA] at h;obtain ⟨⟨⟨⟨hq,h1⟩,h2⟩,h3⟩,h4⟩:=h;obtain ⟨v1,v2,v3⟩:=S.vis h2;have st:=gSt h4
    exact aHI (λg hg=>S.fn g n (h3 g (aQI.mp hg))) (S.rm hq) (S.xo hq) (lW (by rw[S.hN];exact h1) v1 v2 v3) (gEs h4 S) (cU (st x mcs)) (hU _ _ λy hy=>st y (mcm hy))⟩ else none
noncomputable def aIV {m : MC} {neg} {a} {b} {x} {o} {y} {p3} (r1 : CkE m a x) (r2 : CkE m b y) : CkE m (.deq neg a b) (.Compare x [o] [y] p3) := if h : (o == (if neg then .NotEq else .Eq) && eO y && (r1.isSome && r2.isSome)) = true then some ⟨fun {k} {W} {C} {X} S => by
    simp only[aOI,aO7] at h;obtain ⟨⟨ho,hs⟩,h1,h2⟩:=h;cases neg with
    | false=>cases (show _=CmpOp.Eq from ho);exact kG (vE S.un) (got h1 S) (got h2 S) (fR _ hs)
    | true=>cases (show _=CmpOp.NotEq from ho);exact kG (vF S.un) (got h1 S) (got h2 S) (fR _ hs)⟩ else none
noncomputable def aIW {m : MC} {a} {b} {x} {y} {p2} (r1 : CkE m a x) (r2 : CkE m b y) : CkE m (.dix a b) (.Subscript x y p2) := if h : (k4 y && (r1.isSome && r2.isSome)) = true then some ⟨fun {k} {W} {C} {X} S => by
    simp only[aOI] at h;obtain ⟨h0,h1,h2⟩:=h
    exact aHF (aQJ (aQK (by decide:1<=64) _) S.un) (got h1 S) (got h2 S) (vV h0)⟩ else none
noncomputable def aIX {m : MC} {neg} {a} {b} {x} {o} {y} {p3} (r1 : CkE m a x) (r2 : CkE m b y) : CkE m (.din neg a b) (.Compare x [o] [y] p3) := if h : (o == (if neg then .NotIn else .In) && eO y && (r1.isSome && r2.isSome)) = true then some ⟨fun {k} {W} {C} {X} S => by
    simp only[aOI,aO7] at h;obtain ⟨⟨ho,hs⟩,h1,h2⟩:=h
    exact aHG ho (aQJ (aQK (by decide:1<=64) _) S.un) (got h1 S) (got h2 S) (fR _ hs)⟩ else none
noncomputable def aIY {m : MC} {el} {it} {ts} {aF} {t} {n} {elt} {tg} {aP} {ifs} {scope} {cp} (r1 : CkI m tg it aP) (r2 : CkE (m.sub scope (aF.filterMap fun i => m.N[i]?) (eP 4 tg)) el elt) (r3 : CkF (m.sub scope (aF.filterMap fun i => m.N[i]?) (eP 4 tg)) ts ifs) : CkE m (.comp el it ts aF t n) (.ListComp elt [⟨tg, aP, ifs, 0⟩] scope cp) := if h : (m.calm && nC scope m.sc m.N aF (aF.filterMap fun i => m.N[i]?) (eP 4 tg) && eO aP && decide ((eP 4 tg).length = n) && (eN t).all (fun j => decide (aF.length ≤ j)) && mG (m.sub scope (aF.filterMap fun i => m.N[i]?) (eP 4 tg)) t tg && (r1.isSome && (r2.isSome && r3.isSome))) = true then some ⟨fun {k} {W} {C} {X} S => by
    simp only[aOI,aOW,aPA] at h;obtain ⟨⟨⟨⟨⟨⟨hq,ho⟩,hn⟩,hl⟩,hs⟩,hg⟩,h1,h2,h3⟩:=h;unfold nC at ho;simp only[aOI,aPA,aOY,aQH,aO7,aOW,aQI] at ho;obtain ⟨⟨⟨⟨⟨⟨⟨g1,g2⟩,g3⟩,g4⟩,g5⟩,g6⟩,g7⟩,g8⟩:=ho;have er:(relabel scope X.env).names=kR scope m.sc:=by rw[<- S.hs];rfl
    have := aGG (pos := cp) (tgN := eP 4 tg) (t := t) (S.cm hq) (got h1 S) g1 g2 (fun y hy e => (g3 y hy).resolve_left fun z => z e) (fun y hy e => by
        have:=g4 y hy;show X.env.scope.names.lookup y.1=_\/X.env.scope.names.lookup y.1=_;rw[S.hs];rcases this with (z | z) | z
        . exact absurd e z
        . exact .inl z
        . exact .inr z) (by rw[S.hN];exact g5) g6 (λy hy=>by rw[er];exact g7 y hy) (λj hj=>hs j hj) (λcl A fp s3 H3=>sG (S.sub cl A fp s3 H3) g8 t hg)
        (λcl A fp s3 H3=>gF h3 (S.sub cl A fp s3 H3)) (λcl A fp s3 H3=>got h2 (S.sub cl A fp s3 H3)) (qH hn)
    rw[hl] at this;exact this⟩ else none
noncomputable def aIZ {m : MC} {a} {x} {k} {p2} (r1 : CkE m a x) : CkE m (.fmt a) (.FormattedValue x k none p2) := if h : (k == -1 && r1.isSome) = true then some ⟨fun {k} {W} {C} {X} S => by
    simp only[aOI,aO7] at h;obtain ⟨rfl,h⟩:=h;exact aGI (got h S)⟩ else none
noncomputable def aI0 {m : MC} {es} {x} {y} {xs} {p3} (r1 : dS m es (x :: y :: xs)) : CkE m (.fstr es) (.JoinedStr (x :: y :: xs) p3) := if h : (r1.isSome) = true then some ⟨fun {k} {W} {C} {X} S => by
    exact aGJ (gL h S)⟩ else none
noncomputable def aI1 {m : MC} {neg} {a} {b} {x} {o} {y} {p3} (r1 : CkE m a x) (r2 : CkE m b y) : CkT m (.deq neg a b) (.Compare x [o] [y] p3) := if h : (o == (if neg then .NotEq else .Eq) && eO y && (r1.isSome && r2.isSome)) = true then some ⟨fun {k} {W} {C} {X} S => by
    simp only[aOI,aO7] at h;obtain ⟨⟨ho,hs⟩,h1,h2⟩:=h;cases neg with
    | false=>cases (show _=CmpOp.Eq from ho);exact kI (vE S.un) vT (got h1 S) (got h2 S) (fR _ hs)
    | true=>cases (show _=CmpOp.NotEq from ho);exact kI (vF S.un) vT (got h1 S) (got h2 S) (fR _ hs)⟩ else none
noncomputable def aI2 {m : MC} {neg} {a} {b} {x} {o} {y} {p3} (r1 : CkE m a x) (r2 : CkE m b y) : CkT m (.din neg a b) (.Compare x [o] [y] p3) := if h : (o == (if neg then .NotIn else .In) && eO y && (r1.isSome && r2.isSome)) = true then some ⟨fun {k} {W} {C} {X} S => by
    simp only[aOI,aO7] at h;obtain ⟨⟨ho,hs⟩,h1,h2⟩:=h;have hu:X.A.units+1<cLine:=aQJ (aQK (by decide:1<=64) _) S.un
    cases neg with
    | false=>cases (show _=CmpOp.In from ho);exact kI (vA hu) vS (got h1 S) (got h2 S) (fR _ hs)
    | true=>cases (show _=CmpOp.NotIn from ho);exact kI (vB hu) vS (got h1 S) (got h2 S) (fR _ hs)⟩ else none
noncomputable def aI3 {m : MC} {op} {a} {b} {x} {o} {y} {p3} (r1 : CkE m a x) (r2 : CkE m b y) : CkT m (.cmp op a b) (.Compare x [o] [y] p3) := if h : (o == op && eO y && (r1.isSome && r2.isSome)) = true then some ⟨fun {k} {W} {C} {X} S => by
    simp only[aOI,aO7] at h;obtain ⟨⟨rfl,hs⟩,h1,h2⟩:=h;exact kI (qG _ S.un).1 (qG (C:=C) _ S.un).2 (got h1 S) (got h2 S) (fR _ hs)⟩ else none
noncomputable def aI4 {m : MC} {es} {xs} {p1} (r1 : CkF m es xs) : CkT m (.andL es) (.BoolOp .And xs p1) := if h : (r1.isSome) = true then some ⟨fun {k} {W} {C} {X} S => by
    exact pt_w (gWA h S)⟩ else none
noncomputable def aI5 {m : MC} {es} {xs} {p1} (r1 : CkF m es xs) : CkT m (.orL es) (.BoolOp .Or xs p1) := if h : (r1.isSome) = true then some ⟨fun {k} {W} {C} {X} S => by
    exact pt_w (gWO h S)⟩ else none
noncomputable def aI6 {m : MC} {a} {x} {p1} (r1 : CkT m a x) : CkT m (.not a) (.UnaryOp .Not x p1) := if h : (r1.isSome) = true then some ⟨fun {k} {W} {C} {X} S => by
    exact aD3 (got h S)⟩ else none
noncomputable def aI7 {m : MC} {tg0} {a} {f} {p1} {x} {p3} (r1 : CkE m a x) : CkI m tg0 (.rng1 a) (.Call (.Name f p1) [x] [] p3) := if h : (f == "range" && m.glob f .no && cC x && r1.isSome) = true then some ⟨fun {k} {W} {C} {X} S => by
    simp only[aOI,aO7] at h;obtain ⟨⟨⟨rfl,h1⟩,h2⟩,h3⟩:=h;obtain ⟨gl,l,hd,hn⟩:=S.gl h1;exact aE3 gl (S.no _ l) (kL (got h3 S) mO (cU h2)) (cU h2)⟩ else none
noncomputable def aI8 {m : MC} {tg0} {a} {f} {p1} {x} {p3} (r1 : CkE m a x) : CkI m tg0 (.enum1 a) (.Call (.Name f p1) [x] [] p3) := if h : (f == "enumerate" && aHZ tg0 && m.glob f .no && cC x && r1.isSome) = true then some ⟨fun {k} {W} {C} {X} S => by
    simp only[aOI,aO7] at h;obtain ⟨⟨⟨⟨rfl,ht⟩,h1⟩,h2⟩,h3⟩:=h;obtain ⟨gl,l,hd,hn⟩:=S.gl h1;cases tg0 <;> first
     | (cases ht;done)
     | exact aG3 gl (S.no _ l) (kL (gW (got h3 S)) mO (cU h2)) (cU h2)⟩ else none
noncomputable def kEs {m : MC} {f fs x xs} (r1 : CkE m f x) (r2 : dS m fs xs) : dS m (f :: fs) (x :: xs) := if h : (cC x && r1.isSome && r2.isSome) = true then some ⟨by
    simp only[aOI] at h;exact .cons h.1.1 (@got _ r1 h.1.2) (got h.2)⟩ else none
noncomputable def kO{m:MC}{f x}(r1:CkE m f x):CkO m (some f) (some x):=if h:r1.isSome=true then some ⟨λS=>by simp only[evO];exact got h S⟩ else none
noncomputable def kF {m : MC} {f fs x xs} (r1 : CkT m f x) (r2 : CkF m fs xs) : CkF m (f :: fs) (x :: xs) := if h : (r1.isSome && r2.isSome) = true then some ⟨by
    simp only[aOI] at h;exact .cons (@got _ r1 h.1) (got h.2)⟩ else none
set_option maxHeartbeats 4000000 in
mutual
noncomputable def ckE:(m:MC)->(f:E)->(e:Expr)->CkE m f e
 | m,.frz a,e=>aH8 (ckE m a e)
 | m,.var i,e=>match e with | .Name x p1=>aIB | _=>none
 | m,.glob y c,e=>match e with | .Name x p1=>aIC | _=>none
 | m,.ty t,e=>match e with | .Name x p1=>kE_ty | _=>none
 | m,.non,e=>match e with | .Constant .none p0 p1=>aID | _=>none
 | m,.bl c,e=>match e with | .Constant (.bool b) p1 p2=>kE_bl | _=>none
 | m,.int c,e=>match e with | .Constant (.int b) p1 p2=>aIE | _=>none
 | m,.str c,e=>match e with | .Constant (.str b) p1 p2=>aIF | _=>none
 | m,.bin op a b,e=>match e with | .BinOp x o y p3=>aIG (ckE m a x) (ckE m b y) | _=>none
 | m,.cmp op a b,e=>match e with | .Compare x [o] [y] p3=>aIH (ckE m a x) (ckE m b y) | _=>none
 | m,.andL es,e=>match e with | .BoolOp .And xs p1=>aII (eQ m es xs) | _=>none
 | m,.orL es,e=>match e with | .BoolOp .Or xs p1=>aIJ (eQ m es xs) | _=>none
 | m,.not a,e=>match e with | .UnaryOp .Not x p1=>aIK (ckE m a x) | _=>none
 | m,.slice a l u,e=>match e with | .Subscript x (.Slice lo hi none p3) p4=>aIL (ckE m a x) (ckO m l lo) (ckO m u hi) | _=>none
 | m,.ix a b,e=>match e with | .Subscript x y p2=>kE_ix (ckE m a x) (ckE m b y) | _=>none
 | m,.tup es,e=>match e with | .Tuple es0 p1 p2=>aIM (eQ m es es0) | _=>none
 | m,.lst es,e=>match e with | .List es0 p1=>aIN (eQ m es es0) | _=>none
 | m,.call g n es,e=>match e with | .Call (.Name f p) (x::xs) [] cp=>aIO (eQ m es (x::xs)) | _=>none
 | m,.bcall b es,e=>match e with | .Call (.Name f p) (x::xs) [] cp=>aIQ (eQ m es (x::xs)) | _=>none
 | m,.tcall t es,e=>match e with | .Call (.Name f p1) (x::xs) [] p4=>aIR (eQ m es (x::xs)) | _=>none
 | m,.dnew,e=>match e with | .Dict [] [] p0=>aIS | _=>none
 | m,.deed y tb a,e=>match e with | .Subscript (.Name x p1) b p3=>aIT (ckE m a b) | _=>none
 | m,.dzip a b,e=>match e with | .Call (.Name f p1) [.Call (.Name g p3) [x,y] [] p5] [] p6=>aIP (ckE m a x) (ckE m b y) | _=>none
 | m,.callv i fs n es,e=>match e with | .Call (.Name f p) (x::xs) [] cp=>aIU (eQ m es (x::xs)) | _=>none
 | m,.deq neg a b,e=>match e with | .Compare x [o] [y] p3=>aIV (ckE m a x) (ckE m b y) | _=>none
 | m,.dix a b,e=>match e with | .Subscript x y p2=>aIW (ckE m a x) (ckE m b y) | _=>none
 | m,.din neg a b,e=>match e with | .Compare x [o] [y] p3=>aIX (ckE m a x) (ckE m b y) | _=>none
 | m,.comp el it ts aF t n,e=>match e with | .ListComp elt [⟨tg,aP,ifs,0⟩] scope cp=>aIY (ckI m tg it aP) (ckE (m.sub scope (aF.filterMap λi=>m.N[i]?) (eP 4 tg)) el elt) (ckF (m.sub scope (aF.filterMap λi=>m.N[i]?) (eP 4 tg)) ts ifs) | _=>none
 | m,.fmt a,e=>match e with | .FormattedValue x k none p2=>aIZ (ckE m a x) | _=>none
 | m,.fstr es,e=>match e with | .JoinedStr (x::y::xs) p3=>aI0 (eQ m es (x::y::xs)) | _=>none
 | _,.tru _,_=>none
 | _,.items _,_=>none
 | _,.rng1 _,_=>none
 | _,.enum1 _,_=>none
noncomputable def ckT:(m:MC)->(f:E)->(e:Expr)->CkT m f e
 | m,.tru a,e=>aH9 (ckE m a e)
 | m,.deq neg a b,e=>match e with | .Compare x [o] [y] p3=>aI1 (ckE m a x) (ckE m b y) | _=>none
 | m,.din neg a b,e=>match e with | .Compare x [o] [y] p3=>aI2 (ckE m a x) (ckE m b y) | _=>none
 | m,.cmp op a b,e=>match e with | .Compare x [o] [y] p3=>aI3 (ckE m a x) (ckE m b y) | _=>none
 | m,.andL es,e=>match e with | .BoolOp .And xs p1=>aI4 (ckF m es xs) | _=>none
 | m,.orL es,e=>match e with | .BoolOp .Or xs p1=>aI5 (ckF m es xs) | _=>none
 | m,.not a,e=>match e with | .UnaryOp .Not x p1=>aI6 (ckT m a x) | _=>none
 | _,_,_=>none
noncomputable def ckI:(m:MC)->(tg:Expr)->(f:E)->(e:Expr)->CkI m tg f e
 | m,tg,.items a,e=>aIA (ckE m a e)
 | m,tg0,.rng1 a,e=>match e with | .Call (.Name f p1) [x] [] p3=>aI7 (ckE m a x) | _=>none
 | m,tg0,.enum1 a,e=>match e with | .Call (.Name f p1) [x] [] p3=>aI8 (ckE m a x) | _=>none
 | _,_,_,_=>none
noncomputable def eQ:(m:MC)->(fs:List E)->(es:List Expr)->dS m fs es
 | m,[],es=>match es with | []=>some ⟨.nil⟩ | _=>none
 | m,f::fs,l=>match l with | x::xs=>kEs (ckE m f x) (eQ m fs xs) | _=>none
noncomputable def ckO:(m:MC)->(f:Option E)->(e:Option Expr)->CkO m f e
 | m,none,e=>match e with | none=>some ⟨λ_=>True.intro⟩ | _=>none
 | m,some f,l=>match l with | some x=>kO (ckE m f x) | _=>none
noncomputable def ckF:(m:MC)->(fs:List E)->(es:List Expr)->CkF m fs es
 | m,[],es=>match es with | []=>some ⟨.nil⟩ | _=>none
 | m,f::fs,l=>match l with | x::xs=>kF (ckT m f x) (ckF m fs xs) | _=>none
end
noncomputable def mE(m:MC)(f:E)(e:Expr):Bool:=(ckE m f e).isSome
noncomputable def mT(m:MC)(f:E)(e:Expr):Bool:=(ckT m f e).isSome
noncomputable def mI(m:MC)(tg:Expr)(f:E)(e:Expr):Bool:=(ckI m tg f e).isSome
noncomputable def mEs(m:MC)(f:List E)(e:List Expr):Bool:=(eQ m f e).isSome
noncomputable def mF(m:MC)(f:List E)(e:List Expr):Bool:=(ckF m f e).isSome
theorem aI9{m:MC}{fs:List E}{es:List Expr}(h:mEs m fs es=true):∀ x∈es,cC x=true:=gSt h
section
variable {k:Nat}{W:WD}
theorem sE(f:E){m:MC}{C:Cw}{X:Cx}{e:Expr}(S:SX k W m C X)(h:mE m f e=true):PV C X e (evE W f):=got h S
theorem sT(f:E){m:MC}{C:Cw}{X:Cx}{e:Expr}(S:SX k W m C X)(h:mT m f e=true):PTv C X e (evE W f):=got h S
theorem sI(f:E){m:MC}{C:Cw}{X:Cx}{tg e:Expr}(S:SX k W m C X)(h:mI m tg f e=true):PIv C X tg e (evE W f):=got h S
theorem sEs(fs:List E){m:MC}{C:Cw}{X:Cx}{es:List Expr}(S:SX k W m C X)(h:mEs m fs es=true):PAv C X es (bM W fs):=gEs h S
theorem sF(fs:List E){m:MC}{C:Cw}{X:Cx}{es:List Expr}(S:SX k W m C X)(h:mF m fs es=true):c9 X es (tT (C.at X) (evF W fs)):=gF h S
end
end D3
set_option genSizeOfSpec false
set_option genInjectivity false
namespace D3
open PySem PySem.Spec PyProof.Rows L2
inductive S where
 | ret (e:E) | retV (i:Nat) | set (i:Nat) (e:E) | ite (c:E) (a b:List S) | for (it:E) (t:Tg) (body:List S)
 | expr (e:E) | asg (t:Tg) (e:E) | par (i j:Nat) (a b:E)
 | rz (c:Str) (es:List E) | setC (i:Nat) (fz:Bool) (e:E) | dput (i:Nat) (k e:E) | frzV (i:Nat)
mutual
noncomputable def evS(W:WD):S->Rho->aB
 | .ret e,ρ=>e6 (evE W e ρ) ρ
 | .retV i,ρ=>e7 ρ i
 | .set i e,ρ=>d5 ρ i (evE W e ρ)
 | .ite c a b,ρ=>ifS (evE W c ρ) ρ (evB W a ρ) (evB W b ρ)
 | .for it t body,ρ=>dL (evE W it ρ) ρ (aI t) (evB W body)
 | .asg t e,ρ=>d8 t ρ (evE W e ρ)
 | .par i j a b,ρ=>i9 i j ρ (c8 (evE W a ρ) (c8 (evE W b ρ) (.ok [])))
 | .expr e,ρ=>(evE W e ρ).thS ρ λ_ _=>.nx ρ
 | .rz c es,ρ=>rzR c ρ (bM W es ρ)
 | .frzV i,ρ=>kZ ρ i
 | .dput i k e,ρ=>fP ρ i (evE W k ρ) (evE W e ρ)
 | .setC i fz e,ρ=>d5 ρ i (if fz=true then bI (evE W e ρ) else evE W e ρ)
noncomputable def evB(W:WD):List S->Rho->aB
 | [],ρ=>.nx ρ
 | s::r,ρ=>(evS W s ρ).thn (evB W r)
end
noncomputable def jG:Expr->Bool | .ListComp ..=>false | .SetComp ..=>false | .DictComp ..=>false | _=>true
noncomputable def mC(m:MC)(elt:Expr)(scope:Scope):E->List Comprehension->Bool
 | .comp el it ts aF t n,gens=>match gens with
  | [⟨tg,aP,ifs,0⟩] =>
   let aH:=aF.filterMap λi=>m.N[i]?
   let tgN:=eP 4 tg
   m.calm&&nC scope m.sc m.N aF aH tgN&&eO aP&&decide (tgN.length=n)&&(eN t).all (λj=>decide (aF.length<=j))&&mG (m.sub scope aH tgN) t tg&&(mI m tg it aP&&(mE (m.sub scope aH tgN) el elt&&mF (m.sub scope aH tgN) ts ifs))
  | _=>false
 | _,_=>false
noncomputable def vW:Expr->Bool | .Tuple ..=>false | _=>true
noncomputable def qI(m:MC)(x y:Str)(px py:Pos)(a b:Expr):Bool:=m.calm&&m.kind x==some .local&&m.kind y==some .local&&px.line==py.line&&x != y&&cC a&&cC b&&!(foldedForSure 8 a&&foldedForSure 8 b)&&!(constantsAlone 8 a&&constantsAlone 8 b)&&m.sc.kind == .function
theorem nD{e:Expr}{t:Option Expr}{n:Nat}{env:Env}(h:jG e=true):swapsWith e t n env=pure false:=by cases e <;> first | rfl | cases h
theorem aJA{m:MC}{e:Expr}{x:Str}{p:Pos}{n:Nat}{env:Env}(hs:env.scope=m.sc)(h:(jG e||m.kind x==some .cell)=true):swapsWith e (some (.Name x p)) n env=pure false:=by
 rw[aOY,aO7] at h;rcases h with h | h
 . exact nD h
 . have hk:env.kindOf x=some .cell:=by show env.scope.names.lookup x=_;rw[hs];exact h
   unfold swapsWith;have kc:(NameKind.cell==NameKind.local)=false:=by decide
   cases e <;> first | rfl | (simp[hk,kc])
theorem aJB{t:Expr}{e:Expr}{env:Env}(h:vW e=true):swappedStores [t] e env=pure none:=by
 unfold swappedStores;split
 . rename_i q;split at q
   . cases h
   . cases h
   . cases q
 . rfl
theorem aJC{k:Nat}{W:WD}{m:MC}{C:Cw}{X:Cx}(S:SX k W m C X){x y:Str}{px py:Pos}{a b:Expr}(h:qI m x y px py a b=true):m.calm=true/\X.env.scope.names.lookup x=some .local/\X.env.scope.names.lookup y=some .local/\(∀ kt pt k2 pt2,swappedStores [.Tuple [.Name x px,.Name y py] kt pt] (.Tuple [a,b] k2 pt2) X.env=pure (some [x,y]))/\cC a=true/\cC b=true:=by
 unfold qI MC.kind at h;simp only[aOI,aO7,aQH,aQL] at h;obtain ⟨⟨⟨⟨⟨⟨⟨⟨⟨h0,h1⟩,h2⟩,h3⟩,h4⟩,h5⟩,h6⟩,h7⟩,h8⟩,h9⟩:=h;have k1:X.env.scope.names.lookup x=some .local:=by rw[S.hs];exact h1
 have k2:X.env.scope.names.lookup y=some .local:=by rw[S.hs];exact h2
 refine ⟨h0,k1,k2,λkt pt k2' pt2=>?_,h5,h6⟩;have bk:X.env.blockKind=.function:=by unfold Env.blockKind;rw[S.hs,h9];rfl
 have kx:X.env.kindOf x=some .local:=k1;have ky:X.env.kindOf y=some .local:=k2;unfold swappedStores;simp[bk,kx,ky,h3,h7,h8,Expr.pos];rw[if_neg (by
  intro z;rcases z with z | z
  . cases a <;> first | (cases h5;done) | (cases z;done)
  . cases b <;> first | (cases h6;done) | (cases z;done))]
 have hd:[x,y].eraseDups.length=2:=by have hb:(y==x)=false:=aMN.mpr λz=>h4 z.symm;simp[List.eraseDups_cons,hb]
 rw[if_pos hd]
section
variable {k:Nat}{W:WD}{m:MC}{C:Cw}{X:Cx}
structure SB(k:Nat)(W:WD)(m:MC)(C:Cw)(X:Cx):Prop extends SX k W m C X where
 nd:m.N.Nodup
 hp:PassesOwn (model X.prog X.w) X.A X.env X.xe
 ro:m.rz=true->pZ (C.at X) X/\FnCx X
end
theorem aJD{k:Nat}{W:WD}{m:MC}{C:Cw}{X:Cx}(S:SB k W m C X)(fz:Bool){i:Nat}{el it:E}{ts:List E}{aF:List Nat}{t:Tg}{n:Nat}{x:Str}{px cp sp:Pos}{elt:Expr}{gens:List Comprehension}{scope:Scope}(h1:m.N[i]? = some x)(h2:m.kind x=some .local)(h3:m.sc.kind=.function)(h4:px.line=cp.line)(h5:(scope.names.any λy=>y.1==x&&(y.2 == .local||y.2 == .cell))=false)(h:mC m elt scope (.comp el it ts aF t n) gens=true):PSv C X (.Assign [.Name x px] (.ListComp elt gens scope cp) sp) (λρ=>d5 ρ i (if fz=true then bI (evE W (.comp el it ts aF t n) ρ) else evE W (.comp el it ts aF t n) ρ)):=by
 have hk:X.env.scope.names.lookup x=some .local:=by rw[S.hs];exact h2
 conv at h=>lhs;whnf
 split at h
 . rename_i tg aP ifs;simp only[aOI,aOW,aPA] at h;obtain ⟨⟨⟨⟨⟨⟨hq,ho⟩,hn⟩,hl⟩,hs⟩,hg⟩,k1,k2,k3⟩:=h;unfold nC at ho;simp only[aOI,aPA,aOY,aQH,aO7,aOW,aQI] at ho;obtain ⟨⟨⟨⟨⟨⟨⟨g1,g2⟩,g3⟩,g4⟩,g5⟩,g6⟩,g7⟩,g8⟩:=ho;have er:(relabel scope X.env).names=kR scope m.sc:=by rw[<- S.hs];rfl
   have bk:X.env.blockKind=.function:=by unfold Env.blockKind;rw[S.hs,h3];rfl
   have hsw:swapsWith (.ListComp elt [⟨tg,aP,ifs,0⟩] scope cp) (some (.Name x px)) sp.line X.env=pure true:=by
    have kx:X.env.kindOf x=some .local:=hk;unfold swapsWith;have k1:(ScopeKind.function==ScopeKind.function)=true:=by decide
    have k2:(some NameKind.local==some NameKind.local)=true:=by decide
    simp only[bk,kx,Expr.pos,h4,h5,k1,k2,aPN];rfl
   have := aGH fz (pos := cp) (pos' := px) (spos := sp) (i := i) (x := x) (tgN := eP 4 tg) (t := t) (S.cm hq) (sI it S.toSX k1) g1 g2 (fun y hy e => (g3 y hy).resolve_left fun z => z e) (fun y hy e => by
       have:=g4 y hy;show X.env.scope.names.lookup y.1=_\/X.env.scope.names.lookup y.1=_;rw[S.hs];rcases this with (z | z) | z
       . exact absurd e z
       . exact .inl z
       . exact .inr z) (by rw[S.hN];exact g5) g6 (λy hy=>by rw[er];exact g7 y hy) (λj hj=>hs j hj) (λcl A fp s3 H3=>sG (S.toSX.sub cl A fp s3 H3) g8 t hg)
       (λcl A fp s3 H3=>sF ts (S.toSX.sub cl A fp s3 H3) k3) (λcl A fp s3 H3=>sE el (S.toSX.sub cl A fp s3 H3) k2) (by rw[S.hN];exact S.nd) (by rw[S.hN];exact h1) hk hsw (qH hn)
   rw[hl] at this;exact this
 . cases h
abbrev CkS(m:MC)(f:D3.S)(st:Stmt):Type:=Option (PLift (∀ {k:Nat} {W:WD} {C:Cw} {X:Cx},SB k W m C X->PSv C X st (evS W f)))
abbrev CkB(m:MC)(f:List D3.S)(sts:List Stmt):Type:=Option (PLift (∀ {k:Nat} {W:WD} {C:Cw} {X:Cx},SB k W m C X->PBv C X sts (evB W f)))
noncomputable def aJE {m : MC} {f} {e} {p1} : CkS m (.ret f) (.Return (some e) p1) := if h : (mE m f e) = true then some ⟨fun {k} {W} {C} {X} S => by
    exact aEU (sE f S.toSX h)⟩ else none
noncomputable def aJF {m : MC} {i} {x} {p1} {p2} : CkS m (.retV i) (.Return (some (.Name x p1)) p2) := if h : (m.N[i]? == some x && m.vis x) = true then some ⟨fun {k} {W} {C} {X} S => by
    simp only[aOI,aO7] at h;obtain ⟨h1,h2,h3⟩:=S.toSX.vis h.2
    exact aEV i (lW (by rw[S.hN];exact h.1) h1 h2 h3)⟩ else none
noncomputable def aJG {m : MC} {i} {f} {x} {p1} {e} {p3} : CkS m (.set i f) (.Assign [.Name x p1] e p3) := if h : (m.loc i x && (jG e || m.kind x == some .cell) && mE m f e) = true then some ⟨fun {k} {W} {C} {X} S => by
    simp only[aOI] at h;obtain ⟨⟨h1,h2⟩,h3⟩:=h;obtain ⟨b,c,d⟩:=S.toSX.loc h1
    exact aEX (by rw[S.hN];exact S.nd) b c (sE f S.toSX h3) (aJA S.hs h2) d⟩ else none
noncomputable def aJH {m : MC} {i} {f} {g} {x} {p1} {k} {p3} {e} {p5} : CkS m (.dput i f g) (.Assign [.Subscript (.Name x p1) k p3] e p5) := if h : (m.N[i]? == some x && m.vis x && jG e && mE m f k && mE m g e) = true then some ⟨fun {k} {W} {C} {X} S => by
    simp only[aOI,aO7] at h;obtain ⟨⟨⟨⟨h1,h2⟩,h3⟩,h4⟩,h5⟩:=h;obtain ⟨v1,v2,v3⟩:=S.toSX.vis h2
    exact aHE i (aQJ (aQK (by decide:1<=64) _) S.un) (lW (by rw[S.hN];exact h1) v1 v2 v3) (sE f S.toSX h4) (sE g S.toSX h5) (nD h3)⟩ else none
noncomputable def aJI {m : MC} {i} {fz} {f} {x} {px} {elt} {gens} {scope} {cp} {p6} : CkS m (.setC i fz f) (.Assign [.Name x px] (.ListComp elt gens scope cp) p6) := if h : (m.N[i]? == some x && m.kind x == some .local && m.sc.kind == .function && px.line == cp.line && !(scope.names.any fun y => y.1 == x && (y.2 == .local || y.2 == .cell)) && mC m elt scope f gens) = true then some ⟨fun {k} {W} {C} {X} S => by
    simp only[aOI,aO7,aQL] at h;obtain ⟨⟨⟨⟨⟨h1,h2⟩,h3⟩,h4⟩,h5⟩,h7⟩:=h;cases f with
    | comp el it ts aF t n=>exact aJD S fz h1 h2 h3 h4 h5 h7
    | _=>cases h7⟩ else none
noncomputable def aJJ {m : MC} {f} {a} {b} {c} {x} {y} {p3} (r1 : CkB m a x) (r2 : CkB m b y) : CkS m (.ite f a b) (.If c x y p3) := if h : (mT m f c && (r1.isSome && r2.isSome)) = true then some ⟨fun {k} {W} {C} {X} S => by
    simp only[aOI] at h;obtain ⟨h1,h2,h3⟩:=h;exact aEW (sT f S.toSX h1) (got h2 S) (got h3 S)⟩ else none
noncomputable def aJK {m : MC} {f} {t} {b} {tg} {e} {body} {p3} (r1 : CkB m b body) : CkS m (.for f t b) (.For tg e body [] p3) := if h : (m.calm && mG m t tg && eO e && (mI m tg f e && r1.isSome)) = true then some ⟨fun {k} {W} {C} {X} S => by
    simp only[aOI] at h;obtain ⟨⟨⟨hq,h1⟩,h2⟩,h3,h4⟩:=h;exact aE4 S.hp (S.cm hq) (sI f S.toSX h3) (aGD (sG S.toSX S.nd t h1)) (got h4 S) (qH h2)⟩ else none
noncomputable def aJL {m : MC} {t} {f} {tg} {e} {p2} : CkS m (.asg t f) (.Assign [tg] e p2) := if h : (mG m t tg && gD tg && jG e && vW e && mE m f e) = true then some ⟨fun {k} {W} {C} {X} S => by
    simp only[aOI] at h;obtain ⟨⟨⟨⟨h1,h2⟩,h3⟩,h4⟩,h5⟩:=h;exact aGE (sE f S.toSX h5) (sG S.toSX S.nd t h1) (nD h3) (aJB h4) h2⟩ else none
noncomputable def aJM {m : MC} {i} {j} {a} {b} {x} {px} {y} {py} {p4} {p5} {u} {v} {p8} {p9} {p10} : CkS m (.par i j a b) (.Assign [.Tuple [.Name x px, .Name y py] p4 p5] (.Tuple [u, v] p8 p9) p10) := if h : (m.N[i]? == some x && m.N[j]? == some y && decide (i ≠ j) && qI m x y px py u v && (mE m a u && mE m b v)) = true then some ⟨fun {k} {W} {C} {X} S => by
    simp only[aOI,aO7,aOW] at h;obtain ⟨⟨⟨⟨h1,h2⟩,h3⟩,h4⟩,h5,h6⟩:=h;obtain ⟨hq,k1,k2,hw,s1,s2⟩:=aJC S.toSX h4
    exact aGF (S.cm hq) (by rw[S.hN];exact S.nd) (by rw[S.hN];exact h1) (by rw[S.hN];exact h2) h3 k1 k2 (kL (sE a S.toSX h5) (kL (sE b S.toSX h6) mO (cU s2)) (cU s1)) (hw _ _ _ _)⟩ else none
noncomputable def aJN {m : MC} {f} {e} {p1} : CkS m (.expr f) (.Expr e p1) := if h : (jG e && mE m f e) = true then some ⟨fun {k} {W} {C} {X} S => by
    simp only[aOI] at h;exact aET (sE f S.toSX h.2) (nD h.1)⟩ else none
noncomputable def kS_rz {m : MC} {c} {es} {f} {p1} {x} {xs} {p4} {p5} : CkS m (.rz c es) (.Raise (some (.Call (.Name f p1) (x :: xs) [] p4)) none p5) := if h : (m.calm && m.rz && f == c && m.gk f && m.g.xcs.contains f && mEs m es (x :: xs)) = true then some ⟨fun {k} {W} {C} {X} S => by
    simp only[aOI,aO7,aQI] at h;obtain ⟨⟨⟨⟨⟨hq,hr⟩,rfl⟩,h1⟩,h2⟩,h3⟩:=h;obtain ⟨gl,hd⟩:=S.toSX.gk h1;obtain ⟨Cc,hm,Z⟩:=S.xc _ h2;exact aG6 hm Z (S.rm hq).hd (S.ro hr).1 gl (sEs es S.toSX h3) hd (aI9 h3)⟩ else none
theorem aJO{k:Nat}{W:WD}{m:MC}{C:Cw}{X:Cx}(S:SB k W m C X):PBv C X [] (evB W []):=by
 have:evB W []=λρ=>.nx ρ:=by funext ρ;simp only[evB]
 rw[this];exact aEQ
noncomputable def aJP {m : MC} {i fs sts} (r : CkB m fs sts) : CkB m (.frzV i :: fs) sts := if h : r.isSome = true then some ⟨fun {k} {W} {C} {X} S => by
    have:evB W (.frzV i::fs)=λρ=>(kZ ρ i).thn (evB W fs):=by funext ρ;rfl
    rw[this];exact aHJ (got h S)⟩ else none
noncomputable def aJQ {m : MC} {f fs st sts} (r : CkS m f st) (r2 : CkB m fs sts) : CkB m (f :: fs) (st :: sts) := if h : (r.isSome && r2.isSome) = true then some ⟨fun {k} {W} {C} {X} S => by
    rw[aOI] at h;have:evB W (f::fs)=λρ=>(evS W f ρ).thn (evB W fs):=by funext ρ;simp only[evB]
    rw[this];exact aES (got h.1 S) (got h.2 S)⟩ else none
set_option maxHeartbeats 4000000 in
mutual
noncomputable def ckS:(m:MC)->(f:D3.S)->(st:Stmt)->CkS m f st
 | _,.frzV _,_=>none
 | m,.ret f,st=>match st with | .Return (some e) p1=>aJE | _=>none
 | m,.retV i,st=>match st with | .Return (some (.Name x p1)) p2=>aJF | _=>none
 | m,.set i f,st=>match st with | .Assign [.Name x p1] e p3=>aJG | _=>none
 | m,.dput i f g,st=>match st with | .Assign [.Subscript (.Name x p1) k p3] e p5=>aJH | _=>none
 | m,.setC i fz f,st=>match st with | .Assign [.Name x px] (.ListComp elt gens scope cp) p6=>aJI | _=>none
 | m,.ite f a b,st=>match st with | .If c x y p3=>aJJ (ckB m a x) (ckB m b y) | _=>none
 | m,.for f t b,st=>match st with | .For tg e body [] p3=>aJK (ckB m b body) | _=>none
 | m,.asg t f,st=>match st with | .Assign [tg] e p2=>aJL | _=>none
 | m,.par i j a b,st=>match st with | .Assign [.Tuple [.Name x px,.Name y py] p4 p5] (.Tuple [u,v] p8 p9) p10=>aJM | _=>none
 | m,.expr f,st=>match st with | .Expr e p1=>aJN | _=>none
 | m,.rz c es,st=>match st with | .Raise (some (.Call (.Name f p1) (x::xs) [] p4)) none p5=>kS_rz | _=>none
noncomputable def ckB:(m:MC)->(f:List D3.S)->(sts:List Stmt)->CkB m f sts
 | m,[],sts=>match sts with | []=>some ⟨λS=>aJO S⟩ | _=>none
 | m,.frzV i::fs,sts=>aJP (ckB m fs sts)
 | m,f::fs,sts=>match sts with | st::sts=>aJQ (ckS m f st) (ckB m fs sts) | _=>none
end
noncomputable def mB(m:MC)(f:List D3.S)(sts:List Stmt):Bool:=(ckB m f sts).isSome
theorem sB{k:Nat}{W:WD}{m:MC}{C:Cw}{X:Cx}(S:SB k W m C X)(f:List D3.S){sts:List Stmt}(h:mB m f sts=true):PBv C X sts (evB W f):=got h S
abbrev IB:=Unit
structure FD where
 ps:List Str
 N:List Str
 b:List D3.S
structure ID where
 c:Str
 ps:List Str
 N:List Str
 ib:IB
structure TB where
 T:List (Str×FD)
 I:List (Str×ID)
 cl:List CI
 xt:List ((Str×Str)×Bool)
 xi:List ((Str×Str)×Bool)
noncomputable def qJ(W:WD)(i:ID):List D->Res:=λ_=>.stuck
noncomputable def k6(t:TB)(W:WD)(f:Str):List D->Res:=match t.T.lookup f with
 | some d=>phi d.ps.length d.N.length (evB W d.b)
 | none=>λ_=>.stuck
noncomputable def WT(t:TB):Nat->WD
 | 0=>⟨λ_ _=>.stuck,λ_=>none,t.cl,t.xt,t.xi⟩
 | 1=>⟨λf=>k6 t ⟨λ_ _=>.stuck,λ_=>none,t.cl,t.xt,t.xi⟩ f,λ_=>none,t.cl,t.xt,t.xi⟩
 | k+2=>⟨λf=>k6 t (WT t (k+1)) f,λkey=>match t.I.lookup key with | some i=>some (qJ (WT t k) i) | none=>none,t.cl,t.xt,t.xi⟩
theorem nE(t:TB):∀ k,(WT t k).cl=t.cl
 | 0=>rfl
 | 1=>rfl
 | k+2=>rfl
theorem vX(t:TB):∀ k,(WT t k).xt=t.xt
 | 0=>rfl
 | 1=>rfl
 | k+2=>rfl
theorem vY(t:TB):∀ k,(WT t k).xi=t.xi
 | 0=>rfl
 | 1=>rfl
 | k+2=>rfl
theorem WT_Φ(t:TB):∀ k f,(WT t (k+1)).Φ f=k6 t (WT t k) f
 | 0,f=>rfl
 | k+1,f=>rfl
noncomputable def qK(N ps:List Str)(sc:Scope):Bool:=sc.kind == .function&&!sc.isCoroutine&&!sc.isGenerator&&decide N.Nodup&&(N.take ps.length==ps)&&ps.all (λx=>sc.names.lookup x==some .local||sc.names.lookup x==some .cell)&&sc.names.all (λy=>y.2 != .free)
theorem aJR{N ps:List Str}{sc:Scope}(h:qK N ps sc=true):l8 N ps sc:=by unfold qK at h;simp only[aOI,aPA,aOY,aQH,aO7,aOW,aQL] at h;obtain ⟨⟨⟨⟨⟨⟨h1,h2⟩,h3⟩,h4⟩,h5⟩,h6⟩,h7⟩:=h;exact ⟨h1,h2,h3,h4,h5,h6,h7⟩
noncomputable def iB(g:MG)(st:Stmt)(d:FD):Bool:=qK d.N d.ps (eK st)&&mB ⟨d.N,eK st,g,true,true,true⟩ d.b (iT st)
noncomputable def idOk(g:MG)(st:Stmt)(d:ID):Bool:=false
noncomputable def vZ(K:Fg)(g:MG)(fa:Str->Addr)(key:Str)(d:FD):Prop :=
 ∃ name st fd,Fun K name key st (fa key) fd/\eW K fd d.ps []/\iB g st d=true
noncomputable def k7(K:Fg)(g:MG)(fa:Str->Addr):List (Str×FD)->Prop
 | []=>True
 | (x,d)::r=>vZ K g fa x d/\k7 K g fa r
theorem k7.at{K:Fg}{g:MG}{fa:Str->Addr}:∀ {T:List (Str×FD)} {x:Str} {d:FD},k7 K g fa T->T.lookup x=some d->vZ K g fa x d
 | [],_,_,_,e=>by cases e
 | (y,d')::r,x,d,h,e=>by
  rw[aPM] at e;split at e
  . rename_i hb;cases e;rw[aO7] at hb;subst hb;exact h.1
  . exact h.2.at e
noncomputable def v5(K:Fg)(mg:SOV)(g:MG)(key:Str)(d:ID):Prop :=
 ∃ name st C f fd,PySem.W.nsIn K mainGlobals d.c=some (some (.ref C))/\mg d.c=some (.ref C)/\Mk K C f/\Fun K name key st f fd/\eW K fd d.ps []/\idOk g st d=true
noncomputable def k8(K:Fg)(mg:SOV)(g:MG):List (Str×ID)->Prop
 | []=>True
 | (x,d)::r=>v5 K mg g x d/\k8 K mg g r
theorem k8.at{K:Fg}{mg:SOV}{g:MG}:∀ {T:List (Str×ID)} {x:Str} {d:ID},k8 K mg g T->T.lookup x=some d->v5 K mg g x d
 | [],_,_,_,e=>by cases e
 | (y,d')::r,x,d,h,e=>by
  rw[aPM] at e;split at e
  . rename_i hb;cases e;rw[aO7] at hb;subst hb;exact h.1
  . exact h.2.at e
noncomputable def GVOk(w:World)(K:Fg)(mg:SOV)(fa:Str->Addr)(x:Str):GV->Prop
 | .con (.s y)=>∃ t,mg x=some (.str y t)
 | .con (.i n)=>∃ t,mg x=some (.int n t)
 | .con (.t tb)=>gG w K mg x tb
 | .no=>mg x=none
 | .fn _=>mg x=some (.ref (fa x))
 | .cls=>True
noncomputable def k9(w:World)(K:Fg)(mg:SOV)(fa:Str->Addr):List (Str×GV)->Prop
 | []=>True
 | (x,v)::r=>GVOk w K mg fa x v/\k9 w K mg fa r
theorem k9.at{w:World}{K:Fg}{mg:SOV}{fa:Str->Addr}:∀ {G:List (Str×GV)} {x:Str} {v:GV},k9 w K mg fa G->G.lookup x=some v->GVOk w K mg fa x v
 | [],_,_,_,e=>by cases e
 | (y,v')::r,x,v,h,e=>by
  rw[aPM] at e;split at e
  . rename_i hb;cases e;rw[aO7] at hb;subst hb;exact h.1
  . exact h.2.at e
noncomputable def gOk(G:List (Str×GV))(T:List (Str×FD)):Bool:=G.all λ(x,v)=>match v with | .fn n=>(match T.lookup x with | some d=>d.ps.length==n | none=>false) | _=>true
theorem v6{T:List (Str×FD)}:∀ {G:List (Str×GV)} {x:Str} {n:Nat},gOk G T=true->G.lookup x=some (.fn n)->∃ d,T.lookup x=some d/\d.ps.length=n
 | [],_,_,_,e=>by cases e
 | (y,v')::r,x,n,h,e=>by
  unfold gOk at h;rw[aOL,aOI] at h;rw[aPM] at e;split at e
  . rename_i hb;cases e;rw[aO7] at hb;subst hb;have h1:=h.1;dsimp only at h1;cases q:T.lookup x with
    | none=>rw[q] at h1;cases h1
    | some d=>rw[q] at h1;exact ⟨d,rfl,by simpa using h1⟩
  . exact v6 (G:=r) h.2 e
noncomputable def mtOk(cl:List CI)(T:List (Str×FD)):Bool:=cl.all λi=>i.meths.all λ(_,key,n)=>match T.lookup key with | some d=>d.ps.length==n | none=>false
noncomputable def v7(mki:List (Str×Str×Nat))(I:List (Str×ID)):Bool:=mki.all λ(c,key,n)=>match I.lookup key with | some d=>d.c==c&&d.ps.length==n+1 | none=>false
noncomputable def jH(K:Fg)(fa:Str->Addr)(C:Addr):List (Str×Str×Nat)->Prop
 | []=>True
 | (m,key,_)::r=>pD K C m (fa key)/\jH K fa C r
noncomputable def jI(K:Fg)(C:Addr):List Str->Prop
 | []=>True
 | f::r=>pC K C f/\jI K C r
noncomputable def lA(K:Fg)(fa:Str->Addr):List CI->Prop
 | []=>True
 | i::r=>(∃ C,PySem.W.nsIn K mainGlobals i.name=some (some (.ref C))/\Cls K C/\jH K fa C i.meths/\jI K C i.flds)/\lA K fa r
theorem lA.at{K:Fg}{fa:Str->Addr}:∀ {cl:List CI} {i:CI},lA K fa cl->i∈cl->∃ C,PySem.W.nsIn K mainGlobals i.name=some (some (.ref C))/\Cls K C/\jH K fa C i.meths/\jI K C i.flds
 | [],_,_,h=>by cases h
 | j::r,i,h,hi=>by
  rcases aM0.mp hi with rfl | hi
  . exact h.1
  . exact h.2.at hi
theorem jI.at{K:Fg}{C:Addr}:∀ {l:List Str} {f:Str},jI K C l->f∈l->pC K C f
 | [],_,_,h=>by cases h
 | j::r,i,h,hi=>by
  rcases aM0.mp hi with rfl | hi
  . exact h.1
  . exact h.2.at hi
theorem jH.at{K:Fg}{fa:Str->Addr}{C:Addr}:∀ {l:List (Str×Str×Nat)} {m key:Str} {n:Nat},jH K fa C l->l.lookup m=some (key,n)->pD K C m (fa key)
 | [],_,_,_,_,e=>by cases e
 | (m',key',n')::r,m,key,n,h,e=>by
  rw[aPM] at e;split at e
  . rename_i hb;cases e;rw[aO7] at hb;subst hb;exact h.1
  . exact h.2.at e
structure GF(w:World)(K:Fg)(mg:SOV)(g:MG)(t:TB)(fa:Str->Addr):Prop where
 con:k9 w K mg fa g.G
 gok:gOk g.G t.T=true
 all:k7 K g fa t.T
 alli:k8 K mg g t.I
 mk0:∀ c,c∈g.mk0->MkV0 K mg c
 mkok:v7 g.mki t.I=true
 iso:∀ c,c∈g.iso->IsV K mg t.cl c
 cls:lA K fa t.cl
 mtok:mtOk t.cl t.T=true
 xtok:qA K mg (λc x=>t.xt.lookup (c,x))
 xiok:qB K mg (λc x=>t.xi.lookup (c,x))
 xcok:∀ c,c∈g.xcs->∃ Cc,mg c=some (.ref Cc)/\kU K Cc
 xnok:∀ n,n∈g.xns->∃ cv,m9 mg n cv
theorem v8{K:Fg}{mg:SOV}{n:Nat}{Φ:List D->Res}{vs:List V}{H:Hp}{Q:VK}{E:XK}(hz:∀ ds,Φ ds=.stuck)(h:spV K mg n Φ vs H Q E):False:=by obtain ⟨_,F,ds,_,_,h⟩:=h;rw[hz] at h;exact h
section
variable {P:Program}{w:World}{K:Fg}{mg:SOV}{base:Heap}{g:MG}{t:TB}{fa:Str->Addr}
structure jJ(P:Program)(w:World)(K:Fg)(mg:SOV)(base:Heap)(t:TB)(fa:Str->Addr)(k:Nat):Prop where
 fn:∀ key d,t.T.lookup key=some d->∃ fd,cQ P w K mg base (CX1 P w) k (fa key) fd d.ps (spV K mg d.ps.length ((WT t k).Φ key))/\eW K fd d.ps []/\PySem.W.keepIn K (.ref (fa key))=true
 ini:∀ key d Φ,t.I.lookup key=some d->(WT t k).I key=some Φ->∃ j,j+1<=k/\InV P w K mg base (CX1 P w) j d.c (d.ps.length-1) Φ
theorem sx_of(f:GF w K mg g t fa){k:Nat}(A:jJ P w K mg base t fa k){N:List Str}{sc:Scope}{C:Cw}{X:Cx}(hP:X.prog=P)(hw:X.w=w)(hK:X.K=K)(hmg:X.mg=mg)(hb:X.base=base)(hN:X.N=N)(hs:X.env.scope=sc)(cm:X.calm=true)(rm:cD k X.A)(hfn:∀ x,X.fn x=true)(xo:XOk (CX1 X.prog X.w) (C.at X) X):SX k (WT t k) ⟨N,sc,g,true,true,true⟩ C X:=by
 subst hP hw hK hmg hb;refine ⟨hN,hs,λ_=>cm,λ_=>rm,rm.units,λ_=>xo,?_,?_,f.xcok,f.xnok,λy c l=>?_,λy l=>f.con.at l,λc hc=>f.mk0 c hc,λc key n hm Φ e=>?_,λc hc=>by rw[nE];exact f.iso c hc,λi f' hi hf=>?_,λc m key n e=>?_,λy n l=>?_,λ_=>hfn⟩
 . unfold WD.xf;rw[vX];exact f.xtok
 . unfold WD.xg;rw[vY];exact f.xiok
 . have:=f.con.at l;cases c <;> exact this
 . have h1:=aPA.mp f.mkok (c,key,n) hm;dsimp only at h1;cases q:t.I.lookup key with
   | none=>rw[q] at h1;cases h1
   | some d=>rw[q] at h1;simp only[aOI,aO7] at h1;obtain ⟨j,hj,M⟩:=A.ini key d Φ q e;rw[h1.1,h1.2] at M;exact ⟨j,hj,M⟩
 . rw[nE] at hi;obtain ⟨C',h1,h2,_,h4⟩:=f.cls.at hi;exact ⟨C',h1,h2,h4.at hf⟩
 . rw[nE] at e;unfold CI.meth at e;split at e
   . rename_i i ei;have hi:=List.mem_of_find?_eq_some ei;have hn:i.name=c:=by simpa using List.find?_some ei
     obtain ⟨C',h1,h2,h3,_⟩:=f.cls.at hi;have hmo:=aPA.mp (aPA.mp f.mtok i hi) (m,key,n) (aNT e);dsimp only at hmo;cases q:t.T.lookup key with
     | none=>rw[q] at hmo;cases hmo
     | some d=>rw[q] at hmo;rw[aO7] at hmo;obtain ⟨fd,FO,hb,_⟩:=A.fn key d q;rw[hmo] at FO;exact ⟨C',fa key,fd,d.ps,by rw[<- hn];exact h1,h2,h3.at e,FO,hb⟩
   . cases e
 . obtain ⟨d,e,rfl⟩:=v6 f.gok l;obtain ⟨fd,FO,hb,hk⟩:=A.fn y d e;exact ⟨fa y,fd,d.ps,FO,f.con.at l,hk,hb⟩
theorem qL(f:GF w K mg g t fa){k:Nat}(A:jJ P w K mg base t fa k){key:Str}{d:FD}{name:Str}{st:Stmt}{fd:FuncData}{a:Addr}(F:Fun K name key st a fd)(e:t.T.lookup key=some d)(ok:iB g st d=true):cQ P w K mg base (CX1 P w) (k+1) a fd d.ps (spV K mg d.ps.length ((WT t (k+1)).Φ key)):=by
 unfold iB at ok;rw[aOI] at ok;have sc:=aJR ok.1;have:(WT t (k+1)).Φ key=phi d.ps.length d.N.length (evB (WT t k) d.b):=by rw[WT_Φ];unfold k6;rw[e]
 rw[this];exact aG9 (k:=k) F sc λC cdv A' outer s H En hE hr=>sB (m:=⟨d.N,eK st,g,true,true,true⟩) (X:=dG (CX1 P w) P w K mg base d.N key (eK st) a cdv A' outer s H En) ⟨sx_of f A rfl rfl rfl rfl rfl rfl rfl rfl hr (λ_=>rfl) (aG7 (K:=K) (H:=H) (outer:=outer) hE),sc.nd,PassesOwn.leaving,λ_=>⟨aG8 (K:=K) (H:=H) (outer:=outer) hE,fnCx⟩⟩ d.b ok.2
theorem aJS(f:GF w K mg g t fa){k:Nat}(A:jJ P w K mg base t fa k){key:Str}{d:ID}(e:t.I.lookup key=some d):InV P w K mg base (CX1 P w) (k+1) d.c (d.ps.length-1) (qJ (WT t k) d):=by obtain ⟨name,st,C2,a,fd,ns,hm,M,F,hb,ok⟩:=f.alli.at e;cases ok
theorem v9(f:GF w K mg g t fa):∀ k,jJ P w K mg base t fa k/\jJ P w K mg base t fa (k+1)
 | 0=>by
  have A0:jJ P w K mg base t fa 0:=⟨λkey d e=>by
   obtain ⟨name,st,fd,F,hb,_⟩:=f.all.at e;exact ⟨fd,⟨λvs H Q En h=>(v8 (λ_=>rfl) h).elim,λA outer s H args us vs Q En _ _ _ _ h=>(v8 (λ_=>rfl) h).elim⟩,hb,F.kp⟩,λkey d Φ _ e=>by cases e⟩
  refine ⟨A0,λkey d e=>?_,λkey d Φ _ e=>by cases e⟩
  obtain ⟨name,st,fd,F,hb,ok⟩:=f.all.at e;exact ⟨fd,qL f A0 F e ok,hb,F.kp⟩
 | k+1=>by
  obtain ⟨A0,A1⟩:=v9 f k;refine ⟨A1,λkey d e=>?_,λkey d Φ e ei=>?_⟩
  . obtain ⟨name,st,fd,F,hb,ok⟩:=f.all.at e;exact ⟨fd,qL f A1 F e ok,hb,F.kp⟩
  . have ei:(match t.I.lookup key with | some i=>some (qJ (WT t k) i) | none=>none)=some Φ:=ei
    rw[e] at ei;cases ei;exact ⟨k+1,aNH _,aJS f A0 e⟩
end
noncomputable def qM(K:Fg)(Φ:List D->Res):Sp:=λvs H Q E=>∃ a ns,vs=[.ref a]/\SqL K H a (ns.map V.int)/\Φ (mS ns)=.ok .fz (.bl true)/\∀ H',Q (.bl true) H'
theorem aJT{P:Program}{w:World}{K:Fg}{mg:SOV}{base:Heap}{CX:CXT}{k:Nat}{f:Addr}{fd:FuncData}{ps:List Str}{Φ:List D->Res}(h:cQ P w K mg base CX k f fd ps (spV K mg 1 Φ)):cQ P w K mg base CX k f fd ps (qM K Φ) :=
 h.imp λvs H Q E ⟨a,ns,e,hq,hp,q⟩=>by
  subst e;refine ⟨rfl,H,mS ns,aG.refl _,aE.cons ?_ aE.nil,?_⟩
  . simp only[aC];exact ⟨a,_,rfl,hq,uN ns⟩
  . rw[hp];exact ⟨by decide,λv F' H' s rp _=>by rw[rp.bl];exact q H'⟩
theorem aJU{P:Program}{w:World}{K:Fg}{mg:SOV}{base:Heap}{g:MG}{t:TB}{fa:Str->Addr}(f:GF w K mg g t fa)(k:Nat){a:Addr}{fd:FuncData}{d:FD}{st:Stmt}(F:Fun K "law" "law" st a fd)(e:t.T.lookup ("law" : Str)=some d)(ok:iB g st d=true)(hl:d.ps.length=1):cQ P w K mg base (CX1 P w) (k+1) a fd d.ps (qM K ((WT t (k+1)).Φ ("law" : Str))):=by have:=qL (P:=P) (w:=w) (base:=base) f (v9 f k).1 F e ok;rw[hl] at this;exact aJT this
end D3
namespace D3
open PySem L2
section
variable {W:WD}{ρ:Rho}{a b c:E}{es:List E}
@[simp] theorem bS{i}:evE W (.var i) ρ=c7 ρ i:=Eq.trans rfl rfl
@[simp] theorem e_non:evE W .non ρ=.ok .fz .non:=Eq.trans rfl rfl
@[simp] theorem e_bl{b}:evE W (.bl b) ρ=.ok .fz (.bl b):=Eq.trans rfl rfl
@[simp] theorem cN{i}:evE W (.int i) ρ=.ok .fz (.int i):=Eq.trans rfl rfl
@[simp] theorem wA{x}:evE W (.str x) ρ=.ok .fz (.str x):=Eq.trans rfl rfl
@[simp] theorem e_globS{x y}:evE W (.glob x (.s y)) ρ=.ok .fz (.str y):=Eq.trans rfl rfl
@[simp] theorem e_globI{x y}:evE W (.glob x (.i y)) ρ=.ok .fz (.int y):=Eq.trans rfl rfl
@[simp] theorem e_ty{t:Ty}:evE W (.ty t) ρ=.ok .fz (.ty t.id):=Eq.trans rfl rfl
@[simp] theorem eC{op}:evE W (.bin op a b) ρ=op2 (aT op) (evE W a ρ) (evE W b ρ):=Eq.trans rfl rfl
@[simp] theorem jK{op}:evE W (.cmp op a b) ρ=op2 (bF op) (evE W a ρ) (evE W b ρ):=Eq.trans rfl rfl
@[simp] theorem wB:evE W (.andL es) ρ=evA W es ρ:=Eq.trans rfl rfl
@[simp] theorem qN:evE W (.orL es) ρ=cX W es ρ:=Eq.trans rfl rfl
@[simp] theorem e_not:evE W (.not a) ρ=kJ (evE W a ρ):=Eq.trans rfl rfl
@[simp] theorem e_tru:evE W (.tru a) ρ=kH (evE W a ρ):=Eq.trans rfl rfl
@[simp] theorem jL:evE W (.frz a) ρ=bI (evE W a ρ):=Eq.trans rfl rfl
@[simp] theorem gH:evE W (.ix a b) ρ=op2 ixD (evE W a ρ) (evE W b ρ):=Eq.trans rfl rfl
@[simp] theorem jM{l h}:evE W (.slice a l h) ρ=slP (evE W a ρ) (evO W l) (evO W h) ρ:=Eq.trans rfl rfl
@[simp] theorem wC:evE W (.tup es) ρ=eY (bM W es ρ):=Eq.trans rfl rfl
@[simp] theorem e_lst:evE W (.lst es) ρ=gZ (bM W es ρ):=Eq.trans rfl rfl
@[simp] theorem e_call{f n}:evE W (.call f n es) ρ=aD n (W.Φ f) (bM W es ρ):=Eq.trans rfl rfl
@[simp] theorem wD{f:Bn}:evE W (.bcall f es) ρ=eZ f.f (bM W es ρ):=Eq.trans rfl rfl
@[simp] theorem nF:evE W (.items a) ρ=gB (bI (evE W a ρ)):=Eq.trans rfl rfl
@[simp] theorem lB:evE W (.rng1 a) ρ=hG (c8 (evE W a ρ) (.ok [])):=Eq.trans rfl rfl
@[simp] theorem e_enum1:evE W (.enum1 a) ρ=gE (c8 (bI (evE W a ρ)) (.ok [])):=Eq.trans rfl rfl
@[simp] theorem wE:evE W .dnew ρ=.ok .fr (.dct []):=Eq.trans rfl rfl
@[simp] theorem e_deed{x tb}:evE W (.deed x tb a) ρ=jC tb (evE W a ρ):=Eq.trans rfl rfl
@[simp] theorem e_dzip:evE W (.dzip a b) ρ=iA (evE W a ρ) (evE W b ρ):=Eq.trans rfl rfl
@[simp] theorem e_callv{i fs n}:evE W (.callv i fs n es) ρ=kY W.Φ fs n (c7 ρ i) (bM W es ρ):=Eq.trans rfl rfl
@[simp] theorem e_dix:evE W (.dix a b) ρ=op2 ixK (evE W a ρ) (evE W b ρ):=Eq.trans rfl rfl
@[simp] theorem e_deq{neg}:evE W (.deq neg a b) ρ=op2 (eqN neg) (evE W a ρ) (evE W b ρ):=Eq.trans rfl rfl
@[simp] theorem e_din{neg}:evE W (.din neg a b) ρ=op2 (inK neg) (evE W a ρ) (evE W b ρ):=Eq.trans rfl rfl
@[simp] theorem gI{ts:List E}{aF t n}:evE W (.comp a b ts aF t n) ρ=bY (evE W b ρ) ρ aF n (aI t) (λρ=>evF W ts ρ) (λρ=>evE W a ρ):=Eq.trans rfl rfl
@[simp] theorem e_fmt:evE W (.fmt a) ρ=mZ (evE W a ρ):=Eq.trans rfl rfl
@[simp] theorem e_fstr:evE W (.fstr es) ρ=fN Str.empty (evL W es) ρ:=Eq.trans rfl rfl
@[simp] theorem el_nil:evL W []=[]:=by simp only[evL]
@[simp] theorem el_cons:evL W (a::es)=evE W a::evL W es:=by simp only[evL]
@[simp] theorem sg_nm{i:Nat}{d:D}:aI (.nm i) d ρ=some (ρ.set i (some (false,d))):=by simp only[aI]
@[simp] theorem sg_tp{ts:List Tg}{ds:List D}:aI (.tp ts) (.tup ds) ρ=cV ts ds ρ:=by simp only[aI]
@[simp] theorem sg_tpl{ts:List Tg}{ds:List D}:aI (.tp ts) (.lst ds) ρ=cV ts ds ρ:=by simp only[aI]
@[simp] theorem sgs_nil:cV [] [] ρ=some ρ:=by simp[cV]
@[simp] theorem sgs_cons{t:Tg}{ts:List Tg}{d:D}{ds:List D}:cV (t::ts) (d::ds) ρ=(aI t d ρ).bind (cV ts ds):=by simp only[cV];cases aI t d ρ <;> rfl
@[simp] theorem fmt_s{m:Md}{z:Str}:mZ (.ok m (.str z))=.ok .fz (.str z):=rfl
@[simp] theorem qO{t:Ty}:evE W (.tcall t es) ρ=eZ t.f (bM W es ρ):=Eq.trans rfl rfl
@[simp] theorem iC:bM W [] ρ=.ok []:=by simp only[bM]
@[simp] theorem gJ:bM W (a::es) ρ=c8 (evE W a ρ) (bM W es ρ):=by simp only[bM]
@[simp] theorem wF:evA W [a] ρ=evE W a ρ:=by simp only[evA]
@[simp] theorem wG:evA W (a::b::es) ρ=dZ (evE W a ρ) (evA W (b::es) ρ):=by simp only[evA]
@[simp] theorem wH:cX W [a] ρ=evE W a ρ:=by simp only[cX]
@[simp] theorem qP:cX W (a::b::es) ρ=orR (evE W a ρ) (cX W (b::es) ρ):=by simp only[cX]
@[simp] theorem qQ:evF W [] ρ=.ok .fz (.bl true):=by simp only[evF]
@[simp] theorem ef_cons:evF W (a::es) ρ=dZ (evE W a ρ) (evF W es ρ):=by simp only[evF]
@[simp] theorem eo_none:evO W none=none:=by simp only[evO]
@[simp] theorem eo_some:evO W (some a)=some (evE W a):=by simp only[evO]
@[simp] theorem lC:evS W (.ret a) ρ=e6 (evE W a ρ) ρ:=Eq.trans rfl rfl
@[simp] theorem wI{i}:evS W (.retV i) ρ=e7 ρ i:=Eq.trans rfl rfl
@[simp] theorem nG{i}:evS W (.set i a) ρ=d5 ρ i (evE W a ρ):=Eq.trans rfl rfl
@[simp] theorem nH{x y:List S}:evS W (.ite a x y) ρ=ifS (evE W a ρ) ρ (evB W x ρ) (evB W y ρ):=Eq.trans rfl rfl
@[simp] theorem qR{t:Tg}{y:List S}:evS W (.for a t y) ρ=dL (evE W a ρ) ρ (aI t) (evB W y):=Eq.trans rfl rfl
@[simp] theorem s_asg{t:Tg}:evS W (.asg t a) ρ=d8 t ρ (evE W a ρ):=Eq.trans rfl rfl
@[simp] theorem s_par{i j}:evS W (.par i j a b) ρ=i9 i j ρ (c8 (evE W a ρ) (c8 (evE W b ρ) (.ok []))):=Eq.trans rfl rfl
@[simp] theorem s_expr:evS W (.expr a) ρ=(evE W a ρ).thS ρ λ_ _=>.nx ρ:=Eq.trans rfl rfl
@[simp] theorem s_rz{c}:evS W (.rz c es) ρ=rzR c ρ (bM W es ρ):=Eq.trans rfl rfl
@[simp] theorem aJV{i}:evS W (.frzV i) ρ=kZ ρ i:=Eq.trans rfl rfl
@[simp] theorem aJW{i}:evS W (.dput i a b) ρ=fP ρ i (evE W a ρ) (evE W b ρ):=Eq.trans rfl rfl
@[simp] theorem s_setC{i}:evS W (.setC i false a) ρ=d5 ρ i (evE W a ρ):=Eq.trans rfl rfl
@[simp] theorem aJX{i}:evS W (.setC i true a) ρ=d5 ρ i (bI (evE W a ρ)):=Eq.trans rfl rfl
@[simp] theorem jN:evB W [] ρ=.nx ρ:=by simp only[evB]
@[simp] theorem bP{s:S}{r:List S}:evB W (s::r) ρ=(evS W s ρ).thn (evB W r):=by simp only[evB]
end
section
variable {m n:Md}{i j:Int}{ρ:Rho}{d:D}
@[simp] theorem x_add:op2 (aT .Add) (.ok m (.int i)) (.ok n (.int j))=.ok .fz (.int (i+j)):=rfl
@[simp] theorem x_band:op2 (aT .BitAnd) (.ok m (.int i)) (.ok n (.int j))=.ok .fz (.int (Builtin.bitAnd i j)):=rfl
@[simp] theorem x_bor:op2 (aT .BitOr) (.ok m (.int i)) (.ok n (.int j))=.ok .fz (.int (Builtin.bitOr i j)):=rfl
@[simp] theorem x_shl(h:0<=j)(h1:j<=1000000)(h2:i.natAbs<2 ^ 64):op2 (aT .LShift) (.ok m (.int i)) (.ok n (.int j))=.ok .fz (.int (i * 2 ^ j.toNat)):=by
 show (match (if (decide (0<=j)&&decide (j<=1000000)&&decide (i.natAbs<2 ^ 64))=true then some (Md.fz,D.int (i * 2 ^ j.toNat)) else none) with | some (m,d)=>Res.ok m d | none=>.stuck)=_
 rw[aOP h,aOP h1,aOP h2];rfl
@[simp] theorem x_shr(h:0<=j):op2 (aT .RShift) (.ok m (.int i)) (.ok n (.int j))=.ok .fz (.int (i / 2 ^ j.toNat)):=by
 show (match (if decide (0<=j)=true then some (Md.fz,D.int (i / 2 ^ j.toNat)) else none) with | some (m,d)=>Res.ok m d | none=>.stuck)=_
 rw[aOP h];rfl
@[simp] theorem x_sub:op2 (aT .Sub) (.ok m (.int i)) (.ok n (.int j))=.ok .fz (.int (i-j)):=rfl
@[simp] theorem x_lt:op2 (bF .Lt) (.ok m (.int i)) (.ok n (.int j))=.ok .fz (.bl (decide (i<j))):=rfl
@[simp] theorem x_le:op2 (bF .LtE) (.ok m (.int i)) (.ok n (.int j))=.ok .fz (.bl (decide (i<=j))):=rfl
@[simp] theorem x_gt:op2 (bF .Gt) (.ok m (.int i)) (.ok n (.int j))=.ok .fz (.bl (decide (j<i))):=rfl
@[simp] theorem x_ge:op2 (bF .GtE) (.ok m (.int i)) (.ok n (.int j))=.ok .fz (.bl (decide (j<=i))):=rfl
@[simp] theorem gK(h:0<j):op2 (aT .Mod) (.ok m (.int i)) (.ok n (.int j))=.ok .fz (.int (i % j)):=by show Res.of (if decide (0<j)=true then _ else _)=_;rw[if_pos (aOP h)];rfl
theorem x_div(h:0<j)(hb:bW j=true):op2 (aT .FloorDiv) (.ok m (.int i)) (.ok n (.int j))=.ok .fz (.int (i / j)):=by show Res.of (if (decide (0<j)&&bW j)=true then _ else _)=_;rw[if_pos (by rw[hb,aOP h];rfl)];rfl
theorem aJY(h:i.natAbs<10 ^ 2000):bW i=true:=by
 unfold bW;refine aOP ?_;by_cases h0:i.natAbs=0
 . rw[h0];decide
 . refine (Nat.log2_lt h0).mpr (Nat.lt_trans h ?_);decide +kernel
theorem aJZ{N:Nat}(h:i.natAbs<=N)(hN:N<10 ^ 2000:=by decide +kernel):bW i=true:=aJY (aQJ h hN)
@[simp] theorem aJ0(h:0<j)(hb:j.natAbs<=1000000000):op2 (aT .FloorDiv) (.ok m (.int i)) (.ok n (.int j))=.ok .fz (.int (i / j)):=x_div h (aJZ hb)
theorem aJ1(h:((bW i&&bW j)||(w64 i||w64 j))=true):op2 (aT .Mult) (.ok m (.int i)) (.ok n (.int j))=.ok .fz (.int (i * j)):=by show Res.of (((if ((bW i&&bW j)||(w64 i||w64 j))=true then _ else _:Option (Md×D)).orElse _).orElse _)=_;rw[if_pos h];rfl
theorem iD(h:j.natAbs<9000000000000000000):op2 (aT .Mult) (.ok m (.int i)) (.ok n (.int j))=.ok .fz (.int (i * j)):=aJ1 (by
 have:w64 j=true:=aOP (by omega)
 rw[this];simp)
theorem bL{φ:Md->D->Md->D->Option (Md×D)}{x y d:D}{k:Md}(h:φ m x n y=some (k,d)):op2 φ (.ok m x) (.ok n y)=.ok k d:=by show Res.of (φ m x n y)=_;rw[h];rfl
@[simp] theorem qS:op2 (bF .Eq) (.ok m (.int i)) (.ok n (.int j))=.ok .fz (.bl (i==j)):=bL rfl
@[simp] theorem x_neI:op2 (bF .NotEq) (.ok m (.int i)) (.ok n (.int j))=.ok .fz (.bl (i != j)):=bL rfl
@[simp] theorem x_eqB{a b:Bool}:op2 (bF .Eq) (.ok m (.bl a)) (.ok n (.bl b))=.ok .fz (.bl (a==b)):=bL rfl
@[simp] theorem x_neB{a b:Bool}:op2 (bF .NotEq) (.ok m (.bl a)) (.ok n (.bl b))=.ok .fz (.bl (a != b)):=bL rfl
@[simp] theorem wJ{a b:Str}:op2 (bF .Eq) (.ok m (.str a)) (.ok n (.str b))=.ok .fz (.bl (a==b)):=bL (by rfl)
@[simp] theorem x_neS{a b:Str}:op2 (bF .NotEq) (.ok m (.str a)) (.ok n (.str b))=.ok .fz (.bl (a != b)):=bL (by rfl)
@[simp] theorem x_inS{a b:Str}:op2 (bF .In) (.ok m (.str a)) (.ok n (.str b))=.ok .fz (.bl (iV a b)):=bL rfl
@[simp] theorem x_notinS{a b:Str}:op2 (bF .NotIn) (.ok m (.str a)) (.ok n (.str b))=.ok .fz (.bl (!iV a b)):=bL rfl
@[simp] theorem aJ2{a b:Str}(h:a.length+b.length<=sizeLine):op2 (aT .Add) (.ok m (.str a)) (.ok n (.str b))=.ok .fz (.str (a++b)) :=
 bL (by
  have:fS (λi j=>decide (i.length+j.length<=sizeLine)) (λi j=>D.str (i++j)) m (.str a) n (.str b)=some (Md.fz,D.str (a++b)):=by show (if decide (a.length+b.length<=sizeLine)=true then some (Md.fz,D.str (a++b)) else none)=_;rw[if_pos (aOP h)]
  show orO (orO (fI (λ_ _=>true) λi j=>.int (i+j)) (fS (λi j=>decide (i.length+j.length<=sizeLine)) λi j=>.str (i++j))) mV m (.str a) n (.str b)=_;simp only[orO,this];rfl)
@[simp] theorem x_isN{d:D}:op2 (bF .Is) (.ok m d) (.ok n .non)=.ok .fz (.bl (d7 d)):=bL rfl
@[simp] theorem x_isnotN{d:D}:op2 (bF .IsNot) (.ok m d) (.ok n .non)=.ok .fz (.bl (!d7 d)):=bL rfl
@[simp] theorem wK{x y:List D}(h:x.length+y.length<=sizeLine):op2 (aT .Add) (.ok m (.lst x)) (.ok n (.lst y))=.ok .fr (.lst (x++y)):=bL (by
 show (if x.length+y.length<=sizeLine then some (Md.fr,D.lst (x++y)) else none)=_;rw[if_pos h])
@[simp] theorem lD{x y:List D}(h:x.length+y.length<=sizeLine):op2 (aT .Add) (.ok m (.tup x)) (.ok n (.tup y))=.ok .fz (.tup (x++y)):=bL (by
 show (if x.length+y.length<=sizeLine then some (Md.fz,D.tup (x++y)) else none)=_;rw[if_pos h])
@[simp] theorem isn_n:d7 .non=true:=rfl
@[simp] theorem isn_i{i:Int}:d7 (.int i)=false:=rfl
@[simp] theorem isn_b{i:Bool}:d7 (.bl i)=false:=rfl
@[simp] theorem isn_s{i:Str}:d7 (.str i)=false:=rfl
@[simp] theorem isn_t{i:List D}:d7 (.tup i)=false:=rfl
@[simp] theorem isn_l{i:List D}:d7 (.lst i)=false:=rfl
@[simp] theorem x_andT{y:Res}:dZ (.ok m (.bl true)) y=y:=rfl
@[simp] theorem x_andF{y:Res}:dZ (.ok m (.bl false)) y=.ok .fz (.bl false):=rfl
@[simp] theorem x_orT{y:Res}:orR (.ok m (.bl true)) y=.ok .fz (.bl true):=rfl
@[simp] theorem x_orF{y:Res}:orR (.ok m (.bl false)) y=y:=rfl
@[simp] theorem x_and{a b:Bool}:dZ (.ok m (.bl a)) (.ok .fz (.bl b))=.ok .fz (.bl (a&&b)):=by cases a <;> rfl
@[simp] theorem x_or{a b:Bool}:orR (.ok m (.bl a)) (.ok .fz (.bl b))=.ok .fz (.bl (a||b)):=by cases a <;> rfl
@[simp] theorem x_not{a:Bool}:kJ (.ok m (.bl a))=.ok .fz (.bl (!a)):=rfl
@[simp] theorem x_tru{a:Bool}:kH (.ok m (.bl a))=.ok .fz (.bl a):=rfl
@[simp] theorem x_truI:kH (.ok m (.int i))=.ok .fz (.bl (i != 0)):=rfl
@[simp] theorem wL{x y:aB}:ifS (.ok m (.bl true)) ρ x y=x:=rfl
@[simp] theorem wM{x y:aB}:ifS (.ok m (.bl false)) ρ x y=y:=rfl
@[simp] theorem nI:bI (.ok .fz d)=.ok .fz d:=rfl
@[simp] theorem x_frr:bI (.ok .fr d)=.ok .fz d:=rfl
@[simp] theorem wN{k:Nat}:d5 ρ k (.ok .fz d)=.nx (ρ.set k (some (false,d))):=rfl
@[simp] theorem wO{k:Nat}:d5 ρ k (.ok .fr d)=.nx (ρ.set k (some (true,d))):=rfl
@[simp] theorem x_ret:e6 (.ok .fz d) ρ=.rt .fz d:=rfl
@[simp] theorem x_retr:e6 (.ok .fr d) ρ=.rt .fr d:=rfl
@[simp] theorem g_0{r:Rho}:c7 (some (false,d)::r) 0=.ok .fz d:=rfl
@[simp] theorem g_0b{r:Rho}:c7 (some (true,d)::r) 0=.ok .bo d:=rfl
@[simp] theorem g_s{x:Option (Bool×D)}{r:Rho}{i:Nat}:c7 (x::r) (i+1)=c7 r i:=rfl
@[simp] theorem g_1{x:Option (Bool×D)}{r:Rho}:c7 (x::r) 1=c7 r 0:=rfl
@[simp] theorem rs_0{r:Rho}:e7 (some (false,d)::r) 0=.rt .fz d:=rfl
@[simp] theorem rs_0b{r:Rho}:e7 (some (true,d)::r) 0=.rt .fr d:=rfl
@[simp] theorem rs_1{x:Option (Bool×D)}{r:Rho}:e7 (x::r) 1=e7 r 0:=rfl
@[simp] theorem rs_s{x:Option (Bool×D)}{r:Rho}{i:Nat}:e7 (x::r) (i+1)=e7 r i:=rfl
@[simp] theorem r_set0{x y:Option (Bool×D)}{r:Rho}:(x::r).set 0 y=y::r:=rfl
@[simp] theorem aJ3{f:List (Md×D)->Option (Md×D)}{xs:List (Md×D)}:eZ f (.ok xs)=Res.of (f xs):=rfl
@[simp] theorem aJ4:Bn.f .len=f9:=rfl
@[simp] theorem bn_isi:Bn.f .isinstance=mP:=rfl
@[simp] theorem ty_int:Ty.f .int=jA:=rfl
@[simp] theorem ty_str:Ty.f .str=kS:=rfl
@[simp] theorem ty_tuple:Ty.f .tuple=i6:=rfl
@[simp] theorem ty_dict:Ty.f .dict=kX:=rfl
@[simp] theorem ty_list:Ty.f .list=i7:=rfl
@[simp] theorem tci_i{i:Int}:jA [(m,.int i)]=some (.fz,.int i):=rfl
@[simp] theorem tci_b{i:Bool}:jA [(m,.bl i)]=some (.fz,.int (if i then 1 else 0)):=rfl
@[simp] theorem tct_l{i:List D}:i6 [(m,.lst i)]=some (.fz,.tup i):=rfl
@[simp] theorem tct_t{i:List D}:i6 [(.fz,.tup i)]=some (.fz,.tup i):=rfl
@[simp] theorem tcl_l{i:List D}:i7 [(m,.lst i)]=some (.fr,.lst i):=rfl
@[simp] theorem tcl_t{i:List D}:i7 [(m,.tup i)]=some (.fr,.lst i):=rfl
@[simp] theorem tcs_i{i:Int}(h:mW i=true):kS [(m,.int i)]=some (.fz,.str (i8 i)):=by show (if mW i=true then _ else _)=_;rw[if_pos h]
@[simp] theorem bn_all:Bn.f .all=iY:=rfl
@[simp] theorem len_s{z:Str}:f9 [(m,.str z)]=some (.fz,.int z.length):=rfl
@[simp] theorem len_l{z:List D}:f9 [(m,.lst z)]=some (.fz,.int z.length):=rfl
@[simp] theorem len_t{z:List D}:f9 [(m,.tup z)]=some (.fz,.int z.length):=rfl
@[simp] theorem itm_l{z:List D}:gB (.ok m (.lst z))=.ok .fz (.lst z):=rfl
@[simp] theorem itm_t{z:List D}:gB (.ok m (.tup z))=.ok .fz (.lst z):=rfl
@[simp] theorem itm_s{z:Str}:gB (.ok m (.str z))=.ok .fz (.lst (i3 z)):=rfl
end
@[simp] theorem WT_xf{t:TB}{k:Nat}:(WT t k).xf=λc x=>t.xt.lookup (c,x):=by unfold WD.xf;rw[vX]
@[simp] theorem WT_xg{t:TB}{k:Nat}:(WT t k).xg=λc x=>t.xi.lookup (c,x):=by unfold WD.xg;rw[vY]
@[simp] theorem x_rz{c:Str}{ρ:Rho}{xs:List (Md×D)}(h:xs.length<=sizeLine):rzR c ρ (.ok xs)=.exc c ρ:=by show (if xs.length<=sizeLine then _ else _)=_;rw[if_pos h]
section
variable {c x:Str}{ρ ρ':Rho}{m:Md}{d:D}{xt:Str->Str->Option Bool}{hs:List HX}{g:Rho->aB}
@[simp] theorem x_frx:bI (.exc c)=.exc c:=rfl
@[simp] theorem x_setx{k:Nat}:d5 ρ k (.exc c)=.exc c ρ:=rfl
@[simp] theorem x_retx:e6 (.exc c) ρ=.exc c ρ:=rfl
end
theorem aJ{n N:Nat}{g:Rho->aB}{ds:List D}{m:Md}{d:D}(hl:ds.length=n)(h:g (fM N ds)=.rt m d):phi n N g ds=.ok m d:=by unfold phi;rw[if_pos hl,h];rfl
theorem iE{n:Nat}{Φ:List D->Res}{xs:List (Md×D)}{ds:List D}{d:D}(hl:ds.length=n)(ha:cK xs=some ds)(h:Φ ds=.ok .fz d):aD n Φ (.ok xs)=.ok .fz d:=by
 show (match cK xs with | some ds=>if ds.length=n then (match Φ ds with | .ok .bo _=>Res.stuck | r=>r) else .stuck | none=>.stuck)=_
 rw[ha];show (if ds.length=n then _ else _)=_;rw[if_pos hl,h]
@[simp] theorem nJ{Φ:List D->Res}{a d:D}(h:Φ [a]=.ok .fz d):aD 1 Φ (.ok [(.fz,a)])=.ok .fz d:=iE (ds:=[a]) rfl rfl h
@[simp] theorem aY{Φ:List D->Res}{a b d:D}(h:Φ [a,b]=.ok .fz d):aD 2 Φ (.ok [(.fz,a),(.fz,b)])=.ok .fz d:=iE (ds:=[a,b]) rfl rfl h
@[simp] theorem cZ{Φ:List D->Res}{a b c d:D}(h:Φ [a,b,c]=.ok .fz d):aD 3 Φ (.ok [(.fz,a),(.fz,b),(.fz,c)])=.ok .fz d:=iE (ds:=[a,b,c]) rfl rfl h
@[simp] theorem wt_cl{t:TB}{k:Nat}:(WT t k).cl=t.cl:=nE t k
theorem aW{t:TB}{k:Nat}{f:Str}{d:FD}(h:t.T.lookup f=some d):(WT t (k+1)).Φ f=phi d.ps.length d.N.length (evB (WT t k) d.b):=by rw[WT_Φ];unfold k6;rw[h]
@[simp] theorem eE{Φ:List D->Res}{a b c e d:D}(h:Φ [a,b,c,e]=.ok .fz d):aD 4 Φ (.ok [(.fz,a),(.fz,b),(.fz,c),(.fz,e)])=.ok .fz d:=iE (ds:=[a,b,c,e]) rfl rfl h
theorem bB{W:WD}:∀ {x y:List D3.S} {ρ:Rho},evB W (x++y) ρ=(evB W x ρ).thn (evB W y)
 | [],y,ρ=>by simp
 | s::x,y,ρ=>by
  show evB W (s::(x++y)) ρ=_;rw[bP,bP];cases evS W s ρ with
  | nx ρ'=>exact bB
  | _=>rfl
theorem wP{k:D->Rho->Option Rho}{t e:Rho->Res}{ρ0:Rho}{f:D->D}:∀ {ds:List D},(∀ d∈ds,∃ ρ1 m,k d ρ0=some ρ1/\t ρ1=.ok m (.bl true)/\∃ m',bI (e ρ1)=.ok m' (f d))->bD k t e ρ0 ds=some (ds.map f)
 | [],_=>rfl
 | d::ds,h=>by obtain ⟨ρ1,m,e1,e2,m',e3⟩:=h d mcs;unfold bD;rw[e1];dsimp only;rw[e2];dsimp only;rw[e3];dsimp only;rw[wP λd hd=>h d (mcm hd)];rfl
theorem wQ{ρ:Rho}{aF:List Nat}{n:Nat}{k:D->Rho->Option Rho}{t e:Rho->Res}{m:Md}{ds:List D}(f:D->D)(hl:ds.length<sizeLine)(h:∀ d∈ds,∃ ρ1 m,k d (cL aF ρ++List.replicate n none)=some ρ1/\t ρ1=.ok m (.bl true)/\∃ m',bI (e ρ1)=.ok m' (f d)):bY (.ok m (.lst ds)) ρ aF n k t e=.ok .fr (.lst (ds.map f)):=by unfold bY;rw[Res.thn_ok];dsimp only;rw[if_pos hl,wP h]
end D3
namespace Tp
open PySem PySem.W PySem.Calls
structure S where
 t:BT
 n:Nat
 k:Nat
 nm:Value
 g:List DictEntry
 tb:List Value
def tupO(vs:List Value):Obj:=⟨.type "tuple", none,.seq vs.toArray 0,#[]⟩
def fldO(c:Value)(vs:List Value):Obj:=⟨c,none,.fields vs.toArray,#[]⟩
def dicO(es:List DictEntry)(e:Nat):Obj:=⟨.type "dict", none,.dict es.toArray e,#[]⟩
def en(P:Params)(x:Str)(k:Nat)(v:Value):DictEntry:=⟨PyData.keyHash P x,.str x k,v⟩
def texts:List Str->Nat->List Value
 | [],_=>[]
 | x::xs,k=>.str x k::texts xs (k+1)
def fileS:Str := "/claim/cut.py"
def codeO(name aQ:Str)(k line argc fl:Nat)(isF:Bool)(a:Nat)(ls cs tm:Value)(j:Nat):Obj :=
 fldO (.type "code") [.str name k,.str aQ (k+1),.str fileS (k+2),.int line 0,.int argc 0,.int 0 0,.int 0 0,.int fl 0,.ref a,.bool isF,.int 181 0,.ref (a+1),.none,ls,cs,tm,.int j 0,.int line 0,.str fileS (j+1)]
def frmO(code ns:Nat)(nm:Value):Obj:=⟨.type "frame", none,.plain,#[some (.ref code),some (.ref 3),some (.ref ns),none,some nm,none,some (.ref 0)]⟩
def fnD(name aQ:Str)(args:Arguments)(body:List Stmt)(sc:Scope)(gl:Nat)(nm cd:Value):FuncData:=⟨name,aQ,args,.stmts body,sc,gl,[],.none,.none,.none,nm,none,cd,.none,0⟩
def insL:List Obj->BT->Nat->BT
 | [],t,_=>t
 | o::os,t,n=>insL os (t.ins n o) (n+1)
def layF(name aQ:Str)(args:Arguments)(body:List Stmt)(sc:Scope)(line n k:Nat)(nm:Value):List Obj×Nat×Nat :=
 match localNames args sc (.stmts body) with
 | some (ls,cs) =>
  let a:=ls.length
  let b:=cs.length
  ([tupO [],fldO .none [],tupO (texts ls (k+3)),tupO (texts cs (k+3+a)),⟨.none,none,.func (fnD name aQ args body sc 0 .none .none),#[]⟩,
   codeO name aQ k line args.args.length 3 true n (.ref (n+2)) (.ref (n+3)) (.ref (n+4)) (k+3+a+b),⟨.type "function", none,.func (fnD name aQ args body sc 3 nm (.ref (n+5))),#[]⟩],n+5,k+5+a+b)
 | none =>
  ([tupO [],fldO .none [],⟨.none,none,.func (fnD name aQ args body sc 0 .none .none),#[]⟩,
   codeO name aQ k line args.args.length 3 true n .none .none (.ref (n+2)) (k+3),⟨.type "function", none,.func (fnD name aQ args body sc 3 nm (.ref (n+3))),#[]⟩],n+3,k+5)
def look(x:Str):List DictEntry->Option Value
 | []=>none
 | ⟨_,.str y _,v⟩::es=>match decide (x=y) with | true=>some v | false=>look x es
 | _::es=>look x es
structure B where
 t:BT
 n:Nat
 k:Nat
 es:List DictEntry
 tb:List Value
def layB(P:Params)(cn:Str)(nm:Value):List Stmt->B->B
 | .FunctionDef name args body _ _ _ sc _ _ pos::r,⟨t,n,k,es,tb⟩ =>
  match layF name (cn ++ "." ++ name) args body sc pos.line n k nm with
  | (os,c,j)=>layB P cn nm r ⟨insL os t n,n+os.length,j+1,en P name j (.ref (c+1))::es,.ref c :: .int pos.col 0 :: .int pos.line 0::tb⟩
 | _::r,b=>layB P cn nm r b
 | [],b=>b
def mroOf(t:BT)(a:Nat):List Value×Value:=match t.get a with
 | some ⟨_,_,.cls c,sl⟩=>(c.mro,(sl.getD 4 none).getD .none)
 | _=>([],.none)
def subTo(a:Nat):Obj->Obj
 | ⟨c,d,.cls k,sl⟩=>⟨c,d,.cls { k with subclasses:=k.subclasses++[.ref a] },sl⟩
 | o=>o
def layC(P:Params)(name:Str)(bases:List PySem.Expr)(body:List Stmt)(st:List Str)(line:Nat):S->S
 | ⟨t,n,k,nm,g,tb⟩ =>
  let bs:List Value:=match bases with
   | .Name b _::_=>(match look b g with | some v=>[v] | none=>[.type "ValueError"])
   | _=>[]
  let n2:=n+2
  let t1:=insL [tupO bs,fldO (.type "builtin_function_or_method") [.builtin "type.__prepare__", .type "type"],dicO [] 0,tupO [],fldO .none [],codeO name name (k+2) line 0 0 false (n+3) .none .none .none (k+5),frmO (n+5) n2 nm] t n
  match layB P name nm body ⟨t1,n+7,k+12,[en P "__firstlineno__" (k+11) (.int line (k+10)),en P "__qualname__" (k+9) (.str name (k+8)),en P "__module__" (k+7) nm],[]⟩ with
  | ⟨t2,m,j,es,ct⟩ =>
   let es1:=en P "__static_attributes__" (j+st.length) (.ref m)::es
   let j1:=j+st.length+1
   let t3:=(t2.set n2 λ_=>dicO es1.reverse es1.length).set (n+4) λ_=>fldO .none ct.reverse
   let cl:=m+2
   let cp:=(es1.reverse.take 1)++(es1.reverse.drop 2)
   let fin (mro:List Value) (nw:Value) (bv:List Value) (sl0:Option Value) (xs:List DictEntry) (gs:List Obj) (t:BT) (j:Nat):S :=
    let os:=[tupO (texts st (m-m+(j1-1-st.length))),dicO (cp++xs++[en P "__doc__" j .none]) (2+xs.length),⟨.type "type", none,.cls ⟨name,bv,.ref cl::mro,m+1,name,true,[],[],false,none,false⟩,#[sl0,none,some (.str name k),some (.str name (k+8)),some nw,some (.bool true)]⟩]
     ++ gs++[fldO (.type "super") [.ref cl,.ref cl,.ref cl],fldO (.type "builtin_function_or_method") [.builtin "object.__init_subclass__", .ref cl]]
    ⟨insL os t m,m+os.length,j+3,nm,en P name (j+2) (.ref cl)::g,.ref (n+5) :: .int 0 0 :: .int line 0::tb⟩
   let gw (j a:Nat):=fldO (.type "getset_descriptor") [.str "__weakref__" j,.ref cl,.builtin "ExceptionGroup.__weakref__", .none]
   match bs with
   | [] => fin [.type "object"] (.builtin "object.__new__") [.type "object"] none [en P "__dict__" (j1 + 1) (.ref (m + 3)), en P "__weakref__" (j1 + 3) (.ref (m + 4))]
       [fldO (.type "getset_descriptor") [.str "__dict__" j1,.ref cl,.builtin "function.__dict__", .builtin "function.__dict__#set"],gw (j1+2) 0] t3 (j1+4)
   | .ref a::_=>match mroOf t3 a with
    | (mro,nw)=>fin mro nw bs (some (.ref n)) [] [] (t3.set a (subTo cl)) j1
   | _=>fin [.type "ValueError", .type "Exception", .type "BaseException", .type "object"] (.builtin "ValueError.__new__") bs (some (.ref n)) [en P "__weakref__" (j1+1) (.ref (m+3))] [gw j1 0] t3 (j1+2)
def keysD(P:Params)(g:List DictEntry):List (Option PySem.Expr)->List PySem.Expr->Nat->List DictEntry
 | some (.Constant (.str x) _ _)::ks,.Name y _::vs,k=>en P x k ((look y g).getD .none)::keysD P g ks vs (k+1)
 | _,_,_=>[]
def put(P:Params)(x:Str)(v:Value)(t:BT)(n k:Nat)(nm:Value)(g:List DictEntry)(tb:List Value):S:=match decide (x = "__name__") with
 | true=>⟨t,n,k+1,v,g,tb⟩
 | false=>⟨t,n,k+1,nm,en P x k v::g,tb⟩
def lay1(P:Params):Stmt->S->S
 | .FunctionDef name args body _ _ _ sc _ _ pos,⟨t,n,k,nm,g,tb⟩=>match layF name name args body sc pos.line n k nm with
  | (os,c,j)=>⟨insL os t n,n+os.length,j+1,nm,en P name j (.ref (c+1))::g,.ref c :: .int pos.col 0 :: .int pos.line 0::tb⟩
 | .ClassDef name bases _ body _ _ _ _ _ st pos,s=>layC P name bases body st pos.line s
 | .Assign [.Name x _] (.Constant (.str v) _ _) _,⟨t,n,k,nm,g,tb⟩=>put P x (.str v k) t n (k+1) nm g tb
 | .Assign [.Name x _] (.Constant (.int v) _ _) _,⟨t,n,k,nm,g,tb⟩=>put P x (.int v k) t n (k+1) nm g tb
 | .Assign [.Name x _] (.Dict ks vs _) _,⟨t,n,k,nm,g,tb⟩=>put P x (.ref n) (t.ins n (dicO (keysD P g ks vs k) vs.length)) (n+1) (k+2 * vs.length) nm g tb
 | _,s=>s
def lay(P:Params):List Stmt->S->S
 | [],s=>s
 | st::r,s=>lay P r (lay1 P st s)
def s0(os:List Obj):S :=
 ⟨insL [tupO [],fldO .none [],codeO "<module>" "<module>" 182 1 0 0 false 11 .none .none .none 185,frmO 13 3 (.str "__main__" 164)] (insL os .nil 0) 11,15,187,.str "__main__" 164,[],[]⟩
def nameTo(nm:Value):List DictEntry->List DictEntry
 | e::es=>{ e with val:=nm }::es
 | []=>[]
def mainTo(nm:Value)(g:List DictEntry):Obj->Obj
 | ⟨c,d,.dict es e,sl⟩=>⟨c,d,.dict (nameTo nm es.toList++g.reverse).toArray (e+g.length),sl⟩
 | o=>o
def S.bt(s:S):BT:=(s.t.set 3 (mainTo s.nm s.g)).set 12 λ_=>fldO .none s.tb.reverse
open PyProof.Rows
def z0:Pos:=⟨0,0,0,0⟩
def an:Option Value:=some (.ref 6)
def ev(p:Program):Env:={ scope:=p.main.scope,locals:=mainNs,globals:=mainNs,cells:=[],code:=.ref 13,frame:=some 14 }
def cd(p:Program):Code:=.body (behindTheImports p) (ev p)
def go(tb:String->Option Builtin)(p:Program)(w:World)(F:Nat):List Stmt->SharedT->Code->Pos->Option (SharedT×Code×Pos)
 | [],s,c,q=>some (s,c,q)
 | st::l,s,c,q=>match segRunT tb p w 11 an 1 F s (pieceOf st (ev p) c q [topFrame z0]) with
  | some (.next,s',c',q')=>go tb p w F l s' c' q'
  | _=>none
def ns(F N:Nat):List Stmt->Nat
 | []=>N
 | _::l=>F+ns F N l
section
variable {tb:String->Option Builtin}{p:Program}{w:World}
theorem one{n N:Nat}{s s' r:Shared}{st:Stmt}{a8:List Stmt}{c c':Code}{e:Env}{q q':Pos}(h:segRun tb p w 11 an 1 n s (pieceOf st e c q [topFrame z0])=some (.next,s',c',q'))(k:topRun tb p w 11 an N s' (restOf a8 e c' q' [topFrame z0])=some r):topRun tb p w 11 an (n+N) s (restOf (st::a8) e c q [topFrame z0])=some r:=by
 obtain ⟨a,ha,hN⟩:=seg_top (B:=[topFrame z0]) (res:=id)
  (K':=λf=>match f with
   | .next=>(execs a8 e).wrap doneF (leaveH e) id id
   | f=>doneF f)
  (H':=leaveH e) rfl n s (pieceOf st e c q [topFrame z0])
  ⟨(exec st e).wrap (λf=>match f with
   | .next=>(execs a8 e).wrap doneF (leaveH e) id id
   | f=>doneF f) (leaveH e) id id,c,q,[topFrame z0]⟩ _ _ _ _ ⟨rfl,rfl,.inl ⟨rfl,rfl,_,rfl,rfl⟩⟩ h
 cases ha;unfold restOf;rw[execs_cons_wrap];exact hN N r k
theorem go_top'{F:Nat}:∀ (l:List Stmt) {s s':SharedT} {c c':Code} {q q':Pos},go tb p w F l s c q=some (s',c',q')->∀ {N:Nat} {r:Shared} {a8:List Stmt},topRun tb p w 11 an N s'.abs (restOf a8 (ev p) c' q' [topFrame z0])=some r->topRun tb p w 11 an (ns F N l) s.abs (restOf (l++a8) (ev p) c q [topFrame z0])=some r
 | [],_,_,_,_,_,_,h,_,_,_,k=>by cases h;exact k
 | st::l,s,s',c,c',q,q',h,N,r,a8,k=>by
  unfold go at h;split at h
  . rename_i x e;exact one (segRun_of e) (go_top' l h k)
  . cases h
theorem fin2(s:Shared)(c:Code)(q:Pos):topRun tb p w 11 an 2 s (restOf [] (ev p) c q [topFrame z0])=some s:=by obtain ⟨h,g,d,k,o⟩:=s;rfl
noncomputable def sh(P:Params)(S:S)(n k:Nat)(os:OsState):SharedT:=⟨S.bt,n,(boot_heap P).life,#[],boot_drawn,k,os⟩
noncomputable def sA(P:Params):S:=s0 (boot_heap P).objs.toList
theorem run_of{l:List Stmt}{n k:Nat}{c':Code}{q':Pos}(hl:behindTheImports p=l)(pre:∀ (w:World) (os:OsState),topGo treeTable p w 11 an 12 ⟨boot_heap w.params,#[],boot_drawn,boot_toks,os⟩ (topStub p)=some ((sh w.params (sA w.params) 15 187 os).abs,⟨denote treeTable (cd p),cd p,z0,[topFrame z0]⟩))(blk:∀ (w:World) (s:Shared),segRun treeTable p w 11 an 1 1 s (blockOf l (ev p) (cd p) z0 [topFrame z0])=some (.next,s,cd p,z0))(run:∀ (w:World) (os:OsState),go treeTable p w 1000 l (sh w.params (sA w.params) 15 187 os) (cd p) z0=some (sh w.params (lay w.params l (sA w.params)) n k os,c',q')):∀ (w:World) (os:OsState),topRun treeTable p w 11 an (12+(1+ns 1000 2 l)) ⟨boot_heap w.params,#[],boot_drawn,boot_toks,os⟩ (topStub p)=some (sh w.params (lay w.params l (sA w.params)) n k os).abs:=by
 intro w os;refine go_top (pre w os) ?_;unfold cd;rw[hl];refine piece_block (n:=1) (by have:=blk w (sh w.params (sA w.params) 15 187 os).abs;unfold cd at this;rw[hl] at this;exact this) ?_
 have:=go_top' l (run w os) (a8:=[]) (fin2 _ _ _);rw[aNP] at this;unfold cd at this;rw[hl] at this;exact this
end
noncomputable def KK(l:List Stmt)(as:List Addr)(P:Params):Frag:=as.map λa=>(a,((lay P l (sA P)).bt.get a).getD default)
theorem KK_e(l:List Stmt)(as:List Addr)(P:Params):as=(KK l as P).map (·.1):=by unfold KK;rw[List.map_map];exact (List.map_id as).symm
noncomputable def hk(l:List Stmt)(as:List Addr):Hook:=kHook (KK l as) as (KK_e l as)
noncomputable def H1(l:List Stmt)(n:Nat)(P:Params):Heap:=absHeap (lay P l (sA P)).bt n (boot_heap P).life
noncomputable def S1(l:List Stmt)(n k:Nat)(P:Params)(os:OsState):Shared:=⟨H1 l n P,#[],boot_drawn,k,os⟩
def bnd(n:Str):Stmt->List Str
 | .FunctionDef x ..=>if x==n then [] else [x]
 | .ClassDef x ..=>[x]
 | .Assign [.Name x _] _ _=>if x == "__name__" then [] else [x]
 | _=>[]
def los(l:List Stmt):List Str:=l.flatMap (bnd "law")
def vw(p:Program):Program:={ p with main:={ p.main with body:=p.main.body.filter λst=>match st with | .FunctionDef x ..=>x == "law" | _=>false } }
def xt(r:OpenRow)(s:Shared):Bool:=xlAt (vw r.prog) [] s&&recOk r.toRowW.records s
theorem size1(w:World):((boot_heap w.params).isNs mainGlobals&&(#[]:Array GenState).size==0,(boot_heap w.params).objs.size,(boot_heap w.params).nsMap mainGlobals "__annotations__")=(true,11,an):=by kernel_rfl
end Tp
theorem Tp.twA:Prod.fst (true,(@Tp.go,@Tp.lay,@Tp.sh,@Tp.sA,@Tp.cd,@Tp.ev,@Tp.S.bt,@Tp.KK,@Tp.hk,@Tp.H1,@Tp.S1,@Tp.los,@Tp.vw,@Tp.xt))=true:=by k_qdec
namespace D3
open PySem PySem.Spec PySem.Calls PyProof.Rows L2
theorem wR:∀ {ps:List Str} {us:List Value},ps.Nodup->us.length=ps.length->ps.filterMap (λn=>((ps.zip us).lookup n).map (n,·))=ps.zip us/\∀ n∈ps,((ps.zip us).lookup n).isNone=false
 | [],us,_,_=>⟨rfl,λ_ h=>by cases h⟩
 | p::ps,[],_,h=>by cases h
 | p::ps,u::us,nd,h=>by
  obtain ⟨h1,h2⟩:=aNQ.mp nd;obtain ⟨i1,i2⟩:=wR (us:=us) h2 (Nat.succ.inj h);have e:∀ n∈ps,((p,u)::ps.zip us).lookup n=(ps.zip us).lookup n:=λn hn=>by rw[aPM];have:(n==p)=false:=aMN.mpr λz=>h1 (z ▸ hn);rw[this]
  refine ⟨?_,λn hn=>?_⟩
  . rw[List.zip_cons_cons,aMZ,aPM,aPN];dsimp only[Option.map];refine congrArg _ (Eq.trans ?_ i1);have c:∀ l:List Str,(∀ n∈l,n∈ps)->l.filterMap (λn=>(((p,u)::ps.zip us).lookup n).map (n,·))=l.filterMap (λn=>((ps.zip us).lookup n).map (n,·)):=by
      intro l hl
      induction l with
      | nil=>rfl
      | cons a l ih=>rw[aMZ,aMZ,e a (hl a mcs),ih λn hn=>hl n (mcm hn)]
    exact c ps λ_ h=>h
  . rw[List.zip_cons_cons];rcases aM0.mp hn with rfl | hn
    . rw[aPM,aPN];rfl
    . rw[e n hn];exact i2 n hn
theorem aJ5{fd:FuncData}{ps:List Str}(h1:fd.params.posonlyargs=[])(h2:fd.params.args.map (·.arg)=ps)(h3:fd.params.vararg=none)(h4:fd.params.kwonlyargs=[])(h5:fd.params.kwarg=none)(hd:fd.defaults=.none)(h6:ps.Nodup)(us:List Value)(hl:us.length=ps.length):bindArgs fd ⟨us,[]⟩=pure (ps.zip us):=by
 obtain ⟨z1,z2⟩:=wR h6 hl;have z3:(ps.take (ps.length-0)).filter (λn=>((ps.zip us).lookup n).isNone)=[]:=by rw[Nat.sub_zero,aQB,List.filter_eq_nil_iff];intro n hn;rw[z2 n hn];decide
 unfold bindArgs;simp only[h1,h2,h3,h4,h5,hd,List.map_nil,List.nil_append,aNP,aPJ,aPL,hl,aMT,seqItems?];have q:(do notAStandIn Value.none;pure none:Sem (Option (Array Value)))=pure none:=rfl
 rw[q];simp only[aPL,aOJ,List.length_nil,Nat.zero_sub,aPR,z3,decide_false,Bool.false_and,aPO,aN9,List.isEmpty_nil,Bool.not_true,List.zip_nil_right,aPJ,z1,Array.toList_empty,List.drop_nil]
noncomputable def adB(K:Fg)(x:Str):Option Addr:=match PySem.W.nsIn K mainGlobals x with | some (some (.ref a))=>some a | _=>none
theorem dU{K:Fg}{x:Str}{a:Addr}(h:adB K x=some a):PySem.W.nsIn K mainGlobals x=some (some (.ref a)):=by
 unfold adB at h;split at h
 . rename_i b e;cases h;exact e
 . cases h
noncomputable def isKey(key:Str):Addr×Obj->Bool
 | (_,⟨.type t,_,.func fd,_⟩)=>t == "function" && fd.qualname==key
 | _=>false
noncomputable def faK(K:Fg)(key:Str):Addr:=match K.find? (isKey key) with | some p=>p.1 | none=>0
noncomputable def stOf(fd:FuncData)(b:List Stmt):Stmt:=.FunctionDef fd.name fd.params b [] none [] fd.scope none fd.name ⟨0,0,0,0⟩
noncomputable def parB(p:Arguments)(ps:List Str):Bool:=p.posonlyargs.isEmpty&&(p.args.map (·.arg)==ps)&&p.vararg.isNone&&p.kwonlyargs.isEmpty&&p.kwarg.isNone&&decide ps.Nodup
noncomputable def fdB(K:Fg)(nm:Option Str)(key:Str)(a:Addr)(ps:List Str)(f:Stmt->Bool)(fd:FuncData)(b:List Stmt):Bool :=
 (nm.getD fd.name==fd.name)&&((fd.qualname==key)&&(fd.globals==mainGlobals&&(fd.closure.isEmpty&&((fd.defaults == .none)&&(fd.builtins==builtinsNs&&(PySem.W.codeIn K fd.code key&&(PySem.W.keepIn K (.ref a)&&(parB fd.params ps&&f (stOf fd b)))))))))
noncomputable def jO(K:Fg)(nm:Option Str)(key:Str)(a:Addr)(ps:List Str)(f:Stmt->Bool):Bool:=match K.lookup a with
 | some ⟨_,_,.func fd,_⟩=>(match fd.body with
  | .stmts b=>fdB K nm key a ps f fd b
  | _=>false)
 | _=>false
theorem qT{K:Fg}{nm:Option Str}{key:Str}{a:Addr}{ps:List Str}{f:Stmt->Bool}(h:jO K nm key a ps f=true):∃ name st fd,Fun K name key st a fd/\eW K fd ps []/\f st=true/\nm.getD name=name/\∀ us:List Value,us.length=ps.length->bindArgs fd ⟨us,[]⟩=pure (ps.zip us):=by
 unfold jO at h;split at h
 . rename_i oc od fd sl el;split at h
   . rename_i b eb;unfold fdB at h;simp only[aOI] at h;obtain ⟨h1,h2,h3,h4,h5,h6,h7,h8,h9,h10⟩:=h;obtain ⟨name,qualname,params,body,scope,globals,closure,defaults,kwdefaults,doc,pm,an,code,ct,bl⟩:=fd;dsimp only at *;obtain rfl:=eb;obtain rfl:=aO7.mp h2;obtain rfl:=aO7.mp h3;obtain rfl:=List.isEmpty_iff.mp h4;obtain rfl:=aO7.mp h5;obtain rfl:=aO7.mp h6;unfold parB at h9;simp only[aOI,List.isEmpty_iff,aO7,Option.isNone_iff_eq_none,aOW] at h9;obtain ⟨⟨⟨⟨⟨p1,p2⟩,p3⟩,p4⟩,p5⟩,p6⟩:=h9;have bp:=aJ5 (fd:=PySem.W.fnOf name qualname params b scope .none kwdefaults doc pm an code ct) p1 p2 p3 p4 p5 rfl p6;exact ⟨name,_,_,aDH (st:=stOf ⟨name,qualname,params,.stmts b,scope,mainGlobals,[],.none,kwdefaults,doc,pm,an,code,ct,builtinsNs⟩ b) el h7 h8,.all bp,h10,aO7.mp h1,bp⟩
   . cases h
 . cases h
noncomputable def gvB(K:Fg)(x:Str):GV->Bool
 | .con (.s y)=>(match PySem.W.nsIn K mainGlobals x with | some (some (.str z _))=>z==y | _=>false)
 | .con (.i n)=>(match PySem.W.nsIn K mainGlobals x with | some (some (.int z _))=>z==n | _=>false)
 | .con (.t _)=>true
 | .no=>PySem.W.nsIn K mainGlobals x==some none
 | .fn _=>PySem.W.nsIn K mainGlobals x==some (some (.ref (faK K x)))
 | .cls=>true
noncomputable def nL(K:Fg)(C:Addr):Bool:=PySem.W.plainGet K C Str.empty&&(PySem.W.hasDictIn K C&&(PySem.W.plainOver K C&&PySem.W.findIn K (.ref C) "__setattr__" == some (some (.builtin "object.__setattr__"))))
theorem wS{K:Fg}{C:Addr}(h:nL K C=true):Cls K C:=by unfold nL at h;simp only[aOI,aO7] at h;exact ⟨h.1,h.2.1,h.2.2.1,h.2.2.2⟩
noncomputable def qU(K:Fg)(C:Addr)(x:Str×Str×Nat):Bool:=PySem.W.findIn K (.ref C) x.1==some (some (.ref (faK K x.2.1)))&&(PySem.W.isFn K (.ref (faK K x.2.1))&&PySem.W.keepIn K (.ref (faK K x.2.1)))
noncomputable def ciB(K:Fg)(i:CI):Bool:=match adB K i.name with
 | some C=>nL K C&&(i.meths.all (qU K C)&&i.flds.all λf=>PySem.W.findIn K (.ref C) f==some none)
 | none=>false
noncomputable def mk0B(K:Fg)(c:Str):Bool:=match adB K c with
 | some C=>PySem.W.makesIn K C&&(PySem.W.findIn K (.ref C) "__init__" == some (some (.builtin "object.__init__"))&&PySem.W.keepIn K (.ref C))
 | none=>false
noncomputable def clB(K:Fg)(C:Addr):Bool:=PySem.W.findIn K (.ref C) "__class__" == some (some (.builtin "object.__class__"))&&(PySem.W.specialIn K (.builtin "object.__class__") "__get__" == some (some (.builtin "getset_descriptor.__get__"))&&(PySem.W.takesIn K (.builtin "object.__class__")==some true&&PySem.W.mroIn K C (.type "object")==some true))
noncomputable def isoB(K:Fg)(cl:List CI)(c:Str):Bool:=match adB K c with
 | some C=>["NoneType", "bool", "int", "str", "tuple", "list", "dict"].all (λt=>PySem.W.kitOne K (.type t) (.ref C)==some false)&&cl.all λi=>match adB K i.name with
  | some C'=>nL K C'&&(clB K C'&&PySem.W.kitOne K (.ref C') (.ref C)==some (i.ups.contains c))
  | none=>false
 | none=>false
noncomputable def inB(K:Fg)(g:MG)(x:Str×ID):Bool:=match adB K x.2.c with
 | some C=>PySem.W.makesIn K C&&(PySem.W.findIn K (.ref C) "__init__" == some (some (.ref (faK K x.1)))&&(PySem.W.isFn K (.ref (faK K x.1))&&(PySem.W.keepIn K (.ref C)&&jO K none x.1 (faK K x.1) x.2.ps (λst=>idOk g st x.2))))
 | none=>false
noncomputable def xtB(K:Fg)(x:(Str×Str)×Bool):Bool:=match adB K x.1.1,adB K x.1.2 with
 | some C,some C2=>PySem.W.mroIn K C2 (.type "BaseException")==some true&&(PySem.W.typeIn K (.ref C2)==some (.type "type")&&PySem.W.mroIn K C (.ref C2)==some x.2)
 | _,_=>false
noncomputable def xcB(K:Fg)(C:Addr):Bool:=PySem.W.findIn K (.ref C) "__getattribute__" == some (some (.builtin "BaseException.__getattribute__"))&&(PySem.W.findIn K (.ref C) "__getattr__" == some none&&(PySem.W.mroIn K C (.type "BaseException")==some true&&clB K C))
noncomputable def cvB(K:Fg)(n:Str):Option V:=match PySem.W.nsIn K mainGlobals n with
 | some (some (.ref C))=>some (.ref C)
 | some none=>if n == "__name__" then none else (match bootBuiltins n with | some (.type T)=>some (.ty T) | _=>none)
 | _=>none
noncomputable def xiB(K:Fg)(x:(Str×Str)×Bool):Bool:=match adB K x.1.1,cvB K x.1.2 with
 | some C,some cv=>xcB K C&&PySem.W.kitOne K (.ref C) (u8 cv)==some x.2
 | _,_=>false
noncomputable def rzB(K:Fg)(c:Str):Bool:=match adB K c with
 | some C=>PySem.W.excIn K C pY "ValueError.__new__"
 | none=>false
noncomputable def gfB(K:Fg)(g:MG)(t:TB):Bool :=
 g.G.all (λx=>gvB K x.1 x.2)&&(gOk g.G t.T&&(t.T.all (λx=>jO K (if x.1 == "law" then some "law" else none) x.1 (faK K x.1) x.2.ps (λst=>iB g st x.2))&&(t.I.all (inB K g)&&(g.mk0.all (mk0B K)&&(v7 g.mki t.I&&(g.iso.all (isoB K t.cl)&&(t.cl.all (ciB K)&&(mtOk t.cl t.T&&(t.xt.all (xtB K)&&(t.xi.all (xiB K)&&(g.xcs.all (rzB K)&&g.xns.all (λn=>(cvB K n).isSome))))))))))))
section
variable {w:World}{K:Fg}{mg:SOV}{h:Heap}(X:K.In h)(G:h.Ns mainGlobals mg)
include X G
theorem wT:∀ {l:List (Str×GV)},(∀ x tb,(x,GV.con (.t tb))∈l->gG w K mg x tb)->l.all (λx=>gvB K x.1 x.2)=true->k9 w K mg (faK K) l
 | [],_,_=>trivial
 | (x,v)::l,ht,b=>by
  rw[aOL,aOI] at b;refine ⟨?_,wT (λx tb hx=>ht x tb (mcm hx)) b.2⟩;have b:=b.1;dsimp only at b;cases v with
  | con c =>
   cases c with
   | s y =>
    have b:(match PySem.W.nsIn K mainGlobals x with | some (some (.str z _))=>z==y | _=>false)=true:=b
    split at b
    . rename_i z t e;cases aO7.mp b;exact ⟨t,aQC X G e⟩
    . cases b
   | i y =>
    have b:(match PySem.W.nsIn K mainGlobals x with | some (some (.int z _))=>z==y | _=>false)=true:=b
    split at b
    . rename_i z t e;cases aO7.mp b;exact ⟨t,aQC X G e⟩
    . cases b
   | t tb=>exact ht x tb mcs
  | fn n=>exact aQC X G (aO7.mp b)
  | no=>exact PySem.W.mg_none_of X G (aO7.mp b)
  | cls=>trivial
theorem wU{n:Str}{cv:V}(e:cvB K n=some cv):m9 mg n cv:=by
 unfold cvB at e;split at e
 . rename_i C q;cases e;exact .inl ⟨C,aQC X G q,rfl⟩
 . rename_i q;split at e
   . cases e
   . rename_i hn;split at e
     . rename_i T hb;cases e;exact .inr ⟨PySem.W.mg_none_of X G q,by simpa using hn,T,hb,rfl⟩
     . cases e
 . cases e
end
theorem wV{K:Fg}{g:MG}:∀ {l:List (Str×FD)},l.all (λx=>jO K (if x.1 == "law" then some "law" else none) x.1 (faK K x.1) x.2.ps (λst=>iB g st x.2))=true->k7 K g (faK K) l
 | [],_=>trivial
 | (x,d)::l,b=>by rw[aOL,aOI] at b;obtain ⟨name,st,fd,F,hb,ok,_,_⟩:=qT b.1;exact ⟨⟨name,st,fd,F,hb,ok⟩,wV b.2⟩
theorem wW{K:Fg}{C:Addr}:∀ {l:List (Str×Str×Nat)},l.all (qU K C)=true->jH K (faK K) C l
 | [],_=>trivial
 | (m,key,n)::l,b=>by rw[aOL,aOI] at b;have b1:=b.1;unfold qU at b1;simp only[aOI,aO7] at b1;exact ⟨⟨b1.1,b1.2.1,b1.2.2⟩,wW b.2⟩
theorem wX{K:Fg}{C:Addr}:∀ {l:List Str},l.all (λf=>PySem.W.findIn K (.ref C) f==some none)=true->jI K C l
 | [],_=>trivial
 | f::l,b=>by rw[aOL,aOI] at b;exact ⟨aO7.mp b.1,wX b.2⟩
theorem wY{K:Fg}:∀ {l:List CI},l.all (ciB K)=true->lA K (faK K) l
 | [],_=>trivial
 | i::l,b=>by
  rw[aOL,aOI] at b;refine ⟨?_,wY b.2⟩;have b:=b.1;unfold ciB at b;split at b
  . rename_i C e;simp only[aOI] at b;exact ⟨C,dU e,wS b.1,wW b.2.1,wX b.2.2⟩
  . cases b
section
variable {w:World}{K:Fg}{mg:SOV}{h:Heap}(X:K.In h)(G:h.Ns mainGlobals mg)
include X G
theorem wZ{g:MG}:∀ {l:List (Str×ID)},l.all (inB K g)=true->k8 K mg g l
 | [],_=>trivial
 | (x,d)::l,b=>by
  rw[aOL,aOI] at b;refine ⟨?_,wZ b.2⟩;have b:=b.1;unfold inB at b;split at b
  . rename_i C e;simp only[aOI,aO7] at b;obtain ⟨b1,b2,b3,b4,b5⟩:=b;obtain ⟨name,st,fd,F,hb,ok,_,_⟩:=qT b5;exact ⟨name,st,C,_,fd,dU e,aQC X G (dU e),⟨b1,b2,b3,b4⟩,F,hb,ok⟩
  . cases b
omit X G in
theorem qV{c x:Str}{v:Bool}:∀ {l:List ((Str×Str)×Bool)},l.lookup (c,x)=some v->((c,x),v)∈l
 | [],e=>by cases e
 | (y,b)::l,e=>by
  rw[aPM] at e;split at e
  . rename_i hb;cases e;rw[<- aO7.mp hb];exact mcs
  . exact mcm (qV e)
theorem xt_of{l:List ((Str×Str)×Bool)}(b:l.all (xtB K)=true):qA K mg (λc x=>l.lookup (c,x)):=λc x v e=>by
 have b:=aPA.mp b ((c,x),v) (qV e);unfold xtB at b;split at b
 . rename_i C C2 e1 e2;simp only[aOI,aO7] at b;exact ⟨C,C2,dU e1,aQC X G (dU e1),aQC X G (dU e2),b.1,b.2.1,b.2.2⟩
 . cases b
theorem xi_of{l:List ((Str×Str)×Bool)}(b:l.all (xiB K)=true):qB K mg (λc x=>l.lookup (c,x)):=λc x v e=>by
 have b:=aPA.mp b ((c,x),v) (qV e);unfold xiB at b;split at b
 . rename_i C cv e1 e2;unfold xcB clB at b;simp only[aOI,aO7] at b;obtain ⟨⟨b1,b2,b3,b4,b5,b6,b7⟩,b8⟩:=b;exact ⟨C,cv,dU e1,⟨b1,b2,b4,b3,b7,b5,b6⟩,wU X G e2,b8⟩
 . cases b
theorem gf_of{g:MG}{t:TB}(b:gfB K g t=true)(ht:∀ x tb,(x,GV.con (.t tb))∈g.G->gG w K mg x tb):GF w K mg g t (faK K):=by
 unfold gfB at b;simp only[aOI] at b;obtain ⟨b1,b2,b3,b4,b5,b6,b7,b8,b9,b10,b11,b12,b13⟩:=b;refine ⟨wT X G ht b1,b2,wV b3,wZ X G b4,λc hc=>?_,b6,λc hc=>?_,wY b8,b9,xt_of X G b10,xi_of X G b11,λc hc=>?_,λn hn=>?_⟩
 . have b:=aPA.mp b5 c hc;unfold mk0B at b;split at b
   . rename_i C e;simp only[aOI,aO7] at b;exact ⟨C,dU e,aQC X G (dU e),b.1,b.2.1,b.2.2⟩
   . cases b
 . have b:=aPA.mp b7 c hc;unfold isoB at b;split at b
   . rename_i C e;rw[aOI] at b;refine ⟨C,aQC X G (dU e),λt ht=>aO7.mp (aPA.mp b.1 t ht),λi hi=>?_⟩;have b:=aPA.mp b.2 i hi;split at b
     . rename_i C' e';unfold clB at b;simp only[aOI,aO7] at b;obtain ⟨c1,⟨c2,c3,c4,c5⟩,c6⟩:=b;exact ⟨C',dU e',wS c1,c2,c3,c4,c5,c6⟩
     . cases b
   . cases b
 . have b:=aPA.mp b12 c hc;unfold rzB at b;split at b
   . rename_i C e;exact ⟨C,aQC X G (dU e),b⟩
   . cases b
 . have b:=aPA.mp b13 n hn;cases e:cvB K n with
   | none=>rw[e] at b;cases b
   | some cv=>exact ⟨cv,wU X G e⟩
end
noncomputable def qW(K:Fg)(g:MG)(t:TB):Bool:=gfB K g t&&PySem.W.nsIn K mainGlobals "law" == some (some (.ref (faK K "law")))
theorem w6{x:Str}{d:FD}:∀ {l:List (Str×FD)},l.lookup x=some d->(x,d)∈l
 | [],e=>by cases e
 | (y,b)::l,e=>by
  rw[aPM] at e;split at e
  . rename_i hb;cases e;rw[<- aO7.mp hb];exact mcs
  . exact mcm (w6 e)
theorem walkG{l:PySem.W.OpenLaw}{q:Program}{loose:List Str}{XP:(Str->Option Value)->Heap->Prop}{YP:World->Heap->Prop}{d:DefRec}{K:Params->Fg}{g:MG}{t:TB}{kk:Nat}{x:Str}{e:FD}(hn:l.most=some 63)(hdf:d.params.defaults=[])(hdn:d.name = "law")(hY:∀ (w:World) (h:Heap),YP w h->(K w.params).In h)(b:∀ P,qW (K P) g t=true)(ht:∀ (w:World) (mg:SOV) (h:Heap),(K w.params).In h->h.Ns mainGlobals mg->∀ x tb,(x,GV.con (.t tb))∈g.G->gG w (K w.params) mg x tb)(hT:t.T.lookup ("law" : Str)=some e)(hps:e.ps=[x])(hr:cD (kk+1) callerA)(main:∀ ns:List Int,ns.length<=63->(WT t (kk+1)).Φ "law" (mS ns)=.ok .fz (.bl true)):PySem.W.WalkO q loose XP YP l.row.toRowW d [] (λf vs=>PySem.call f vs):=by
 refine L2.aDG (n:=63) (k:=kk+1) (x:=x) (CX:=λw=>CX1 l.prog w) (sp:=λw=>qM (K w.params) ((WT t (kk+1)).Φ ("law" : Str))) hn (by decide) hdf hr hY (λw mg fa h KX G hmg=>?_)
  (λ_ _ a ns hl _ hS=>⟨a,ns,rfl,hS,main ns hl,λ_=>rfl⟩) λ_ _ _ _ _ z=>by obtain ⟨_,_,_,_,_,_,_,_,_,_,z⟩:=z;exact z
 have b:=b w.params;unfold qW at b;rw[aOI,aO7] at b;have f:=gf_of (w:=w) KX G b.1 (ht w mg h KX G);have e1:=aQC KX G b.2;rw[hdn,e1] at hmg;cases hmg;have b3:t.T.all (λx=>jO (K w.params) (if x.1 == "law" then some "law" else none) x.1 (faK (K w.params) x.1) x.2.ps (λst=>iB g st x.2))=true:=by have:=b.1;unfold gfB at this;simp only[aOI] at this;exact this.2.2.1
 obtain ⟨name,st,fd,F,hb,ok,hnm,bp⟩:=qT (aPA.mp b3 (("law" : Str),e) (w6 hT));have hnm:name = "law" := hnm.symm;subst hnm;refine ⟨fd,λs u=>.of_eq ?_,λbase _ _=>?_⟩
 . have:=bp [u] (by rw[hps];rfl)
   rw[hps] at this;exact this
 . have:=aJU (P:=l.prog) (base:=base) f kk F hT ok (by rw[hps];rfl)
   rw[hps] at this;exact this
end D3
namespace Tp
open PySem PySem.W PySem.Calls PyProof.Rows
theorem left{p:Program}{r:OpenRow}{l:List Stmt}{n k:Nat}{as:List Addr}{c':Code}{q':Pos}(hl:behindTheImports p=l)(pre:∀ (w:World) (os:OsState),topGo treeTable p w 11 an 12 ⟨boot_heap w.params,#[],boot_drawn,boot_toks,os⟩ (topStub p)=some ((sh w.params (sA w.params) 15 187 os).abs,⟨denote treeTable (cd p),cd p,z0,[topFrame z0]⟩))(blk:∀ (w:World) (s:Shared),segRun treeTable p w 11 an 1 1 s (blockOf l (ev p) (cd p) z0 [topFrame z0])=some (.next,s,cd p,z0))(run:∀ (w:World) (os:OsState),go treeTable p w 1000 l (sh w.params (sA w.params) 15 187 os) (cd p) z0=some (sh w.params (lay w.params l (sA w.params)) n k os,c',q'))(le:Nat.ble (12+(1+ns 1000 2 l)) 1000000=true)(e1:opening p=plainProg p.main.scope.names)(e2:∀ s,fenceModules? p s=some s)(sD:∀ w:World,(λos=>((staticsOk (importedModules p.main.body) (boot_heap w.params) (H1 l n w.params)&&namesBound p (H1 l n w.params)&&gensDone (S1 l n k w.params os)&&laidKept (boot_heap w.params) (H1 l n w.params)),openSeen (vw p) (los l) (importedModules p.main.body) (xt r) true (S1 l n k w.params os),(hk l as).obs (S1 l n k w.params os)))=λ_=>(true,openGood (vw p) (los l),(hk l as).val w)):LeftO p (vw p) (los l) (xt r) (hk l as).obs (hk l as).val 1000000 :=
 LeftO.of_pieces (H₀:=boot_heap) (H₁:=H1 l n) (m₀:=11) (ann:=an) (boot_open e1 rfl e2) size1 (run_of hl pre blk run) le sD
theorem head{p:OpenLaw}{l:List Stmt}{as:List Addr}{d:DefRec}(left:LeftO p.prog (vw p.prog) (los l) (xt p.row) (hk l as).obs (hk l as).val 1000000)(said:p.row.wellSaid=true)(h1:defOf (vw p.prog) p.name=some (d,[]))(h2:p.prog.theDef p.name=some (d.params,d.body,d.scope))(h3:kwWritten? d.params.kwonlyargs d.params.kw_defaults=some [])(h4:(!p.row.writes||p.row.records.isEmpty)=true)(ok:(chainsOk (vw p.prog)&&opensWell p.prog&&(frees p.row.toRowW&&p.row.within.isEmpty))=true)(hb:p.prog.bare)(hw:p.row.toRowW.promised)(call:WalkO (vw p.prog) (los l) (XL (vw p.prog) []) (hk l as).says p.row.toRowW d [] λf vs=>PySem.call f vs):p.row.Holds :=
 holds_open (r:=p.row) (XP:=XL (vw p.prog) []) (YP:=(hk l as).says) left (hk l as).of (hk l as).keeps (λs e=>xl_of s (Bool.and_eq_true_iff.mp e).1) XL.keeps h1 h2 h3
  (λs e=>recFacts_of (Bool.and_eq_true_iff.mp e).2) h4 said ok hb hw call
end Tp
namespace D3
open PySem PySem.Spec PySem.Calls PyProof.Rows L2
noncomputable def nM:Obj->List DictEntry
 | ⟨.type t,none,.dict es _,sl⟩=>if t = "dict" /\ sl.size=0 then es.toList else []
 | _=>[]
theorem aJ6{o:Obj}(h:nM o≠[]):∃ es ep,o=⟨.type "dict", none,.dict es ep,#[]⟩/\nM o=es.toList:=by
 unfold nM at h ⊢;split at h
 . rename_i t es ep sl;split at h
   . rename_i hc;obtain ⟨rfl,hs⟩:=hc;obtain rfl:=Array.eq_empty_of_size_eq_zero hs;exact ⟨es,ep,rfl,rfl⟩
   . exact absurd rfl h
 . exact absurd rfl h
noncomputable def e8(K:Fg)(x:Str):List DictEntry:=match adB K x with
 | some a=>(match K.lookup a with | some o=>nM o | none=>[])
 | none=>[]
theorem aJ7{K:Fg}{x:Str}(h:e8 K x≠[]):∃ a es ep,adB K x=some a/\K.lookup a=some ⟨.type "dict", none,.dict es ep,#[]⟩/\e8 K x=es.toList:=by
 unfold e8 at h ⊢;cases ea:adB K x with
 | none=>rw[ea] at h;exact absurd rfl h
 | some a =>
  rw[ea] at h;dsimp only at h ⊢;cases el:K.lookup a with
  | none=>rw[el] at h;exact absurd rfl h
  | some o=>rw[el] at h;dsimp only at h ⊢;obtain ⟨es,ep,rfl,e⟩:=aJ6 h;exact ⟨a,es,ep,rfl,el,e⟩
noncomputable def jP(P:Params):List (Str×Str)->List DictEntry->List DictEntry
 | (z,_)::r,⟨_,.str _ t,.ref a⟩::es=>⟨PyData.keyHash P z,.str z t,.ref a⟩::jP P r es
 | _,_=>[]
noncomputable def okE(K:Fg):List (Str×Str)->List DictEntry->Bool
 | [],[]=>true
 | (_,f)::r,⟨_,.str _ _,.ref a⟩::es=>PySem.W.nsIn K mainGlobals f==some (some (.ref a))&&okE K r es
 | _,_=>false
theorem w8{w:World}{K:Fg}:∀ {tb:List (Str×Str)} {es:List DictEntry},es=jP w.params tb es->okE K tb es=true->hZ w K tb es
 | [],[],_,_=>rfl
 | [],⟨_,.str _ _,.ref _⟩::es,e,_=>by unfold jP at e;cases e
 | (z,f)::r,es,e,ok=>by
  unfold okE at ok;split at ok
  . rename_i h1 h2;cases h2
  . rename_i f' r' hh y t a es' h1;cases h1;rw[aOI,aO7] at ok;unfold jP at e;injection e with e1 e2
    exact ⟨t,a,es',congrArg (·::es') e1,ok.1,w8 e2 ok.2⟩
  . cases ok
theorem aJ8{K:Fg}:∀ {tb:List (Str×Str)},tb≠[]->okE K tb []=false
 | [],h=>absurd rfl h
 | p::r,_=>by unfold okE;rfl
theorem aJ9{w:World}{K:Fg}{mg:SOV}{h:Heap}{x:Str}{tb:List (Str×Str)}(X:K.In h)(G:h.Ns mainGlobals mg)(e:e8 K x=jP w.params tb (e8 K x))(ok:okE K tb (e8 K x)=true)(ne:tb≠[])(nd:(tb.map (·.1)).Nodup):gG w K mg x tb:=by
 have bad:e8 K x≠[]:=λz=>by rw[z,aJ8 ne] at ok;cases ok
 have t:=w8 e ok;obtain ⟨a,es,ep,ea,el,et⟩:=aJ7 bad;rw[et] at t;exact ⟨⟨a,_,es,ep,aQC X G (dU ea),el,⟨rfl,rfl,rfl⟩,rfl,t⟩,nd⟩
theorem aKA{g:MG}{K:Params->Fg}{y:Str}{t0:List (Str×Str)}(b:(g.G.all λx=>match x.2 with | .con (.t tb)=>x.1==y&&tb==t0 | _=>true)=true)(e:∀ P,e8 (K P) y=jP P t0 (e8 (K P) y))(ok:∀ P,okE (K P) t0 (e8 (K P) y)=true)(ne:t0≠[])(nd:(t0.map (·.1)).Nodup)(w:World)(mg:SOV)(h:Heap)(X:(K w.params).In h)(G:h.Ns mainGlobals mg)(x:Str)(tb:List (Str×Str))(hm:(x,GV.con (.t tb))∈g.G):gG w (K w.params) mg x tb:=by have:=aPA.mp b _ hm;dsimp only at this;rw[aOI,aO7,aO7] at this;obtain ⟨rfl,rfl⟩:=this;exact aJ9 X G (e w.params) (ok w.params) ne nd
end D3
namespace K60
open PySem L2 D3
def nN:List D3.S:=[.expr (.call "refuse_missing" 2 [(.var 2),(.ix (.var 1) (.int 0))])]
def nO:List D3.S:=[.expr (.call "refuse_missing" 2 [(.var 3),(.var 1)]),.expr (.call "refuse_twice" 2 [(.var 0),(.var 2)])]
def jQ:List D3.S:=[.expr (.call "refuse_twice" 2 [(.var 2),(.var 3)])]
def nP:List D3.S:=[.ite (.cmp .NotIn (.var 4) (.var 2)) [.rz "Unlike" [(.fstr [(.str "the column "),(.fmt (.var 4)),(.str " of what is left out isn't there")])]] []]
def iF:List D3.S:=[.set 2 (.frz (.call "stepped" 2 [(.var 5),(.var 1)])),.ite (.cmp .IsNot (.var 2) .non) [.ret (.call "rebuilt" 2 [(.var 0),(.frz (.bin .Add (.slice (.var 3) none (some (.var 4))) (.tup [(.var 2)])))])] []]
def iG:List D3.S:=[.dput 7 (.ix (.var 6) (.var 8)) (.ix (.var 2) (.var 8))]
def jR:List D3.S:=[.set 12 (.frz (.call "_law_test" 4 [(.frz (.bin .Mod (.bin .Mult (.bin .Add (.bin .Add (.bin .FloorDiv (.var 1) (.int 78)) (.int 7)) (.var 11)) (.int 48271)) (.int 2147483647))),(.int 2),(.var 7),(.var 5)])),.set 8 (.tup [(.str "pick"),(.var 8),(.var 12)]),.set 10 (.tup [(.str "pick"),(.var 10),(.var 12)])]
def nQ:List D3.S:=[.ite (.cmp .In (.ix (.var 0) (.var 1)) (.slice (.var 0) none (some (.var 1)))) [.rz "Twice" [(.fstr [(.str "the column "),(.fmt (.ix (.var 0) (.var 1))),(.str " was there ahead")])]] []]
def fT:List D3.S:=[.set 1 (.ix (.var 0) (.int 0)),.ite (.cmp .Eq (.var 1) (.str "not")) [.ret (.call "columns_in" 1 [(.ix (.var 0) (.int 1))])] [],.ite (.cmp .In (.var 1) (.tup [(.str "both"),(.str "either")])) [.ret (.bin .Add (.call "columns_in" 1 [(.ix (.var 0) (.int 1))]) (.call "columns_in" 1 [(.ix (.var 0) (.int 2))]))] [],.ret (.comp (.ix (.var 0) (.int 1)) (.items (.slice (.var 0) (some (.int 1)) none)) [(.cmp .Eq (.ix (.var 0) (.int 0)) (.str "of"))] [] (.nm 0) 1)]
def e9:List D3.S:=[.set 2 (.ix (.var 0) (.int 0)),.ite (.cmp .Eq (.var 2) (.str "not")) [.ret (.tup [(.var 2),(.frz (.call "called" 2 [(.ix (.var 0) (.int 1)),(.var 1)]))])] [],.ite (.cmp .In (.var 2) (.tup [(.str "both"),(.str "either")])) [.ret (.tup [(.var 2),(.frz (.call "called" 2 [(.ix (.var 0) (.int 1)),(.var 1)])),(.frz (.call "called" 2 [(.ix (.var 0) (.int 2)),(.var 1)]))])] [],.ret (.tup [(.var 2),(.frz (.call "called_part" 2 [(.ix (.var 0) (.int 1)),(.var 1)])),(.frz (.call "called_part" 2 [(.ix (.var 0) (.int 2)),(.var 1)]))])]
def lE:List D3.S:=[.ite (.cmp .Eq (.ix (.var 0) (.int 0)) (.str "of")) [.ret (.tup [(.str "of"),(.dix (.var 1) (.ix (.var 0) (.int 1)))])] [],.retV 0]
def gM:List D3.S:=[.ite (.cmp .Eq (.ix (.var 0) (.int 0)) (.str "table")) [.ret (.tup [])] [],.ite (.cmp .In (.ix (.var 0) (.int 0)) (.tup [(.str "join"),(.str "pour"),(.str "leave")])) [.ret (.tup [(.ix (.var 0) (.int 1)),(.ix (.var 0) (.int 2))])] [],.ret (.tup [(.ix (.var 0) (.int 1))])]
def nR:List D3.S:=[.ret (.bin .Add (.bin .Add (.slice (.var 0) none (some (.int 1))) (.var 1)) (.slice (.var 0) (some (.bin .Add (.int 1) (.bcall .len [(.var 1)]))) none))]
def nS:List D3.S:=[.ite (.cmp .NotIn (.var 0) (.var 1)) [.rz "NoColumn" [(.fstr [(.str "there is no column "),(.fmt (.var 0))])]] []]
def nT:List D3.S:=[.for (.items (.call "columns_in" 1 [(.ix (.var 0) (.int 2))])) (.nm 2) nN,.ret (.ix (.var 1) (.int 0))]
def nU:List D3.S:=[.for (.enum1 (.var 0)) (.tp [(.nm 2),(.nm 3)]) nO,.retV 0]
def nV:List D3.S:=[.ret (.call "kept" 2 [(.ix (.var 0) (.int 2)),(.ix (.var 1) (.int 0))])]
def nW:List D3.S:=[.expr (.call "refuse_missing" 2 [(.var 0),(.var 2)]),.ret (.call "kept" 2 [(.var 1),(.var 2)])]
def nX:List D3.S:=[.ret (.call "totalled" 3 [(.ix (.var 0) (.int 2)),(.ix (.var 0) (.int 3)),(.ix (.var 1) (.int 0))])]
def iH:List D3.S:=[.set 2 (.ix (.var 0) (.int 2)),.ite (.cmp .NotEq (.bcall .len [(.var 2)]) (.bcall .len [(.ix (.var 1) (.int 0))])) [.rz "Unlike" [(.str "a call has as many columns as the asking within")]] [],.for (.rng1 (.bcall .len [(.var 2)])) (.nm 3) jQ,.retV 2]
def lF:List D3.S:=[.asg (.tp [(.nm 2),(.nm 3)]) (.var 1),.ret (.bin .Add (.var 2) (.tcall .tuple [(.comp (.var 1) (.items (.var 3)) [(.cmp .NotIn (.var 1) (.var 0))] [2] (.nm 1) 1)]))]
def nY:List D3.S:=[.asg (.tp [(.nm 2),(.nm 3)]) (.var 1),.ite (.cmp .NotEq (.var 2) (.var 3)) [.rz "Unlike" [(.str "both askings of a pour have the same columns in the same order")]] [],.retV 2]
def nZ:List D3.S:=[.asg (.tp [(.nm 2),(.nm 3)]) (.var 1),.for (.items (.var 3)) (.nm 4) nP,.retV 2]
def fU:List D3.S:=[.ite (.cmp .Eq (.ix (.var 0) (.int 0)) (.str "table")) [.ret (.call "columns_of_table" 2 [(.ix (.var 0) (.int 1)),(.var 1)])] [],.setC 2 true (.comp (.call "columns_of" 2 [(.var 1),(.var 0)]) (.items (.call "askings_within" 1 [(.var 0)])) [] [1] (.nm 1) 1),.set 3 (.deed "DEEDS" [("pick", "columns_of_pick"),("keep", "columns_of_keep"),("call", "columns_of_call"),("join", "columns_of_join"),("pour", "columns_of_pour"),("total", "columns_of_total"),("leave", "columns_of_leave")] (.ix (.var 0) (.int 0))),.ret (.callv 3 ["columns_of_pick", "columns_of_keep", "columns_of_call", "columns_of_join", "columns_of_pour", "columns_of_total", "columns_of_leave"] 2 [(.var 0),(.var 2)])]
def n9:List D3.S:=[.ite (.din true (.var 0) (.var 1)) [.rz "NoTable" [(.fstr [(.str "there is no table "),(.fmt (.var 0))])]] [],.ret (.dix (.var 1) (.var 0))]
def oA:List D3.S:=[.expr (.call "columns_of" 2 [(.var 0),(.var 1)]),.ret (.call "stepped" 2 [(.var 0),(.var 1)])]
def dW:List D3.S:=[.ite (.cmp .Eq (.ix (.var 0) (.int 0)) (.str "pick")) [.set 2 (.frz (.call "behind_pick" 3 [(.ix (.var 0) (.int 1)),(.ix (.var 0) (.int 2)),(.var 1)])),.ite (.cmp .IsNot (.var 2) .non) [.retV 2] []] [],.set 3 (.frz (.call "askings_within" 1 [(.var 0)])),.for (.enum1 (.var 3)) (.tp [(.nm 4),(.nm 5)]) iF,.ret .non]
def eF:List D3.S:=[.ite (.cmp .Eq (.ix (.var 1) (.int 0)) (.str "both")) [.ret (.tup [(.str "pick"),(.tup [(.str "pick"),(.var 0),(.ix (.var 1) (.int 1))]),(.ix (.var 1) (.int 2))])] [],.ite (.andL [(.cmp .Eq (.ix (.var 1) (.int 0)) (.str "not")),(.cmp .Eq (.ix (.ix (.var 1) (.int 1)) (.int 0)) (.str "not"))]) [.ret (.tup [(.str "pick"),(.var 0),(.ix (.ix (.var 1) (.int 1)) (.int 1))])] [],.ite (.andL [(.cmp .Eq (.ix (.var 1) (.int 0)) (.str "not")),(.cmp .Eq (.ix (.ix (.var 1) (.int 1)) (.int 0)) (.str "either"))]) [.ret (.tup [(.str "pick"),(.var 0),(.tup [(.str "both"),(.tup [(.str "not"),(.ix (.ix (.var 1) (.int 1)) (.int 1))]),(.tup [(.str "not"),(.ix (.ix (.var 1) (.int 1)) (.int 2))])])])] [],.ret (.call "sunk" 3 [(.var 0),(.var 1),(.var 2)])]
def bN:List D3.S:=[.set 3 (.ix (.var 0) (.int 0)),.ite (.cmp .Eq (.var 3) (.str "table")) [.ret .non] [],.ite (.cmp .Eq (.var 3) (.str "pick")) [.set 4 (.frz (.call "sunk" 3 [(.ix (.var 0) (.int 1)),(.var 1),(.var 2)])),.ite (.cmp .Is (.var 4) .non) [.ret .non] [],.ret (.tup [(.str "pick"),(.var 4),(.ix (.var 0) (.int 2))])] [],.ite (.cmp .Eq (.var 3) (.str "join")) [.ret (.call "sunk_into_join" 3 [(.var 0),(.var 1),(.var 2)])] [],.ite (.cmp .Eq (.var 3) (.str "pour")) [.ret (.tup [(.str "pour"),(.tup [(.str "pick"),(.ix (.var 0) (.int 1)),(.var 1)]),(.tup [(.str "pick"),(.ix (.var 0) (.int 2)),(.var 1)])])] [],.ite (.cmp .Eq (.var 3) (.str "call")) [.set 5 (.frz (.dzip (.ix (.var 0) (.int 2)) (.call "columns_of" 2 [(.ix (.var 0) (.int 1)),(.var 2)]))),.ret (.tup [(.str "call"),(.tup [(.str "pick"),(.ix (.var 0) (.int 1)),(.frz (.call "called" 2 [(.var 1),(.var 5)]))]),(.ix (.var 0) (.int 2))])] [],.ret (.call "rebuilt" 2 [(.var 0),(.tup [(.tup [(.str "pick"),(.ix (.var 0) (.int 1)),(.var 1)])])])]
def cO:List D3.S:=[.par 3 4 (.ix (.var 0) (.int 1)) (.ix (.var 0) (.int 2)),.ite (.tru (.call "has_all" 2 [(.frz (.call "columns_of" 2 [(.var 3),(.var 2)])),(.var 1)])) [.ret (.tup [(.str "join"),(.tup [(.str "pick"),(.var 3),(.var 1)]),(.var 4)])] [],.ite (.tru (.call "has_all" 2 [(.frz (.call "columns_of" 2 [(.var 4),(.var 2)])),(.var 1)])) [.ret (.tup [(.str "join"),(.var 3),(.tup [(.str "pick"),(.var 4),(.var 1)])])] [],.ret .non]
def oB:List D3.S:=[.ret (.bcall .all [(.comp (.cmp .In (.var 1) (.var 0)) (.items (.call "columns_in" 1 [(.var 1)])) [] [0] (.nm 1) 1)])]
def lG:List D3.S:=[.ite (.cmp .Lt (.var 1) (.bcall .len [(.var 0)])) [.ret (.ix (.var 0) (.var 1))] [],.ret (.int 0)]
def oC:List D3.S:=[.set 2 (.frz (.bin .Mod (.bin .Mult (.bin .Add (.var 0) (.int 7)) (.int 48271)) (.int 2147483647))),.ret (.bin .Mod (.bin .Mult (.var 2) (.var 2)) (.var 1))]
def gN:List D3.S:=[.set 2 (.frz (.bin .Add (.int 1) (.bin .Mod (.var 0) (.int 6)))),.ite (.cmp .Eq (.bin .Mod (.bin .FloorDiv (.var 0) (.int 6)) (.int 9)) (.int 4)) [.set 2 (.int 40)] [],.ite (.cmp .Eq (.bin .Mod (.bin .FloorDiv (.var 0) (.int 54)) (.int 4)) (.int 1)) [.ret (.comp (.bin .Mult (.str "p") (.bin .Add (.var 0) (.int 1))) (.rng1 (.var 1)) [] [] (.nm 0) 1)] [],.set 3 (.frz (.bin .Mod (.bin .FloorDiv (.var 0) (.int 216)) (.var 2))),.ret (.comp (.bin .Add (.bin .Add (.bin .Mult (.str "r") (.var 0)) (.ix (.str "kmqbzwhvcjxf") (.var 3))) (.bin .Mult (.ix (.str "r7") (.bin .Mod (.var 1) (.int 2))) (.bin .Sub (.bin .Sub (.var 2) (.var 0)) (.int 1)))) (.rng1 (.var 1)) [] [3,0,2] (.nm 3) 1)]
def gO:List D3.S:=[.set 1 (.frz (.bin .Add (.int 3) (.bin .Mod (.bin .Pow (.bin .Mod (.var 0) (.bin .Pow (.int 10) (.int 12))) (.int 5)) (.bin .Pow (.int 10) (.int 50))))),.ite (.cmp .Eq (.bin .Mod (.var 0) (.int 2)) (.int 1)) [.set 1 (.frz (.bin .Sub (.int 0) (.var 1)))] [],.ret (.lst [(.frz (.bin .Mod (.bin .FloorDiv (.var 0) (.int 2)) (.int 3))),(.var 1),(.ix (.call "_law_names" 2 [(.frz (.bin .FloorDiv (.var 0) (.int 6))),(.int 1)]) (.int 0))])]
def iI:List D3.S:=[.ite (.andL [(.cmp .Gt (.bcall .len [(.var 1)]) (.int 0)),(.cmp .Lt (.bin .Mod (.var 0) (.int 3)) (.int 2))]) [.ret (.tup [(.str "of"),(.ix (.var 1) (.bin .Mod (.bin .FloorDiv (.var 0) (.int 3)) (.bcall .len [(.var 1)])))])] [],.ret (.tup [(.str "just"),(.ix (.var 2) (.bin .Mod (.bin .FloorDiv (.var 0) (.int 3)) (.int 3)))])]
def bG:List D3.S:=[.set 4 (.frz (.bin .FloorDiv (.var 0) (.int 5))),.ite (.orL [(.cmp .Eq (.var 1) (.int 0)),(.cmp .Lt (.bin .Mod (.var 0) (.int 5)) (.int 2))]) [.set 5 (.ix (.lst [(.str "same"),(.str "under")]) (.bin .Mod (.var 0) (.int 2))),.ret (.tup [(.var 5),(.frz (.call "_law_part" 3 [(.var 4),(.var 2),(.var 3)])),(.frz (.call "_law_part" 3 [(.frz (.bin .FloorDiv (.var 4) (.int 19))),(.var 2),(.var 3)]))])] [],.ite (.cmp .Eq (.bin .Mod (.var 0) (.int 5)) (.int 2)) [.ret (.tup [(.str "not"),(.frz (.call "_law_test" 4 [(.var 4),(.frz (.bin .Sub (.var 1) (.int 1))),(.var 2),(.var 3)]))])] [],.set 5 (.ix (.lst [(.str "both"),(.str "either")]) (.bin .Mod (.var 0) (.int 2))),.set 6 (.frz (.call "_law_test" 4 [(.var 4),(.frz (.bin .Sub (.var 1) (.int 1))),(.var 2),(.var 3)])),.ret (.tup [(.var 5),(.var 6),(.frz (.call "_law_test" 4 [(.frz (.bin .Mod (.bin .Mult (.bin .Add (.var 4) (.int 5)) (.int 69621)) (.int 998244353))),(.frz (.bin .Sub (.var 1) (.int 1))),(.var 2),(.var 3)]))])]
def jS:List D3.S:=[.ite (.cmp .Eq (.bcall .len [(.var 1)]) (.int 0)) [.retV 1] [],.set 2 (.frz (.bin .Mod (.var 0) (.bcall .len [(.var 1)]))),.set 3 (.frz (.bin .Add (.slice (.var 1) (some (.var 2)) none) (.slice (.var 1) none (some (.var 2))))),.ret (.slice (.var 3) none (some (.bin .Sub (.bcall .len [(.var 3)]) (.bin .Mod (.bin .FloorDiv (.var 0) (.int 7)) (.int 2)))))]
def oD:List D3.S:=[.set 4 (.tup [(.str "keep"),(.tup [(.str "table"),(.ix (.var 2) (.var 0))]),(.frz (.slice (.dix (.var 3) (.ix (.var 2) (.var 0))) none (some (.bcall .len [(.var 1)]))))]),.ret (.tup [(.str "call"),(.var 4),(.var 1)])]
def oE:List D3.S:=[.set 2 .dnew,.dput 2 (.ix (.var 0) (.int 0)) (.tup [(.ix (.var 1) (.int 0)),(.ix (.var 1) (.int 1))]),.dput 2 (.ix (.var 0) (.int 1)) (.tup [(.ix (.var 1) (.int 1)),(.ix (.var 1) (.int 2))]),.dput 2 (.ix (.var 0) (.int 2)) (.tup [(.ix (.var 1) (.int 3)),(.ix (.var 1) (.int 4))]),.retV 2]
def eR:List D3.S:=[.set 3 (.frz (.call "_law_test" 4 [(.frz (.bin .FloorDiv (.var 0) (.int 4))),(.int 1),(.var 1),(.var 2)])),.set 4 (.frz (.call "_law_test" 4 [(.frz (.bin .Mod (.bin .Mult (.bin .Add (.var 0) (.int 3)) (.int 16807)) (.int 998244353))),(.int 1),(.var 1),(.var 2)])),.ite (.cmp .Eq (.bin .Mod (.var 0) (.int 4)) (.int 1)) [.ret (.tup [(.str "either"),(.var 3),(.var 4)])] [],.ite (.cmp .Eq (.bin .Mod (.var 0) (.int 4)) (.int 2)) [.ret (.tup [(.str "not"),(.tup [(.str "both"),(.var 3),(.var 4)])])] [],.set 5 (.frz (.call "_law_test" 4 [(.frz (.bin .FloorDiv (.var 0) (.int 4))),(.int 0),(.var 1),(.var 2)])),.ite (.cmp .Eq (.bin .Mod (.var 0) (.int 4)) (.int 3)) [.ret (.tup [(.str "not"),(.var 5)])] [],.retV 5]
def dP:List D3.S:=[.set 5 (.tup [(.str "table"),(.ix (.var 1) (.int 0))]),.set 6 (.dix (.var 2) (.ix (.var 1) (.int 0))),.ite (.cmp .Eq (.bin .Mod (.var 0) (.int 5)) (.int 1)) [.set 6 (.frz (.call "_law_some" 2 [(.frz (.bin .FloorDiv (.var 0) (.int 5))),(.var 6)])),.ret (.tup [(.tup [(.str "keep"),(.var 5),(.var 6)]),(.var 6)])] [],.ite (.cmp .Eq (.bin .Mod (.var 0) (.int 5)) (.int 2)) [.set 6 (.frz (.slice (.slice (.var 3) (some (.bin .Mod (.bin .FloorDiv (.var 0) (.int 5)) (.int 5))) none) none (some (.int 2)))),.ret (.tup [(.tup [(.str "call"),(.var 5),(.var 6)]),(.var 6)])] [],.ite (.cmp .Eq (.bin .Mod (.var 0) (.int 5)) (.int 3)) [.ret (.tup [(.tup [(.str "pick"),(.var 5),(.frz (.call "_law_sinker" 3 [(.frz (.bin .FloorDiv (.var 0) (.int 5))),(.var 6),(.var 4)]))]),(.var 6)])] [],.ite (.cmp .Eq (.bin .Mod (.var 0) (.int 5)) (.int 4)) [.ret (.tup [(.tup [(.str "join"),(.var 5),(.tup [(.str "table"),(.ix (.var 1) (.int 1))])]),(.frz (.slice (.var 3) none (some (.int 3))))])] [],.ret (.tup [(.var 5),(.var 6)])]
def eG:List D3.S:=[.set 5 (.frz (.call "_law_test" 4 [(.frz (.bin .FloorDiv (.var 1) (.int 7))),(.int 1),(.var 3),(.var 4)])),.set 6 (.frz (.call "_law_test" 4 [(.frz (.bin .Mod (.bin .Mult (.bin .Add (.var 1) (.int 9)) (.int 39373)) (.int 1000000007))),(.int 1),(.var 3),(.var 4)])),.ite (.cmp .Eq (.var 0) (.int 0)) [.ret (.tup [(.tup [(.str "pick"),(.var 2),(.tup [(.str "both"),(.var 5),(.var 6)])]),(.tup [(.str "pick"),(.tup [(.str "pick"),(.var 2),(.var 5)]),(.var 6)])])] [],.ite (.cmp .Eq (.var 0) (.int 1)) [.ret (.tup [(.tup [(.str "pick"),(.var 2),(.tup [(.str "not"),(.tup [(.str "not"),(.var 5)])])]),(.tup [(.str "pick"),(.var 2),(.var 5)])])] [],.set 7 (.tup [(.str "pick"),(.var 2),(.tup [(.str "both"),(.tup [(.str "not"),(.var 5)]),(.tup [(.str "not"),(.var 6)])])]),.ret (.tup [(.tup [(.str "pick"),(.var 2),(.tup [(.str "not"),(.tup [(.str "either"),(.var 5),(.var 6)])])]),(.var 7)])]
def iJ:List D3.S:=[.ite (.cmp .Eq (.ix (.var 0) (.int 0)) (.str "of")) [.ret (.tup [(.str "of"),(.dix (.var 1) (.ix (.var 0) (.int 1)))])] [],.ite (.cmp .Eq (.ix (.var 0) (.int 0)) (.str "just")) [.retV 0] [],.ret (.bin .Add (.tup [(.ix (.var 0) (.int 0))]) (.tcall .tuple [(.comp (.call "_law_renamed" 2 [(.var 1),(.var 0)]) (.items (.slice (.var 0) (some (.int 1)) none)) [] [1] (.nm 1) 1)]))]
def jT:List D3.S:=[.set 5 (.frz (.bin .Mod (.bin .FloorDiv (.var 0) (.int 5)) (.bcall .len [(.var 3)]))),.set 6 (.frz (.slice (.bin .Add (.slice (.var 3) (some (.var 5)) none) (.slice (.var 3) none (some (.var 5)))) none (some (.bcall .len [(.var 2)])))),.set 7 .dnew,.for (.rng1 (.bcall .len [(.var 6)])) (.nm 8) iG,.frzV 7,.set 9 (.frz (.call "_law_sinker" 3 [(.frz (.bin .FloorDiv (.var 0) (.int 9))),(.var 6),(.var 4)])),.set 10 (.tup [(.str "pick"),(.var 1),(.frz (.call "_law_renamed" 2 [(.var 9),(.var 7)]))]),.ret (.tup [(.tup [(.str "call"),(.var 1),(.var 6)]),(.var 9),(.tup [(.str "call"),(.var 10),(.var 6)]),(.var 6)])]
def bQ:List D3.S:=[.set 7 (.frz (.call "_law_some" 2 [(.frz (.bin .FloorDiv (.var 1) (.int 5))),(.var 3)])),.ite (.orL [(.cmp .Eq (.var 0) (.int 3)),(.andL [(.cmp .Eq (.var 0) (.int 4)),(.cmp .Eq (.bcall .len [(.var 3)]) (.int 0))])]) [.set 8 (.frz (.call "_law_sinker" 3 [(.frz (.bin .FloorDiv (.var 1) (.int 9))),(.var 7),(.var 6)])),.ret (.tup [(.tup [(.str "keep"),(.var 2),(.var 7)]),(.var 8),(.tup [(.str "keep"),(.tup [(.str "pick"),(.var 2),(.var 8)]),(.var 7)]),(.var 7)])] [],.ite (.cmp .Eq (.var 0) (.int 4)) [.set 8 (.frz (.call "_law_sinker" 3 [(.frz (.bin .FloorDiv (.var 1) (.int 9))),(.var 7),(.var 6)])),.set 9 (.ix (.var 3) (.bin .Mod (.bin .FloorDiv (.var 1) (.int 70)) (.bcall .len [(.var 3)]))),.set 10 (.tup [(.str "total"),(.tup [(.str "pick"),(.var 2),(.var 8)]),(.var 9),(.var 7)]),.ret (.tup [(.tup [(.str "total"),(.var 2),(.var 9),(.var 7)]),(.var 8),(.var 10),(.var 7)])] [],.set 8 (.frz (.call "_law_sinker" 3 [(.frz (.bin .FloorDiv (.var 1) (.int 9))),(.frz (.slice (.var 3) none (some (.int 2)))),(.var 6)])),.ite (.cmp .Eq (.var 0) (.int 6)) [.set 11 (.tup [(.str "keep"),(.var 2),(.frz (.slice (.var 3) none (some (.int 2))))]),.set 12 (.frz (.call "_law_like" 4 [(.frz (.bin .Mod (.bin .FloorDiv (.var 1) (.int 5)) (.int 3))),(.frz (.slice (.var 3) none (some (.int 2)))),(.var 4),(.var 5)])),.set 10 (.tup [(.str "pour"),(.tup [(.str "pick"),(.var 11),(.var 8)]),(.tup [(.str "pick"),(.var 12),(.var 8)])]),.ret (.tup [(.tup [(.str "pour"),(.var 11),(.var 12)]),(.var 8),(.var 10),(.frz (.slice (.var 3) none (some (.int 2))))])] [],.set 12 (.frz (.call "_law_like" 4 [(.frz (.bin .Mod (.bin .FloorDiv (.var 1) (.int 5)) (.int 3))),(.frz (.slice (.var 7) none (some (.int 2)))),(.var 4),(.var 5)])),.ret (.tup [(.tup [(.str "leave"),(.var 2),(.var 12)]),(.var 8),(.tup [(.str "leave"),(.tup [(.str "pick"),(.var 2),(.var 8)]),(.var 12)]),(.var 3)])]
def bA:List D3.S:=[.set 7 (.tup [(.str "table"),(.ix (.var 4) (.bin .Add (.int 1) (.bin .Mod (.var 1) (.int 2))))]),.set 8 (.dix (.var 5) (.ix (.var 7) (.int 1))),.ite (.cmp .Eq (.var 0) (.int 8)) [.set 9 (.frz (.bin .Add (.var 3) (.tcall .tuple [(.comp (.var 1) (.items (.var 8)) [(.cmp .NotIn (.var 1) (.var 0))] [3] (.nm 1) 1)]))),.set 10 (.frz (.call "_law_sinker" 3 [(.frz (.bin .FloorDiv (.var 1) (.int 9))),(.var 3),(.var 6)])),.ret (.tup [(.tup [(.str "join"),(.var 2),(.var 7)]),(.var 10),(.tup [(.str "join"),(.tup [(.str "pick"),(.var 2),(.var 10)]),(.var 7)]),(.var 9)])] [],.set 2 (.tup [(.str "table"),(.ix (.var 4) (.int 0))]),.set 3 (.dix (.var 5) (.ix (.var 4) (.int 0))),.set 9 (.frz (.bin .Add (.var 3) (.tcall .tuple [(.comp (.var 1) (.items (.var 8)) [(.cmp .NotIn (.var 1) (.var 0))] [3] (.nm 1) 1)]))),.set 11 (.ix (.lst [(.str "same"),(.str "under")]) (.bin .Mod (.bin .FloorDiv (.var 1) (.int 2)) (.int 2))),.ite (.cmp .Eq (.var 0) (.int 10)) [.set 10 (.tup [(.var 11),(.tup [(.str "of"),(.ix (.var 3) (.int 0))]),(.tup [(.str "of"),(.ix (.var 8) (.int 1))])]),.ite (.cmp .Eq (.bin .Mod (.bin .FloorDiv (.var 1) (.int 4)) (.int 3)) (.int 1)) [.set 10 (.tup [(.str "either"),(.var 10),(.frz (.call "_law_test" 4 [(.frz (.bin .FloorDiv (.var 1) (.int 12))),(.int 1),(.var 9),(.var 6)]))])] [],.ret (.tup [(.tup [(.str "join"),(.var 2),(.var 7)]),(.var 10),.non,(.var 9)])] [],.set 10 (.tup [(.var 11),(.frz (.call "_law_part" 3 [(.frz (.bin .FloorDiv (.var 1) (.int 4))),(.var 8),(.var 6)])),(.tup [(.str "of"),(.ix (.var 8) (.int 1))])]),.ite (.cmp .Eq (.bin .Mod (.bin .FloorDiv (.var 1) (.int 36)) (.int 3)) (.int 1)) [.set 10 (.tup [(.str "either"),(.tup [(.str "under"),(.tup [(.str "of"),(.ix (.var 8) (.int 0))]),(.tup [(.str "just"),(.ix (.var 6) (.bin .Mod (.bin .FloorDiv (.var 1) (.int 8)) (.int 3)))])]),(.var 10)])] [],.ret (.tup [(.tup [(.str "join"),(.var 2),(.var 7)]),(.var 10),(.tup [(.str "join"),(.var 2),(.tup [(.str "pick"),(.var 7),(.var 10)])]),(.var 9)])]
def bK:List D3.S:=[.asg (.tp [(.nm 6),(.nm 7)]) (.call "_law_base" 5 [(.frz (.bin .FloorDiv (.var 1) (.int 11))),(.var 2),(.var 3),(.var 4),(.var 5)]),.ite (.cmp .Lt (.var 0) (.int 3)) [.ret (.call "_law_apart" 5 [(.var 0),(.var 1),(.var 6),(.var 7),(.var 5)])] [],.ite (.andL [(.cmp .Eq (.var 0) (.int 11)),(.cmp .Eq (.bin .Mod (.var 1) (.int 2)) (.int 0))]) [.ret (.tup [(.var 6),.non])] [],.ite (.cmp .Eq (.var 0) (.int 11)) [.set 6 (.tup [(.str "table"),(.ix (.var 2) (.int 0))]),.ret (.tup [(.tup [(.str "pick"),(.var 6),(.frz (.call "_law_sinker" 3 [(.frz (.bin .FloorDiv (.var 1) (.int 2))),(.dix (.var 3) (.ix (.var 2) (.int 0))),(.var 5)]))]),.non])] [],.ite (.cmp .Eq (.var 0) (.int 5)) [.asg (.tp [(.nm 8),(.nm 9),(.nm 10),(.nm 7)]) (.call "_law_sunk_call" 5 [(.var 1),(.var 6),(.var 7),(.var 4),(.var 5)])] [.ite (.cmp .Lt (.var 0) (.int 8)) [.asg (.tp [(.nm 8),(.nm 9),(.nm 10),(.nm 7)]) (.call "_law_sunk" 7 [(.var 0),(.var 1),(.var 6),(.var 7),(.var 2),(.var 3),(.var 5)])] [.asg (.tp [(.nm 8),(.nm 9),(.nm 10),(.nm 7)]) (.call "_law_joined" 7 [(.var 0),(.var 1),(.var 6),(.var 7),(.var 2),(.var 3),(.var 5)])]],.ite (.andL [(.cmp .IsNot (.var 10) .non),(.cmp .Eq (.bin .Mod (.bin .FloorDiv (.var 1) (.int 13)) (.int 2)) (.int 1))]) [.for (.rng1 (.bin .Add (.int 1) (.bin .Mod (.bin .FloorDiv (.var 1) (.int 26)) (.int 3)))) (.nm 11) jR] [],.ret (.tup [(.tup [(.str "pick"),(.var 8),(.var 9)]),(.var 10)])]
def dB:List D3.S:=[.set 1 (.frz (.tcall .tuple [(.call "_law_names" 2 [(.frz (.call "_law_cell_at" 2 [(.var 0),(.int 0)])),(.int 7)])])),.set 2 (.frz (.call "_law_names" 2 [(.frz (.call "_law_cell_at" 2 [(.var 0),(.int 1)])),(.int 3)])),.set 3 (.frz (.call "_law_values" 1 [(.frz (.call "_law_cell_at" 2 [(.var 0),(.int 2)]))])),.set 4 (.frz (.call "_law_shapes" 2 [(.var 2),(.var 1)])),.set 5 (.frz (.bin .Mod (.call "_law_cell_at" 2 [(.var 0),(.int 3)]) (.int 12))),.set 6 (.frz (.call "_law_mixed" 2 [(.frz (.call "_law_cell_at" 2 [(.var 0),(.int 4)])),(.int 2147483629)])),.asg (.tp [(.nm 7),(.nm 8)]) (.call "_law_pair" 6 [(.var 5),(.var 6),(.var 2),(.var 4),(.var 1),(.var 3)]),.set 9 (.frz (.tcall .dict [(.var 4)])),.set 10 (.frz (.call "step" 2 [(.var 7),(.var 9)])),.ret (.andL [(.cmp .Eq (.var 10) (.var 8)),(.deq false (.var 9) (.var 4))])]
def xC:FD:=⟨["columns", "at"],["columns", "at"],nQ⟩
def xD:FD:=⟨["test"],["test", "word"],fT⟩
def xE:FD:=⟨["test", "names"],["test", "names", "word"],e9⟩
def xF:FD:=⟨["part", "names"],["part", "names"],lE⟩
def xG:FD:=⟨["asking"],["asking"],gM⟩
def xH:FD:=⟨["asking", "within"],["asking", "within"],nR⟩
def xI:FD:=⟨["column", "columns"],["column", "columns"],nS⟩
def xJ:FD:=⟨["asking", "within"],["asking", "within", "column"],nT⟩
def xK:FD:=⟨["columns", "within"],["columns", "within", "at", "column"],nU⟩
def xL:FD:=⟨["asking", "within"],["asking", "within"],nV⟩
def xM:FD:=⟨["column", "columns", "within"],["column", "columns", "within"],nW⟩
def xN:FD:=⟨["asking", "within"],["asking", "within"],nX⟩
def xO:FD:=⟨["asking", "within"],["asking", "within", "columns", "at"],iH⟩
def xP:FD:=⟨["asking", "within"],["asking", "within", "one", "other"],lF⟩
def xQ:FD:=⟨["asking", "within"],["asking", "within", "one", "other"],nY⟩
def xR:FD:=⟨["asking", "within"],["asking", "within", "one", "other", "column"],nZ⟩
def xS:FD:=⟨["asking", "shapes"],["asking", "shapes", "within", "deed"],fU⟩
def xT:FD:=⟨["name", "shapes"],["name", "shapes"],n9⟩
def xU:FD:=⟨["asking", "shapes"],["asking", "shapes"],oA⟩
def xV:FD:=⟨["asking", "shapes"],["asking", "shapes", "behind", "within", "at", "one"],dW⟩
def xW:FD:=⟨["asking", "test", "shapes"],["asking", "test", "shapes"],eF⟩
def xX:FD:=⟨["asking", "test", "shapes"],["asking", "test", "shapes", "word", "within", "names"],bN⟩
def xY:FD:=⟨["asking", "test", "shapes"],["asking", "test", "shapes", "one", "other"],cO⟩
def xZ:FD:=⟨["columns", "test"],["columns", "test"],oB⟩
def x3:FD:=⟨["_law_script", "_law_k"],["_law_script", "_law_k"],lG⟩
def x4:FD:=⟨["_law_cell", "_law_prime"],["_law_cell", "_law_prime", "_law_number"],oC⟩
def x6:FD:=⟨["_law_cell", "_law_many"],["_law_cell", "_law_many", "_law_size", "_law_at"],gN⟩
def yA:FD:=⟨["_law_cell"],["_law_cell", "_law_far"],gO⟩
def yB:FD:=⟨["_law_cell", "_law_columns", "_law_values_here"],["_law_cell", "_law_columns", "_law_values_here"],iI⟩
def yC:FD:=⟨["_law_cell", "_law_deep", "_law_columns", "_law_values_here"],["_law_cell", "_law_deep", "_law_columns", "_law_values_here", "_law_rest", "_law_word", "_law_one"],bG⟩
def yD:FD:=⟨["_law_number", "_law_columns"],["_law_number", "_law_columns", "_law_at", "_law_some_here"],jS⟩
def yE:FD:=⟨["_law_at", "_law_columns", "_law_tables", "_law_shapes_here"],["_law_at", "_law_columns", "_law_tables", "_law_shapes_here", "_law_within"],oD⟩
def yF:FD:=⟨["_law_tables", "_law_pool"],["_law_tables", "_law_pool", "_law_shapes_here"],oE⟩
def yG:FD:=⟨["_law_cell", "_law_columns", "_law_values_here"],["_law_cell", "_law_columns", "_law_values_here", "_law_one", "_law_other", "_law_bare"],eR⟩
def yH:FD:=⟨["_law_cell", "_law_tables", "_law_shapes_here", "_law_pool", "_law_values_here"],["_law_cell", "_law_tables", "_law_shapes_here", "_law_pool", "_law_values_here", "_law_asking", "_law_columns"],dP⟩
def yI:FD:=⟨["_law_way", "_law_cell", "_law_base_here", "_law_columns", "_law_values_here"],["_law_way", "_law_cell", "_law_base_here", "_law_columns", "_law_values_here", "_law_one", "_law_other", "_law_due"],eG⟩
def yJ:FD:=⟨["_law_test_here", "_law_names_here"],["_law_test_here", "_law_names_here"],iJ⟩
def yK:FD:=⟨["_law_cell", "_law_base_here", "_law_columns", "_law_pool", "_law_values_here"],["_law_cell", "_law_base_here", "_law_columns", "_law_pool", "_law_values_here", "_law_begin", "_law_fresh", "_law_names_here", "_law_k", "_law_test_here", "_law_within"],jT⟩
def yL:FD:=⟨["_law_way", "_law_cell", "_law_base_here", "_law_columns", "_law_tables", "_law_shapes_here", "_law_values_here"],["_law_way", "_law_cell", "_law_base_here", "_law_columns", "_law_tables", "_law_shapes_here", "_law_values_here", "_law_some_here", "_law_test_here", "_law_column", "_law_due", "_law_one", "_law_other"],bQ⟩
def yM:FD:=⟨["_law_way", "_law_cell", "_law_base_here", "_law_columns", "_law_tables", "_law_shapes_here", "_law_values_here"],["_law_way", "_law_cell", "_law_base_here", "_law_columns", "_law_tables", "_law_shapes_here", "_law_values_here", "_law_other", "_law_beside", "_law_both", "_law_test_here", "_law_word"],bA⟩
def yN:FD:=⟨["_law_way", "_law_cell", "_law_tables", "_law_shapes_here", "_law_pool", "_law_values_here"],["_law_way", "_law_cell", "_law_tables", "_law_shapes_here", "_law_pool", "_law_values_here", "_law_base_here", "_law_columns", "_law_within", "_law_test_here", "_law_due", "_law_k", "_law_between"],bK⟩
def qX:FD:=⟨["_law_script"],["_law_script", "_law_pool", "_law_tables", "_law_values_here", "_law_shapes_here", "_law_way", "_law_number", "_law_asking", "_law_due", "_law_handed", "_law_found"],dB⟩
def T:List (Str×FD):=[(("refuse_twice" : Str),xC),(("columns_in" : Str),xD),(("called" : Str),xE),(("called_part" : Str),xF),(("askings_within" : Str),xG),(("rebuilt" : Str),xH),(("refuse_missing" : Str),xI),(("columns_of_pick" : Str),xJ),(("kept" : Str),xK),(("columns_of_keep" : Str),xL),(("totalled" : Str),xM),(("columns_of_total" : Str),xN),(("columns_of_call" : Str),xO),(("columns_of_join" : Str),xP),(("columns_of_pour" : Str),xQ),(("columns_of_leave" : Str),xR),(("columns_of" : Str),xS),(("columns_of_table" : Str),xT),(("step" : Str),xU),(("stepped" : Str),xV),(("behind_pick" : Str),xW),(("sunk" : Str),xX),(("sunk_into_join" : Str),xY),(("has_all" : Str),xZ),(("_law_cell_at" : Str),x3),(("_law_mixed" : Str),x4),(("_law_names" : Str),x6),(("_law_values" : Str),yA),(("_law_part" : Str),yB),(("_law_test" : Str),yC),(("_law_some" : Str),yD),(("_law_like" : Str),yE),(("_law_shapes" : Str),yF),(("_law_sinker" : Str),yG),(("_law_base" : Str),yH),(("_law_apart" : Str),yI),(("_law_renamed" : Str),yJ),(("_law_sunk_call" : Str),yK),(("_law_sunk" : Str),yL),(("_law_joined" : Str),yM),(("_law_pair" : Str),yN),(("law" : Str),qX)]
def TT:TB:=⟨T,[],[],[],[]⟩
def GG:MG:=⟨[(("DEEDS" : Str),(GV.con (.t [("pick", "columns_of_pick"),("keep", "columns_of_keep"),("call", "columns_of_call"),("join", "columns_of_join"),("pour", "columns_of_pour"),("total", "columns_of_total"),("leave", "columns_of_leave")]))),(("NoColumn" : Str),(GV.cls)),(("NoTable" : Str),(GV.cls)),(("Twice" : Str),(GV.cls)),(("Unlike" : Str),(GV.cls)),(("_law_apart" : Str),(GV.fn 5)),(("_law_base" : Str),(GV.fn 5)),(("_law_cell_at" : Str),(GV.fn 2)),(("_law_joined" : Str),(GV.fn 7)),(("_law_like" : Str),(GV.fn 4)),(("_law_mixed" : Str),(GV.fn 2)),(("_law_names" : Str),(GV.fn 2)),(("_law_pair" : Str),(GV.fn 6)),(("_law_part" : Str),(GV.fn 3)),(("_law_renamed" : Str),(GV.fn 2)),(("_law_shapes" : Str),(GV.fn 2)),(("_law_sinker" : Str),(GV.fn 3)),(("_law_some" : Str),(GV.fn 2)),(("_law_sunk" : Str),(GV.fn 7)),(("_law_sunk_call" : Str),(GV.fn 5)),(("_law_test" : Str),(GV.fn 4)),(("_law_values" : Str),(GV.fn 1)),(("all" : Str),(GV.no)),(("askings_within" : Str),(GV.fn 1)),(("behind_pick" : Str),(GV.fn 3)),(("called" : Str),(GV.fn 2)),(("called_part" : Str),(GV.fn 2)),(("columns_in" : Str),(GV.fn 1)),(("columns_of" : Str),(GV.fn 2)),(("columns_of_call" : Str),(GV.fn 2)),(("columns_of_join" : Str),(GV.fn 2)),(("columns_of_keep" : Str),(GV.fn 2)),(("columns_of_leave" : Str),(GV.fn 2)),(("columns_of_pick" : Str),(GV.fn 2)),(("columns_of_pour" : Str),(GV.fn 2)),(("columns_of_table" : Str),(GV.fn 2)),(("columns_of_total" : Str),(GV.fn 2)),(("dict" : Str),(GV.no)),(("enumerate" : Str),(GV.no)),(("has_all" : Str),(GV.fn 2)),(("kept" : Str),(GV.fn 2)),(("len" : Str),(GV.no)),(("range" : Str),(GV.no)),(("rebuilt" : Str),(GV.fn 2)),(("refuse_missing" : Str),(GV.fn 2)),(("refuse_twice" : Str),(GV.fn 2)),(("step" : Str),(GV.fn 2)),(("stepped" : Str),(GV.fn 2)),(("sunk" : Str),(GV.fn 3)),(("sunk_into_join" : Str),(GV.fn 3)),(("totalled" : Str),(GV.fn 3)),(("tuple" : Str),(GV.no)),(("zip" : Str),(GV.no))],[],[],[],["Twice", "NoColumn", "Unlike", "NoTable"],[]⟩
def top(i:Nat):Stmt:=PySem.Challenge.pw_whencewise_k60_a_step.main.body.getD i (.Pass ⟨0,0,0,0⟩)
abbrev qY:Stmt:=top 53
theorem aKB(k:Nat):(WT TT (k+1)).Φ "refuse_twice" = phi 2 2 (evB (WT TT k) nQ):=aW (d:=xC) rfl
theorem qZ(k:Nat):(WT TT (k+1)).Φ "columns_in" = phi 1 2 (evB (WT TT k) fT):=aW (d:=xD) rfl
theorem rA(k:Nat):(WT TT (k+1)).Φ "called" = phi 2 3 (evB (WT TT k) e9):=aW (d:=xE) rfl
theorem aKC(k:Nat):(WT TT (k+1)).Φ "called_part" = phi 2 2 (evB (WT TT k) lE):=aW (d:=xF) rfl
theorem rB(k:Nat):(WT TT (k+1)).Φ "askings_within" = phi 1 1 (evB (WT TT k) gM):=aW (d:=xG) rfl
theorem aKD(k:Nat):(WT TT (k+1)).Φ "rebuilt" = phi 2 2 (evB (WT TT k) nR):=aW (d:=xH) rfl
theorem aKE(k:Nat):(WT TT (k+1)).Φ "refuse_missing" = phi 2 2 (evB (WT TT k) nS):=aW (d:=xI) rfl
theorem aKF(k:Nat):(WT TT (k+1)).Φ "columns_of_pick" = phi 2 3 (evB (WT TT k) nT):=aW (d:=xJ) rfl
theorem aKG(k:Nat):(WT TT (k+1)).Φ "kept" = phi 2 4 (evB (WT TT k) nU):=aW (d:=xK) rfl
theorem aKH(k:Nat):(WT TT (k+1)).Φ "columns_of_keep" = phi 2 2 (evB (WT TT k) nV):=aW (d:=xL) rfl
theorem aKI(k:Nat):(WT TT (k+1)).Φ "totalled" = phi 3 3 (evB (WT TT k) nW):=aW (d:=xM) rfl
theorem aKJ(k:Nat):(WT TT (k+1)).Φ "columns_of_total" = phi 2 2 (evB (WT TT k) nX):=aW (d:=xN) rfl
theorem aKK(k:Nat):(WT TT (k+1)).Φ "columns_of_call" = phi 2 4 (evB (WT TT k) iH):=aW (d:=xO) rfl
theorem aKL(k:Nat):(WT TT (k+1)).Φ "columns_of_join" = phi 2 4 (evB (WT TT k) lF):=aW (d:=xP) rfl
theorem aKM(k:Nat):(WT TT (k+1)).Φ "columns_of_pour" = phi 2 4 (evB (WT TT k) nY):=aW (d:=xQ) rfl
theorem aKN(k:Nat):(WT TT (k+1)).Φ "columns_of_leave" = phi 2 5 (evB (WT TT k) nZ):=aW (d:=xR) rfl
theorem yO(k:Nat):(WT TT (k+1)).Φ "columns_of" = phi 2 4 (evB (WT TT k) fU):=aW (d:=xS) rfl
theorem aKO(k:Nat):(WT TT (k+1)).Φ "columns_of_table" = phi 2 2 (evB (WT TT k) n9):=aW (d:=xT) rfl
theorem aKP(k:Nat):(WT TT (k+1)).Φ "step" = phi 2 2 (evB (WT TT k) oA):=aW (d:=xU) rfl
theorem oF(k:Nat):(WT TT (k+1)).Φ "stepped" = phi 2 6 (evB (WT TT k) dW):=aW (d:=xV) rfl
theorem oG(k:Nat):(WT TT (k+1)).Φ "behind_pick" = phi 3 3 (evB (WT TT k) eF):=aW (d:=xW) rfl
theorem iK(k:Nat):(WT TT (k+1)).Φ "sunk" = phi 3 6 (evB (WT TT k) bN):=aW (d:=xX) rfl
theorem yP(k:Nat):(WT TT (k+1)).Φ "sunk_into_join" = phi 3 5 (evB (WT TT k) cO):=aW (d:=xY) rfl
theorem aKQ(k:Nat):(WT TT (k+1)).Φ "has_all" = phi 2 2 (evB (WT TT k) oB):=aW (d:=xZ) rfl
theorem aKR(k:Nat):(WT TT (k+1)).Φ "_law_cell_at" = phi 2 2 (evB (WT TT k) lG):=aW (d:=x3) rfl
theorem aKS(k:Nat):(WT TT (k+1)).Φ "_law_mixed" = phi 2 3 (evB (WT TT k) oC):=aW (d:=x4) rfl
theorem aKT(k:Nat):(WT TT (k+1)).Φ "_law_names" = phi 2 4 (evB (WT TT k) gN):=aW (d:=x6) rfl
theorem aKU(k:Nat):(WT TT (k+1)).Φ "_law_values" = phi 1 2 (evB (WT TT k) gO):=aW (d:=yA) rfl
theorem yQ(k:Nat):(WT TT (k+1)).Φ "_law_part" = phi 3 3 (evB (WT TT k) iI):=aW (d:=yB) rfl
theorem lH(k:Nat):(WT TT (k+1)).Φ "_law_test" = phi 4 7 (evB (WT TT k) bG):=aW (d:=yC) rfl
theorem aKV(k:Nat):(WT TT (k+1)).Φ "_law_some" = phi 2 4 (evB (WT TT k) jS):=aW (d:=yD) rfl
theorem aKW(k:Nat):(WT TT (k+1)).Φ "_law_like" = phi 4 5 (evB (WT TT k) oD):=aW (d:=yE) rfl
theorem aKX(k:Nat):(WT TT (k+1)).Φ "_law_shapes" = phi 2 3 (evB (WT TT k) oE):=aW (d:=yF) rfl
theorem aKY(k:Nat):(WT TT (k+1)).Φ "_law_sinker" = phi 3 6 (evB (WT TT k) eR):=aW (d:=yG) rfl
theorem aKZ(k:Nat):(WT TT (k+1)).Φ "_law_base" = phi 5 7 (evB (WT TT k) dP):=aW (d:=yH) rfl
theorem aK0(k:Nat):(WT TT (k+1)).Φ "_law_apart" = phi 5 8 (evB (WT TT k) eG):=aW (d:=yI) rfl
theorem yR(k:Nat):(WT TT (k+1)).Φ "_law_renamed" = phi 2 2 (evB (WT TT k) iJ):=aW (d:=yJ) rfl
theorem aK1(k:Nat):(WT TT (k+1)).Φ "_law_sunk_call" = phi 5 11 (evB (WT TT k) jT):=aW (d:=yK) rfl
theorem aK2(k:Nat):(WT TT (k+1)).Φ "_law_sunk" = phi 7 13 (evB (WT TT k) bQ):=aW (d:=yL) rfl
theorem rC(k:Nat):(WT TT (k+1)).Φ "_law_joined" = phi 7 12 (evB (WT TT k) bA):=aW (d:=yM) rfl
theorem aK3(k:Nat):(WT TT (k+1)).Φ "_law_pair" = phi 6 13 (evB (WT TT k) bK):=aW (d:=yN) rfl
theorem u_law(k:Nat):(WT TT (k+1)).Φ "law" = phi 1 11 (evB (WT TT k) dB):=aW (d:=qX) rfl
theorem dQ{ds:List D}{m m':Md}{i:Int}{d:D}(h:atI ds i=some d):op2 ixD (.ok m (.lst ds)) (.ok m' (.int i))=.ok .fz d:=bL (by show (atI ds i).map _=_;rw[h];rfl)
theorem cH{ds:List D}{m m':Md}{i:Int}{d:D}(h:atI ds i=some d):op2 ixD (.ok m (.tup ds)) (.ok m' (.int i))=.ok .fz d:=bL (by show (atI ds i).map _=_;rw[h];rfl)
theorem ix_s{z:Str}{m m':Md}{i:Int}{c:Nat}(h:atI z.cps.toList i=some c):op2 ixD (.ok m (.str z)) (.ok m' (.int i))=.ok .fz (.str ⟨#[c]⟩):=bL (by show (atI z.cps.toList i).map _=_;rw[h];rfl)
theorem rE{α:Type}(xs:List α)(v:Int)(n:Int)(hn:n=xs.length)(h:0<n):∃ c,c∈xs/\atI xs (v % n)=some c:=by
 have h0:=Int.emod_nonneg v (show n≠0 by omega)
 have h1:=Int.emod_lt_of_pos v h;obtain ⟨j,hj⟩:=Int.eq_ofNat_of_zero_le h0;have hl:j<xs.length:=by omega
 exact ⟨xs[j],aPD hl,by rw[hj];exact bC (aPC hl)⟩
def ce(ns:List Int)(i:Int):Int:=if 0<=i then (ns[i.toNat]?).getD 0 else 0
theorem cell(k:Nat)(ns:List Int){i:Int}(h0:0<=i):(WT TT (k+1)).Φ "_law_cell_at" [.lst (ns.map .int),.int i]=.ok .fz (.int (ce ns i)):=by
 rw[aKR];refine aJ rfl ?_;show evB _ lG [some (false,.lst (ns.map .int)),some (false,.int i)]=_;obtain ⟨j,rfl⟩:=Int.eq_ofNat_of_zero_le h0;unfold ce;rw[if_pos h0];by_cases h:j<ns.length
 . have hx:op2 ixD (.ok .fz (.lst (ns.map .int))) (.ok .fz (.int j))=.ok .fz (.int ns[j]):=dQ (bC (by rw[aNX,aPC h];rfl))
   have h':((j:Int)<(ns.length:Int)):=by omega
   simp[lG,h',hx,h]
 . have h':¬ ((j:Int)<(ns.length:Int)):=by omega
   simp[lG,h',List.getElem?_eq_none (Nat.le_of_not_lt h)]
theorem lI(k:Nat)(ns:List Int){i:Int}(h0:0<=i):aD 2 ((WT TT (k+1)).Φ "_law_cell_at") (.ok [(.fz,.lst (ns.map .int)),(.fz,.int i)])=.ok .fz (.int (ce ns i)):=aY (cell k ns h0)
theorem lJ{n:Int}(h0:0<=n)(h1:n<=1000){m:Md}:hG (.ok [(m,.int n)])=.ok .fz (.lst (bJ 0 n)):=by unfold hG;rw[aS.thn_ok];dsimp only;rw[if_pos];simp only[aOI,aOW];omega
theorem mem_range{d:D}{n:Int}(h:d∈bJ 0 n):∃ i:Nat,(i:Int)<n/\d=.int i:=by simp only[bJ,aQM,aMX] at h;obtain ⟨i,hi,rfl⟩:=h;exact ⟨i,by omega,by simp⟩
inductive Pt where | of (k:Nat) | just (v:D)
inductive Ts where | atom (s:Bool) (p q:Pt) | no (t:Ts) | two (e:Bool) (a b:Ts)
def nth(f:List Str)(k:Nat):Str:=f.getD k Str.empty
def ptD(f:List Str):Pt->D
 | .of k=>.tup [.str "of", .str (nth f k)]
 | .just v=>.tup [.str "just", v]
def tsD(f:List Str):Ts->D
 | .atom s p q=>.tup [.str (if s then "same" else "under"),ptD f p,ptD f q]
 | .no t=>.tup [.str "not", tsD f t]
 | .two e a b=>.tup [.str (if e then "either" else "both"),tsD f a,tsD f b]
def Ts.dep:Ts->Nat
 | .atom ..=>0
 | .no t=>t.dep+1
 | .two _ a b=>max a.dep b.dep+1
theorem i0{a b:D}{m m':Md}:op2 ixD (.ok m (.tup [a,b])) (.ok m' (.int 0))=.ok .fz a:=cH (bC (j:=0) rfl)
theorem i1{a b:D}{m m':Md}:op2 ixD (.ok m (.tup [a,b])) (.ok m' (.int 1))=.ok .fz b:=cH (bC (j:=1) rfl)
theorem j0{a b c:D}{m m':Md}:op2 ixD (.ok m (.tup [a,b,c])) (.ok m' (.int 0))=.ok .fz a:=cH (bC (j:=0) rfl)
theorem j1{a b c:D}{m m':Md}:op2 ixD (.ok m (.tup [a,b,c])) (.ok m' (.int 1))=.ok .fz b:=cH (bC (j:=1) rfl)
theorem j2{a b c:D}{m m':Md}:op2 ixD (.ok m (.tup [a,b,c])) (.ok m' (.int 2))=.ok .fz c:=cH (bC (j:=2) rfl)
theorem wd{a b:String}(h:(Str.ofString a==Str.ofString b)=false:=by decide +kernel):(Str.ofString a==Str.ofString b)=false:=h
def cl(f:List Str):Pt->List D
 | .of k=>[.str (nth f k)]
 | .just _=>[]
def cols(f:List Str):Ts->List D
 | .atom _ p q=>cl f p++cl f q
 | .no t=>cols f t
 | .two _ a b=>cols f a++cols f b
def jU(w:Str):Bool:=w==Str.ofString "both" || w==Str.ofString "either"
theorem gP{w:Str}{m m':Md}:op2 (bF .In) (.ok m (.str w)) (.ok m' (.tup [.str (Str.ofString "both"),.str (Str.ofString "either")]))=.ok .fz (.bl (jU w)):=by refine bL ?_;show some (Md.fz,D.bl (eqD (.str (Str.ofString "both")) (.str w)||(eqD (.str (Str.ofString "either")) (.str w)||false)))=_;congr 3;simp only[eqD,jU,Bool.or_false];rw[aO9];simp only[aOY,aO7];exact ⟨λh=>h.imp Eq.symm Eq.symm,λh=>h.imp Eq.symm Eq.symm⟩
theorem be:eY (.ok [(.fz,.str (Str.ofString "both")),(.fz,.str (Str.ofString "either"))])=.ok .fz (.tup [.str (Str.ofString "both"),.str (Str.ofString "either")]):=by rfl
theorem w1:jU (Str.ofString "same")=false:=by decide +kernel
theorem w2:jU (Str.ofString "under")=false:=by decide +kernel
theorem w3:jU (Str.ofString "both")=true:=by decide +kernel
theorem w4:jU (Str.ofString "either")=true:=by decide +kernel
theorem t2{a b:D}:eY (.ok [(.fz,a),(.fz,b)])=.ok .fz (.tup [a,b]):=by rfl
theorem t3{a b c:D}:eY (.ok [(.fz,a),(.fz,b),(.fz,c)])=.ok .fz (.tup [a,b,c]):=by rfl
theorem lK{n:Nat}{Φ:List D->Res}{xs:List (Md×D)}{ds:List D}{d:D}(hl:ds.length=n)(ha:cK xs=some ds)(h:Φ ds=.ok .fr d):aD n Φ (.ok xs)=.ok .fr d:=by
 show (match cK xs with | some ds=>if ds.length=n then (match Φ ds with | .ok .bo _=>Res.stuck | r=>r) else .stuck | none=>.stuck)=_
 rw[ha];show (if ds.length=n then (match Φ ds with | .ok .bo _=>Res.stuck | r=>r) else .stuck)=_
 rw[if_pos hl,h]
theorem jV{Φ:List D->Res}{a d:D}(h:Φ [a]=.ok .fr d):aD 1 Φ (.ok [(.fz,a)])=.ok .fr d:=lK (ds:=[a]) rfl rfl h
theorem cn_no(k:Nat){f:List Str}{t:Ts}{c:List D}(h:(WT TT k).Φ "columns_in" [tsD f t]=.ok .fr (.lst c)):(WT TT (k+1)).Φ "columns_in" [tsD f (.no t)]=.ok .fr (.lst c):=by have c1:aD 1 ((WT TT k).Φ "columns_in") (.ok [(.fz,tsD f t)])=.ok .fr (.lst c):=jV h;rw[qZ];refine aJ rfl ?_;show evB (WT TT k) fT [some (false,.tup [.str "not", tsD f t]),none]=_;generalize tsD f t=d at *;simp[fT,i0,i1,c1]
theorem aK4(k:Nat){f:List Str}{e:Bool}{t u:Ts}{b c:List D}(h:(WT TT k).Φ "columns_in" [tsD f t]=.ok .fr (.lst b))(h':(WT TT k).Φ "columns_in" [tsD f u]=.ok .fr (.lst c))(hs:b.length+c.length<=sizeLine):(WT TT (k+1)).Φ "columns_in" [tsD f (.two e t u)]=.ok .fr (.lst (b++c)):=by
 have c1:aD 1 ((WT TT k).Φ "columns_in") (.ok [(.fz,tsD f t)])=.ok .fr (.lst b):=jV h;have c2:aD 1 ((WT TT k).Φ "columns_in") (.ok [(.fz,tsD f u)])=.ok .fr (.lst c):=jV h';rw[qZ];refine aJ rfl ?_;show evB (WT TT k) fT [some (false,.tup [.str (if e then "either" else "both"),tsD f t,tsD f u]),none]=_;generalize tsD f t=d at *;generalize tsD f u=d' at *;cases e with
 | true=>simp[fT,j0,j1,j2,wd (a := "either") (b := "not"),be,gP,w4,c1,c2,wK hs]
 | false=>simp[fT,j0,j1,j2,wd (a := "both") (b := "not"),be,gP,w3,c1,c2,wK hs]
theorem cut1{W:WD}{ρ:Rho}{a b c:D}{m:Md}:slP (.ok m (.tup [a,b,c])) (some λρ=>evE W (.int 1) ρ) none ρ=.ok .fz (.tup [b,c]):=by simp only[slP,Res.thn_ok,cT,cN];rfl
def tst(W:WD):Rho->Res:=λρ=>evF W [.cmp .Eq (.ix (.var 0) (.int 0)) (.str "of")] ρ
def elt(W:WD):Rho->Res:=λρ=>evE W (.ix (.var 0) (.int 1)) ρ
theorem yS{W:WD}{f:List Str}(p:Pt){ds ys:List D}(h:bD (aI (.nm 0)) (tst W) (elt W) [none] ds=some ys):bD (aI (.nm 0)) (tst W) (elt W) [none] (ptD f p::ds)=some (cl f p++ys):=by
 have k:aI (.nm 0) (ptD f p) [none]=some [some (false,ptD f p)]:=rfl;rw[bD,k];dsimp only;cases p with
 | of j =>
  have t:tst W [some (false,ptD f (.of j))]=.ok .fz (.bl true):=by simp[tst,ptD,i0]
  have e:elt W [some (false,ptD f (.of j))]=.ok .fz (.str (nth f j)):=by simp[elt,ptD,i1]
  rw[t,e,h];rfl
 | just v =>
  have t:tst W [some (false,ptD f (.just v))]=.ok .fz (.bl false):=by simp[tst,ptD,i0,wd (a := "just") (b := "of")]
  rw[t,h];rfl
theorem aK5{W:WD}{ρ:Rho}{f:List Str}(p q:Pt){m:Md}:bY (.ok m (.lst [ptD f p,ptD f q])) ρ [] 1 (aI (.nm 0)) (tst W) (elt W)=.ok .fr (.lst (cl f p++cl f q)):=by
 have h0:bD (aI (.nm 0)) (tst W) (elt W) [none] []=some []:=rfl;have h:=yS (W:=W) (f:=f) p (yS (W:=W) (f:=f) q h0);rw[aNP] at h;show (if [ptD f p,ptD f q].length<sizeLine then (match bD (aI (.nm 0)) (tst W) (elt W) [none] [ptD f p,ptD f q] with | some ys=>Res.ok .fr (.lst ys) | none=>.stuck) else .stuck)=_
 rw[h,if_pos (show [ptD f p,ptD f q].length<sizeLine from (by decide +kernel:2<sizeLine))]
theorem last{W:WD}{f:List Str}{w:Str}{p q:Pt}{x:Option (Bool×D)}:evE W (.comp (.ix (.var 0) (.int 1)) (.items (.slice (.var 0) (some (.int 1)) none)) [(.cmp .Eq (.ix (.var 0) (.int 0)) (.str "of"))] [] (.nm 0) 1) [some (false,.tup [.str w,ptD f p,ptD f q]),x]=.ok .fr (.lst (cl f p++cl f q)):=by
 rw[gI,nF,jM];have e:gB (bI (slP (evE W (.var 0) [some (false,.tup [.str w,ptD f p,ptD f q]),x]) (evO W (some (.int 1))) (evO W none) [some (false,.tup [.str w,ptD f p,ptD f q]),x]))=.ok .fz (.lst [ptD f p,ptD f q]):=by
  have:=cut1 (W:=W) (ρ:=[some (false,.tup [.str w,ptD f p,ptD f q]),x]) (a:=.str w) (b:=ptD f p) (c:=ptD f q) (m:=.fz);simp only[evO];rw[show evE W (.var 0) [some (false,.tup [.str w,ptD f p,ptD f q]),x]=.ok .fz (.tup [.str w,ptD f p,ptD f q]) by simp]
  rw[this];rfl
 rw[e];exact aK5 p q
theorem aK6(k:Nat){f:List Str}{s:Bool}{p q:Pt}:(WT TT (k+1)).Φ "columns_in" [tsD f (.atom s p q)]=.ok .fr (.lst (cl f p++cl f q)):=by
 rw[qZ];refine aJ rfl ?_;show evB (WT TT k) fT [some (false,.tup [.str (if s then "same" else "under"),ptD f p,ptD f q]),none]=_;have l:=λw x=>last (W:=WT TT k) (f:=f) (w:=w) (p:=p) (q:=q) (x:=x);unfold fT;generalize E.comp (.ix (.var 0) (.int 1)) (.items (.slice (.var 0) (some (.int 1)) none)) [(.cmp .Eq (.ix (.var 0) (.int 0)) (.str "of"))] [] (.nm 0) 1=z at *;cases s with
 | true=>simp[j0,wd (a := "same") (b := "not"),be,gP,w1,l]
 | false=>simp[j0,wd (a := "under") (b := "not"),be,gP,w2,l]
theorem mx1(k n m:Nat):∃ j,k+max n m=j+n:=⟨k+max n m-n,by omega⟩
theorem mx2(k n m:Nat):∃ j,k+max n m=j+m:=⟨k+max n m-m,by omega⟩
theorem oH{f:List Str}:∀ (t:Ts) (k:Nat),(cols f t).length<=sizeLine->(WT TT (k+t.dep+1)).Φ "columns_in" [tsD f t]=.ok .fr (.lst (cols f t))
 | .atom s p q,k,_=>aK6 k
 | .no t,k,hl=>cn_no (k+t.dep+1) (oH t k hl)
 | .two e a b,k,hl=>by
  have el:(cols f a).length+(cols f b).length<=sizeLine:=by rw[<- aN0];exact hl
  have q1:(WT TT (k+max a.dep b.dep+1)).Φ "columns_in" [tsD f a]=.ok .fr (.lst (cols f a)):=by obtain ⟨j,e⟩:=mx1 k a.dep b.dep;rw[e];exact oH a j (aMY (Nat.le_add_right _ _) el)
  have q2:(WT TT (k+max a.dep b.dep+1)).Φ "columns_in" [tsD f b]=.ok .fr (.lst (cols f b)):=by obtain ⟨j,e⟩:=mx2 k a.dep b.dep;rw[e];exact oH b j (aMY (Nat.le_add_left _ _) el)
  exact aK4 (k+max a.dep b.dep+1) q1 q2 el
theorem yT{f:List Str}(t:Ts)(K:Nat)(hK:t.dep+1<=K)(hl:(cols f t).length<=sizeLine):(WT TT K).Φ "columns_in" [tsD f t]=.ok .fr (.lst (cols f t)):=by
 have:=oH t (K-t.dep-1) hl;rw[show K-t.dep-1+t.dep+1=K by omega] at this
 exact this
theorem l1{a:D}:gZ (.ok [(.fz,a)])=.ok .fr (.lst [a]):=by rfl
theorem l0:gZ (.ok [])=.ok .fr (.lst []):=by rfl
theorem lL{k:D->Rho->Option Rho}{body:Rho->aB}(I:Nat->Rho->Prop):∀ (ds:List D) (i:Nat) {ρ:Rho},(∀ j d,ds[j]? = some d->∀ ρ,I (i+j) ρ->∃ ρ1 ρ2,k d ρ=some ρ1/\body ρ1=.nx ρ2/\I (i+j+1) ρ2)->I i ρ->∃ ρ',dJ k body ds ρ=.nx ρ'/\I (i+ds.length) ρ'
 | [],i,ρ,_,h=>⟨ρ,rfl,h⟩
 | d::ds,i,ρ,hs,h=>by
  obtain ⟨ρ1,ρ2,e1,e2,h2⟩:=hs 0 d rfl ρ h;obtain ⟨ρ',e3,h3⟩:=lL (k:=k) (body:=body) I ds (i+1) (λj d hd ρ hρ=>by
   have:=hs (j+1) d (by rw[aQN];exact hd) ρ (by rw[show i+(j+1)=i+1+j by omega];exact hρ)
   rw[show i+(j+1)+1=i+1+j+1 by omega] at this
   exact this) h2
  refine ⟨ρ',?_,by rw[show i+(d::ds).length=i+1+ds.length by rw[aOQ];omega];exact h3⟩
  unfold dJ;rw[e1];dsimp only;rw[e2];exact e3
theorem yU{n j:Nat}{d:D}(h:(bJ 0 (n:Int))[j]? = some d):j<n/\d=.int (j:Int):=by
 simp only[bJ,aNX] at h;by_cases hj:j<n
 . refine ⟨hj,?_⟩;rw[List.getElem?_range (by omega)] at h
   simp at h;exact h.symm
 . rw[List.getElem?_eq_none (by simp;omega)] at h
   cases h
theorem oI(n:Nat):(bJ 0 (n:Int)).length=n:=by simp[bJ]
theorem yV{n N:Nat}{g:Rho->aB}{ds:List D}{ρ:Rho}(hl:ds.length=n)(h:g (fM N ds)=.nx ρ):phi n N g ds=.ok .fz .non:=by unfold phi;rw[if_pos hl,h];rfl
abbrev Tp(C:List Str):D:=.tup (C.map .str)
theorem yW{C:List Str}:(C.map D.str).all cM=true:=by rw[List.all_map];exact aPA.mpr λ_ _=>rfl
theorem yX{C:List Str}{z:Str}:((C.map D.str).any λy=>eqD y (.str z))=decide (z∈C):=by
 rw[aO9,List.any_map,List.any_eq_true,aOW];constructor
 . rintro ⟨y,hy,e⟩;have e:(y==z)=true:=e;rw[aO7] at e;subst e;exact hy
 . exact λh=>⟨z,h,by show (z==z)=true;exact aPN z⟩
theorem rF{m m':Md}{z:Str}{C:List Str}:op2 (bF .In) (.ok m (.str z)) (.ok m' (Tp C))=.ok .fz (.bl (decide (z∈C))):=by refine bL ?_;show (if (cM (.str z)&&(C.map D.str).all cM)=true then some (Md.fz,D.bl (if false=true then _ else ((C.map D.str).any λy=>eqD y (.str z)))) else none)=_;rw[yW,yX];rfl
theorem oJ{m m':Md}{z:Str}{C:List Str}:op2 (bF .NotIn) (.ok m (.str z)) (.ok m' (Tp C))=.ok .fz (.bl (!decide (z∈C))):=by refine bL ?_;show (if (cM (.str z)&&(C.map D.str).all cM)=true then some (Md.fz,D.bl (if true=true then !((C.map D.str).any λy=>eqD y (.str z)) else _)) else none)=_;rw[yW,yX];rfl
theorem rG:∀ C:List Str,bZ (C.map D.str)=some (C.map PyData.str)
 | []=>rfl
 | z::C=>by
  show (match aU (.str z),bZ (C.map D.str) with | some p,some ps=>some (p::ps) | _,_=>none)=_
  rw[rG C];rfl
theorem yY:∀ C:List Str,PyData.depthAll (C.map PyData.str)=0
 | []=>by simp[PyData.depthAll]
 | z::C=>by simp[PyData.depthAll,PyData.depth,yY C]
theorem yZ{C:List Str}:fL (.tuple (C.map .str))=true:=by unfold fL;simp[PyData.depth,yY]
theorem rH:∀ C:List Str,PyData.eqvAll (C.map PyData.str) (C.map PyData.str)=true
 | []=>by simp[PyData.eqvAll]
 | z::C=>by simp[PyData.eqvAll,PyData.eqv,rH C]
theorem ne_T{m m':Md}{C:List Str}:op2 (bF .NotEq) (.ok m (Tp C)) (.ok m' (Tp C))=.ok .fz (.bl false):=by refine bL ?_;simp[bF,fNe,orO,eqF,aU,rG,yZ,PyData.eqv,rH]
section
variable {W:WD}{ρ:Rho}{ds:List D}{e:E}{i:Nat}{m:Md}
theorem aK7:d9 ds none (some (i:Int))=ds.take i:=by
 unfold d9;rw[HT.tD,HT.tE,aPR,Nat.sub_zero];by_cases h:i<=ds.length
 . rw[Nat.min_eq_left h]
 . rw[Nat.min_eq_right (by omega),aQB,aPS (by omega)]
theorem aK8:d9 ds (some (i:Int)) none=ds.drop i:=by
 unfold d9;rw[HT.tD,HT.tE];by_cases h:i<=ds.length
 . rw[Nat.min_eq_left h];exact aPS (by rw[aOC];omega)
 . rw[Nat.min_eq_right (by omega),aPI,List.drop_of_length_le (by omega)];simp
theorem oK(h:evE W e ρ=.ok m (.int (i:Int))):slP (.ok .fz (.tup ds)) (evO W none) (evO W (some e)) ρ=.ok .fz (.tup (ds.take i)):=by simp only[evO,slP,Res.thn_ok,cT,h];rw[if_neg (by simp),aK7]
theorem rJ(h:evE W e ρ=.ok m (.int (i:Int))):slP (.ok .fz (.tup ds)) (evO W (some e)) (evO W none) ρ=.ok .fz (.tup (ds.drop i)):=by simp only[evO,slP,Res.thn_ok,cT,h];rw[if_neg (by simp),aK8]
end
theorem rK(k:Nat){z:Str}{C:List Str}(h:z∈C):(WT TT (k+1)).Φ "refuse_missing" [.str z,Tp C]=.ok .fz .non:=by rw[aKE];refine yV (ρ:=[some (false,.str z),some (false,Tp C)]) rfl ?_;show evB _ nS [some (false,.str z),some (false,Tp C)]=_;have e:=oJ (m:=.fz) (m':=.fz) (z:=z) (C:=C);rw[aOP h] at e;generalize Tp C=t at *;simp[nS,e]
theorem fV{C:List Str}{i:Nat}(hi:i<C.length){m m':Md}:op2 ixD (.ok m (Tp C)) (.ok m' (.int (i:Int)))=.ok .fz (.str C[i]):=cH (bC (by rw[aNX,aPC hi];rfl))
theorem y1(k:Nat){C:List Str}(hn:C.Nodup){i:Nat}(hi:i<C.length):(WT TT (k+1)).Φ "refuse_twice" [Tp C,.int (i:Int)]=.ok .fz .non:=by
 rw[aKB];refine yV (ρ:=[some (false,Tp C),some (false,.int (i:Int))]) rfl ?_;show evB _ nQ [some (false,Tp C),some (false,.int (i:Int))]=_;have nm:¬ C[i]∈C.take i:=λh=>by obtain ⟨j,hj,e⟩:=List.mem_iff_getElem.mp h;rw[List.getElem_take] at e;rw[aNS] at hj;have:=(aM4 hn).mp e;omega
 have e1:=fV hi (m:=.fz) (m':=.fz);have e2:slP (.ok .fz (Tp C)) (evO (WT TT k) none) (evO (WT TT k) (some (.var 1))) [some (false,Tp C),some (false,.int (i:Int))]=.ok .fz (Tp (C.take i)):=by rw[oK (m:=.fz) (i:=i) rfl,<- List.map_take]
 have e3:=rF (m:=.fz) (m':=.fz) (z:=C[i]) (C:=C.take i);rw[aMM nm] at e3;generalize hA:evO (WT TT k) none=A at *;generalize hB:evO (WT TT k) (some (.var 1))=B at *;generalize Tp (C.take i)=t at *;generalize Tp C=t' at *;generalize C[i]=z at *;simp[nQ,e1,hA,hB,e2,e3]
theorem y2:∀ {ds:List D} {i j:Nat} {d:D},(cW i ds)[j]? = some d->∃ x,ds[j]? = some x/\d=.tup [.int ((i+j:Nat):Int),x]
 | [],i,j,d,h=>by simp[cW] at h
 | x::ds,i,0,d,h=>by simp[cW] at h;exact ⟨x,rfl,h.symm⟩
 | x::ds,i,j+1,d,h=>by simp only[cW,aQN] at h;obtain ⟨y,hy,e⟩:=y2 h;exact ⟨y,by rw[aQN];exact hy,by rw[e,show i+1+j=i+(j+1) by omega]⟩
theorem kept(k:Nat){K C:List Str}(hn:K.Nodup)(hs:∀ z∈K,z∈C):(WT TT (k+2)).Φ "kept" [Tp K,Tp C]=.ok .fz (Tp K):=by
 rw[aKG];refine aJ rfl ?_;show evB (WT TT (k+1)) nU [some (false,Tp K),some (false,Tp C),none,none]=_;obtain ⟨ρ',e,I⟩:=lL (k:=aI (.tp [.nm 2,.nm 3])) (body:=evB (WT TT (k+1)) nO) (λ_ ρ=>∃ x y,ρ=[some (false,Tp K),some (false,Tp C),x,y])
  (cW 0 (K.map .str)) 0 (ρ:=[some (false,Tp K),some (false,Tp C),none,none])
  (λj d hd ρ hρ=>by
   obtain ⟨x,y,rfl⟩:=hρ;obtain ⟨v,hv,rfl⟩:=y2 hd;rw[aNX] at hv;obtain ⟨z,hz,rfl⟩:=Option.map_eq_some_iff.mp hv;obtain ⟨hj,ez⟩:=aM3.mp hz;have c1:aD 2 ((WT TT (k+1)).Φ "refuse_missing") (.ok [(.fz,.str z),(.fz,Tp C)])=.ok .fz .non:=aY (rK k (hs z (by rw[<- ez];exact aPD hj)))
   have c2:aD 2 ((WT TT (k+1)).Φ "refuse_twice") (.ok [(.fz,Tp K),(.fz,.int (j:Int))])=.ok .fz .non:=aY (y1 k hn hj);rw[aPT];refine ⟨[some (false,Tp K),some (false,Tp C),some (false,.int (j:Int)),some (false,.str z)],[some (false,Tp K),some (false,Tp C),some (false,.int (j:Int)),some (false,.str z)],by simp,?_,_,_,rfl⟩
   generalize Tp C=t at *;generalize Tp K=t' at *;simp[nO,c1,c2])
  ⟨none,none,rfl⟩
 obtain ⟨x,y,rfl⟩:=I;have ef:gE (.ok [(.fz,Tp K)])=.ok .fz (.lst (cW 0 (K.map .str))):=rfl;have e':dL (.ok .fz (.lst (cW 0 (K.map .str)))) [some (false,Tp K),some (false,Tp C),none,none] (aI (.tp [.nm 2,.nm 3])) (evB (WT TT (k+1)) nO)=_:=e;generalize cW 0 (K.map .str)=R at *;generalize Tp C=t at *;generalize Tp K=t' at *;simp[nU,ef,e']
theorem h0{a:D}{m m':Md}:op2 ixD (.ok m (.lst [a])) (.ok m' (.int 0))=.ok .fz a:=dQ (bC (j:=0) rfl)
theorem f0{a b c d:D}{m m':Md}:op2 ixD (.ok m (.tup [a,b,c,d])) (.ok m' (.int 0))=.ok .fz a:=cH (bC (j:=0) rfl)
theorem f1{a b c d:D}{m m':Md}:op2 ixD (.ok m (.tup [a,b,c,d])) (.ok m' (.int 1))=.ok .fz b:=cH (bC (j:=1) rfl)
theorem f2{a b c d:D}{m m':Md}:op2 ixD (.ok m (.tup [a,b,c,d])) (.ok m' (.int 2))=.ok .fz c:=cH (bC (j:=2) rfl)
theorem f3{a b c d:D}{m m':Md}:op2 ixD (.ok m (.tup [a,b,c,d])) (.ok m' (.int 3))=.ok .fz d:=cH (bC (j:=3) rfl)
theorem rL{k:D->Rho->Option Rho}{body:Rho->aB}(I:Rho->Prop){ds:List D}{ρ:Rho}(h:∀ d∈ds,∀ ρ,I ρ->∃ ρ1 ρ2,k d ρ=some ρ1/\body ρ1=.nx ρ2/\I ρ2)(h0:I ρ):∃ ρ',dJ k body ds ρ=.nx ρ'/\I ρ':=by obtain ⟨ρ',e,q⟩:=lL (k:=k) (body:=body) (λ_=>I) ds 0 (ρ:=ρ) (λj d hd ρ hρ=>h d (aNZ hd) ρ hρ) h0;exact ⟨ρ',e,q⟩
theorem aK9(k:Nat){d t:D}{L C:List Str}(hc:(WT TT (k+1)).Φ "columns_in" [t]=.ok .fr (.lst (L.map .str)))(hs:∀ z∈L,z∈C):(WT TT (k+2)).Φ "columns_of_pick" [.tup [.str "pick", d,t],.lst [Tp C]]=.ok .fz (Tp C):=by
 rw[aKF];refine aJ rfl ?_;show evB (WT TT (k+1)) nT [some (false,.tup [.str "pick", d,t]),some (false,.lst [Tp C]),none]=_;have x2:op2 ixD (.ok .fz (.tup [.str "pick", d,t])) (.ok .fz (.int 2))=.ok .fz t:=j2;generalize D.tup [.str "pick", d,t]=A at *;have c0:aD 1 ((WT TT (k+1)).Φ "columns_in") (.ok [(.fz,t)])=.ok .fr (.lst (L.map .str)):=jV hc;obtain ⟨ρ',e,x,rfl⟩:=rL (k:=aI (.nm 2)) (body:=evB (WT TT (k+1)) nN) (ds:=L.map .str) (ρ:=[some (false,A),some (false,.lst [Tp C]),none]) (λρ=>∃ x,ρ=[some (false,A),some (false,.lst [Tp C]),x])
  (λd hd ρ hρ=>by
   obtain ⟨x,rfl⟩:=hρ;obtain ⟨z,hz,rfl⟩:=aQM.mp hd;have c1:aD 2 ((WT TT (k+1)).Φ "refuse_missing") (.ok [(.fz,.str z),(.fz,Tp C)])=.ok .fz .non:=aY (rK k (hs z hz));refine ⟨[some (false,A),some (false,.lst [Tp C]),some (false,.str z)],[some (false,A),some (false,.lst [Tp C]),some (false,.str z)],by simp,?_,_,rfl⟩
   generalize Tp C=t at *;simp[nN,h0,c1]) ⟨none,rfl⟩
 have e':dL (.ok .fz (.lst (L.map .str))) [some (false,A),some (false,.lst [Tp C]),none] (aI (.nm 2)) (evB (WT TT (k+1)) nN)=_:=e;generalize L.map D.str=R at *;generalize Tp C=t at *;simp[nT,x2,c0,e',h0]
theorem aLA(k:Nat){d:D}{K C:List Str}(hn:K.Nodup)(hs:∀ z∈K,z∈C):(WT TT (k+3)).Φ "columns_of_keep" [.tup [.str "keep", d,Tp K],.lst [Tp C]]=.ok .fz (Tp K):=by rw[aKH];refine aJ rfl ?_;show evB (WT TT (k+2)) nV [some (false,.tup [.str "keep", d,Tp K]),some (false,.lst [Tp C])]=_;have c1:aD 2 ((WT TT (k+2)).Φ "kept") (.ok [(.fz,Tp K),(.fz,Tp C)])=.ok .fz (Tp K):=aY (kept k hn hs);generalize Tp C=t at *;generalize Tp K=t' at *;simp[nV,j2,h0,c1]
theorem aLB(k:Nat){d:D}{z:Str}{K C:List Str}(hz:z∈C)(hn:K.Nodup)(hs:∀ z∈K,z∈C):(WT TT (k+4)).Φ "columns_of_total" [.tup [.str "total", d,.str z,Tp K],.lst [Tp C]]=.ok .fz (Tp K):=by
 have a:(WT TT (k+3)).Φ "totalled" [.str z,Tp K,Tp C]=.ok .fz (Tp K):=by rw[aKI];refine aJ rfl ?_;show evB (WT TT (k+2)) nW [some (false,.str z),some (false,Tp K),some (false,Tp C)]=_;have c1:aD 2 ((WT TT (k+2)).Φ "kept") (.ok [(.fz,Tp K),(.fz,Tp C)])=.ok .fz (Tp K):=aY (kept k hn hs);have c2:aD 2 ((WT TT (k+2)).Φ "refuse_missing") (.ok [(.fz,.str z),(.fz,Tp C)])=.ok .fz .non:=aY (rK (k+1) hz);generalize Tp C=t at *;generalize Tp K=t' at *;simp[nW,c1,c2]
 rw[aKJ];refine aJ rfl ?_;show evB (WT TT (k+3)) nX [some (false,.tup [.str "total", d,.str z,Tp K]),some (false,.lst [Tp C])]=_;have c1:aD 3 ((WT TT (k+3)).Φ "totalled") (.ok [(.fz,.str z),(.fz,Tp K),(.fz,Tp C)])=.ok .fz (Tp K):=cZ a;generalize Tp C=t at *;generalize Tp K=t' at *;simp[nX,f2,f3,h0,c1]
theorem jW{C:List Str}{m:Md}:f9 [(m,Tp C)]=some (.fz,.int (C.length:Int)):=by show some (Md.fz,D.int ((C.map D.str).length:Int))=_;rw[aN1]
theorem aLC(k:Nat){d:D}{K C:List Str}(hn:K.Nodup)(hl:K.length=C.length)(hb:K.length<=900):(WT TT (k+2)).Φ "columns_of_call" [.tup [.str "call", d,Tp K],.lst [Tp C]]=.ok .fz (Tp K):=by
 rw[aKK];refine aJ rfl ?_;show evB (WT TT (k+1)) iH [some (false,.tup [.str "call", d,Tp K]),some (false,.lst [Tp C]),none,none]=_;have x2:op2 ixD (.ok .fz (.tup [.str "call", d,Tp K])) (.ok .fz (.int 2))=.ok .fz (Tp K):=j2;generalize D.tup [.str "call", d,Tp K]=A at *;obtain ⟨ρ',e,x,rfl⟩:=rL (k:=aI (.nm 3)) (body:=evB (WT TT (k+1)) jQ) (ds:=bJ 0 (K.length:Int)) (ρ:=[some (false,A),some (false,.lst [Tp C]),some (false,Tp K),none]) (λρ=>∃ x,ρ=[some (false,A),some (false,.lst [Tp C]),some (false,Tp K),x])
  (λd hd ρ hρ=>by
   obtain ⟨x,rfl⟩:=hρ;obtain ⟨i,hi,rfl⟩:=mem_range hd;have c2:aD 2 ((WT TT (k+1)).Φ "refuse_twice") (.ok [(.fz,Tp K),(.fz,.int (i:Int))])=.ok .fz .non:=aY (y1 k hn (by omega))
   refine ⟨[some (false,A),some (false,.lst [Tp C]),some (false,Tp K),some (false,.int (i:Int))],[some (false,A),some (false,.lst [Tp C]),some (false,Tp K),some (false,.int (i:Int))],by simp,?_,_,rfl⟩
   generalize Tp C=t at *;generalize Tp K=t' at *;simp[jQ,c2]) ⟨none,rfl⟩
 have e':dL (.ok .fz (.lst (bJ 0 (K.length:Int)))) [some (false,A),some (false,.lst [Tp C]),some (false,Tp K),none] (aI (.nm 3)) (evB (WT TT (k+1)) jQ)=_:=e;have er:=lJ (m:=.fz) (n:=(K.length:Int)) (by omega) (by omega)
 have l1:=jW (C:=C) (m:=.fz);have l2:=jW (C:=K) (m:=.fz);rw[<- hl] at l1;generalize bJ 0 (K.length:Int)=R at *;generalize Tp C=t at *;generalize Tp K=t' at *;have p1:evB (WT TT (k+1)) (iH.take 2) [some (false,A),some (false,.lst [t]),none,none]=.nx [some (false,A),some (false,.lst [t]),some (false,t'),none]:=by
  clear e e' er
  generalize (K.length:Int)=n at *;simp[iH,x2,h0,l1,l2]
 have ea:iH=iH.take 2++[.for (.rng1 (.bcall .len [(.var 2)])) (.nm 3) jQ,.retV 2]:=rfl;rw[ea,bB,p1,aB.thn_nx]
 clear e ea p1
 generalize jQ=B at *;have g:hG (c8 (evE (WT TT (k+1)) (.bcall .len [(.var 2)]) [some (false,A),some (false,.lst [t]),some (false,t'),none]) (.ok []))=.ok .fz (.lst R):=by
  rw[<- er];have:evE (WT TT (k+1)) (.bcall .len [(.var 2)]) [some (false,A),some (false,.lst [t]),some (false,t'),none]=.ok .fz (.int (K.length:Int)):=by simp[l2]
  rw[this];rfl
 rw[bP,qR,lB,g,e',aB.thn_nx,bP,wI];rfl
def dif(C' C:List Str):List Str:=C'.filter λz=>!decide (z∈C)
theorem y3{W:WD}{C:List Str}:∀ C':List Str,bD (aI (.nm 1)) (λρ=>evF W [.cmp .NotIn (.var 1) (.var 0)] ρ) (λρ=>evE W (.var 1) ρ) [some (false,Tp C),none] (C'.map .str)=some ((dif C' C).map .str)
 | []=>rfl
 | z::C'=>by
  have ih:=y3 (W:=W) (C:=C) C';have k:aI (.nm 1) (.str z) [some (false,Tp C),none]=some [some (false,Tp C),some (false,.str z)]:=rfl;have e:=oJ (m:=.fz) (m':=.fz) (z:=z) (C:=C);have t:evF W [.cmp .NotIn (.var 1) (.var 0)] [some (false,Tp C),some (false,.str z)]=.ok .fz (.bl (!decide (z∈C))):=by generalize Tp C=t at *;simp[e]
  rw[aOR,bD,k];dsimp only;rw[t,ih];unfold dif;rw[List.filter_cons];cases decide (z∈C) with
  | true=>rfl
  | false=>rfl
theorem aLD{W:WD}{C C':List Str}{ρ:Rho}{aF:List Nat}{m:Md}(hs:C'.length<sizeLine)(hρ:cL aF ρ=[some (false,Tp C)]):bY (.ok m (.lst (C'.map .str))) ρ aF 1 (aI (.nm 1)) (λρ=>evF W [.cmp .NotIn (.var 1) (.var 0)] ρ) (λρ=>evE W (.var 1) ρ)=.ok .fr (.lst ((dif C' C).map .str)):=by
 show (if (C'.map D.str).length<sizeLine then (match bD (aI (.nm 1)) (λρ=>evF W [.cmp .NotIn (.var 1) (.var 0)] ρ) (λρ=>evE W (.var 1) ρ) (cL aF ρ++[none]) (C'.map .str) with | some ys=>Res.ok .fr (.lst ys) | none=>.stuck) else .stuck)=_
 rw[hρ,if_pos (by rw[aN1];exact hs)]
 show (match bD (aI (.nm 1)) (λρ=>evF W [.cmp .NotIn (.var 1) (.var 0)] ρ) (λρ=>evE W (.var 1) ρ) [some (false,Tp C),none] (C'.map .str) with | some ys=>Res.ok .fr (.lst ys) | none=>.stuck)=_
 rw[y3]
theorem oM{C C':List Str}{m m':Md}(h:C.length+C'.length<=sizeLine):op2 (aT .Add) (.ok m (Tp C)) (.ok m' (Tp C'))=.ok .fz (Tp (C++C')):=by rw[lD (by rw[aN1,aN1];exact h),<- aQO]
theorem y4{C C':List Str}:(dif C' C).length<=C'.length:=List.length_filter_le _ _
theorem aLE(k:Nat){A:D}{C C':List Str}(hs:C.length+C'.length<sizeLine):(WT TT (k+1)).Φ "columns_of_join" [A,.lst [Tp C,Tp C']]=.ok .fz (Tp (C++dif C' C)):=by
 rw[aKL];refine aJ rfl ?_;show evB (WT TT k) lF [some (false,A),some (false,.lst [Tp C,Tp C']),none,none]=_;have dl:=y4 (C:=C) (C':=C');have e1:=aLD (W:=WT TT k) (C:=C) (C':=C') (m:=.fz) (aF:=[2]) (ρ:=[some (false,A),some (false,.lst [Tp C,Tp C']),some (false,Tp C),some (false,Tp C')]) (by omega) rfl
 have e2:=oM (C:=C) (C':=dif C' C) (m:=.fz) (m':=.fz) (by omega)
 have ea:lF=[.asg (.tp [(.nm 2),(.nm 3)]) (.var 1)]++lF.drop 1:=rfl;have p1:evB (WT TT k) [.asg (.tp [(.nm 2),(.nm 3)]) (.var 1)] [some (false,A),some (false,.lst [Tp C,Tp C']),none,none]=.nx [some (false,A),some (false,.lst [Tp C,Tp C']),some (false,Tp C),some (false,Tp C')]:=by generalize Tp C=t;generalize Tp C'=t';simp[d8]
 rw[ea,bB,p1,aB.thn_nx];show evB (WT TT k) [.ret (.bin .Add (.var 2) (.tcall .tuple [(.comp (.var 1) (.items (.var 3)) [(.cmp .NotIn (.var 1) (.var 0))] [2] (.nm 1) 1)]))] _=_;rw[bP,lC,eC,qO,gJ,iC,gI,nF,bS,bS];show (e6 (op2 (aT .Add) (.ok .fz (Tp C)) (eZ (Ty.f .tuple) (c8 (bY (.ok .fz (.lst (C'.map .str))) _ [2] 1 (aI (.nm 1)) _ _) (.ok [])))) _).thn _=_;rw[e1];show (e6 (op2 (aT .Add) (.ok .fz (Tp C)) (.ok .fz (Tp (dif C' C)))) _).thn _=_;rw[e2];rfl
theorem aLF(k:Nat){A:D}{C:List Str}:(WT TT (k+1)).Φ "columns_of_pour" [A,.lst [Tp C,Tp C]]=.ok .fz (Tp C):=by rw[aKM];refine aJ rfl ?_;show evB (WT TT k) nY [some (false,A),some (false,.lst [Tp C,Tp C]),none,none]=_;have e:=ne_T (C:=C) (m:=.fz) (m':=.fz);generalize Tp C=t at *;simp[nY,d8,e]
theorem aLG(k:Nat){A:D}{C C':List Str}(hs:∀ z∈C',z∈C):(WT TT (k+1)).Φ "columns_of_leave" [A,.lst [Tp C,Tp C']]=.ok .fz (Tp C):=by
 rw[aKN];refine aJ rfl ?_;show evB (WT TT k) nZ [some (false,A),some (false,.lst [Tp C,Tp C']),none,none,none]=_;obtain ⟨ρ',e,x,rfl⟩:=rL (k:=aI (.nm 4)) (body:=evB (WT TT k) nP) (ds:=C'.map .str) (ρ:=[some (false,A),some (false,.lst [Tp C,Tp C']),some (false,Tp C),some (false,Tp C'),none]) (λρ=>∃ x,ρ=[some (false,A),some (false,.lst [Tp C,Tp C']),some (false,Tp C),some (false,Tp C'),x])
  (λd hd ρ hρ=>by
   obtain ⟨x,rfl⟩:=hρ;obtain ⟨z,hz,rfl⟩:=aQM.mp hd;have e:=oJ (m:=.fz) (m':=.fz) (z:=z) (C:=C);rw[aOP (hs z hz)] at e;refine ⟨[some (false,A),some (false,.lst [Tp C,Tp C']),some (false,Tp C),some (false,Tp C'),some (false,.str z)],[some (false,A),some (false,.lst [Tp C,Tp C']),some (false,Tp C),some (false,Tp C'),some (false,.str z)],by simp,?_,_,rfl⟩
   generalize Tp C=t at *;generalize Tp C'=t' at *;simp[nP,e]) ⟨none,rfl⟩
 have e':dL (.ok .fz (.lst (C'.map .str))) [some (false,A),some (false,.lst [Tp C,Tp C']),some (false,Tp C),some (false,Tp C'),none] (aI (.nm 4)) (evB (WT TT k) nP)=_:=e;have ei:gB (.ok .fz (Tp C'))=.ok .fz (.lst (C'.map .str)):=rfl;generalize C'.map D.str=R at *;generalize Tp C=t at *;generalize Tp C'=t' at *;simp[nZ,d8,ei,e']
inductive Ask(M:List (Key×D)):D->List Str->Nat->Prop
 | table {w:Str} {C:List Str} (h:aV M (.inr w)=some (Tp C)):Ask M (.tup [.str "table", .str w]) C 0
 | pick {d:D} {C L f:List Str} {n:Nat} {t:Ts} (h:Ask M d C n) (hd:t.dep<=5) (hL:cols f t=L.map .str) (hl:L.length<=900) (hs:∀ z∈L,z∈C):Ask M (.tup [.str "pick", d,tsD f t]) C (n+1)
 | keep {d:D} {C K:List Str} {n:Nat} (h:Ask M d C n) (hn:K.Nodup) (hs:∀ z∈K,z∈C):Ask M (.tup [.str "keep", d,Tp K]) K (n+1)
 | call {d:D} {C K:List Str} {n:Nat} (h:Ask M d C n) (hn:K.Nodup) (hl:K.length=C.length) (hb:K.length<=900):Ask M (.tup [.str "call", d,Tp K]) K (n+1)
 | total {d:D} {z:Str} {C K:List Str} {n:Nat} (h:Ask M d C n) (hz:z∈C) (hn:K.Nodup) (hs:∀ z∈K,z∈C):Ask M (.tup [.str "total", d,.str z,Tp K]) K (n+1)
 | join {d d':D} {C C':List Str} {n n':Nat} (h:Ask M d C n) (h':Ask M d' C' n') (hs:C.length+C'.length<sizeLine):Ask M (.tup [.str "join", d,d']) (C++dif C' C) (max n n'+1)
 | pour {d d':D} {C:List Str} {n n':Nat} (h:Ask M d C n) (h':Ask M d' C n'):Ask M (.tup [.str "pour", d,d']) C (max n n'+1)
 | leave {d d':D} {C C':List Str} {n n':Nat} (h:Ask M d C n) (h':Ask M d' C' n') (hs:∀ z∈C',z∈C):Ask M (.tup [.str "leave", d,d']) C (max n n'+1)
def jpl:List Str:=[Str.ofString "join", Str.ofString "pour", Str.ofString "leave"]
theorem in3{m m':Md}{z:Str}:op2 (bF .In) (.ok m (.str z)) (.ok m' (.tup [.str (Str.ofString "join"),.str (Str.ofString "pour"),.str (Str.ofString "leave")]))=.ok .fz (.bl (decide (z∈jpl))):=rF (C:=jpl)
theorem tu0:eY (.ok [])=.ok .fz (.tup []):=by rfl
theorem tu1{a:D}:eY (.ok [(.fz,a)])=.ok .fz (.tup [a]):=by rfl
theorem aLH(k:Nat){x:D}:(WT TT (k+1)).Φ "askings_within" [.tup [.str "table", x]]=.ok .fz (.tup []):=by rw[rB];refine aJ rfl ?_;show evB _ gM [some (false,.tup [.str "table", x])]=_;simp[gM,i0,tu0]
theorem lM(k:Nat){A x:D}{w:Str}(h1:op2 ixD (.ok .fz A) (.ok .fz (.int 0))=.ok .fz (.str w))(h2:op2 ixD (.ok .fz A) (.ok .fz (.int 1))=.ok .fz x)(hw:(w==Str.ofString "table")=false)(hj:decide (w∈jpl)=false):(WT TT (k+1)).Φ "askings_within" [A]=.ok .fz (.tup [x]):=by rw[rB];refine aJ rfl ?_;show evB _ gM [some (false,A)]=_;have e3:=in3 (m:=.fz) (m':=.fz) (z:=w);rw[hj] at e3;simp[gM,h1,h2,hw,t3,e3,tu1]
theorem oN(k:Nat){x y:D}{w:Str}(hw:(w==Str.ofString "table")=false)(hj:decide (w∈jpl)=true):(WT TT (k+1)).Φ "askings_within" [.tup [.str w,x,y]]=.ok .fz (.tup [x,y]):=by rw[rB];refine aJ rfl ?_;show evB _ gM [some (false,.tup [.str w,x,y])]=_;have e3:=in3 (m:=.fz) (m':=.fz) (z:=w);rw[hj] at e3;simp[gM,j0,j1,j2,hw,t3,e3,t2]
theorem gQ{M:List (Key×D)}{w:Str}{d:D}(h:aV M (.inr w)=some d){m m':Md}:op2 ixK (.ok m (.dct M)) (.ok m' (.str w))=.ok .fz d:=bL (by
 show (aV M (.inr w)).map _=_;rw[h];rfl)
theorem aLI{M:List (Key×D)}{w:Str}{d:D}(h:aV M (.inr w)=some d){m m':Md}:op2 (inK true) (.ok m (.str w)) (.ok m' (.dct M))=.ok .fz (.bl false):=bL (by
 show some (Md.fz,D.bl (if true=true then !(aV M (.inr w)).isSome else _))=_;rw[h];rfl)
theorem aLJ(k:Nat){M:List (Key×D)}{w:Str}{d:D}(h:aV M (.inr w)=some d):(WT TT (k+2)).Φ "columns_of" [.tup [.str "table", .str w],.dct M]=.ok .fz d:=by
 have a:(WT TT (k+1)).Φ "columns_of_table" [.str w,.dct M]=.ok .fz d:=by rw[aKO];refine aJ rfl ?_;show evB _ n9 [some (false,.str w),some (false,.dct M)]=_;simp[n9,aLI h,gQ h]
 rw[yO];refine aJ rfl ?_;show evB (WT TT (k+1)) fU [some (false,.tup [.str "table", .str w]),some (false,.dct M),none,none]=_;have c1:aD 2 ((WT TT (k+1)).Φ "columns_of_table") (.ok [(.fz,.str w),(.fz,.dct M)])=.ok .fz d:=aY a;simp[fU,i0,i1,c1]
def lO:List (Str×Str):=[("pick", "columns_of_pick"),("keep", "columns_of_keep"),("call", "columns_of_call"),("join", "columns_of_join"),("pour", "columns_of_pour"),("total", "columns_of_total"),("leave", "columns_of_leave")]
def dfs:List Str:=["columns_of_pick", "columns_of_keep", "columns_of_call", "columns_of_join", "columns_of_pour", "columns_of_total", "columns_of_leave"]
theorem y6{W:WD}{M:D}:∀ (xs ys:List D),xs.length=ys.length->(∀ (i:Nat) (h:i<xs.length) (h':i<ys.length),W.Φ "columns_of" [xs[i],M]=.ok .fz ys[i])->bD (aI (.nm 1)) (λρ=>evF W [] ρ) (λρ=>evE W (.call "columns_of" 2 [(.var 1),(.var 0)]) ρ) [some (false,M),none] xs=some ys
 | [],[],_,_=>rfl
 | [],_::_,h,_=>by simp at h
 | _::_,[],h,_=>by simp at h
 | x::xs,y::ys,h,q=>by
  have ih:=y6 (W:=W) (M:=M) xs ys (by simpa using h) λi h1 h2=>q (i+1) (by simpa using h1) (by simpa using h2)
  have k:aI (.nm 1) x [some (false,M),none]=some [some (false,M),some (false,x)]:=rfl;have q0:W.Φ "columns_of" [x,M]=.ok .fz y:=q 0 (by simp) (by simp)
  have e:evE W (.call "columns_of" 2 [(.var 1),(.var 0)]) [some (false,M),some (false,x)]=.ok .fz y:=by have c1:aD 2 (W.Φ "columns_of") (.ok [(.fz,x),(.fz,M)])=.ok .fz y:=aY q0;simp[c1]
  rw[bD,k];dsimp only;rw[qQ];dsimp only;rw[e,ih];rfl
theorem iL(k:Nat){A M r:D}{w f:Str}{xs ys:List D}(h1:op2 ixD (.ok .fz A) (.ok .fz (.int 0))=.ok .fz (.str w))(hw:(w==Str.ofString "table")=false)(hf:lO.lookup w=some f)(hf':dfs.contains f=true)(hx:(WT TT k).Φ "askings_within" [A]=.ok .fz (.tup xs))(hl:xs.length=ys.length)(hs:xs.length<sizeLine)(hq:∀ (i:Nat) (h:i<xs.length) (h':i<ys.length),(WT TT k).Φ "columns_of" [xs[i],M]=.ok .fz ys[i])(hr:(WT TT k).Φ f [A,.lst ys]=.ok .fz r):(WT TT (k+1)).Φ "columns_of" [A,M]=.ok .fz r:=by
 have cx:aD 1 ((WT TT k).Φ "askings_within") (.ok [(.fz,A)])=.ok .fz (.tup xs):=nJ hx;have cr:aD 2 ((WT TT k).Φ f) (.ok [(.fz,A),(.fz,.lst ys)])=.ok .fz r:=aY hr;have cl:=y6 (W:=WT TT k) (M:=M) xs ys hl hq;rw[yO];refine aJ rfl ?_;show evB (WT TT k) fU [some (false,A),some (false,M),none,none]=_;generalize WT TT k=W at *;have ea:fU=fU.take 1++([.setC 2 true (.comp (.call "columns_of" 2 [(.var 1),(.var 0)]) (.items (.call "askings_within" 1 [(.var 0)])) [] [1] (.nm 1) 1)]++[.set 3 (.deed "DEEDS" lO (.ix (.var 0) (.int 0))),.ret (.callv 3 dfs 2 [(.var 0),(.var 2)])]):=rfl;have p1:evB W (fU.take 1) [some (false,A),some (false,M),none,none]=.nx [some (false,A),some (false,M),none,none]:=by simp[fU,h1,hw]
 have p2:evB W [.setC 2 true (.comp (.call "columns_of" 2 [(.var 1),(.var 0)]) (.items (.call "askings_within" 1 [(.var 0)])) [] [1] (.nm 1) 1)] [some (false,A),some (false,M),none,none]=.nx [some (false,A),some (false,M),some (false,.lst ys),none]:=by
  have ei:evE W (.items (.call "askings_within" 1 [(.var 0)])) [some (false,A),some (false,M),none,none]=.ok .fz (.lst xs):=by simp[cx]
  rw[bP,aJX,gI,ei];have ec:bY (.ok .fz (.lst xs)) [some (false,A),some (false,M),none,none] [1] 1 (aI (.nm 1)) (λρ=>evF W [] ρ) (λρ=>evE W (.call "columns_of" 2 [(.var 1),(.var 0)]) ρ)=.ok .fr (.lst ys):=by
   show (if xs.length<sizeLine then (match bD (aI (.nm 1)) (λρ=>evF W [] ρ) (λρ=>evE W (.call "columns_of" 2 [(.var 1),(.var 0)]) ρ) [some (false,M),none] xs with | some ys=>Res.ok .fr (.lst ys) | none=>.stuck) else .stuck)=_
   rw[if_pos hs,cl]
  rw[ec];show (aB.nx _).thn _=_;rw[aB.thn_nx,jN];rfl
 rw[ea,bB,p1,aB.thn_nx,bB,p2,aB.thn_nx]
 clear ea p1 p2 cl hq
 have d1:jC lO (.ok .fz (.str w))=.ok .fz (.fn f):=by
  show (match lO.lookup w with | some f=>Res.ok .fz (.fn f) | none=>.stuck)=_
  rw[hf]
 have d2:kY W.Φ dfs 2 (.ok .fz (.fn f)) (.ok [(.fz,A),(.fz,.lst ys)])=.ok .fz r:=by show (if dfs.contains f=true then aD 2 (W.Φ f) (.ok [(.fz,A),(.fz,.lst ys)]) else .stuck)=_;rw[if_pos hf',cr]
 generalize lO=T1 at *;generalize dfs=T2 at *;simp[h1,d1,d2]
theorem wn{w:Str}(h:(w==Str.ofString "table")=false:=by decide +kernel):(w==Str.ofString "table")=false:=h
theorem oO{W:WD}{M x y:D}(h:W.Φ "columns_of" [x,M]=.ok .fz y):∀ (i:Nat) (h1:i<[x].length) (h2:i<[y].length),W.Φ "columns_of" [[x][i],M]=.ok .fz [y][i]
 | 0,_,_=>h
 | i+1,h1,_=>absurd h1 (by simp)
theorem rM{W:WD}{M x y x' y':D}(h:W.Φ "columns_of" [x,M]=.ok .fz y)(h':W.Φ "columns_of" [x',M]=.ok .fz y'):∀ (i:Nat) (h1:i<[x,x'].length) (h2:i<[y,y'].length),W.Φ "columns_of" [[x,x'][i],M]=.ok .fz [y,y'][i]
 | 0,_,_=>h
 | 1,_,_=>h'
 | i+2,h1,_=>absurd h1 (by simp)
theorem s1:1<sizeLine:=by have:=aNN;omega
theorem s2:2<sizeLine:=by have:=aNN;omega
theorem dp{d k n:Nat}(h:d<=5):d+1<=k+n+6:=aMY (Nat.succ_le_succ h) (Nat.le_add_left 6 (k+n))
theorem ns{n:Nat}(h:n<=900):n<=sizeLine:=aMY h (by have:=aNN;omega)
theorem aLK{M:List (Key×D)}{d:D}{C:List Str}{n:Nat}(h:Ask M d C n):∀ k,(WT TT (k+n+7)).Φ "columns_of" [d,.dct M]=.ok .fz (Tp C):=by
 induction h with
 | table h=>exact λk=>aLJ (k+5) h
 | @pick d C L f n t h hd hL hl hs ih =>
  intro k;have hc:=yT (f:=f) t (k+n+6) (dp hd) (by rw[hL,aN1];exact ns hl)
  rw[hL] at hc;exact iL (k+n+7) (w:=Str.ofString "pick") (f:=Str.ofString "columns_of_pick") (xs:=[d]) (ys:=[Tp C]) j0 wn (by decide +kernel) (by decide +kernel) (lM (k+n+6) (w:=Str.ofString "pick") j0 j1 wn (by decide +kernel)) rfl s1 (oO (ih k)) (aK9 (k+n+5) hc hs)
 | @keep d C K' n h hn hs ih=>exact λk=>iL (k+n+7) (w:=Str.ofString "keep") (f:=Str.ofString "columns_of_keep") (xs:=[d]) (ys:=[Tp C]) j0 wn (by decide +kernel) (by decide +kernel) (lM (k+n+6) (w:=Str.ofString "keep") j0 j1 wn (by decide +kernel)) rfl s1 (oO (ih k)) (aLA (k+n+4) hn hs)
 | @call d C K' n h hn hl hb ih=>exact λk=>iL (k+n+7) (w:=Str.ofString "call") (f:=Str.ofString "columns_of_call") (xs:=[d]) (ys:=[Tp C]) j0 wn (by decide +kernel) (by decide +kernel) (lM (k+n+6) (w:=Str.ofString "call") j0 j1 wn (by decide +kernel)) rfl s1 (oO (ih k)) (aLC (k+n+5) hn hl hb)
 | @total d z C K' n h hz hn hs ih=>exact λk=>iL (k+n+7) (w:=Str.ofString "total") (f:=Str.ofString "columns_of_total") (xs:=[d]) (ys:=[Tp C]) f0 wn (by decide +kernel) (by decide +kernel) (lM (k+n+6) (w:=Str.ofString "total") f0 f1 wn (by decide +kernel)) rfl s1 (oO (ih k)) (aLB (k+n+3) hz hn hs)
 | @join d d' C C' n n' h h' hs ih ih' =>
  intro k;have q1:(WT TT (k+max n n'+7)).Φ "columns_of" [d,.dct M]=.ok .fz (Tp C):=by obtain ⟨j,e⟩:=mx1 k n n';rw[e];exact ih j
  have q2:(WT TT (k+max n n'+7)).Φ "columns_of" [d',.dct M]=.ok .fz (Tp C'):=by obtain ⟨j,e⟩:=mx2 k n n';rw[e];exact ih' j
  exact iL (k+max n n'+7) (w:=Str.ofString "join") (f:=Str.ofString "columns_of_join") (xs:=[d,d']) (ys:=[Tp C,Tp C']) j0 wn (by decide +kernel) (by decide +kernel) (oN (k+max n n'+6) (w:=Str.ofString "join") wn (by decide +kernel)) rfl s2 (rM q1 q2) (aLE (k+max n n'+6) hs)
 | @pour d d' C n n' h h' ih ih' =>
  intro k;have q1:(WT TT (k+max n n'+7)).Φ "columns_of" [d,.dct M]=.ok .fz (Tp C):=by obtain ⟨j,e⟩:=mx1 k n n';rw[e];exact ih j
  have q2:(WT TT (k+max n n'+7)).Φ "columns_of" [d',.dct M]=.ok .fz (Tp C):=by obtain ⟨j,e⟩:=mx2 k n n';rw[e];exact ih' j
  exact iL (k+max n n'+7) (w:=Str.ofString "pour") (f:=Str.ofString "columns_of_pour") (xs:=[d,d']) (ys:=[Tp C,Tp C]) j0 wn (by decide +kernel) (by decide +kernel) (oN (k+max n n'+6) (w:=Str.ofString "pour") wn (by decide +kernel)) rfl s2 (rM q1 q2) (aLF (k+max n n'+6))
 | @leave d d' C C' n n' h h' hs ih ih' =>
  intro k;have q1:(WT TT (k+max n n'+7)).Φ "columns_of" [d,.dct M]=.ok .fz (Tp C):=by obtain ⟨j,e⟩:=mx1 k n n';rw[e];exact ih j
  have q2:(WT TT (k+max n n'+7)).Φ "columns_of" [d',.dct M]=.ok .fz (Tp C'):=by obtain ⟨j,e⟩:=mx2 k n n';rw[e];exact ih' j
  exact iL (k+max n n'+7) (w:=Str.ofString "leave") (f:=Str.ofString "columns_of_leave") (xs:=[d,d']) (ys:=[Tp C,Tp C']) j0 wn (by decide +kernel) (by decide +kernel) (oN (k+max n n'+6) (w:=Str.ofString "leave") wn (by decide +kernel)) rfl s2 (rM q1 q2) (aLG (k+max n n'+6) hs)
def rD:Option (List D)->D | none=>.non | some l=>.tup l
theorem le1{n K:Nat}(h:n+1<=K):∃ k,K=k+1/\n<=k:=⟨K-1,by omega,by omega⟩
theorem le2{n K:Nat}(h:n+2<=K):∃ k,K=k+2/\n<=k:=⟨K-2,by omega,by omega⟩
theorem oP(k:Nat){a:D}{l xs:List D}(hs:l.length+xs.length+1<=900):(WT TT (k+1)).Φ "rebuilt" [.tup (a::l),.tup xs]=.ok .fz (.tup (a::(xs++l.drop xs.length))):=by
 have hsz:sizeLine=16777216:=aNN;rw[aKD];refine aJ rfl ?_;show evB (WT TT k) nR [some (false,.tup (a::l)),some (false,.tup xs)]=_;have p1:slP (.ok .fz (.tup (a::l))) (evO (WT TT k) none) (evO (WT TT k) (some (.int 1))) [some (false,.tup (a::l)),some (false,.tup xs)]=.ok .fz (.tup [a]):=oK (m:=.fz) (i:=1) (by rw[cN];rfl)
 have p2:slP (.ok .fz (.tup (a::l))) (evO (WT TT k) (some (.bin .Add (.int 1) (.bcall .len [(.var 1)])))) (evO (WT TT k) none) [some (false,.tup (a::l)),some (false,.tup xs)]=.ok .fz (.tup (l.drop xs.length)):=by rw[rJ (m:=.fz) (i:=xs.length+1) (by simp;omega)];rfl
 unfold nR;rw[bP,lC,eC,eC,jM,jM,bS,bS];show (e6 (op2 (aT .Add) (op2 (aT .Add) (slP (.ok .fz (.tup (a::l))) _ _ _) (.ok .fz (.tup xs))) (slP (.ok .fz (.tup (a::l))) _ _ _)) _).thn _=_;rw[p1,p2,lD (by simp;omega),lD (by simp;omega)]
 rfl
def bT(M:List (Key×D))(d:D)(r:Option (List D))(n:Nat):Prop:=∀ K,n<=K->(WT TT K).Φ "stepped" [d,.dct M]=.ok .fz (rD r)
def lP(M:List (Key×D))(x t:D)(r:Option (List D))(n:Nat):Prop:=∀ K,n<=K->(WT TT K).Φ "behind_pick" [x,t,.dct M]=.ok .fz (rD r)
theorem bT.mono{M:List (Key×D)}{d:D}{r:Option (List D)}{n n':Nat}(h:bT M d r n)(hn:n<=n'):bT M d r n':=λK hK=>h K (aMY hn hK)
theorem en0:gE (.ok [(.fz,.tup [])])=.ok .fz (.lst []):=rfl
theorem en1{x:D}:gE (.ok [(.fz,.tup [x])])=.ok .fz (.lst [.tup [.int 0,x]]):=rfl
theorem en2{x y:D}:gE (.ok [(.fz,.tup [x,y])])=.ok .fz (.lst [.tup [.int 0,x],.tup [.int 1,y]]):=rfl
theorem fr0{m:Md}{ρ:Rho}{k:D->Rho->Option Rho}{body:Rho->aB}:dL (.ok m (.lst [])) ρ k body=.nx ρ:=rfl
theorem fr1{m:Md}{x:D}{ρ ρ1 ρ2:Rho}{k:D->Rho->Option Rho}{body:Rho->aB}(h:k x ρ=some ρ1)(h':body ρ1=.nx ρ2){l:List D}:dL (.ok m (.lst (x::l))) ρ k body=dL (.ok m (.lst l)) ρ2 k body:=by show dJ k body (x::l) ρ=_;rw[dJ,h];dsimp only;rw[h'];rfl
theorem fr2{m:Md}{x:D}{ρ ρ1:Rho}{m':Md}{d:D}{k:D->Rho->Option Rho}{body:Rho->aB}(h:k x ρ=some ρ1)(h':body ρ1=.rt m' d){l:List D}:dL (.ok m (.lst (x::l))) ρ k body=.rt m' d:=by show dJ k body (x::l) ρ=_;rw[dJ,h];dsimp only;rw[h']
section
variable {W:WD}{A M x y:D}{v b:Option (Bool×D)}{xs d:List D}
theorem rN{i:Int}{p q:Option (Bool×D)}(hx:aD 2 (W.Φ "stepped") (.ok [(.fz,x),(.fz,M)])=.ok .fz .non):evB W iF [some (false,A),some (false,M),b,v,some (false,.int i),some (false,x)]=.nx [some (false,A),some (false,M),some (false,.non),v,some (false,.int i),some (false,x)]:=by simp[iF,hx]
theorem rO{i:Nat}{r:D}(hx:aD 2 (W.Φ "stepped") (.ok [(.fz,x),(.fz,M)])=.ok .fz (.tup d))(hl:i+1<=900)(hi:i<=xs.length)(hr:aD 2 (W.Φ "rebuilt") (.ok [(.fz,A),(.fz,.tup (xs.take i++[.tup d]))])=.ok .fz r):evB W iF [some (false,A),some (false,M),b,some (false,.tup xs),some (false,.int (i:Int)),some (false,x)]=.rt .fz r:=by
 have hsz:sizeLine=16777216:=aNN;have p1:slP (.ok .fz (.tup xs)) (evO W none) (evO W (some (.var 4))) [some (false,A),some (false,M),some (false,.tup d),some (false,.tup xs),some (false,.int (i:Int)),some (false,x)]=.ok .fz (.tup (xs.take i)):=oK (m:=.fz) (i:=i) rfl;have p2:op2 (aT .Add) (.ok .fz (.tup (xs.take i))) (.ok .fz (.tup [.tup d]))=.ok .fz (.tup (xs.take i++[.tup d])):=lD (by rw[aNS];simp;omega)
 have p3:eY (.ok [(.fz,.tup d)])=.ok .fz (.tup [.tup d]):=tu1;generalize hA:evO W none=A' at *;generalize hB:evO W (some (.var 4))=B' at *;generalize xs.take i++[.tup d]=ys at *;generalize xs.take i=zs at *;simp[iF,hx,hA,hB,p1,p2,p3,hr]
end
section
variable {M:List (Key×D)}{x y:D}{r:Option (List D)}{n:Nat}
theorem zA{W:WD}{A Md:D}{w:Str}(h:op2 ixD (.ok .fz A) (.ok .fz (.int 0))=.ok .fz (.str w))(hw:(w==Str.ofString "pick")=false):evB W (dW.take 1) [some (false,A),some (false,Md),none,none,none,none]=.nx [some (false,A),some (false,Md),none,none,none,none]:=by simp[dW,h,hw]
theorem fA{w:Str}:bT M (.tup [.str "table", .str w]) none 2:=λK hK=>by
 obtain ⟨k,rfl,_⟩:=le2 (n:=0) (by omega:0+2<=K)
 rw[oF];refine aJ rfl ?_;show evB (WT TT (k+1)) dW [some (false,.tup [.str "table", .str w]),some (false,.dct M),none,none,none,none]=_;have cw:aD 1 ((WT TT (k+1)).Φ "askings_within") (.ok [(.fz,.tup [.str "table", .str w])])=.ok .fz (.tup []):=nJ (aLH k);have w0:op2 ixD (.ok .fz (.tup [.str "table", .str w])) (.ok .fz (.int 0))=.ok .fz (.str "table"):=i0;have hw:(Str.ofString "table" == Str.ofString "pick")=false:=by decide +kernel
 generalize D.tup [.str "table", .str w]=A at *;simp[dW,w0,hw,cw,en0,fr0];rfl
def or2(w:Str)(x y:D)(r r':Option (List D)):Option (List D):=match r with | some d=>some [.str w,.tup d,y] | none=>r'.map λd=>[.str w,x,.tup d]
def orP(x t:D)(r0 r:Option (List D)):Option (List D):=match r0 with | some d=>some d | none=>r.map λd=>[.str "pick", .tup d,t]
def iM:List D3.S:=[.set 3 (.frz (.call "askings_within" 1 [(.var 0)])),.for (.enum1 (.var 3)) (.tp [(.nm 4),(.nm 5)]) iF,.ret .non]
theorem zB{k:Nat}{w:Str}{l:List D}{b:Option (Bool×D)}(hl:l.length<=800)(hw:(w==Str.ofString "table")=false)(hj:decide (w∈jpl)=false)(hx:(WT TT (k+1)).Φ "stepped" [x,.dct M]=.ok .fz (rD r)):evB (WT TT (k+1)) iM [some (false,.tup (.str w::x::l)),some (false,.dct M),b,none,none,none]=.rt .fz (rD (r.map λd=>.str w :: .tup d::l)):=by
 have cw:aD 1 ((WT TT (k+1)).Φ "askings_within") (.ok [(.fz,.tup (.str w::x::l))])=.ok .fz (.tup [x]):=nJ (lM k (w:=w) (cH (bC (j:=0) rfl)) (cH (bC (j:=1) rfl)) hw hj);have cx:aD 2 ((WT TT (k+1)).Φ "stepped") (.ok [(.fz,x),(.fz,.dct M)])=.ok .fz (rD r):=aY hx;have st:aI (.tp [.nm 4,.nm 5]) (.tup [.int 0,x]) [some (false,.tup (.str w::x::l)),some (false,.dct M),b,some (false,.tup [x]),none,none]=some [some (false,.tup (.str w::x::l)),some (false,.dct M),b,some (false,.tup [x]),some (false,.int 0),some (false,x)]:=rfl;unfold iM;cases r with
 | none=>have tn:=rN (W:=WT TT (k+1)) (A:=.tup (.str w::x::l)) (i:=0) (b:=b) (v:=some (false,.tup [x])) (p:=none) (q:=none) cx;have f:=fr1 (m:=.fz) st tn (l:=[]);generalize D.tup (.str w::x::l)=A at *;simp[cw,en1,f,fr0,rD]
 | some d =>
  have rb:=oP k (a:=.str w) (l:=x::l) (xs:=[.tup d]) (by simp;omega)
  have tn:=rO (W:=WT TT (k+1)) (A:=.tup (.str w::x::l)) (i:=0) (xs:=[x]) (b:=b) cx (by decide) (by simp) (aY rb)
  have f:=fr2 (m:=.fz) st tn (l:=[]);show _=aB.rt .fz (.tup (.str w :: .tup d::l));simp only[List.singleton_append,aON,List.drop_succ_cons,aPR] at f;generalize D.tup (.str w::x::l)=A at *;simp[cw,en1,f]
theorem aLL{k:Nat}{w:Str}{b:Option (Bool×D)}{r':Option (List D)}(hw:(w==Str.ofString "table")=false)(hj:decide (w∈jpl)=true)(hx:(WT TT (k+1)).Φ "stepped" [x,.dct M]=.ok .fz (rD r))(hy:(WT TT (k+1)).Φ "stepped" [y,.dct M]=.ok .fz (rD r')\/r.isSome=true):evB (WT TT (k+1)) iM [some (false,.tup [.str w,x,y]),some (false,.dct M),b,none,none,none]=.rt .fz (rD (or2 w x y r r')):=by
 have cw:aD 1 ((WT TT (k+1)).Φ "askings_within") (.ok [(.fz,.tup [.str w,x,y])])=.ok .fz (.tup [x,y]):=nJ (oN k (w:=w) hw hj);have cx:aD 2 ((WT TT (k+1)).Φ "stepped") (.ok [(.fz,x),(.fz,.dct M)])=.ok .fz (rD r):=aY hx;have st:aI (.tp [.nm 4,.nm 5]) (.tup [.int 0,x]) [some (false,.tup [.str w,x,y]),some (false,.dct M),b,some (false,.tup [x,y]),none,none]=some [some (false,.tup [.str w,x,y]),some (false,.dct M),b,some (false,.tup [x,y]),some (false,.int 0),some (false,x)]:=rfl;unfold iM;cases r with
 | some d =>
  have rb:=oP k (a:=.str w) (l:=[x,y]) (xs:=[.tup d]) (by simp)
  have tn:=rO (W:=WT TT (k+1)) (A:=.tup [.str w,x,y]) (i:=0) (xs:=[x,y]) (b:=b) cx (by decide) (by simp) (aY rb)
  have f:=fr2 (m:=.fz) st tn (l:=[.tup [.int 1,y]]);show _=aB.rt .fz (.tup [.str w,.tup d,y]);simp only[List.singleton_append,aON,List.drop_succ_cons,aPR] at f;generalize D.tup [.str w,x,y]=A at *;simp[cw,en2,f]
 | none =>
  have hy:(WT TT (k+1)).Φ "stepped" [y,.dct M]=.ok .fz (rD r'):=hy.resolve_right (by simp)
  have cy:aD 2 ((WT TT (k+1)).Φ "stepped") (.ok [(.fz,y),(.fz,.dct M)])=.ok .fz (rD r'):=aY hy;have tn:=rN (W:=WT TT (k+1)) (A:=.tup [.str w,x,y]) (i:=0) (b:=b) (v:=some (false,.tup [x,y])) (p:=none) (q:=none) cx;have f:=fr1 (m:=.fz) st tn (l:=[.tup [.int 1,y]]);have st':aI (.tp [.nm 4,.nm 5]) (.tup [.int 1,y]) [some (false,.tup [.str w,x,y]),some (false,.dct M),some (false,.non),some (false,.tup [x,y]),some (false,.int 0),some (false,x)]=some [some (false,.tup [.str w,x,y]),some (false,.dct M),some (false,.non),some (false,.tup [x,y]),some (false,.int 1),some (false,y)]:=rfl;cases r' with
  | none=>have tn':=rN (W:=WT TT (k+1)) (A:=.tup [.str w,x,y]) (i:=1) (b:=some (false,.non)) (v:=some (false,.tup [x,y])) (p:=none) (q:=none) cy;have f':=fr1 (m:=.fz) st' tn' (l:=[]);generalize D.tup [.str w,x,y]=A at *;simp[cw,en2,f,f',fr0,rD,or2]
  | some d =>
   have rb:=oP k (a:=.str w) (l:=[x,y]) (xs:=[x,.tup d]) (by simp)
   have tn':=rO (W:=WT TT (k+1)) (A:=.tup [.str w,x,y]) (i:=1) (xs:=[x,y]) (b:=some (false,.non)) cy (by decide) (by simp) (aY rb)
   have f':=fr2 (m:=.fz) st' tn' (l:=[]);show _=aB.rt .fz (.tup [.str w,x,.tup d]);have eq:([.str w]++([x,.tup d]++List.drop [x,D.tup d].length [x,y]):List D)=[.str w,x,.tup d]:=rfl;have f'':dL (.ok .fz (.lst [.tup [.int 1,y]])) [some (false,.tup [.str w,x,y]),some (false,.dct M),some (false,.non),some (false,.tup [x,y]),some (false,.int 0),some (false,x)] (aI (.tp [.nm 4,.nm 5])) (evB (WT TT (k+1)) iF)=.rt .fz (.tup [.str w,x,.tup d]):=f'
   clear f' tn' rb
   generalize D.tup [.str w,x,y]=A at *;simp[cw,en2,f,f'']
theorem aLM{w:Str}{l:List D}(hl:l.length<=800)(hp:(w==Str.ofString "pick")=false)(hw:(w==Str.ofString "table")=false)(hj:decide (w∈jpl)=false)(hx:bT M x r (n+1)):bT M (.tup (.str w::x::l)) (r.map λd=>.str w :: .tup d::l) (n+2):=λK hK=>by
 obtain ⟨k,rfl,hk⟩:=le2 hK;have t:=zB (b:=none) hl hw hj (hx (k+1) (by omega))
 rw[oF];refine aJ rfl ?_;show evB (WT TT (k+1)) (dW.take 1++iM) [some (false,.tup (.str w::x::l)),some (false,.dct M),none,none,none,none]=_;rw[bB,zA (w:=w) (cH (bC (j:=0) rfl)) hp,aB.thn_nx,t]
theorem aLN{w:Str}{r':Option (List D)}(hp:(w==Str.ofString "pick")=false)(hw:(w==Str.ofString "table")=false)(hj:decide (w∈jpl)=true)(hx:bT M x r (n+1))(hy:bT M y r' (n+1)\/r.isSome=true):bT M (.tup [.str w,x,y]) (or2 w x y r r') (n+2):=λK hK=>by
 obtain ⟨k,rfl,hk⟩:=le2 hK;have t:=aLL (b:=none) (r':=r') hw hj (hx (k+1) (by omega)) (hy.imp (λh=>h (k+1) (by omega)) id)
 rw[oF];refine aJ rfl ?_;show evB (WT TT (k+1)) (dW.take 1++iM) [some (false,.tup [.str w,x,y]),some (false,.dct M),none,none,none,none]=_;rw[bB,zA (w:=w) (cH (bC (j:=0) rfl)) hp,aB.thn_nx,t]
theorem iN{t:D}{r0:Option (List D)}(hb:lP M x t r0 (n+1))(hx:bT M x r (n+1)\/r0.isSome=true):bT M (.tup [.str "pick", x,t]) (orP x t r0 r) (n+2):=λK hK=>by
 obtain ⟨k,rfl,hk⟩:=le2 hK;rw[oF];refine aJ rfl ?_;show evB (WT TT (k+1)) (dW.take 1++iM) [some (false,.tup [.str "pick", x,t]),some (false,.dct M),none,none,none,none]=_;have cb:aD 3 ((WT TT (k+1)).Φ "behind_pick") (.ok [(.fz,x),(.fz,t),(.fz,.dct M)])=.ok .fz (rD r0):=cZ (hb (k+1) (by omega))
 cases r0 with
 | some d =>
  have h:evB (WT TT (k+1)) (dW.take 1) [some (false,.tup [.str "pick", x,t]),some (false,.dct M),none,none,none,none]=.rt .fz (.tup d):=by simp[dW,j0,j1,j2,cb,rD]
  rw[bB,h];rfl
 | none =>
  have h:evB (WT TT (k+1)) (dW.take 1) [some (false,.tup [.str "pick", x,t]),some (false,.dct M),none,none,none,none]=.nx [some (false,.tup [.str "pick", x,t]),some (false,.dct M),some (false,.non),none,none,none]:=by simp[dW,j0,j1,j2,cb,rD]
  have hx:bT M x r (n+1):=hx.resolve_right (by simp)
  have t':=zB (w:=Str.ofString "pick") (l:=[t]) (b:=some (false,.non)) (by simp) (by decide +kernel) (by decide +kernel) (hx (k+1) (by omega))
  rw[bB,h,aB.thn_nx,t'];rfl
end
def eI(M:List (Key×D))(x t:D)(r:Option (List D))(n:Nat):Prop:=∀ K,n<=K->(WT TT K).Φ "sunk" [x,t,.dct M]=.ok .fz (rD r)
def sk:Ts->Bool
 | .atom ..=>true
 | .two e _ _=>e
 | .no (.atom ..)=>true
 | .no (.two e _ _)=>!e
 | .no (.no _)=>false
section
variable {M:List (Key×D)}{x y t:D}{r:Option (List D)}{n:Nat}{f:List Str}
theorem bp_nn{u:Ts}:lP M x (tsD f (.no (.no u))) (some [.str "pick", x,tsD f u]) 1:=λK hK=>by obtain ⟨k,rfl,hk⟩:=le1 hK;rw[oG];refine aJ rfl ?_;show evB (WT TT k) eF [some (false,x),some (false,.tup [.str "not", .tup [.str "not", tsD f u]]),some (false,.dct M)]=.rt .fz (.tup [.str "pick", x,tsD f u]);generalize tsD f u=d at *;simp[eF,i0,i1,wd (a := "not") (b := "both"),t3]
theorem jX{k:Nat}{w:Str}(h0:op2 ixD (.ok .fz t) (.ok .fz (.int 0))=.ok .fz (.str w))(hb:(w==Str.ofString "both")=false)(hn:(w==Str.ofString "not")=false\/∃ u v,op2 ixD (.ok .fz t) (.ok .fz (.int 1))=.ok .fz u/\op2 ixD (.ok .fz u) (.ok .fz (.int 0))=.ok .fz (.str v)/\(v==Str.ofString "not")=false/\(v==Str.ofString "either")=false)(hs:(WT TT k).Φ "sunk" [x,t,.dct M]=.ok .fz (rD r)):(WT TT (k+1)).Φ "behind_pick" [x,t,.dct M]=.ok .fz (rD r):=by
 have cs:aD 3 ((WT TT k).Φ "sunk") (.ok [(.fz,x),(.fz,t),(.fz,.dct M)])=.ok .fz (rD r):=cZ hs;rw[oG];refine aJ rfl ?_;show evB (WT TT k) eF [some (false,x),some (false,t),some (false,.dct M)]=_;rcases hn with hn | ⟨u,v,h1,h2,h3,h4⟩
 . simp[eF,h0,hb,hn,cs]
 . cases hn:(w==Str.ofString "not") with
   | false=>simp[eF,h0,hb,hn,cs]
   | true=>simp[eF,h0,hb,hn,h1,h2,h3,h4,cs]
theorem oQ{u:Ts}(hu:sk u=true)(hs:eI M x (tsD f u) r n):lP M x (tsD f u) r (n+1):=λK hK=>by
 obtain ⟨k,rfl,hk⟩:=le1 hK;have hs:=hs k hk
 match u,hu with
 | .atom true p q,_=>exact jX (w:=Str.ofString "same") j0 (by decide +kernel) (.inl (by decide +kernel)) hs
 | .atom false p q,_=>exact jX (w:=Str.ofString "under") j0 (by decide +kernel) (.inl (by decide +kernel)) hs
 | .two true a b,_=>exact jX (w:=Str.ofString "either") j0 (by decide +kernel) (.inl (by decide +kernel)) hs
 | .two false a b,h=>cases h
 | .no (.atom true p q),_=>exact jX (w:=Str.ofString "not") i0 (by decide +kernel) (.inr ⟨_,Str.ofString "same", i1,j0,by decide +kernel,by decide +kernel⟩) hs
 | .no (.atom false p q),_=>exact jX (w:=Str.ofString "not") i0 (by decide +kernel) (.inr ⟨_,Str.ofString "under", i1,j0,by decide +kernel,by decide +kernel⟩) hs
 | .no (.two false a b),_=>exact jX (w:=Str.ofString "not") i0 (by decide +kernel) (.inr ⟨_,Str.ofString "both", i1,j0,by decide +kernel,by decide +kernel⟩) hs
 | .no (.two true a b),h=>cases h
 | .no (.no a),h=>cases h
theorem zC{w:Str}:eI M (.tup [.str "table", .str w]) t none 1:=λK hK=>by obtain ⟨k,rfl,hk⟩:=le1 hK;rw[iK];refine aJ rfl ?_;show evB (WT TT k) bN [some (false,.tup [.str "table", .str w]),some (false,t),some (false,.dct M),none,none,none]=.rt .fz .non;have w0:op2 ixD (.ok .fz (.tup [.str "table", .str w])) (.ok .fz (.int 0))=.ok .fz (.str "table"):=i0;generalize D.tup [.str "table", .str w]=A at *;simp[bN,w0]
theorem zD{W:WD}{C:List Str}:∀ L:List Str,bD (aI (.nm 1)) (λρ=>evF W [] ρ) (λρ=>evE W (.cmp .In (.var 1) (.var 0)) ρ) [some (false,Tp C),none] (L.map .str)=some (L.map λz=>.bl (decide (z∈C)))
 | []=>rfl
 | z::L=>by
  have ih:=zD (W:=W) (C:=C) L;have k:aI (.nm 1) (.str z) [some (false,Tp C),none]=some [some (false,Tp C),some (false,.str z)]:=rfl;have e:=rF (m:=.fz) (m':=.fz) (z:=z) (C:=C);have t:evE W (.cmp .In (.var 1) (.var 0)) [some (false,Tp C),some (false,.str z)]=.ok .fz (.bl (decide (z∈C))):=by generalize Tp C=t at *;simp[e]
  rw[aOR,bD,k];dsimp only;rw[qQ];dsimp only;rw[t,ih];rfl
theorem zE{C:List Str}:∀ L:List Str,fK (L.map λz=>D.bl (decide (z∈C)))=some (L.map λz=>decide (z∈C))
 | []=>rfl
 | z::L=>by rw[aOR,fK,zE L];rfl
theorem oR{k:Nat}{C L:List Str}(hL:L.length<sizeLine)(hc:(WT TT k).Φ "columns_in" [t]=.ok .fr (.lst (L.map .str))):(WT TT (k+1)).Φ "has_all" [Tp C,t]=.ok .fz (.bl (L.all λz=>decide (z∈C))):=by
 have cc:aD 1 ((WT TT k).Φ "columns_in") (.ok [(.fz,t)])=.ok .fr (.lst (L.map .str)):=jV hc;rw[aKQ];refine aJ rfl ?_;show evB (WT TT k) oB [some (false,Tp C),some (false,t)]=_;have ei:evE (WT TT k) (.items (.call "columns_in" 1 [(.var 1)])) [some (false,Tp C),some (false,t)]=.ok .fz (.lst (L.map .str)):=by generalize Tp C=u at *;simp[cc]
 have ec:bY (.ok .fz (.lst (L.map .str))) [some (false,Tp C),some (false,t)] [0] 1 (aI (.nm 1)) (λρ=>evF (WT TT k) [] ρ) (λρ=>evE (WT TT k) (.cmp .In (.var 1) (.var 0)) ρ)=.ok .fr (.lst (L.map λz=>.bl (decide (z∈C)))):=by
  show (if (L.map D.str).length<sizeLine then (match bD (aI (.nm 1)) (λρ=>evF (WT TT k) [] ρ) (λρ=>evE (WT TT k) (.cmp .In (.var 1) (.var 0)) ρ) [some (false,Tp C),none] (L.map .str) with | some ys=>Res.ok .fr (.lst ys) | none=>.stuck) else .stuck)=_
  rw[if_pos (by rw[aN1];exact hL),zD]
 have ea:iY [(Md.fr,D.lst (L.map λz=>.bl (decide (z∈C))))]=some (.fz,.bl (L.all λz=>decide (z∈C))):=by show (fK _).map _=_;rw[zE,aPG,List.all_map];rfl
 unfold oB;rw[bP,lC,wD,gJ,iC,gI,ei,ec];show (e6 (Res.of (iY [(Md.fr,D.lst (L.map λz=>.bl (decide (z∈C))))])) _).thn _=_;rw[ea];rfl
theorem aLO{C C' L:List Str}(hL:L.length<sizeLine)(hc:∀ K,n<=K->(WT TT K).Φ "columns_in" [t]=.ok .fr (.lst (L.map .str)))(hx:∀ K,n+1<=K->(WT TT K).Φ "columns_of" [x,.dct M]=.ok .fz (Tp C))(hy:∀ K,n+1<=K->(WT TT K).Φ "columns_of" [y,.dct M]=.ok .fz (Tp C'))(n1:(L.all λz=>decide (z∈C))=false)(n2:(L.all λz=>decide (z∈C'))=false):eI M (.tup [.str "join", x,y]) t none (n+3):=λK hK=>by
 obtain ⟨k,rfl,hk⟩:∃ k,K=k+3/\n<=k:=⟨K-3,by omega,by omega⟩
 have cx:aD 2 ((WT TT (k+1)).Φ "columns_of") (.ok [(.fz,x),(.fz,.dct M)])=.ok .fz (Tp C):=aY (hx (k+1) (by omega))
 have cy:aD 2 ((WT TT (k+1)).Φ "columns_of") (.ok [(.fz,y),(.fz,.dct M)])=.ok .fz (Tp C'):=aY (hy (k+1) (by omega))
 have h1:aD 2 ((WT TT (k+1)).Φ "has_all") (.ok [(.fz,Tp C),(.fz,t)])=.ok .fz (.bl false):=aY (by rw[<- n1];exact oR hL (hc k hk))
 have h2:aD 2 ((WT TT (k+1)).Φ "has_all") (.ok [(.fz,Tp C'),(.fz,t)])=.ok .fz (.bl false):=aY (by rw[<- n2];exact oR hL (hc k hk))
 have w0:op2 ixD (.ok .fz (.tup [.str "join", x,y])) (.ok .fz (.int 0))=.ok .fz (.str "join"):=j0;have w1:op2 ixD (.ok .fz (.tup [.str "join", x,y])) (.ok .fz (.int 1))=.ok .fz x:=j1;have w2:op2 ixD (.ok .fz (.tup [.str "join", x,y])) (.ok .fz (.int 2))=.ok .fz y:=j2;generalize D.tup [.str "join", x,y]=A at *;have sj:(WT TT (k+2)).Φ "sunk_into_join" [A,t,.dct M]=.ok .fz .non:=by
  rw[yP];refine aJ rfl ?_;show evB (WT TT (k+1)) cO [some (false,A),some (false,t),some (false,.dct M),none,none]=_;generalize Tp C=u at *;generalize Tp C'=u' at *;have pr:evB (WT TT (k+1)) (cO.take 1) [some (false,A),some (false,t),some (false,.dct M),none,none]=.nx [some (false,A),some (false,t),some (false,.dct M),some (false,x),some (false,y)]:=by simp[cO,w1,w2,i9]
  rw[show cO=cO.take 1++cO.drop 1 from rfl,bB,pr,aB.thn_nx]
  simp[cO,cx,cy,h1,h2]
 have cj:aD 3 ((WT TT (k+2)).Φ "sunk_into_join") (.ok [(.fz,A),(.fz,t),(.fz,.dct M)])=.ok .fz .non:=cZ sj;rw[iK];refine aJ rfl ?_;show evB (WT TT (k+2)) bN [some (false,A),some (false,t),some (false,.dct M),none,none,none]=.rt .fz .non;simp[bN,w0,wd (a := "join") (b := "table"),wd (a := "join") (b := "pick"),cj]
end
theorem md{c n:Int}(h:0<n):∃ j:Nat,c % n=(j:Int)/\(j:Int)<n:=by
 have h0:=Int.emod_nonneg c (show n≠0 by omega)
 have h1:=Int.emod_lt_of_pos c h;exact ⟨(c % n).toNat,by omega,by omega⟩
theorem zF(x:Nat):∀ (k:Nat) (acc:Array Nat),(List.replicate k #[x]).foldl (· ++ ·) acc=acc++(List.replicate k x).toArray
 | 0,acc=>by simp
 | k+1,acc=>by rw[aO4,aO5,zF x k,aO4];apply Array.ext';simp
theorem aLP(x k:Nat):Txt.mul ⟨#[x]⟩ ((k+1:Nat):Int)=⟨(List.replicate (k+1) x).toArray⟩:=by
 unfold Txt.mul;rw[if_neg (by omega)]
 cases k with
 | zero=>rfl
 | succ k =>
  have h:((((k+1+1:Nat):Int)==1)||((⟨#[x]⟩:Str).length==0))=false:=by have:(⟨#[x]⟩:Str).length=1:=rfl;rw[this,aO6];exact ⟨by simpa using (by omega:¬ ((k+1+1:Nat):Int)=1),rfl⟩
  rw[h];rw[if_neg (by decide),aN8,zF]
  simp
theorem rP(x n:Nat)(hn:n<=1000){m m':Md}:op2 (aT .Mult) (.ok m (.str ⟨#[x]⟩)) (.ok m' (.int (n:Int)))=.ok .fz (.str ⟨(List.replicate n x).toArray⟩):=by
 have hs:sizeLine=16777216:=aNN;have l1:(⟨#[x]⟩:Str).length=1:=rfl;refine bL ?_;show orO (orO _ gY) m6 m (.str ⟨#[x]⟩) m' (.int (n:Int))=_;unfold orO;cases n with
 | zero =>
  have e1:gY m (.str ⟨#[x]⟩) m' (.int ((0:Nat):Int))=none:=by simp[gY]
  rw[e1];rfl
 | succ k =>
  have e1:gY m (.str ⟨#[x]⟩) m' (.int ((k+1:Nat):Int))=some (.fz,.str ⟨(List.replicate (k+1) x).toArray⟩):=by show (if (decide ((1:Int)<=((k+1:Nat):Int))&&decide (((k+1:Nat):Int)<=1000000)&&decide ((⟨#[x]⟩:Str).length * (((k+1:Nat):Int)).toNat<=sizeLine))=true then some (Md.fz,D.str (Txt.mul ⟨#[x]⟩ ((k+1:Nat):Int))) else none)=_;rw[if_pos (by rw[l1,aN8];simp only[aOI,aOW];omega),aLP]
  rw[e1];rfl
theorem app_l(a b:List Nat):(⟨a.toArray⟩:Str)++⟨b.toArray⟩=⟨(a++b).toArray⟩:=by refine PySem.Str.ext' ?_;rw[PySem.Str.cps_append];simp
theorem zG{a b:List Nat}(h:a.length+b.length<=2000){m m':Md}:op2 (aT .Add) (.ok m (.str ⟨a.toArray⟩)) (.ok m' (.str ⟨b.toArray⟩))=.ok .fz (.str ⟨(a++b).toArray⟩):=by have hs:sizeLine=16777216:=aNN;rw[aJ2 (by show a.toArray.size+b.toArray.size<=_;simp;omega),app_l]
theorem zH{f:Nat->Str}{n:Nat}(h:∀ i j,i<n->j<n->f i=f j->i=j):((List.range n).map f).Nodup:=by unfold List.Nodup;rw[List.pairwise_map];exact List.Pairwise.imp_of_mem (λ{a b} ha hb hab e=>hab (h a b (aMX.mp ha) (aMX.mp hb) e)) List.nodup_range
theorem zI{a b:List Nat}(h:(⟨a.toArray⟩:Str)=⟨b.toArray⟩):a=b:=by
 have:a.toArray=b.toArray:=by injection h
 simpa using this
def rQ:List Nat:=[107,109,113,98,122,119,104,118,99,106,120,102]
theorem aLQ:(Str.ofString "kmqbzwhvcjxf").cps.toList=rQ:=by decide +kernel
def lt(k:Nat):Nat:=rQ.getD k 0
theorem aLR:∀ i,i<12->∀ j,j<12->lt i=lt j->i=j:=by decide
theorem lt_ix{k:Nat}(hk:k<12){m m':Md}:op2 ixD (.ok m (.str (Str.ofString "kmqbzwhvcjxf"))) (.ok m' (.int (k:Int)))=.ok .fz (.str ⟨[lt k].toArray⟩):=ix_s (bC (by
 rw[aLQ];unfold lt;rw[aPB,aPC (show k<rQ.length from hk)];rfl))
def nA(k:Nat):Str:=⟨(List.replicate (k+1) 112).toArray⟩
def nB(a e t k:Nat):Str:=⟨((List.replicate a 114++[lt k])++List.replicate t e).toArray⟩
theorem nA_nd{n:Nat}:((List.range n).map nA).Nodup:=zH λi j _ _ h=>by have:=congrArg List.length (zI h);simp at this;exact this
theorem nB_nd{a e t n:Nat}(hn:n<=12):((List.range n).map (nB a e t)).Nodup:=zH λi j hi hj h=>by
 have h:=congrArg (λl=>l[a]?) (zI h);have q:∀ x:Nat,((List.replicate a 114++[x])++List.replicate t e)[a]? = some x:=λx=>by
  rw[aNW (by simp),aNU (by simp)]
  simp
 simp only[q] at h;exact aLR i (by omega) j (by omega) (aMP h)
def fvI(f:Nat->Str):D->D
 | .int i=>.str (f i.toNat)
 | d=>d
theorem zJ(f:Nat->Str)(n:Nat):(bJ 0 (n:Int)).map (fvI f)=((List.range n).map f).map D.str:=by unfold bJ;rw[List.map_map,List.map_map];simp[Function.comp_def,fvI]
section
variable {W:WD}{c:Int}{n:Nat}
theorem n_pre:∃ s:Nat,0<s/\s<=40/\evB W (gN.take 2) [some (false,.int c),some (false,.int (n:Int)),none,none]=.nx [some (false,.int c),some (false,.int (n:Int)),some (false,.int (s:Int)),none]:=by
 by_cases h:c / 6 % 9=4
 . exact ⟨40,by decide,by decide,by simp[gN,h]⟩
 . obtain ⟨j,ej,hj⟩:=md (c:=c) (n:=6) (by decide)
   refine ⟨1+j,by omega,by omega,?_⟩
   have h':(c / 6 % 9==4)=false:=aMN.mpr h;simp[gN,h',ej]
theorem n_A(hn:n<=12)(ρ:Rho):bY (.ok .fz (.lst (bJ 0 (n:Int)))) ρ [] 1 (aI (.nm 0)) (λρ=>evF W [] ρ) (λρ=>evE W (.bin .Mult (.str "p") (.bin .Add (.var 0) (.int 1))) ρ)=.ok .fr (.lst (((List.range n).map nA).map .str)):=by
 have hs:sizeLine=16777216:=aNN;rw[<- zJ];refine wQ _ (by rw[oI];omega) λd hd=>?_
 obtain ⟨i,hi,rfl⟩:=mem_range hd;have ml:=rP 112 (i+1) (by omega) (m:=.fz) (m':=.fz)
 rw[show (⟨#[112]⟩:Str) = "p" from rfl] at ml
 refine ⟨[some (false,.int (i:Int))],.fz,rfl,by simp,.fz,?_⟩
 show _=Res.ok Md.fz (.str (nA i));unfold nA;generalize (⟨(List.replicate (i+1) 112).toArray⟩:Str)=Z at *;simp at ml;simp[ml]
theorem n_B(hn:n<=12){a s e:Nat}(ha:a<s)(hs:s<=40)(he:op2 ixD (.ok .fz (.str "r7")) (.ok .fz (.int (c % 2)))=.ok .fz (.str ⟨#[e]⟩))(ρ:Rho)(hρ:cL [3,0,2] ρ=[some (false,.int (a:Int)),some (false,.int c),some (false,.int (s:Int))]):bY (.ok .fz (.lst (bJ 0 (n:Int)))) ρ [3,0,2] 1 (aI (.nm 3)) (λρ=>evF W [] ρ) (λρ=>evE W (.bin .Add (.bin .Add (.bin .Mult (.str "r") (.var 0)) (.ix (.str "kmqbzwhvcjxf") (.var 3))) (.bin .Mult (.ix (.str "r7") (.bin .Mod (.var 1) (.int 2))) (.bin .Sub (.bin .Sub (.var 2) (.var 0)) (.int 1)))) ρ)=.ok .fr (.lst (((List.range n).map (nB a e (s-a-1))).map .str)):=by
 have hsz:sizeLine=16777216:=aNN;rw[<- zJ];refine wQ _ (by rw[oI];omega) λd hd=>?_
 obtain ⟨i,hi,rfl⟩:=mem_range hd;have m1:=rP 114 a (by omega) (m:=.fz) (m':=.fz)
 rw[show (⟨#[114]⟩:Str) = "r" from rfl] at m1
 have m2:=rP e (s-a-1) (by omega) (m:=.fz) (m':=.fz)
 rw[show ((s-a-1:Nat):Int)=(s:Int)-(a:Int)-1 by omega] at m2
 have l1:=lt_ix (k:=i) (by omega) (m:=.fz) (m':=.fz)
 have a1:=zG (a:=List.replicate a 114) (b:=[lt i]) (m:=.fz) (m':=.fz) (by simp;omega)
 have a2:=zG (a:=List.replicate a 114++[lt i]) (b:=List.replicate (s-a-1) e) (m:=.fz) (m':=.fz) (by simp;omega)
 refine ⟨[some (false,.int (a:Int)),some (false,.int c),some (false,.int (s:Int)),some (false,.int (i:Int))],.fz,by rw[hρ];rfl,by simp,.fz,?_⟩
 show _=Res.ok Md.fz (.str (nB a e (s-a-1) i));unfold nB;generalize (⟨((List.replicate a 114++[lt i])++List.replicate (s-a-1) e).toArray⟩:Str)=Z at *;generalize (⟨(List.replicate a 114++[lt i]).toArray⟩:Str)=Z1 at *;generalize (⟨(List.replicate (s-a-1) e).toArray⟩:Str)=Z2 at *;generalize (⟨(List.replicate a 114).toArray⟩:Str)=Z3 at *;generalize (⟨[lt i].toArray⟩:Str)=Z4 at *;simp[m1,he,m2,l1,a1,a2]
theorem c_A(hn:n<=12){s:Int}:evE W (.comp (.bin .Mult (.str "p") (.bin .Add (.var 0) (.int 1))) (.rng1 (.var 1)) [] [] (.nm 0) 1) [some (false,.int c),some (false,.int (n:Int)),some (false,.int s),none]=.ok .fr (.lst (((List.range n).map nA).map .str)):=by
 have er:=lJ (m:=.fz) (n:=(n:Int)) (by omega) (by omega)
 have cA:=n_A (W:=W) hn [some (false,.int c),some (false,.int (n:Int)),some (false,.int s),none];have ei:evE W (.rng1 (.var 1)) [some (false,.int c),some (false,.int (n:Int)),some (false,.int s),none]=.ok .fz (.lst (bJ 0 (n:Int))):=by rw[lB,bS,<- er,g_1,g_0];rw[f8]
 rw[gI,ei];exact cA
theorem c_B(hn:n<=12){a s e:Nat}(ha:a<s)(hs:s<=40)(he:op2 ixD (.ok .fz (.str "r7")) (.ok .fz (.int (c % 2)))=.ok .fz (.str ⟨#[e]⟩)):evE W (.comp (.bin .Add (.bin .Add (.bin .Mult (.str "r") (.var 0)) (.ix (.str "kmqbzwhvcjxf") (.var 3))) (.bin .Mult (.ix (.str "r7") (.bin .Mod (.var 1) (.int 2))) (.bin .Sub (.bin .Sub (.var 2) (.var 0)) (.int 1)))) (.rng1 (.var 1)) [] [3,0,2] (.nm 3) 1) [some (false,.int c),some (false,.int (n:Int)),some (false,.int (s:Int)),some (false,.int (a:Int))]=.ok .fr (.lst (((List.range n).map (nB a e (s-a-1))).map .str)):=by
 have er:=lJ (m:=.fz) (n:=(n:Int)) (by omega) (by omega)
 have cB:=n_B (W:=W) hn ha hs he [some (false,.int c),some (false,.int (n:Int)),some (false,.int (s:Int)),some (false,.int (a:Int))] rfl;have ei:evE W (.rng1 (.var 1)) [some (false,.int c),some (false,.int (n:Int)),some (false,.int (s:Int)),some (false,.int (a:Int))]=.ok .fz (.lst (bJ 0 (n:Int))):=by rw[lB,bS,<- er,g_1,g_0];rw[f8]
 rw[gI,ei];exact cB
def xA:E:=.comp (.bin .Mult (.str "p") (.bin .Add (.var 0) (.int 1))) (.rng1 (.var 1)) [] [] (.nm 0) 1
def xB:E:=.comp (.bin .Add (.bin .Add (.bin .Mult (.str "r") (.var 0)) (.ix (.str "kmqbzwhvcjxf") (.var 3))) (.bin .Mult (.ix (.str "r7") (.bin .Mod (.var 1) (.int 2))) (.bin .Sub (.bin .Sub (.var 2) (.var 0)) (.int 1)))) (.rng1 (.var 1)) [] [3,0,2] (.nm 3) 1
def jY:List D3.S:=[.ite (.cmp .Eq (.bin .Mod (.bin .FloorDiv (.var 0) (.int 54)) (.int 4)) (.int 1)) [.ret xA] [],.set 3 (.frz (.bin .Mod (.bin .FloorDiv (.var 0) (.int 216)) (.var 2))),.ret xB]
theorem aLS:gN=gN.take 2++jY:=rfl
theorem t_A{d:D}{s:Int}(h:c / 54 % 4=1)(hx:evE W xA [some (false,.int c),some (false,.int (n:Int)),some (false,.int s),none]=.ok .fr d):evB W jY [some (false,.int c),some (false,.int (n:Int)),some (false,.int s),none]=.rt .fr d:=by unfold jY;generalize xA=X at *;generalize xB=Y at *;simp[h,hx]
theorem t_B{d:D}{s a:Int}(h:¬ c / 54 % 4=1)(em:op2 (aT .Mod) (.ok .fz (.int (c / 216))) (.ok .fz (.int s))=.ok .fz (.int a))(hx:evE W xB [some (false,.int c),some (false,.int (n:Int)),some (false,.int s),some (false,.int a)]=.ok .fr d):evB W jY [some (false,.int c),some (false,.int (n:Int)),some (false,.int s),none]=.rt .fr d:=by
 have h':(c / 54 % 4==1)=false:=aMN.mpr h;have g1:evE W (.cmp .Eq (.bin .Mod (.bin .FloorDiv (.var 0) (.int 54)) (.int 4)) (.int 1)) [some (false,.int c),some (false,.int (n:Int)),some (false,.int s),none]=.ok .fz (.bl false):=by simp[h']
 have g2:evE W (.frz (.bin .Mod (.bin .FloorDiv (.var 0) (.int 216)) (.var 2))) [some (false,.int c),some (false,.int (n:Int)),some (false,.int s),none]=.ok .fz (.int a):=by simp[em]
 unfold jY;rw[bP,nH,g1,wM,jN,aB.thn_nx,bP,nG,g2,wN,aB.thn_nx];show evB W [.ret xB] [some (false,.int c),some (false,.int (n:Int)),some (false,.int s),some (false,.int a)]=_;rw[bP,lC,hx];rfl
end
theorem names(k:Nat)(c:Int){n:Nat}(hn:n<=12):∃ N:List Str,N.length=n/\N.Nodup/\(WT TT (k+1)).Φ "_law_names" [.int c,.int (n:Int)]=.ok .fr (.lst (N.map .str)):=by
 obtain ⟨s,s0,s1,pre⟩:=n_pre (W:=WT TT k) (c:=c) (n:=n)
 suffices q:∃ N:List Str,N.length=n/\N.Nodup/\evB (WT TT k) jY [some (false,.int c),some (false,.int (n:Int)),some (false,.int (s:Int)),none]=.rt .fr (.lst (N.map .str)) by obtain ⟨N,h1,h2,h3⟩:=q;refine ⟨N,h1,h2,?_⟩;rw[aKT];refine aJ rfl ?_;show evB (WT TT k) gN [some (false,.int c),some (false,.int (n:Int)),none,none]=_;rw[aLS,bB,pre,aB.thn_nx,h3]
 by_cases h:c / 54 % 4=1
 . exact ⟨(List.range n).map nA,by simp,nA_nd,t_A h (c_A hn)⟩
 . obtain ⟨a,ea,ha⟩:=md (c:=c / 216) (n:=(s:Int)) (by omega)
   obtain ⟨e,_,he⟩:=rE (Str.ofString "r7").cps.toList c 2 (by decide +kernel) (by decide)
   exact ⟨(List.range n).map (nB a e (s-a-1)),by simp,nB_nd hn,t_B h (by rw[gK (by omega),ea]) (c_B hn (by omega) s1 (ix_s he))⟩
theorem mixed(k:Nat)(c:Int){p:Int}(hp:0<p):∃ v:Int,(WT TT (k+1)).Φ "_law_mixed" [.int c,.int p]=.ok .fz (.int v):=by
 obtain ⟨j,ej,hj⟩:=md (c:=(c+7) * 48271) (n:=2147483647) (by decide)
 refine ⟨(j:Int) * (j:Int) % p,?_⟩;rw[aKS];refine aJ rfl ?_;show evB (WT TT k) oC [some (false,.int c),some (false,.int p),none]=_;have m1:op2 (aT .Mult) (.ok .fz (.int (c+7))) (.ok .fz (.int 48271))=.ok .fz (.int ((c+7) * 48271)):=iD (by decide)
 have m2:op2 (aT .Mult) (.ok .fz (.int (j:Int))) (.ok .fz (.int (j:Int)))=.ok .fz (.int ((j:Int) * (j:Int))):=iD (by omega)
 have m3:op2 (aT .Mod) (.ok .fz (.int ((j:Int) * (j:Int)))) (.ok .fz (.int p))=.ok .fz (.int ((j:Int) * (j:Int) % p)):=gK hp;have m4:op2 (aT .Mod) (.ok .fz (.int ((c+7) * 48271))) (.ok .fz (.int 2147483647))=.ok .fz (.int (j:Int)):=by rw[gK (by decide),ej]
 simp[oC,m1,m4,m2,m3]
theorem pow12:op2 (aT .Pow) (.ok .fz (.int 10)) (.ok .fz (.int 12))=.ok .fz (.int 1000000000000):=by rfl
theorem pow50:op2 (aT .Pow) (.ok .fz (.int 10)) (.ok .fz (.int 50))=.ok .fz (.int 100000000000000000000000000000000000000000000000000):=by rfl
theorem pow5{i:Int}(h:i.natAbs<2 ^ 64):op2 (aT .Pow) (.ok .fz (.int i)) (.ok .fz (.int 5))=.ok .fz (.int (i ^ 5)):=bL (by
 show (if (decide ((0:Int)<=5)&&decide ((5:Int)<=1000000)&&decide (i.natAbs<2 ^ 64))=true then some (Md.fz,D.int (i ^ (5:Int).toNat)) else none)=_
 rw[if_pos (by rw[aOP h];rfl)];rfl)
theorem aLT(k:Nat)(c:Int):∃ (a b:Int) (z:Str),(WT TT (k+2)).Φ "_law_values" [.int c]=.ok .fr (.lst [.int a,.int b,.str z]):=by
 obtain ⟨N,n1,n2,n3⟩:=names k (c / 6) (n:=1) (by decide)
 obtain ⟨z,rfl⟩:∃ z,N=[z]:=by
  match N,n1 with
  | [z],_=>exact ⟨z,rfl⟩
 have cn:aD 2 ((WT TT (k+1)).Φ "_law_names") (.ok [(.fz,.int (c / 6)),(.fz,.int 1)])=.ok .fr (.lst [.str z]):=lK (ds:=[.int (c / 6),.int 1]) rfl rfl n3;obtain ⟨j,ej,hj⟩:=md (c:=c) (n:=1000000000000) (by decide)
 have p5:=pow5 (i:=(j:Int)) (by omega)
 have e1:op2 (aT .Mod) (.ok .fz (.int c)) (.ok .fz (.int 1000000000000))=.ok .fz (.int (j:Int)):=by rw[gK (by decide),ej]
 have e2:op2 (aT .Mod) (.ok .fz (.int ((j:Int) ^ 5))) (.ok .fz (.int 100000000000000000000000000000000000000000000000000))=.ok .fz (.int ((j:Int) ^ 5 % 100000000000000000000000000000000000000000000000000)):=gK (by decide)
 have h0':op2 ixD (.ok .fr (.lst [.str z])) (.ok .fz (.int 0))=.ok .fz (.str z):=h0;have l3:∀ {a b c:D},gZ (.ok [(.fz,a),(.fz,b),(.fz,c)])=.ok .fr (.lst [a,b,c]):=by intros;rfl
 generalize (j:Int) ^ 5 % 100000000000000000000000000000000000000000000000000=q at *;have pre:evB (WT TT (k+1)) (gO.take 1) [some (false,.int c),none]=.nx [some (false,.int c),some (false,.int (3+q))]:=by generalize (j:Int) ^ 5=q' at *;simp[gO,pow12,e1,p5,pow50,e2]
 refine ⟨c / 2 % 3,if c % 2=1 then 0-(3+q) else 3+q,z,?_⟩;rw[aKU];refine aJ rfl ?_;show evB (WT TT (k+1)) (gO.take 1++gO.drop 1) [some (false,.int c),none]=_;rw[bB,pre,aB.thn_nx];generalize 3+q=q' at *;by_cases h:c % 2=1
 . simp[gO,h,cn,h0',l3]
 . have h':(c % 2==1)=false:=aMN.mpr h;simp[gO,h,h',cn,h0',l3]
theorem fW{F:List Str}{k:Nat}(hk:k<F.length):nth F k=F[k]:=by unfold nth;rw[aPB,aPC hk];rfl
def Vs(vs:List D):Prop:=vs.length=3/\∀ d∈vs,(∃ i,d=.int i)\/∃ z,d=.str z
def Pt.ok(vs:List D)(n:Nat):Pt->Prop
 | .of k=>k<n
 | .just v=>v∈vs
def Ts.ok(vs:List D)(n:Nat):Ts->Prop
 | .atom _ p q=>p.ok vs n/\q.ok vs n
 | .no t=>t.ok vs n
 | .two _ a b=>a.ok vs n/\b.ok vs n
theorem rR(k:Nat)(c:Int){C:List Str}{vs:List D}(hv:Vs vs):∃ p:Pt,p.ok vs C.length/\(WT TT (k+1)).Φ "_law_part" [.int c,Tp C,.lst vs]=.ok .fz (ptD C p):=by
 have lt:=jW (C:=C) (m:=.fz);by_cases h0:0<C.length/\c % 3<2
 . obtain ⟨j,ej,hj⟩:=md (c:=c / 3) (n:=(C.length:Int)) (by omega)
   have hj':j<C.length:=by omega
   refine ⟨.of j,hj',?_⟩;rw[yQ];refine aJ rfl ?_;show evB (WT TT k) iI [some (false,.int c),some (false,Tp C),some (false,.lst vs)]=.rt .fz (.tup [.str "of", .str (nth C j)]);have em:op2 (aT .Mod) (.ok .fz (.int (c / 3))) (.ok .fz (.int (C.length:Int)))=.ok .fz (.int (j:Int)):=by rw[gK (by omega),ej]
   have ea:=fV hj' (m:=.fz) (m':=.fz);rw[<- fW hj'] at ea;have g0:(0:Int)<(C.length:Int):=by omega
   generalize nth C j=z at *;generalize Tp C=u at *;simp[iI,lt,h0.1,h0.2,em,ea,t2]
 . obtain ⟨v,hv',ev⟩:=rE vs (c / 3) 3 (by rw[hv.1];rfl) (by decide)
   refine ⟨.just v,hv',?_⟩;rw[yQ];refine aJ rfl ?_;show evB (WT TT k) iI [some (false,.int c),some (false,Tp C),some (false,.lst vs)]=.rt .fz (.tup [.str "just", v]);have ex:op2 ixD (.ok .fz (.lst vs)) (.ok .fz (.int (c / 3 % 3)))=.ok .fz v:=dQ ev;by_cases g:0<C.length
   . have g0:(0:Int)<(C.length:Int):=by omega
     have h1:¬ c % 3<2:=λq=>h0 ⟨g,q⟩;generalize Tp C=u at *;simp[iI,lt,g,h1,ex,t2]
   . have g0:¬ (0:Int)<(C.length:Int):=by omega
     generalize Tp C=u at *;simp[iI,lt,g,ex,t2]
theorem pk2{a b:D}{m m':Md}(c:Int):∃ s:Bool,op2 ixD (.ok m (.lst [a,b])) (.ok m' (.int (c % 2)))=.ok .fz (if s=true then b else a):=by
 have h:c % 2=0\/c % 2=1:=by omega
 rcases h with h | h
 . exact ⟨false,by rw[h];exact dQ (bC (j:=0) rfl)⟩
 . exact ⟨true,by rw[h];exact dQ (bC (j:=1) rfl)⟩
theorem l2{a b:D}:gZ (.ok [(.fz,a),(.fz,b)])=.ok .fr (.lst [a,b]):=by rfl
theorem bare(k:Nat)(c n:Int){C:List Str}{vs:List D}(hv:Vs vs)(h:n=0\/c % 5<2):∃ (s:Bool) (p q:Pt),p.ok vs C.length/\q.ok vs C.length/\(WT TT (k+2)).Φ "_law_test" [.int c,.int n,Tp C,.lst vs]=.ok .fz (tsD C (.atom s p q)):=by
 obtain ⟨p,hp,ep⟩:=rR k (c / 5) (C:=C) hv;obtain ⟨q,hq,eq⟩:=rR k (c / 5 / 19) (C:=C) hv;obtain ⟨s,es⟩:=pk2 (a:=.str "same") (b:=.str "under") (m:=.fr) (m':=.fz) c;have cp:aD 3 ((WT TT (k+1)).Φ "_law_part") (.ok [(.fz,.int (c / 5)),(.fz,Tp C),(.fz,.lst vs)])=.ok .fz (ptD C p):=cZ ep;have cq:aD 3 ((WT TT (k+1)).Φ "_law_part") (.ok [(.fz,.int (c / 5 / 19)),(.fz,Tp C),(.fz,.lst vs)])=.ok .fz (ptD C q):=cZ eq;refine ⟨!s,p,q,hp,hq,?_⟩;rw[lH];refine aJ rfl ?_;show evB (WT TT (k+1)) bG [some (false,.int c),some (false,.int n),some (false,Tp C),some (false,.lst vs),none,none,none]=.rt .fz (.tup [.str (if (!s)=true then "same" else "under"),ptD C p,ptD C q]);have hw:(if s=true then D.str "under" else .str "same")=.str (if (!s)=true then "same" else "under"):=by cases s <;> rfl
 rw[hw] at es;generalize (if (!s)=true then ("same" : Str) else "under")=w at *;have hc:((n==0)||decide (c % 5<2))=true:=by rcases h with h | h <;> simp[h]
 generalize ptD C p=d1 at *;generalize ptD C q=d2 at *;generalize Tp C=u at *;have p1:evB (WT TT (k+1)) (bG.take 1) [some (false,.int c),some (false,.int n),some (false,u),some (false,.lst vs),none,none,none]=.nx [some (false,.int c),some (false,.int n),some (false,u),some (false,.lst vs),some (false,.int (c / 5)),none,none]:=by simp[bG]
 rw[show bG=bG.take 1++bG.drop 1 from rfl,bB,p1,aB.thn_nx]
 rw[show bG.drop 1=.ite (.orL [(.cmp .Eq (.var 1) (.int 0)),(.cmp .Lt (.bin .Mod (.var 0) (.int 5)) (.int 2))]) [.set 5 (.ix (.lst [(.str "same"),(.str "under")]) (.bin .Mod (.var 0) (.int 2))),.ret (.tup [(.var 5),(.frz (.call "_law_part" 3 [(.var 4),(.var 2),(.var 3)])),(.frz (.call "_law_part" 3 [(.frz (.bin .FloorDiv (.var 4) (.int 19))),(.var 2),(.var 3)]))])] []::bG.drop 2 from rfl]
 generalize bG.drop 2=Y;simp[hc,l2,es,cp,cq,t3]
theorem iO(k:Nat)(c:Int){C:List Str}{vs:List D}(hv:Vs vs):∃ t:Ts,t.dep<=1/\t.ok vs C.length/\(WT TT (k+3)).Φ "_law_test" [.int c,.int 1,Tp C,.lst vs]=.ok .fz (tsD C t):=by
 by_cases h:c % 5<2
 . obtain ⟨s,p,q,hp,hq,e⟩:=bare (k+1) c 1 (C:=C) hv (.inr h);exact ⟨.atom s p q,aOV _,⟨hp,hq⟩,e⟩
 . obtain ⟨s,p,q,hp,hq,e⟩:=bare k (c / 5) 0 (C:=C) hv (.inl rfl);obtain ⟨s',p',q',hp',hq',e'⟩:=bare k ((c / 5+5) * 69621 % 998244353) 0 (C:=C) hv (.inl rfl);have c1:aD 4 ((WT TT (k+2)).Φ "_law_test") (.ok [(.fz,.int (c / 5)),(.fz,.int 0),(.fz,Tp C),(.fz,.lst vs)])=.ok .fz (tsD C (.atom s p q)):=eE e;have c2:aD 4 ((WT TT (k+2)).Φ "_law_test") (.ok [(.fz,.int ((c / 5+5) * 69621 % 998244353)),(.fz,.int 0),(.fz,Tp C),(.fz,.lst vs)])=.ok .fz (tsD C (.atom s' p' q')):=eE e';have m1:op2 (aT .Mult) (.ok .fz (.int (c / 5+5))) (.ok .fz (.int 69621))=.ok .fz (.int ((c / 5+5) * 69621)):=iD (by decide)
   have hh:decide (c % 5<2)=false:=aMM h;by_cases h2:c % 5=2
   . refine ⟨.no (.atom s p q),aNH _,⟨hp,hq⟩,?_⟩;rw[lH];refine aJ rfl ?_;show evB (WT TT (k+2)) bG [some (false,.int c),some (false,.int 1),some (false,Tp C),some (false,.lst vs),none,none,none]=.rt .fz (.tup [.str "not", tsD C (.atom s p q)]);generalize tsD C (.atom s p q)=d1 at *;generalize Tp C=u at *;simp[bG,h2,c1,t2]
   . have h2':(c % 5==2)=false:=aMN.mpr h2;obtain ⟨g,eg⟩:=pk2 (a:=.str "both") (b:=.str "either") (m:=.fr) (m':=.fz) c;refine ⟨.two g (.atom s p q) (.atom s' p' q'),aNH _,⟨⟨hp,hq⟩,⟨hp',hq'⟩⟩,?_⟩;rw[lH];refine aJ rfl ?_;show evB (WT TT (k+2)) bG [some (false,.int c),some (false,.int 1),some (false,Tp C),some (false,.lst vs),none,none,none]=.rt .fz (.tup [.str (if g=true then "either" else "both"),tsD C (.atom s p q),tsD C (.atom s' p' q')]);have hw:(if g=true then D.str "either" else .str "both")=.str (if g=true then "either" else "both"):=by cases g <;> rfl
     rw[hw] at eg;generalize (if g=true then ("either" : Str) else "both")=w at *;generalize tsD C (.atom s p q)=d1 at *;generalize tsD C (.atom s' p' q')=d2 at *;generalize Tp C=u at *;have p1:evB (WT TT (k+2)) (bG.take 3) [some (false,.int c),some (false,.int 1),some (false,u),some (false,.lst vs),none,none,none]=.nx [some (false,.int c),some (false,.int 1),some (false,u),some (false,.lst vs),some (false,.int (c / 5)),none,none]:=by simp[bG,hh,h2']
     rw[show bG=bG.take 3++bG.drop 3 from rfl,bB,p1,aB.thn_nx]
     simp[bG,l2,eg,c1,m1,c2,t3]
theorem iP(k:Nat)(c:Int){C:List Str}{vs:List D}(hv:Vs vs):∃ t:Ts,t.dep<=3/\t.ok vs C.length/\sk t=true/\(WT TT (k+4)).Φ "_law_sinker" [.int c,Tp C,.lst vs]=.ok .fz (tsD C t):=by
 obtain ⟨a,a1,a2,ea⟩:=iO k (c / 4) (C:=C) hv;obtain ⟨b,b1,b2,eb⟩:=iO k ((c+3) * 16807 % 998244353) (C:=C) hv;obtain ⟨s,p,q,hp,hq,e⟩:=bare (k+1) (c / 4) 0 (C:=C) hv (.inl rfl);have ca:aD 4 ((WT TT (k+3)).Φ "_law_test") (.ok [(.fz,.int (c / 4)),(.fz,.int 1),(.fz,Tp C),(.fz,.lst vs)])=.ok .fz (tsD C a):=eE ea;have cb:aD 4 ((WT TT (k+3)).Φ "_law_test") (.ok [(.fz,.int ((c+3) * 16807 % 998244353)),(.fz,.int 1),(.fz,Tp C),(.fz,.lst vs)])=.ok .fz (tsD C b):=eE eb;have ce:aD 4 ((WT TT (k+3)).Φ "_law_test") (.ok [(.fz,.int (c / 4)),(.fz,.int 0),(.fz,Tp C),(.fz,.lst vs)])=.ok .fz (tsD C (.atom s p q)):=eE e;have m1:op2 (aT .Mult) (.ok .fz (.int (c+3))) (.ok .fz (.int 16807))=.ok .fz (.int ((c+3) * 16807)):=iD (by decide)
 have pre:evB (WT TT (k+3)) (eR.take 2) [some (false,.int c),some (false,Tp C),some (false,.lst vs),none,none,none]=.nx [some (false,.int c),some (false,Tp C),some (false,.lst vs),some (false,tsD C a),some (false,tsD C b),none]:=by generalize tsD C a=d1 at *;generalize tsD C b=d2 at *;generalize Tp C=u at *;simp[eR,ca,m1,cb]
 suffices q:∃ t:Ts,t.dep<=3/\t.ok vs C.length/\sk t=true/\evB (WT TT (k+3)) (eR.drop 2) [some (false,.int c),some (false,Tp C),some (false,.lst vs),some (false,tsD C a),some (false,tsD C b),none]=.rt .fz (tsD C t) by obtain ⟨t,h1,h2,h3,h4⟩:=q;refine ⟨t,h1,h2,h3,?_⟩;rw[aKY];refine aJ rfl ?_;show evB (WT TT (k+3)) (eR.take 2++eR.drop 2) [some (false,.int c),some (false,Tp C),some (false,.lst vs),none,none,none]=_;rw[bB,pre,aB.thn_nx,h4]
 clear pre ca cb
 have h:c % 4=0\/c % 4=1\/c % 4=2\/c % 4=3:=by omega
 rcases h with h | h | h | h
 . refine ⟨.atom s p q,aOV _,⟨hp,hq⟩,rfl,?_⟩;generalize tsD C a=d1 at *;generalize tsD C b=d2 at *;generalize tsD C (.atom s p q)=d3 at *;generalize Tp C=u at *;simp[eR,h,ce]
 . refine ⟨.two true a b,by show max a.dep b.dep+1<=3;omega,⟨a2,b2⟩,rfl,?_⟩
   show _=aB.rt .fz (.tup [.str "either", tsD C a,tsD C b]);generalize tsD C a=d1 at *;generalize tsD C b=d2 at *;generalize Tp C=u at *;simp[eR,h,t3]
 . refine ⟨.no (.two false a b),by show max a.dep b.dep+1+1<=3;omega,⟨a2,b2⟩,rfl,?_⟩
   show _=aB.rt .fz (.tup [.str "not", .tup [.str "both", tsD C a,tsD C b]]);generalize tsD C a=d1 at *;generalize tsD C b=d2 at *;generalize Tp C=u at *;simp[eR,h,t2,t3]
 . refine ⟨.no (.atom s p q),by show 0+1<=3;decide,⟨hp,hq⟩,rfl,?_⟩
   show _=aB.rt .fz (.tup [.str "not", tsD C (.atom s p q)]);generalize tsD C a=d1 at *;generalize tsD C b=d2 at *;generalize tsD C (.atom s p q)=d3 at *;generalize Tp C=u at *;simp[eR,h,ce,t2]
section
variable {W:WD}{c e:E}{x y r:List D3.S}{ρ ρ':Rho}{m:Md}{d:D}{i:Nat}
theorem fX(h:evE W c ρ=.ok .fz (.bl false)):evB W (.ite c x []::r) ρ=evB W r ρ:=by rw[bP,nH,h,wM,jN,aB.thn_nx]
theorem lQ(h:evE W c ρ=.ok .fz (.bl true))(h':evB W x ρ=.rt m d):evB W (.ite c x y::r) ρ=.rt m d:=by rw[bP,nH,h,wL,h',aB.thn_rt]
theorem ite_n(h:evE W c ρ=.ok .fz (.bl true))(h':evB W x ρ=.nx ρ'):evB W (.ite c x y::r) ρ=evB W r ρ':=by rw[bP,nH,h,wL,h',aB.thn_nx]
theorem fB(h:evE W e ρ=.ok .fz d)(hρ:ρ.set i (some (false,d))=ρ'):evB W (.set i e::r) ρ=evB W r ρ':=by rw[bP,nG,h,wN,aB.thn_nx,hρ]
theorem zK(h:evE W e ρ=.ok .fz d):evB W (.ret e::r) ρ=.rt .fz d:=by rw[bP,lC,h,x_ret,aB.thn_rt]
end
def Dp(n:Nat)(d:D):Prop:=∃ p,aU d=some p/\p.depth<=n
theorem Dp.mono{n n':Nat}{d:D}(h:Dp n d)(hn:n<=n'):Dp n' d:=by obtain ⟨p,h1,h2⟩:=h;exact ⟨p,h1,aMY h2 hn⟩
theorem aM{n:Nat}{z:Str}:Dp n (.str z):=⟨.str z,rfl,by simp[PyData.depth]⟩
theorem aLU{n:Nat}{z:Int}:Dp n (.int z):=⟨.int z,rfl,by simp[PyData.depth]⟩
theorem dp_L{n:Nat}:∀ ds:List D,(∀ d∈ds,Dp n d)->∃ ps,bZ ds=some ps/\PyData.depthAll ps<=n
 | [],_=>⟨[],rfl,by simp[PyData.depthAll]⟩
 | d::ds,h=>by
  obtain ⟨p,h1,h2⟩:=h d mcs;obtain ⟨ps,h3,h4⟩:=dp_L ds λd hd=>h d (mcm hd);refine ⟨p::ps,?_,?_⟩
  . show (match aU d,bZ ds with | some p,some ps=>some (p::ps) | _,_=>none)=_
    rw[h1,h3]
  . simp[PyData.depthAll];omega
theorem oS{n:Nat}{ds:List D}(h:∀ d∈ds,Dp n d):Dp (n+1) (.tup ds):=by
 obtain ⟨ps,h1,h2⟩:=dp_L ds h;refine ⟨.tuple ps,?_,?_⟩
 . rw[aU,h1];rfl
 . simp[PyData.depth];omega
theorem gR{n:Nat}{C:List Str}:Dp (n+1) (Tp C):=oS λd hd=>by obtain ⟨z,_,rfl⟩:=aQM.mp hd;exact aM
theorem dC{n:Nat}{a b:D}(h1:Dp n a)(h2:Dp n b):Dp (n+1) (.tup [a,b]):=oS λd hd=>by simp only[aM0,aQP,aP9] at hd;rcases hd with rfl | rfl <;> assumption
theorem bH{n:Nat}{a b c:D}(h1:Dp n a)(h2:Dp n b)(h3:Dp n c):Dp (n+1) (.tup [a,b,c]):=oS λd hd=>by simp only[aM0,aQP,aP9] at hd;rcases hd with rfl | rfl | rfl <;> assumption
theorem dp_4{n:Nat}{a b c e:D}(h1:Dp n a)(h2:Dp n b)(h3:Dp n c)(h4:Dp n e):Dp (n+1) (.tup [a,b,c,e]):=oS λd hd=>by simp only[aM0,aQP,aP9] at hd;rcases hd with rfl | rfl | rfl | rfl <;> assumption
theorem zL{vs:List D}(hv:Vs vs){f:List Str}{n:Nat}{p:Pt}(h:p.ok vs n):Dp 1 (ptD f p):=by
 cases p with
 | of k=>exact dC aM aM
 | just v =>
  refine dC aM ?_;rcases hv.2 v h with ⟨i,rfl⟩ | ⟨z,rfl⟩
  . exact aLU
  . exact aM
theorem dR{vs:List D}(hv:Vs vs){f:List Str}{n:Nat}:∀ t:Ts,t.ok vs n->Dp (t.dep+2) (tsD f t)
 | .atom s p q,h=>bH aM (zL hv h.1) (zL hv h.2)
 | .no t,h=>dC aM (dR hv t h)
 | .two e a b,h=>bH (n:=max a.dep b.dep+2) aM ((dR hv a h.1).mono (by omega)) ((dR hv b h.2).mono (by omega))
mutual
theorem zM:∀ (d:D) (p:PyData),aU d=some p->PyData.eqv p p=true
 | .non,p,h=>by cases h;rfl
 | .bl _,p,h=>by cases h;simp[PyData.eqv]
 | .int _,p,h=>by cases h;simp[PyData.eqv]
 | .str _,p,h=>by cases h;simp[PyData.eqv]
 | .tup ds,p,h=>by
  rw[aU] at h;cases e:bZ ds with
  | none=>rw[e] at h;cases h
  | some ps=>rw[e] at h;cases h;rw[PyData.eqv];exact rS ds ps e
 | .lst ds,p,h=>by
  rw[aU] at h;cases e:bZ ds with
  | none=>rw[e] at h;cases h
  | some ps=>rw[e] at h;cases h;rw[PyData.eqv];exact rS ds ps e
 | .dct _,p,h=>by simp[aU] at h
 | .ty _,p,h=>by simp[aU] at h
 | .fn _,p,h=>by simp[aU] at h
 | .ins _ _,p,h=>by simp[aU] at h
 | .exn _,p,h=>by simp[aU] at h
theorem rS:∀ (ds:List D) (ps:List PyData),bZ ds=some ps->PyData.eqvAll ps ps=true
 | [],ps,h=>by cases h;simp[PyData.eqvAll]
 | d::ds,ps,h=>by
  have h:(match aU d,bZ ds with | some p,some ps=>some (p::ps) | _,_=>none)=some ps:=h
  cases e:aU d with
  | none=>rw[e] at h;cases h
  | some p =>
   cases e':bZ ds with
   | none=>rw[e,e'] at h;cases h
   | some qs=>rw[e,e'] at h;cases h;rw[PyData.eqvAll,zM d p e,rS ds qs e'];rfl
end
theorem aLV{d:D}{n:Nat}(h:Dp n d)(hn:n<=50){m m':Md}:op2 (bF .Eq) (.ok m d) (.ok m' d)=.ok .fz (.bl true):=by
 obtain ⟨p,h1,h2⟩:=h;refine bL ?_;have hs:fL p=true:=aOP (by omega)
 show orO (eqF false) _ m d m' d=_;unfold orO eqF;rw[h1];dsimp only;rw[hs];simp[zM d p h1]
theorem aLW{W:WD}{ρ:Rho}{C:List Str}{e:E}{i:Nat}{m:Md}(h:evE W e ρ=.ok m (.int (i:Int))):slP (.ok .fz (Tp C)) (evO W none) (evO W (some e)) ρ=.ok .fz (Tp (C.take i)):=by rw[oK h,<- List.map_take]
theorem aLX{W:WD}{ρ:Rho}{C:List Str}{e:E}{i:Nat}{m:Md}(h:evE W e ρ=.ok m (.int (i:Int))):slP (.ok .fz (Tp C)) (evO W (some e)) (evO W none) ρ=.ok .fz (Tp (C.drop i)):=by rw[rJ h,<- List.map_drop]
theorem fC{W:WD}{ρ:Rho}{C:List Str}{a e:E}{i:Nat}{m:Md}(ha:evE W a ρ=.ok .fz (Tp C))(h:evE W e ρ=.ok m (.int (i:Int))):evE W (.slice a none (some e)) ρ=.ok .fz (Tp (C.take i)):=by rw[jM,ha];exact aLW h
theorem rT{W:WD}{ρ:Rho}{C:List Str}{a e:E}{i:Nat}{m:Md}(ha:evE W a ρ=.ok .fz (Tp C))(h:evE W e ρ=.ok m (.int (i:Int))):evE W (.slice a (some e) none) ρ=.ok .fz (Tp (C.drop i)):=by rw[jM,ha];exact aLX h
theorem zN{W:WD}{ρ:Rho}{C:List Str}{a e:E}{i:Nat}{m:Md}(hb:C.length<=900)(ha:evE W a ρ=.ok .fz (Tp C))(h:evE W e ρ=.ok m (.int (i:Int))):evE W (.frz (.bin .Add (.slice a (some e) none) (.slice a none (some e)))) ρ=.ok .fz (Tp (C.drop i++C.take i)):=by have hsz:sizeLine=16777216:=aNN;rw[jL,eC,fC ha h,rT ha h,oM (by rw[aOC,aNS];omega),nI]
theorem fD{W:WD}{ρ:Rho}{C:List Str}{a:E}(ha:evE W a ρ=.ok .fz (Tp C)):evE W (.bcall .len [a]) ρ=.ok .fz (.int (C.length:Int)):=by rw[wD,gJ,iC,ha,f8,aJ3,aJ4,jW];rfl
theorem zO{C:List Str}(hn:C.Nodup)(j:Nat):(C.drop j++C.take j).Nodup:=by
 have:(C.drop j++C.take j).Perm C:=List.perm_append_comm.trans (by rw[List.take_append_drop])
 exact this.symm.nodup hn
theorem aLY{C:List Str}{j:Nat}{z:Str}(h:z∈C.drop j++C.take j):z∈C:=by
 rcases aM1.mp h with h | h
 . exact List.mem_of_mem_drop h
 . exact aQQ h
theorem zP{C:List Str}{j:Nat}:(C.drop j++C.take j).length=C.length:=by rw[aN0,aOC,aNS];omega
theorem zQ(k:Nat){C:List Str}(hn:C.Nodup)(hb:C.length<=900)(c:Int):∃ K:List Str,K.Nodup/\(∀ z∈K,z∈C)/\K.length<=C.length/\(WT TT (k+1)).Φ "_law_some" [.int c,Tp C]=.ok .fz (Tp K):=by
 generalize hW:WT TT k=W;have hu:=aKV k;rw[hW] at hu;by_cases h0:C.length=0
 . refine ⟨C,hn,λ_ h=>h,aNH _,?_⟩;rw[hu];refine aJ rfl ?_;show evB W jS [some (false,.int c),some (false,Tp C),none,none]=_;have lt:=jW (C:=C) (m:=.fz);rw[h0] at lt;generalize Tp C=u at *;simp[jS,lt]
 . obtain ⟨j,ej,hj⟩:=md (c:=c) (n:=(C.length:Int)) (by omega)
   obtain ⟨i,ei,hi⟩:=md (c:=c / 7) (n:=2) (by omega)
   refine ⟨(C.drop j++C.take j).take (C.length-i),(zO hn j).sublist (aNY _ _),λz hz=>aLY (aQQ hz),by rw[aNS];omega,?_⟩
   rw[hu];refine aJ rfl ?_;show evB W jS [some (false,.int c),some (false,Tp C),none,none]=_;have h0':((C.length:Int)==0)=false:=aMN.mpr (by omega)
   have g1:evE W (.cmp .Eq (.bcall .len [(.var 1)]) (.int 0)) [some (false,.int c),some (false,Tp C),none,none]=.ok .fz (.bl false):=by rw[jK,fD (C:=C) rfl,cN,qS,h0']
   have g2:evE W (.frz (.bin .Mod (.var 0) (.bcall .len [(.var 1)]))) [some (false,.int c),some (false,Tp C),none,none]=.ok .fz (.int (j:Int)):=by rw[jL,eC,fD (C:=C) rfl,bS,g_0,gK (by omega),ej,nI]
   have g3:evE W (.frz (.bin .Add (.slice (.var 1) (some (.var 2)) none) (.slice (.var 1) none (some (.var 2))))) [some (false,.int c),some (false,Tp C),some (false,.int (j:Int)),none]=.ok .fz (Tp (C.drop j++C.take j)):=zN hb rfl (m:=.fz) rfl;have g4:evE W (.slice (.var 3) none (some (.bin .Sub (.bcall .len [(.var 3)]) (.bin .Mod (.bin .FloorDiv (.var 0) (.int 7)) (.int 2))))) [some (false,.int c),some (false,Tp C),some (false,.int (j:Int)),some (false,Tp (C.drop j++C.take j))]=.ok .fz (Tp ((C.drop j++C.take j).take (C.length-i))):=by
    refine fC rfl (m:=.fz) ?_;rw[eC,fD (C:=C.drop j++C.take j) rfl,zP];have:evE W (.bin .Mod (.bin .FloorDiv (.var 0) (.int 7)) (.int 2)) [some (false,.int c),some (false,Tp C),some (false,.int (j:Int)),some (false,Tp (C.drop j++C.take j))]=.ok .fz (.int (i:Int)):=by rw[<- ei];generalize Tp (C.drop j++C.take j)=u1;generalize Tp C=u;simp
    rw[this,x_sub,show ((C.length-i:Nat):Int)=(C.length:Int)-(i:Int) by omega]
   unfold jS;rw[fX g1,fB g2 (ρ':=[some (false,.int c),some (false,Tp C),some (false,.int (j:Int)),none]) rfl,fB g3 (ρ':=[some (false,.int c),some (false,Tp C),some (false,.int (j:Int)),some (false,Tp (C.drop j++C.take j))]) rfl,zK g4]
structure Sh(M:List (Key×D))(ws N:List Str):Prop where
 len:ws.length=3
 get:∀ w∈ws,∃ S,aV M (.inr w)=some (Tp S)/\S.Nodup/\S.length=2/\∀ z∈S,z∈N
 nd:N.Nodup
 nl:N.length=7
def cI(M:List (Key×D))(d:D)(C:List Str)(n:Nat):Prop:=∃ m,Ask M d C m/\m<=n
theorem cI.mono{M:List (Key×D)}{d:D}{C:List Str}{n n':Nat}(h:cI M d C n)(hn:n<=n'):cI M d C n':=by obtain ⟨m,h1,h2⟩:=h;exact ⟨m,h1,aMY h2 hn⟩
theorem cI.cols{M:List (Key×D)}{d:D}{C:List Str}{n:Nat}(h:cI M d C n):∀ K,n+7<=K->(WT TT K).Φ "columns_of" [d,.dct M]=.ok .fz (Tp C):=λK hK=>by
 obtain ⟨m,h1,h2⟩:=h;have:=aLK h1 (K-m-7);rw[show K-m-7+m+7=K by omega] at this
 exact this
theorem nw(w:Str)(h:(w==Str.ofString "pick")=false/\(w==Str.ofString "table")=false/\decide (w∈jpl)=false:=by decide +kernel):(w==Str.ofString "pick")=false/\(w==Str.ofString "table")=false/\decide (w∈jpl)=false:=h
theorem nj(w:Str)(h:(w==Str.ofString "pick")=false/\(w==Str.ofString "table")=false/\decide (w∈jpl)=true:=by decide +kernel):(w==Str.ofString "pick")=false/\(w==Str.ofString "table")=false/\decide (w∈jpl)=true:=h
theorem oT{M:List (Key×D)}{x:D}{r:Option (List D)}{n:Nat}(w:Str){l:List D}(hl:l.length<=800)(hx:bT M x r (n+1))(h:(w==Str.ofString "pick")=false/\(w==Str.ofString "table")=false/\decide (w∈jpl)=false):bT M (.tup (.str w::x::l)) (r.map λd=>.str w :: .tup d::l) (n+2):=aLM hl h.1 h.2.1 h.2.2 hx
theorem zR{M:List (Key×D)}{x y:D}{r r':Option (List D)}{n:Nat}(w:Str)(hx:bT M x r (n+1))(hy:bT M y r' (n+1)\/r.isSome=true)(h:(w==Str.ofString "pick")=false/\(w==Str.ofString "table")=false/\decide (w∈jpl)=true):bT M (.tup [.str w,x,y]) (or2 w x y r r') (n+2):=aLN h.1 h.2.1 h.2.2 hx hy
structure Lk(M:List (Key×D))(C:List Str)(d:D):Prop where
 ask:cI M d C 2
 st:bT M d none 4
 dp:Dp 3 d
theorem like{W:WD}{k:Nat}(hW:W=WT TT (k+1)){M:List (Key×D)}{ws N C:List Str}(sh:Sh M ws N)(hC:C.Nodup)(hl:C.length<=2)(c:Int):∃ d,Lk M C d/\aD 4 (W.Φ "_law_like") (.ok [(.fz,.int (c % 3)),(.fz,Tp C),(.fz,.lst (ws.map .str)),(.fz,.dct M)])=.ok .fz d:=by
 subst hW;obtain ⟨j,ej,hj⟩:=md (c:=c) (n:=3) (by decide)
 have hj':j<ws.length:=by have:=sh.len;omega
 obtain ⟨S,s1,s2,s3,s4⟩:=sh.get ws[j] (aPD hj');have kn:(S.take C.length).Nodup:=s2.sublist (aNY _ _);have km:∀ z∈S.take C.length,z∈S:=λz hz=>aQQ hz;refine ⟨.tup [.str "call", .tup [.str "keep", .tup [.str "table", .str ws[j]],Tp (S.take C.length)],Tp C],⟨?_,?_,?_⟩,eE ?_⟩
 . exact ⟨2,.call (.keep (.table s1) kn km) hC (by rw[aNS];omega) (by omega),aNH _⟩
 . have h1:=oT (n:=1) (Str.ofString "keep") (l:=[Tp (S.take C.length)]) (by simp) (fA (M:=M) (w:=ws[j])) (nw _)
   exact oT (n:=2) (Str.ofString "call") (l:=[Tp C]) (by simp) h1 (nw _)
 . exact bH aM (bH aM (dC aM aM) gR) gR
 rw[ej];rw[aKW];refine aJ rfl ?_;show evB (WT TT k) oD [some (false,.int (j:Int)),some (false,Tp C),some (false,.lst (ws.map .str)),some (false,.dct M),none]=_;have ew:op2 ixD (.ok .fz (.lst (ws.map .str))) (.ok .fz (.int (j:Int)))=.ok .fz (.str ws[j]):=dQ (bC (by rw[aNX,aPC hj'];rfl))
 have e1:=gQ s1 (m:=.fz) (m':=.fz);have g1:evE (WT TT k) (.slice (.dix (.var 3) (.ix (.var 2) (.var 0))) none (some (.bcall .len [(.var 1)]))) [some (false,.int (j:Int)),some (false,Tp C),some (false,.lst (ws.map .str)),some (false,.dct M),none]=.ok .fz (Tp (S.take C.length)):=by refine fC (m:=.fz) ?_ (fD rfl);generalize Tp S=u1 at *;generalize Tp C=u at *;generalize ws.map D.str=v at *;generalize ws[j]=w at *;simp[ew,e1]
 unfold oD;generalize E.slice (.dix (.var 3) (.ix (.var 2) (.var 0))) none (some (.bcall .len [(.var 1)]))=X at *
 clear e1
 generalize Tp (S.take C.length)=u1 at *;generalize Tp C=u at *;generalize ws.map D.str=v at *;generalize ws[j]=w at *;simp[ew,g1,t2,t3]
theorem zS{W:WD}{X:D}{ts:List E}{C:List Str}(ht:∀ z:Str,evF W ts [some (false,X),some (false,.str z)]=.ok .fz (.bl (!decide (z∈C)))):∀ C':List Str,bD (aI (.nm 1)) (λρ=>evF W ts ρ) (λρ=>evE W (.var 1) ρ) [some (false,X),none] (C'.map .str)=some ((dif C' C).map .str)
 | []=>rfl
 | z::C'=>by
  have ih:=zS ht C';have k:aI (.nm 1) (.str z) [some (false,X),none]=some [some (false,X),some (false,.str z)]:=rfl;rw[aOR,bD,k];dsimp only;rw[ht,ih];unfold dif;rw[List.filter_cons];cases decide (z∈C) with
  | true=>rfl
  | false=>rfl
theorem aLZ{W:WD}{ρ:Rho}{X:D}{ts:List E}{C S:List Str}{i j:Nat}(ht:∀ z:Str,evF W ts [some (false,X),some (false,.str z)]=.ok .fz (.bl (!decide (z∈C))))(hj:c7 ρ j=.ok .fz (Tp S))(hi:cL [i] ρ=[some (false,X)])(hs:S.length<sizeLine):evE W (.tcall .tuple [(.comp (.var 1) (.items (.var j)) ts [i] (.nm 1) 1)]) ρ=.ok .fz (Tp (dif S C)):=by
 have e1:bY (.ok .fz (.lst (S.map .str))) ρ [i] 1 (aI (.nm 1)) (λρ=>evF W ts ρ) (λρ=>evE W (.var 1) ρ)=.ok .fr (.lst ((dif S C).map .str)):=by
  show (if (S.map D.str).length<sizeLine then (match bD (aI (.nm 1)) (λρ=>evF W ts ρ) (λρ=>evE W (.var 1) ρ) (cL [i] ρ++[none]) (S.map .str) with | some ys=>Res.ok .fr (.lst ys) | none=>.stuck) else .stuck)=_
  rw[hi,if_pos (by rw[aN1];exact hs)]
  show (match bD (aI (.nm 1)) (λρ=>evF W ts ρ) (λρ=>evE W (.var 1) ρ) [some (false,X),none] (S.map .str) with | some ys=>Res.ok .fr (.lst ys) | none=>.stuck)=_
  rw[zS ht]
 rw[qO,gJ,iC,gI,nF,bS,hj];show eZ (Ty.f .tuple) (c8 (bY (.ok .fz (.lst (S.map .str))) _ [i] 1 (aI (.nm 1)) _ _) (.ok []))=_;rw[e1];rfl
theorem aL0{W:WD}{C:List Str}(z:Str):evF W [.cmp .NotIn (.var 1) (.var 0)] [some (false,Tp C),some (false,.str z)]=.ok .fz (.bl (!decide (z∈C))):=by have e:=oJ (m:=.fz) (m':=.fz) (z:=z) (C:=C);generalize Tp C=t at *;simp[e]
theorem oU{Φ:List D->Res}{a b c e f g h d:D}(q:Φ [a,b,c,e,f,g,h]=.ok .fz d):aD 7 Φ (.ok [(.fz,a),(.fz,b),(.fz,c),(.fz,e),(.fz,f),(.fz,g),(.fz,h)])=.ok .fz d:=iE (ds:=[a,b,c,e,f,g,h]) rfl rfl q
theorem zT{C:List Str}{vs:List D}:∀ {p:Pt},p.ok vs C.length->∃ L:List Str,cl C p=L.map .str/\L.length<=1/\∀ z∈L,z∈C
 | .of k,h=>⟨[nth C k],rfl,by simp,λz hz=>by
  rw[aPU] at hz;subst hz;rw[fW h];exact aPD h⟩
 | .just _,_=>⟨[],rfl,by simp,λz hz=>absurd hz (by simp)⟩
theorem lR{C:List Str}{vs:List D}:∀ (t:Ts),t.ok vs C.length->∃ L:List Str,cols C t=L.map .str/\L.length<=2 ^ (t.dep+1)/\∀ z∈L,z∈C
 | .atom s p q,h=>by
  obtain ⟨L,h1,h2,h3⟩:=zT h.1;obtain ⟨L',h1',h2',h3'⟩:=zT h.2;refine ⟨L++L',by rw[cols,h1,h1',aQO],by rw[aN0];show _<=2 ^ (0+1);omega,λz hz=>?_⟩
  rcases aM1.mp hz with q | q
  . exact h3 z q
  . exact h3' z q
 | .no t,h=>by obtain ⟨L,h1,h2,h3⟩:=lR t h;refine ⟨L,h1,?_,h3⟩;show _<=2 ^ (t.dep+1+1);rw[Nat.pow_succ];omega
 | .two e a b,h=>by
  obtain ⟨L,h1,h2,h3⟩:=lR a h.1;obtain ⟨L',h1',h2',h3'⟩:=lR b h.2;refine ⟨L++L',by rw[cols,h1,h1',aQO],?_,λz hz=>?_⟩
  . rw[aN0];show _<=2 ^ (max a.dep b.dep+1+1);have q1:2 ^ (a.dep+1)<=2 ^ (max a.dep b.dep+1):=aQR (by decide) (by omega)
    have q2:2 ^ (b.dep+1)<=2 ^ (max a.dep b.dep+1):=aQR (by decide) (by omega)
    rw[Nat.pow_succ];omega
  . rcases aM1.mp hz with q | q
    . exact h3 z q
    . exact h3' z q
theorem oV{M:List (Key×D)}{k:Key}{d:D}(h:∀ kv∈M,kv.1≠k):dN M k d=M++[(k,d)]:=by unfold dN;rw[if_neg];rw[List.any_eq_true];rintro ⟨kv,hkv,e⟩;exact h kv hkv (aOX e)
theorem zU{kb:List (Key×D)}:∀ r:List (Key×D),(∀ kv∈r,aV kb kv.1=some kv.2/\∃ S,kv.2=Tp S)->eA kb r=some true
 | [],_=>rfl
 | (k,d)::r,h=>by obtain ⟨h1,S,h2⟩:=h (k,d) mcs;have ih:=zU r λkv hkv=>h kv (mcm hkv);dsimp only at h1 h2;subst h2;unfold eA;rw[h1,ih];simp[aU,rG,yZ,PyData.eqv,rH]
def sh3(w0 w1 w2:Str)(S0 S1 S2:List Str):List (Key×D):=[(.inr w0,Tp S0),(.inr w1,Tp S1),(.inr w2,Tp S2)]
theorem aL1{w0 w1 w2:Str}{S0 S1 S2:List Str}(h01:w0≠w1)(h02:w0≠w2)(h12:w1≠w2):aV (sh3 w0 w1 w2 S0 S1 S2) (.inr w0)=some (Tp S0)/\aV (sh3 w0 w1 w2 S0 S1 S2) (.inr w1)=some (Tp S1)/\aV (sh3 w0 w1 w2 S0 S1 S2) (.inr w2)=some (Tp S2):=by refine ⟨?_,?_,?_⟩ <;> simp[aV,sh3,aOO,h01,h02,h12]
theorem oW{W:WD}{i:Nat}{e e':E}{r:List D3.S}{ρ ρ':Rho}{M:List (Key×D)}{z:Str}{d:D}(hi:ρ[i]? = some (some (true,.dct M)))(hk:evE W e ρ=.ok .fz (.str z))(hv:evE W e' ρ=.ok .fz d)(hl:M.length<sizeLine)(hρ:ρ.set i (some (true,.dct (dN M (.inr z) d)))=ρ'):evB W (.dput i e e'::r) ρ=evB W r ρ':=by rw[bP,aJW,hk,hv];unfold fP;rw[hi];show (if M.length<sizeLine then aB.nx (ρ.set i (some (true,.dct (dN M (.inr z) d)))) else .stuck).thn _=_;rw[if_pos hl,aB.thn_nx,hρ]
theorem aL2(k:Nat){w0 w1 w2 n0 n1 n2 n3 n4 n5 n6:Str}(h01:w0≠w1)(h02:w0≠w2)(h12:w1≠w2):(WT TT (k+1)).Φ "_law_shapes" [.lst ([w0,w1,w2].map .str),Tp [n0,n1,n2,n3,n4,n5,n6]]=.ok .fr (.dct (sh3 w0 w1 w2 [n0,n1] [n1,n2] [n3,n4])):=by
 have hsz:sizeLine=16777216:=aNN;rw[aKX];refine aJ rfl ?_;show evB (WT TT k) oE [some (false,.lst [.str w0,.str w1,.str w2]),some (false,.tup [.str n0,.str n1,.str n2,.str n3,.str n4,.str n5,.str n6]),none]=_;generalize WT TT k=W;have kx:∀ (j:Nat) (x:D) (y:Option (Bool×D)),[D.str w0,.str w1,.str w2][j]? = some x->evE W (.ix (.var 0) (.int (j:Int))) [some (false,.lst [.str w0,.str w1,.str w2]),some (false,.tup [.str n0,.str n1,.str n2,.str n3,.str n4,.str n5,.str n6]),y]=.ok .fz x:=λj x y h=>by rw[gH,bS,cN,g_0];exact dQ (bC h)
 have px:∀ (j:Nat) (x:D) (y:Option (Bool×D)),[D.str n0,.str n1,.str n2,.str n3,.str n4,.str n5,.str n6][j]? = some x->evE W (.ix (.var 1) (.int (j:Int))) [some (false,.lst [.str w0,.str w1,.str w2]),some (false,.tup [.str n0,.str n1,.str n2,.str n3,.str n4,.str n5,.str n6]),y]=.ok .fz x:=λj x y h=>by rw[gH,bS,cN,g_1,g_0];exact cH (bC h)
 have tx:∀ (i j:Nat) (a b:D) (y:Option (Bool×D)),[D.str n0,.str n1,.str n2,.str n3,.str n4,.str n5,.str n6][i]? = some a->[D.str n0,.str n1,.str n2,.str n3,.str n4,.str n5,.str n6][j]? = some b->evE W (.tup [(.ix (.var 1) (.int (i:Int))),(.ix (.var 1) (.int (j:Int)))]) [some (false,.lst [.str w0,.str w1,.str w2]),some (false,.tup [.str n0,.str n1,.str n2,.str n3,.str n4,.str n5,.str n6]),y]=.ok .fz (.tup [a,b]):=λi j a b y h h'=>by rw[wC,gJ,gJ,iC,px i a y h,px j b y h',f8,f8,t2]
 have q1:dN [] (.inr w0) (Tp [n0,n1])=[(.inr w0,Tp [n0,n1])]:=rfl;have q2:dN [(.inr w0,Tp [n0,n1])] (.inr w1) (Tp [n1,n2])=[(.inr w0,Tp [n0,n1]),(.inr w1,Tp [n1,n2])]:=oV (by simp[h01])
 have q3:dN [(.inr w0,Tp [n0,n1]),(.inr w1,Tp [n1,n2])] (.inr w2) (Tp [n3,n4])=sh3 w0 w1 w2 [n0,n1] [n1,n2] [n3,n4]:=oV (by simp[h02,h12])
 have st:∀ y:D,([some (false,.lst [.str w0,.str w1,.str w2]),some (false,.tup [.str n0,.str n1,.str n2,.str n3,.str n4,.str n5,.str n6]),none]:Rho).set 2 (some (true,y))=[some (false,.lst [.str w0,.str w1,.str w2]),some (false,.tup [.str n0,.str n1,.str n2,.str n3,.str n4,.str n5,.str n6]),some (true,y)]:=λ_=>rfl;unfold oE;rw[bP,nG,wE,wO,aB.thn_nx,st];refine (oW (M:=[]) rfl (kx 0 _ _ rfl) (tx 0 1 _ _ _ rfl rfl) (by simp;omega) (ρ':=[some (false,.lst [.str w0,.str w1,.str w2]),some (false,.tup [.str n0,.str n1,.str n2,.str n3,.str n4,.str n5,.str n6]),some (true,.dct [(.inr w0,Tp [n0,n1])])]) (by rw[show (D.tup [.str n0,.str n1])=Tp [n0,n1] from rfl,q1];rfl)).trans ?_
 refine (oW (M:=[(.inr w0,Tp [n0,n1])]) rfl (kx 1 _ _ rfl) (tx 1 2 _ _ _ rfl rfl) (by simp;omega) (ρ':=[some (false,.lst [.str w0,.str w1,.str w2]),some (false,.tup [.str n0,.str n1,.str n2,.str n3,.str n4,.str n5,.str n6]),some (true,.dct [(.inr w0,Tp [n0,n1]),(.inr w1,Tp [n1,n2])])]) (by rw[show (D.tup [.str n1,.str n2])=Tp [n1,n2] from rfl,q2];rfl)).trans ?_
 refine (oW (M:=[(.inr w0,Tp [n0,n1]),(.inr w1,Tp [n1,n2])]) rfl (kx 2 _ _ rfl) (tx 3 4 _ _ _ rfl rfl) (by simp;omega) (ρ':=[some (false,.lst [.str w0,.str w1,.str w2]),some (false,.tup [.str n0,.str n1,.str n2,.str n3,.str n4,.str n5,.str n6]),some (true,.dct (sh3 w0 w1 w2 [n0,n1] [n1,n2] [n3,n4]))]) (by rw[show (D.tup [.str n3,.str n4])=Tp [n3,n4] from rfl,q3];rfl)).trans ?_
 rw[bP,wI];rfl
theorem rU{n:Nat}:Dp n .non:=⟨.none,rfl,by simp[PyData.depth]⟩
def Nm(M:List (Key×D))(f g:List Str):Prop:=∀ j,j<f.length->aV M (.inr (nth f j))=some (.str (nth g j))
def Frs(f:List Str)(M:List (Key×D)):Prop:=∀ x∈f,∀ kv∈M,kv.1≠Sum.inr x
theorem zV{M:List (Key×D)}{k k':Key}{d:D}(hn:∀ kv∈M,kv.1≠k):aV (M++[(k,d)]) k'=if k'=k then some d else aV M k':=by
 unfold aV;rw[List.find?_append];by_cases hk:k'=k
 . subst hk;have:M.find? (λkv=>decide (kv.1=k'))=none:=List.find?_eq_none.mpr λkv hkv=>by simpa using hn kv hkv
   simp[this]
 . have:¬ k=k':=λe=>hk e.symm;simp[hk,this]
theorem Frs.step{a:Str}{f:List Str}{M:List (Key×D)}{d:D}(h:Frs (a::f) M)(hn:¬ a∈f):Frs f (M++[(.inr a,d)]):=λx hx kv hkv=>by
 rcases aM1.mp hkv with q | q
 . exact h x (mcm hx) kv q
 . rw[aPU] at q;subst q;exact λe=>hn (by injection e with e;exact e ▸ hx)
theorem zW{x:Str}:∀ (f:List Str) (ds:List D) (M:List (Key×D)),f.Nodup->Frs f M -> ¬ x∈f->aV (cG f ds M) (.inr x)=aV M (.inr x)
 | [],_,_,_,_,_=>by unfold cG;rfl
 | _::_,[],_,_,_,_=>by unfold cG;rfl
 | a::f,d::ds,M,hn,hf,h=>by rw[aM0,aPV] at h;rw[aNQ] at hn;rw[cG,oV (hf a mcs),zW f ds _ hn.2 (hf.step hn.1) h.2,zV (hf a mcs),if_neg (λe=>h.1 (by injection e))]
theorem zX:∀ (f g:List Str) (M:List (Key×D)),f.Nodup->Frs f M->f.length<=g.length->∀ j,j<f.length->aV (cG f (g.map .str) M) (.inr (nth f j))=some (.str (nth g j))
 | [],_,_,_,_,_,j,hj=>absurd hj (by simp)
 | _::_,[],_,_,_,h,_,_=>absurd h (by simp)
 | a::f,b::g,M,hn,hf,hl,j,hj=>by
  rw[aNQ] at hn;rw[aOR,cG,oV (hf a mcs)];cases j with
  | zero=>show aV (cG f (g.map .str) _) (.inr a)=some (.str b);rw[zW f _ _ hn.2 (hf.step hn.1) hn.1,zV (hf a mcs),if_pos rfl]
  | succ j=>exact zX f g _ hn.2 (hf.step hn.1) (by simpa using hl) j (by simpa using hj)
theorem aL3{f g:List Str}(hn:f.Nodup)(hl:f.length<=g.length):Nm (cG f (g.map .str) []) f g:=zX f g [] hn (λ_ _ _ h=>absurd h (by simp)) hl
theorem zY:∀ f:List Str,txD (f.map D.str)=some f
 | []=>rfl
 | a::f=>by rw[aOR,txD,zY f];rfl
theorem aL4{f g:List Str}{m m':Md}:iA (.ok m (Tp f)) (.ok m' (Tp g))=.ok .fr (.dct (cG f (g.map .str) [])):=by
 show (match txD (f.map D.str) with | some ns=>Res.ok .fr (.dct (cG ns (g.map .str) [])) | none=>.stuck)=_
 rw[zY]
section
variable {f g:List Str}{M:List (Key×D)}{vs:List D}
theorem zZ(k:Nat){p:Pt}(hp:p.ok vs f.length)(hm:Nm M f g):(WT TT (k+1)).Φ "called_part" [ptD f p,.dct M]=.ok .fz (ptD g p):=by
 rw[aKC];refine aJ rfl ?_;show evB _ lE [some (false,ptD f p),some (false,.dct M)]=_;cases p with
 | of j=>have hx:=gQ (hm j hp) (m:=.fz) (m':=.fz);show _=aB.rt .fz (.tup [.str "of", .str (nth g j)]);simp[lE,ptD,i0,i1,hx,t2]
 | just v=>simp[lE,ptD,i0,wd (a := "just") (b := "of")]
theorem aL5(k:Nat){s:Bool}{p q:Pt}(hp:p.ok vs f.length)(hq:q.ok vs f.length)(hm:Nm M f g):(WT TT (k+2)).Φ "called" [tsD f (.atom s p q),.dct M]=.ok .fz (tsD g (.atom s p q)):=by
 have c1:aD 2 ((WT TT (k+1)).Φ "called_part") (.ok [(.fz,ptD f p),(.fz,.dct M)])=.ok .fz (ptD g p):=aY (zZ k hp hm);have c2:aD 2 ((WT TT (k+1)).Φ "called_part") (.ok [(.fz,ptD f q),(.fz,.dct M)])=.ok .fz (ptD g q):=aY (zZ k hq hm);rw[rA];refine aJ rfl ?_;show evB (WT TT (k+1)) e9 [some (false,.tup [.str (if s then "same" else "under"),ptD f p,ptD f q]),some (false,.dct M),none]=.rt .fz (.tup [.str (if s then "same" else "under"),ptD g p,ptD g q]);generalize ptD f p=d1 at *;generalize ptD f q=d2 at *;generalize ptD g p=d3 at *;generalize ptD g q=d4 at *;cases s with
 | true=>simp[e9,j0,j1,j2,wd (a := "same") (b := "not"),be,gP,w1,c1,c2,t3]
 | false=>simp[e9,j0,j1,j2,wd (a := "under") (b := "not"),be,gP,w2,c1,c2,t3]
theorem cd_no(k:Nat){t:Ts}(h:(WT TT k).Φ "called" [tsD f t,.dct M]=.ok .fz (tsD g t)):(WT TT (k+1)).Φ "called" [tsD f (.no t),.dct M]=.ok .fz (tsD g (.no t)):=by have c1:aD 2 ((WT TT k).Φ "called") (.ok [(.fz,tsD f t),(.fz,.dct M)])=.ok .fz (tsD g t):=aY h;rw[rA];refine aJ rfl ?_;show evB (WT TT k) e9 [some (false,.tup [.str "not", tsD f t]),some (false,.dct M),none]=.rt .fz (.tup [.str "not", tsD g t]);generalize tsD f t=d1 at *;generalize tsD g t=d2 at *;simp[e9,i0,i1,c1,t2]
theorem aL6(k:Nat){e:Bool}{t u:Ts}(h:(WT TT k).Φ "called" [tsD f t,.dct M]=.ok .fz (tsD g t))(h':(WT TT k).Φ "called" [tsD f u,.dct M]=.ok .fz (tsD g u)):(WT TT (k+1)).Φ "called" [tsD f (.two e t u),.dct M]=.ok .fz (tsD g (.two e t u)):=by
 have c1:aD 2 ((WT TT k).Φ "called") (.ok [(.fz,tsD f t),(.fz,.dct M)])=.ok .fz (tsD g t):=aY h;have c2:aD 2 ((WT TT k).Φ "called") (.ok [(.fz,tsD f u),(.fz,.dct M)])=.ok .fz (tsD g u):=aY h';rw[rA];refine aJ rfl ?_;show evB (WT TT k) e9 [some (false,.tup [.str (if e then "either" else "both"),tsD f t,tsD f u]),some (false,.dct M),none]=.rt .fz (.tup [.str (if e then "either" else "both"),tsD g t,tsD g u]);generalize tsD f t=d1 at *;generalize tsD g t=d2 at *;generalize tsD f u=d3 at *;generalize tsD g u=d4 at *;cases e with
 | true=>simp[e9,j0,j1,j2,wd (a := "either") (b := "not"),be,gP,w4,c1,c2,t3]
 | false=>simp[e9,j0,j1,j2,wd (a := "both") (b := "not"),be,gP,w3,c1,c2,t3]
theorem oX(hm:Nm M f g):∀ (t:Ts),t.ok vs f.length->∀ K,t.dep+2<=K->(WT TT K).Φ "called" [tsD f t,.dct M]=.ok .fz (tsD g t)
 | .atom s p q,h,K,hK=>by
  obtain ⟨k,rfl,_⟩:=le2 (n:=0) (show 0+2<=K from hK)
  exact aL5 k h.1 h.2 hm
 | .no t,h,K,hK=>by
  have hK:t.dep+1+2<=K:=hK;obtain ⟨k,rfl,hk⟩:=le1 (n:=t.dep+2) (show t.dep+2+1<=K by omega)
  exact cd_no k (oX hm t h k hk)
 | .two e a b,h,K,hK=>by
  have hK:max a.dep b.dep+1+2<=K:=hK;obtain ⟨k,rfl,hk⟩:=le1 (n:=max a.dep b.dep+2) (show max a.dep b.dep+2+1<=K by omega)
  exact aL6 k (oX hm a h.1 k (by omega)) (oX hm b h.2 k (by omega))
theorem z9{W:WD}{M:D}:∀ (xs ys:List D),xs.length=ys.length->(∀ (i:Nat) (h:i<xs.length) (h':i<ys.length),W.Φ "_law_renamed" [xs[i],M]=.ok .fz ys[i])->bD (aI (.nm 1)) (λρ=>evF W [] ρ) (λρ=>evE W (.call "_law_renamed" 2 [(.var 1),(.var 0)]) ρ) [some (false,M),none] xs=some ys
 | [],[],_,_=>rfl
 | [],_::_,h,_=>by simp at h
 | _::_,[],h,_=>by simp at h
 | x::xs,y::ys,h,q=>by
  have ih:=z9 (W:=W) (M:=M) xs ys (by simpa using h) λi h1 h2=>q (i+1) (by simpa using h1) (by simpa using h2)
  have k:aI (.nm 1) x [some (false,M),none]=some [some (false,M),some (false,x)]:=rfl;have q0:W.Φ "_law_renamed" [x,M]=.ok .fz y:=q 0 (by simp) (by simp)
  have e:evE W (.call "_law_renamed" 2 [(.var 1),(.var 0)]) [some (false,M),some (false,x)]=.ok .fz y:=by have c1:aD 2 (W.Φ "_law_renamed") (.ok [(.fz,x),(.fz,M)])=.ok .fz y:=aY q0;simp[c1]
  rw[bD,k];dsimp only;rw[qQ];dsimp only;rw[e,ih];rfl
theorem rV{k:Nat}{w:Str}{xs ys:List D}{M:D}(h1:(w==Str.ofString "of")=false)(h2:(w==Str.ofString "just")=false)(hl:xs.length=ys.length)(hs:xs.length<=800)(h:∀ (i:Nat) (h:i<xs.length) (h':i<ys.length),(WT TT k).Φ "_law_renamed" [xs[i],M]=.ok .fz ys[i]):(WT TT (k+1)).Φ "_law_renamed" [.tup (.str w::xs),M]=.ok .fz (.tup (.str w::ys)):=by
 have hsz:sizeLine=16777216:=aNN;have cl:=z9 (W:=WT TT k) (M:=M) xs ys hl h;rw[yR];refine aJ rfl ?_;show evB (WT TT k) iJ [some (false,.tup (.str w::xs)),some (false,M)]=_;generalize WT TT k=W at *;have x0:op2 ixD (.ok .fz (.tup (.str w::xs))) (.ok .fz (.int 0))=.ok .fz (.str w):=cH (bC (j:=0) rfl);have g1:evE W (.cmp .Eq (.ix (.var 0) (.int 0)) (.str "of")) [some (false,.tup (.str w::xs)),some (false,M)]=.ok .fz (.bl false):=by rw[jK,gH,bS,cN,wA,g_0,x0,wJ,h1]
 have g2:evE W (.cmp .Eq (.ix (.var 0) (.int 0)) (.str "just")) [some (false,.tup (.str w::xs)),some (false,M)]=.ok .fz (.bl false):=by rw[jK,gH,bS,cN,wA,g_0,x0,wJ,h2]
 have sl:evE W (.items (.slice (.var 0) (some (.int 1)) none)) [some (false,.tup (.str w::xs)),some (false,M)]=.ok .fz (.lst xs):=by
  rw[nF,jM,bS,g_0,rJ (m:=.fz) (i:=1) (by rw[cN];rfl)]
  rfl
 have gc:evE W (.tcall .tuple [(.comp (.call "_law_renamed" 2 [(.var 1),(.var 0)]) (.items (.slice (.var 0) (some (.int 1)) none)) [] [1] (.nm 1) 1)]) [some (false,.tup (.str w::xs)),some (false,M)]=.ok .fz (.tup ys):=by
  have ec:bY (.ok .fz (.lst xs)) [some (false,.tup (.str w::xs)),some (false,M)] [1] 1 (aI (.nm 1)) (λρ=>evF W [] ρ) (λρ=>evE W (.call "_law_renamed" 2 [(.var 1),(.var 0)]) ρ)=.ok .fr (.lst ys):=by
   show (if xs.length<sizeLine then (match bD (aI (.nm 1)) (λρ=>evF W [] ρ) (λρ=>evE W (.call "_law_renamed" 2 [(.var 1),(.var 0)]) ρ) [some (false,M),none] xs with | some ys=>Res.ok .fr (.lst ys) | none=>.stuck) else .stuck)=_
   rw[if_pos (by omega),cl]
  rw[qO,gJ,iC,gI,sl,ec];rfl
 have g0:evE W (.tup [(.ix (.var 0) (.int 0))]) [some (false,.tup (.str w::xs)),some (false,M)]=.ok .fz (.tup [.str w]):=by rw[wC,gJ,iC,gH,bS,cN,g_0,x0,f8,tu1]
 unfold iJ;rw[fX g1,fX g2];refine zK ?_;rw[eC,g0,gc,lD (by simp;omega)]
 rfl
theorem aAA(k:Nat){p:Pt}(hp:p.ok vs f.length)(hm:Nm M f g):(WT TT (k+1)).Φ "_law_renamed" [ptD f p,.dct M]=.ok .fz (ptD g p):=by
 rw[yR];refine aJ rfl ?_;show evB _ iJ [some (false,ptD f p),some (false,.dct M)]=_;cases p with
 | of j=>have hx:=gQ (hm j hp) (m:=.fz) (m':=.fz);show _=aB.rt .fz (.tup [.str "of", .str (nth g j)]);simp[iJ,ptD,i0,i1,hx,t2]
 | just v=>simp[iJ,ptD,i0,wd (a := "just") (b := "of")]
theorem oY(hm:Nm M f g):∀ (t:Ts),t.ok vs f.length->∀ K,t.dep+2<=K->(WT TT K).Φ "_law_renamed" [tsD f t,.dct M]=.ok .fz (tsD g t)
 | .atom s p q,h,K,hK=>by
  obtain ⟨k,rfl,_⟩:=le2 (n:=0) (show 0+2<=K from hK)
  refine rV (w:=if s then "same" else "under") (xs:=[ptD f p,ptD f q]) (ys:=[ptD g p,ptD g q]) (by cases s <;> decide +kernel) (by cases s <;> decide +kernel) rfl (by simp) ?_
  intro i h1 h2
  match i,h1 with
  | 0,_=>exact aAA k h.1 hm
  | 1,_=>exact aAA k h.2 hm
 | .no t,h,K,hK=>by
  have hK:t.dep+1+2<=K:=hK;obtain ⟨k,rfl,hk⟩:=le1 (n:=t.dep+2) (show t.dep+2+1<=K by omega)
  refine rV (w := "not") (xs:=[tsD f t]) (ys:=[tsD g t]) (by decide +kernel) (by decide +kernel) rfl (by simp) ?_
  intro i h1 h2
  match i,h1 with
  | 0,_=>exact oY hm t h k hk
 | .two e a b,h,K,hK=>by
  have hK:max a.dep b.dep+1+2<=K:=hK;obtain ⟨k,rfl,hk⟩:=le1 (n:=max a.dep b.dep+2) (show max a.dep b.dep+2+1<=K by omega)
  refine rV (w:=if e then "either" else "both") (xs:=[tsD f a,tsD f b]) (ys:=[tsD g a,tsD g b]) (by cases e <;> decide +kernel) (by cases e <;> decide +kernel) rfl (by simp) ?_
  intro i h1 h2
  match i,h1 with
  | 0,_=>exact oY hm a h.1 k (by omega)
  | 1,_=>exact oY hm b h.2 k (by omega)
end
section
variable {M:List (Key×D)}{x y t b:D}{r:Option (List D)}{n:Nat}{f:List Str}{vs:List D}
theorem aL7{u v:D}:lP M x (.tup [.str "both", u,v]) (some [.str "pick", .tup [.str "pick", x,u],v]) 1:=λK hK=>by obtain ⟨k,rfl,hk⟩:=le1 hK;rw[oG];refine aJ rfl ?_;show evB (WT TT k) eF [some (false,x),some (false,.tup [.str "both", u,v]),some (false,.dct M)]=.rt .fz (.tup [.str "pick", .tup [.str "pick", x,u],v]);simp[eF,j0,j1,j2,t3]
theorem bp_ne{u v:D}:lP M x (.tup [.str "not", .tup [.str "either", u,v]]) (some [.str "pick", x,.tup [.str "both", .tup [.str "not", u],.tup [.str "not", v]]]) 1:=λK hK=>by obtain ⟨k,rfl,hk⟩:=le1 hK;rw[oG];refine aJ rfl ?_;show evB (WT TT k) eF [some (false,x),some (false,.tup [.str "not", .tup [.str "either", u,v]]),some (false,.dct M)]=.rt .fz (.tup [.str "pick", x,.tup [.str "both", .tup [.str "not", u],.tup [.str "not", v]]]);simp[eF,i0,i1,j0,j1,j2,wd (a := "not") (b := "both"),wd (a := "either") (b := "not"),t2,t3]
theorem lT{W:WD}{A:D}{w:Str}(h:op2 ixD (.ok .fz A) (.ok .fz (.int 0))=.ok .fz (.str w)):evB W bN [some (false,A),some (false,t),some (false,.dct M),none,none,none]=evB W (bN.drop 1) [some (false,A),some (false,t),some (false,.dct M),some (false,.str w),none,none]:=by
 have q:bN=[.set 3 (.ix (.var 0) (.int 0))]++bN.drop 1:=rfl;have p:evB W [.set 3 (.ix (.var 0) (.int 0))] [some (false,A),some (false,t),some (false,.dct M),none,none,none]=.nx [some (false,A),some (false,t),some (false,.dct M),some (false,.str w),none,none]:=by simp[h]
 rw[q,bB,p,aB.thn_nx];rfl
def skw(w:Str):Bool:=!(w==Str.ofString "table")&&!(w==Str.ofString "pick")&&!(w==Str.ofString "join")&&!(w==Str.ofString "pour")&&!(w==Str.ofString "call")
theorem rW(w:Str){l:List D}(hw:skw w=true)(hl:l.length<=800):eI M (.tup (.str w::x::l)) t (some (.str w :: .tup [.str "pick", x,t]::l)) 2:=λK hK=>by
 obtain ⟨k,rfl,hk⟩:=le2 (n:=0) hK;have rb:aD 2 ((WT TT (k+1)).Φ "rebuilt") (.ok [(.fz,.tup (.str w::x::l)),(.fz,.tup [.tup [.str "pick", x,t]])])=.ok .fz (.tup (.str w :: .tup [.str "pick", x,t]::l)):=aY (oP k (a:=.str w) (l:=x::l) (xs:=[.tup [.str "pick", x,t]]) (by simp;omega))
 rw[iK];refine aJ rfl ?_;show evB (WT TT (k+1)) bN [some (false,.tup (.str w::x::l)),some (false,t),some (false,.dct M),none,none,none]=.rt .fz (.tup (.str w :: .tup [.str "pick", x,t]::l));have w0:op2 ixD (.ok .fz (.tup (.str w::x::l))) (.ok .fz (.int 0))=.ok .fz (.str w):=cH (bC (j:=0) rfl);have w1:op2 ixD (.ok .fz (.tup (.str w::x::l))) (.ok .fz (.int 1))=.ok .fz x:=cH (bC (j:=1) rfl);unfold skw at hw;simp only[aOI,aQL] at hw;obtain ⟨⟨⟨⟨h1,h2⟩,h3⟩,h4⟩,h5⟩:=hw;rw[lT w0];generalize D.tup (.str w::x::l)=A at *;simp[bN,w1,h1,h2,h3,h4,h5,t3,tu1,rb]
theorem aL8:eI M (.tup [.str "pour", x,y]) t (some [.str "pour", .tup [.str "pick", x,t],.tup [.str "pick", y,t]]) 1:=λK hK=>by obtain ⟨k,rfl,hk⟩:=le1 hK;rw[iK];refine aJ rfl ?_;show evB (WT TT k) bN [some (false,.tup [.str "pour", x,y]),some (false,t),some (false,.dct M),none,none,none]=.rt .fz (.tup [.str "pour", .tup [.str "pick", x,t],.tup [.str "pick", y,t]]);have w0:op2 ixD (.ok .fz (.tup [.str "pour", x,y])) (.ok .fz (.int 0))=.ok .fz (.str "pour"):=j0;have w1:op2 ixD (.ok .fz (.tup [.str "pour", x,y])) (.ok .fz (.int 1))=.ok .fz x:=j1;have w2:op2 ixD (.ok .fz (.tup [.str "pour", x,y])) (.ok .fz (.int 2))=.ok .fz y:=j2;rw[lT w0];generalize D.tup [.str "pour", x,y]=A at *;simp[bN,w1,w2,wd (a := "pour") (b := "table"),wd (a := "pour") (b := "pick"),wd (a := "pour") (b := "join"),t3]
theorem aL9{l:List D}(h:eI M x t (some l) n):eI M (.tup [.str "pick", x,b]) t (some [.str "pick", .tup l,b]) (n+1):=λK hK=>by obtain ⟨k,rfl,hk⟩:=le1 hK;have cs:aD 3 ((WT TT k).Φ "sunk") (.ok [(.fz,x),(.fz,t),(.fz,.dct M)])=.ok .fz (.tup l):=cZ (h k hk);rw[iK];refine aJ rfl ?_;show evB (WT TT k) bN [some (false,.tup [.str "pick", x,b]),some (false,t),some (false,.dct M),none,none,none]=.rt .fz (.tup [.str "pick", .tup l,b]);have w0:op2 ixD (.ok .fz (.tup [.str "pick", x,b])) (.ok .fz (.int 0))=.ok .fz (.str "pick"):=j0;have w1:op2 ixD (.ok .fz (.tup [.str "pick", x,b])) (.ok .fz (.int 1))=.ok .fz x:=j1;have w2:op2 ixD (.ok .fz (.tup [.str "pick", x,b])) (.ok .fz (.int 2))=.ok .fz b:=j2;rw[lT w0];generalize D.tup [.str "pick", x,b]=A at *;simp[bN,w1,w2,wd (a := "pick") (b := "table"),cs,t3]
theorem aMA{g:List Str}{u:Ts}(hf:f.Nodup)(hl:f.length<=g.length)(hx:∀ K,n<=K->(WT TT K).Φ "columns_of" [x,.dct M]=.ok .fz (Tp g))(hu:u.ok vs f.length)(hd:u.dep+2<=n):eI M (.tup [.str "call", x,Tp f]) (tsD f u) (some [.str "call", .tup [.str "pick", x,tsD g u],Tp f]) (n+1):=λK hK=>by
 obtain ⟨k,rfl,hk⟩:=le1 hK;have cx:aD 2 ((WT TT k).Φ "columns_of") (.ok [(.fz,x),(.fz,.dct M)])=.ok .fz (Tp g):=aY (hx k hk);have cc:aD 2 ((WT TT k).Φ "called") (.ok [(.fz,tsD f u),(.fz,.dct (cG f (g.map .str) []))])=.ok .fz (tsD g u):=aY (oX (aL3 hf hl) u hu k (by omega))
 have dz:=aL4 (f:=f) (g:=g) (m:=.fz) (m':=.fz);rw[iK];refine aJ rfl ?_;show evB (WT TT k) bN [some (false,.tup [.str "call", x,Tp f]),some (false,tsD f u),some (false,.dct M),none,none,none]=.rt .fz (.tup [.str "call", .tup [.str "pick", x,tsD g u],Tp f]);have w0:op2 ixD (.ok .fz (.tup [.str "call", x,Tp f])) (.ok .fz (.int 0))=.ok .fz (.str "call"):=j0;have w1:op2 ixD (.ok .fz (.tup [.str "call", x,Tp f])) (.ok .fz (.int 1))=.ok .fz x:=j1;have w2:op2 ixD (.ok .fz (.tup [.str "call", x,Tp f])) (.ok .fz (.int 2))=.ok .fz (Tp f):=j2;rw[lT w0];generalize D.tup [.str "call", x,Tp f]=A at *;generalize D.dct (cG f (g.map .str) [])=Z at *;generalize tsD f u=d1 at *;generalize tsD g u=d2 at *;generalize Tp f=u1 at *;generalize Tp g=u2 at *;generalize WT TT k=W at *;have p:evB W ((bN.drop 1).take 4) [some (false,A),some (false,d1),some (false,.dct M),some (false,.str "call"),none,none]=.nx [some (false,A),some (false,d1),some (false,.dct M),some (false,.str "call"),none,none]:=by simp[bN,wd (a := "call") (b := "table"),wd (a := "call") (b := "pick"),wd (a := "call") (b := "join"),wd (a := "call") (b := "pour")]
 rw[show bN.drop 1=(bN.drop 1).take 4++bN.drop 5 from rfl,bB,p,aB.thn_nx]
 simp[bN,w1,w2,cx,dz,cc,t3]
theorem aMB{k:Nat}{A:D}{C C' L:List Str}(w1:op2 ixD (.ok .fz A) (.ok .fz (.int 1))=.ok .fz x)(w2:op2 ixD (.ok .fz A) (.ok .fz (.int 2))=.ok .fz y)(hL:L.length<sizeLine)(hc:(WT TT k).Φ "columns_in" [t]=.ok .fr (.lst (L.map .str)))(hx:(WT TT (k+1)).Φ "columns_of" [x,.dct M]=.ok .fz (Tp C))(hy:(WT TT (k+1)).Φ "columns_of" [y,.dct M]=.ok .fz (Tp C'))(r:D)(hr:(L.all λz=>decide (z∈C))=true/\r=.tup [.str "join", .tup [.str "pick", x,t],y]\/(L.all λz=>decide (z∈C))=false/\(L.all λz=>decide (z∈C'))=true/\r=.tup [.str "join", x,.tup [.str "pick", y,t]]):(WT TT (k+2)).Φ "sunk_into_join" [A,t,.dct M]=.ok .fz r:=by
 have cx:aD 2 ((WT TT (k+1)).Φ "columns_of") (.ok [(.fz,x),(.fz,.dct M)])=.ok .fz (Tp C):=aY hx;have cy:aD 2 ((WT TT (k+1)).Φ "columns_of") (.ok [(.fz,y),(.fz,.dct M)])=.ok .fz (Tp C'):=aY hy;have h1:aD 2 ((WT TT (k+1)).Φ "has_all") (.ok [(.fz,Tp C),(.fz,t)])=.ok .fz (.bl (L.all λz=>decide (z∈C))):=aY (oR hL hc);have h2:aD 2 ((WT TT (k+1)).Φ "has_all") (.ok [(.fz,Tp C'),(.fz,t)])=.ok .fz (.bl (L.all λz=>decide (z∈C'))):=aY (oR hL hc);rw[yP];refine aJ rfl ?_;show evB (WT TT (k+1)) cO [some (false,A),some (false,t),some (false,.dct M),none,none]=_;generalize Tp C=u at *;generalize Tp C'=u' at *;have pr:evB (WT TT (k+1)) (cO.take 1) [some (false,A),some (false,t),some (false,.dct M),none,none]=.nx [some (false,A),some (false,t),some (false,.dct M),some (false,x),some (false,y)]:=by simp[cO,w1,w2,i9]
 rw[show cO=cO.take 1++cO.drop 1 from rfl,bB,pr,aB.thn_nx]
 rcases hr with ⟨e,rfl⟩ | ⟨e,e',rfl⟩
 . rw[e] at h1;simp[cO,cx,h1,t3]
 . rw[e] at h1;rw[e'] at h2;simp[cO,cx,cy,h1,h2,t3]
theorem aAB{C C' L:List Str}(hL:L.length<sizeLine)(hc:∀ K,n<=K->(WT TT K).Φ "columns_in" [t]=.ok .fr (.lst (L.map .str)))(hx:∀ K,n+1<=K->(WT TT K).Φ "columns_of" [x,.dct M]=.ok .fz (Tp C))(hy:∀ K,n+1<=K->(WT TT K).Φ "columns_of" [y,.dct M]=.ok .fz (Tp C'))(l:List D)(hr:(L.all λz=>decide (z∈C))=true/\l=[.str "join", .tup [.str "pick", x,t],y]\/(L.all λz=>decide (z∈C))=false/\(L.all λz=>decide (z∈C'))=true/\l=[.str "join", x,.tup [.str "pick", y,t]]):eI M (.tup [.str "join", x,y]) t (some l) (n+3):=λK hK=>by
 obtain ⟨k,rfl,hk⟩:∃ k,K=k+3/\n<=k:=⟨K-3,by omega,by omega⟩
 have w0:op2 ixD (.ok .fz (.tup [.str "join", x,y])) (.ok .fz (.int 0))=.ok .fz (.str "join"):=j0;have w1:op2 ixD (.ok .fz (.tup [.str "join", x,y])) (.ok .fz (.int 1))=.ok .fz x:=j1;have w2:op2 ixD (.ok .fz (.tup [.str "join", x,y])) (.ok .fz (.int 2))=.ok .fz y:=j2;have sj:=aMB (M:=M) (t:=t) (k:=k) w1 w2 hL (hc k hk) (hx (k+1) (by omega)) (hy (k+1) (by omega)) (.tup l) (hr.imp (λh=>⟨h.1,by rw[h.2]⟩) (λh=>⟨h.1,h.2.1,by rw[h.2.2]⟩))
 generalize D.tup [.str "join", x,y]=A at *;have cj:aD 3 ((WT TT (k+2)).Φ "sunk_into_join") (.ok [(.fz,A),(.fz,t),(.fz,.dct M)])=.ok .fz (.tup l):=cZ sj;rw[iK];refine aJ rfl ?_;show evB (WT TT (k+2)) bN [some (false,A),some (false,t),some (false,.dct M),none,none,none]=.rt .fz (.tup l);rw[lT w0];simp[bN,wd (a := "join") (b := "table"),wd (a := "join") (b := "pick"),cj]
theorem iQ{d:D}{C:List Str}{u:Ts}(h:cI M d C n)(hs:∀ z∈f,z∈C)(hd:u.dep<=5)(ho:u.ok vs f.length):cI M (.tup [.str "pick", d,tsD f u]) C (n+1):=by
 obtain ⟨m,h1,h2⟩:=h;obtain ⟨L,h3,h4,h5⟩:=lR u ho;have:2 ^ (u.dep+1)<=2 ^ 6:=aQR (by decide) (by omega)
 exact ⟨m+1,.pick h1 hd h3 (by omega) (λz hz=>hs z (h5 z hz)),by omega⟩
end
theorem test2(k:Nat)(c:Int){C:List Str}{vs:List D}(hv:Vs vs):∃ t:Ts,t.dep<=2/\t.ok vs C.length/\(WT TT (k+4)).Φ "_law_test" [.int c,.int 2,Tp C,.lst vs]=.ok .fz (tsD C t):=by
 by_cases h:c % 5<2
 . obtain ⟨s,p,q,hp,hq,e⟩:=bare (k+2) c 2 (C:=C) hv (.inr h);exact ⟨.atom s p q,aOV _,⟨hp,hq⟩,e⟩
 . obtain ⟨a,ha,ha',e⟩:=iO k (c / 5) (C:=C) hv;obtain ⟨b,hb,hb',e'⟩:=iO k ((c / 5+5) * 69621 % 998244353) (C:=C) hv;have c1:aD 4 ((WT TT (k+3)).Φ "_law_test") (.ok [(.fz,.int (c / 5)),(.fz,.int 1),(.fz,Tp C),(.fz,.lst vs)])=.ok .fz (tsD C a):=eE e;have c2:aD 4 ((WT TT (k+3)).Φ "_law_test") (.ok [(.fz,.int ((c / 5+5) * 69621 % 998244353)),(.fz,.int 1),(.fz,Tp C),(.fz,.lst vs)])=.ok .fz (tsD C b):=eE e';have m1:op2 (aT .Mult) (.ok .fz (.int (c / 5+5))) (.ok .fz (.int 69621))=.ok .fz (.int ((c / 5+5) * 69621)):=iD (by decide)
   have hh:decide (c % 5<2)=false:=aMM h;by_cases h2:c % 5=2
   . refine ⟨.no a,by show a.dep+1<=2;omega,ha',?_⟩
     rw[lH];refine aJ rfl ?_;show evB (WT TT (k+3)) bG [some (false,.int c),some (false,.int 2),some (false,Tp C),some (false,.lst vs),none,none,none]=.rt .fz (.tup [.str "not", tsD C a]);generalize tsD C a=d1 at *;generalize Tp C=u at *;simp[bG,h2,c1,t2]
   . have h2':(c % 5==2)=false:=aMN.mpr h2;obtain ⟨g,eg⟩:=pk2 (a:=.str "both") (b:=.str "either") (m:=.fr) (m':=.fz) c;refine ⟨.two g a b,by show max a.dep b.dep+1<=2;omega,⟨ha',hb'⟩,?_⟩
     rw[lH];refine aJ rfl ?_;show evB (WT TT (k+3)) bG [some (false,.int c),some (false,.int 2),some (false,Tp C),some (false,.lst vs),none,none,none]=.rt .fz (.tup [.str (if g=true then "either" else "both"),tsD C a,tsD C b]);have hw:(if g=true then D.str "either" else .str "both")=.str (if g=true then "either" else "both"):=by cases g <;> rfl
     rw[hw] at eg;generalize (if g=true then ("either" : Str) else "both")=w at *;generalize tsD C a=d1 at *;generalize tsD C b=d2 at *;generalize Tp C=u at *;have p1:evB (WT TT (k+3)) (bG.take 3) [some (false,.int c),some (false,.int 2),some (false,u),some (false,.lst vs),none,none,none]=.nx [some (false,.int c),some (false,.int 2),some (false,u),some (false,.lst vs),some (false,.int (c / 5)),none,none]:=by simp[bG,hh,h2']
     rw[show bG=bG.take 3++bG.drop 3 from rfl,bB,p1,aB.thn_nx]
     simp[bG,l2,eg,c1,m1,c2,t3]
structure Bs(M:List (Key×D))(N:List Str)(d:D)(C:List Str):Prop where
 nd:C.Nodup
 sub:∀ z∈C,z∈N
 len:C.length<=3
 ask:cI M d C 2
 st:bT M d none 16
 dp:Dp 7 d
structure Tb(M:List (Key×D))(w0 w1 w2 p0 p1 p2 p3 p4 p5 p6:Str):Prop where
 g0:aV M (.inr w0)=some (Tp [p0,p1])
 g1:aV M (.inr w1)=some (Tp [p1,p2])
 g2:aV M (.inr w2)=some (Tp [p3,p4])
 nd:[p0,p1,p2,p3,p4,p5,p6].Nodup
section
variable {M:List (Key×D)}{w0 w1 w2 p0 p1 p2 p3 p4 p5 p6:Str}{vs:List D}
theorem Tb.sh(T:Tb M w0 w1 w2 p0 p1 p2 p3 p4 p5 p6):Sh M [w0,w1,w2] [p0,p1,p2,p3,p4,p5,p6]:=by
 have n2:=T.nd;simp only[aNQ,aM0,aQP,aP9,aPV] at n2;refine ⟨rfl,λw hw=>?_,T.nd,rfl⟩;simp only[aM0,aQP,aP9] at hw;rcases hw with rfl | rfl | rfl
 . exact ⟨_,T.g0,by simp[n2.1.1],rfl,by simp⟩
 . exact ⟨_,T.g1,by simp[n2.2.1.1],rfl,by simp⟩
 . exact ⟨_,T.g2,by simp[n2.2.2.2.1.1],rfl,by simp⟩
theorem oZ(T:Tb M w0 w1 w2 p0 p1 p2 p3 p4 p5 p6):Bs M [p0,p1,p2,p3,p4,p5,p6] (.tup [.str "table", .str w0]) [p0,p1]:=by have n2:=T.nd;simp only[aNQ,aM0,aQP,aP9,aPV] at n2;exact ⟨by simp[n2.1.1],by simp,by simp,⟨0,.table T.g0,by decide⟩,fA.mono (by decide),(dC aM aM).mono (show 1<=7 by decide)⟩
theorem base(k:Nat)(T:Tb M w0 w1 w2 p0 p1 p2 p3 p4 p5 p6)(hv:Vs vs)(c:Int):∃ d C,Bs M [p0,p1,p2,p3,p4,p5,p6] d C/\(WT TT (k+5)).Φ "_law_base" [.int c,.lst ([w0,w1,w2].map .str),.dct M,Tp [p0,p1,p2,p3,p4,p5,p6],.lst vs]=.ok .fz (.tup [d,Tp C]):=by
 have hsz:sizeLine=16777216:=aNN;have b0:=oZ T;have gd:=gQ T.g0 (m:=.fz) (m':=.fz);have x0:op2 ixD (.ok .fz (.lst ([w0,w1,w2].map .str))) (.ok .fz (.int 0))=.ok .fz (.str w0):=dQ (bC (j:=0) rfl);have x1:op2 ixD (.ok .fz (.lst ([w0,w1,w2].map .str))) (.ok .fz (.int 1))=.ok .fz (.str w1):=dQ (bC (j:=1) rfl);have n2:=T.nd;simp only[aNQ,aM0,aQP,aP9,aPV] at n2;have tnd:=T.nd;have tg0:=T.g0;have tg1:=T.g1;generalize hN:[p0,p1,p2,p3,p4,p5,p6]=N at *;generalize hS:[p0,p1]=S at *;have lS:S.length=2:=by rw[<- hS];rfl
 have lN:N.length=7:=by rw[<- hN];rfl
 suffices q:∃ d C,Bs M N d C/\evB (WT TT (k+4)) (dP.drop 2) [some (false,.int c),some (false,.lst ([w0,w1,w2].map .str)),some (false,.dct M),some (false,Tp N),some (false,.lst vs),some (false,.tup [.str "table", .str w0]),some (false,Tp S)]=.rt .fz (.tup [d,Tp C]) by
  obtain ⟨d,C,h1,h2⟩:=q;refine ⟨d,C,h1,?_⟩;rw[aKZ];refine aJ rfl ?_;show evB (WT TT (k+4)) dP [some (false,.int c),some (false,.lst ([w0,w1,w2].map .str)),some (false,.dct M),some (false,Tp N),some (false,.lst vs),none,none]=_;have pre:evB (WT TT (k+4)) (dP.take 2) [some (false,.int c),some (false,.lst ([w0,w1,w2].map .str)),some (false,.dct M),some (false,Tp N),some (false,.lst vs),none,none]=.nx [some (false,.int c),some (false,.lst ([w0,w1,w2].map .str)),some (false,.dct M),some (false,Tp N),some (false,.lst vs),some (false,.tup [.str "table", .str w0]),some (false,Tp S)]:=by
   clear h2
   generalize Tp N=u at *;generalize Tp S=u' at *;generalize [w0,w1,w2].map D.str=w at *;simp[dP,x0,gd,t2]
  rw[show dP=dP.take 2++dP.drop 2 from rfl,bB,pre,aB.thn_nx,h2]
 have h:c % 5=0\/c % 5=1\/c % 5=2\/c % 5=3\/c % 5=4:=by omega
 rcases h with h | h | h | h | h
 . refine ⟨.tup [.str "table", .str w0],S,b0,?_⟩;generalize Tp N=u at *;generalize Tp S=u' at *;generalize [w0,w1,w2].map D.str=w at *;simp[dP,h,t2]
 . obtain ⟨K,k1,k2,k3,ek⟩:=zQ (k+3) b0.nd (by omega) (c / 5)
   have ck:aD 2 ((WT TT (k+4)).Φ "_law_some") (.ok [(.fz,.int (c / 5)),(.fz,Tp S)])=.ok .fz (Tp K):=aY ek;refine ⟨.tup [.str "keep", .tup [.str "table", .str w0],Tp K],K,⟨k1,λz hz=>b0.sub z (k2 z hz),by omega,?_,?_,?_⟩,?_⟩
   . exact ⟨1,.keep (.table tg0) k1 k2,by decide⟩
   . exact oT (n:=14) (Str.ofString "keep") (l:=[Tp K]) (by simp) (fA.mono (by decide)) (nw _)
   . exact bH (n:=6) aM ((dC aM aM).mono (show 1<=6 by decide)) (gR.mono (show 1<=6 by decide))
   generalize Tp N=u at *;generalize Tp S=u' at *;generalize Tp K=u'' at *;generalize [w0,w1,w2].map D.str=w at *;simp[dP,h,ck,t2,t3]
 . obtain ⟨j,ej,hj⟩:=md (c:=c / 5) (n:=5) (by decide)
   have kn:((N.drop j).take 2).Nodup:=(tnd.sublist (List.drop_sublist _ _)).sublist (aNY _ _);have kl:((N.drop j).take 2).length=2:=by rw[aNS,aOC];omega
   refine ⟨.tup [.str "call", .tup [.str "table", .str w0],Tp ((N.drop j).take 2)],(N.drop j).take 2,⟨kn,λz hz=>List.mem_of_mem_drop (aQQ hz),by omega,?_,?_,?_⟩,?_⟩
   . exact ⟨1,.call (.table tg0) kn (by omega) (by omega),by decide⟩
   . exact oT (n:=14) (Str.ofString "call") (l:=[Tp ((N.drop j).take 2)]) (by simp) (fA.mono (by decide)) (nw _)
   . exact bH (n:=6) aM ((dC aM aM).mono (show 1<=6 by decide)) (gR.mono (show 1<=6 by decide))
   have g:evE (WT TT (k+4)) (.slice (.slice (.var 3) (some (.bin .Mod (.bin .FloorDiv (.var 0) (.int 5)) (.int 5))) none) none (some (.int 2))) [some (false,.int c),some (false,.lst ([w0,w1,w2].map .str)),some (false,.dct M),some (false,Tp N),some (false,.lst vs),some (false,.tup [.str "table", .str w0]),some (false,Tp S)]=.ok .fz (Tp ((N.drop j).take 2)):=by
    refine fC (rT rfl (m:=.fz) (i:=j) ?_) (m:=.fz) (i:=2) (by rw[cN];rfl)
    rw[<- ej];generalize Tp N=u at *;generalize Tp S=u' at *;generalize [w0,w1,w2].map D.str=w at *;simp
   unfold dP;generalize E.slice (.slice (.var 3) (some (.bin .Mod (.bin .FloorDiv (.var 0) (.int 5)) (.int 5))) none) none (some (.int 2))=X at *;generalize Tp ((N.drop j).take 2)=u'' at *;generalize Tp N=u at *;generalize Tp S=u' at *;generalize [w0,w1,w2].map D.str=w at *;simp[h,g,t2,t3]
 . obtain ⟨t,t1,t2',t3',et⟩:=iP k (c / 5) (C:=S) hv;have ct:aD 3 ((WT TT (k+4)).Φ "_law_sinker") (.ok [(.fz,.int (c / 5)),(.fz,Tp S),(.fz,.lst vs)])=.ok .fz (tsD S t):=cZ et;refine ⟨.tup [.str "pick", .tup [.str "table", .str w0],tsD S t],S,⟨b0.nd,b0.sub,by omega,?_,?_,?_⟩,?_⟩
   . exact (iQ (n:=0) (u:=t) ⟨0,.table tg0,by decide⟩ (λ_ h=>h) (by omega) t2').mono (show 1<=2 by decide)
   . have:=iN (n:=14) (r:=none) (r0:=none) (λK' hK=>oQ t3' zC K' (by omega)) (.inl (fA.mono (by decide))) (x:=.tup [.str "table", .str w0]) (t:=tsD S t) (M:=M)
     exact this
   . exact bH (n:=6) aM ((dC aM aM).mono (show 1<=6 by decide)) ((dR hv t t2').mono (by omega))
   generalize tsD S t=d1 at *;generalize Tp N=u at *;generalize Tp S=u' at *;generalize [w0,w1,w2].map D.str=w at *;simp[dP,h,ct,t2,t3]
 . have e3:N.take 3=S++dif [p1,p2] S:=by rw[<- hN,<- hS];have h1:¬ p2=p0:=λe=>n2.1.2.1 e.symm;have h2:¬ p2=p1:=λe=>n2.2.1.1 e.symm;simp[dif,h1,h2]
   have kn:(N.take 3).Nodup:=tnd.sublist (aNY _ _);refine ⟨.tup [.str "join", .tup [.str "table", .str w0],.tup [.str "table", .str w1]],N.take 3,⟨kn,λz hz=>aQQ hz,by rw[aNS];omega,?_,?_,?_⟩,?_⟩
   . rw[e3];exact ⟨1,.join (n:=0) (n':=0) (.table tg0) (.table tg1) (by simp;omega),by decide⟩
   . exact zR (n:=14) (r:=none) (r':=none) (Str.ofString "join") (fA.mono (by decide)) (.inl (fA.mono (by decide))) (nj _)
   . exact bH (n:=6) aM ((dC aM aM).mono (show 1<=6 by decide)) ((dC aM aM).mono (show 1<=6 by decide))
   have g:evE (WT TT (k+4)) (.slice (.var 3) none (some (.int 3))) [some (false,.int c),some (false,.lst ([w0,w1,w2].map .str)),some (false,.dct M),some (false,Tp N),some (false,.lst vs),some (false,.tup [.str "table", .str w0]),some (false,Tp S)]=.ok .fz (Tp (N.take 3)):=fC rfl (m:=.fz) (i:=3) (by rw[cN];rfl)
   unfold dP;generalize E.slice (.var 3) none (some (.int 3))=X at *
   clear e3
   generalize Tp (N.take 3)=u'' at *;generalize Tp N=u at *;generalize Tp S=u' at *;generalize [w0,w1,w2].map D.str=w at *;simp[h,g,x1,t2,t3]
structure Fin(M:List (Key×D))(d:D)(r:Option (List D)):Prop where
 ask:∃ C,cI M d C 14
 st:bT M d r 26
 dp:Dp 40 (rD r)
theorem apart(k:Nat){N C:List Str}{b:D}(hb:Bs M N b C)(hv:Vs vs){v:Int}(h3:0<=v/\v<3)(c:Int):∃ d r,Fin M d r/\(WT TT (k+4)).Φ "_law_apart" [.int v,.int c,b,Tp C,.lst vs]=.ok .fz (.tup [d,rD r]):=by
 obtain ⟨t,t1,t2',et⟩:=iO k (c / 7) (C:=C) hv;obtain ⟨u,u1,u2',eu⟩:=iO k ((c+9) * 39373 % 1000000007) (C:=C) hv;have ct:aD 4 ((WT TT (k+3)).Φ "_law_test") (.ok [(.fz,.int (c / 7)),(.fz,.int 1),(.fz,Tp C),(.fz,.lst vs)])=.ok .fz (tsD C t):=eE et;have cu:aD 4 ((WT TT (k+3)).Φ "_law_test") (.ok [(.fz,.int ((c+9) * 39373 % 1000000007)),(.fz,.int 1),(.fz,Tp C),(.fz,.lst vs)])=.ok .fz (tsD C u):=eE eu;have m1:op2 (aT .Mult) (.ok .fz (.int (c+9))) (.ok .fz (.int 39373))=.ok .fz (.int ((c+9) * 39373)):=iD (by decide)
 have dt:=dR hv (f:=C) t t2';have du:=dR hv (f:=C) u u2';have hs:∀ z∈C,z∈C:=λ_ h=>h
 suffices q:∃ d r,Fin M d r/\evB (WT TT (k+3)) (eG.drop 2) [some (false,.int v),some (false,.int c),some (false,b),some (false,Tp C),some (false,.lst vs),some (false,tsD C t),some (false,tsD C u),none]=.rt .fz (.tup [d,rD r]) by
  obtain ⟨d,r,h1,h2⟩:=q;refine ⟨d,r,h1,?_⟩;rw[aK0];refine aJ rfl ?_;show evB (WT TT (k+3)) eG [some (false,.int v),some (false,.int c),some (false,b),some (false,Tp C),some (false,.lst vs),none,none,none]=_;have pre:evB (WT TT (k+3)) (eG.take 2) [some (false,.int v),some (false,.int c),some (false,b),some (false,Tp C),some (false,.lst vs),none,none,none]=.nx [some (false,.int v),some (false,.int c),some (false,b),some (false,Tp C),some (false,.lst vs),some (false,tsD C t),some (false,tsD C u),none]:=by
   clear h2 dt du
   generalize tsD C t=d1 at *;generalize tsD C u=d2 at *;generalize Tp C=u at *;simp[eG,ct,m1,cu]
  rw[show eG=eG.take 2++eG.drop 2 from rfl,bB,pre,aB.thn_nx,h2]
 have h:v=0\/v=1\/v=2:=by omega
 clear ct cu et eu
 rcases h with h | h | h
 . refine ⟨.tup [.str "pick", b,tsD C (.two false t u)],some [.str "pick", .tup [.str "pick", b,tsD C t],tsD C u],⟨⟨C,(iQ (n:=2) (u:=.two false t u) (vs:=vs) hb.ask hs (by show max t.dep u.dep+1<=5;omega) ⟨t2',u2'⟩).mono (show 3<=14 by decide)⟩,?_,?_⟩,?_⟩
   . exact iN (n:=24) (r:=none) (λK hK=>aL7 (M:=M) (x:=b) K (by omega)) (.inr rfl)
   . exact bH (n:=39) aM (bH (n:=38) aM (hb.dp.mono (by decide)) (dt.mono (by omega))) (du.mono (by omega))
   show _=aB.rt .fz (.tup [.tup [.str "pick", b,.tup [.str "both", tsD C t,tsD C u]],.tup [.str "pick", .tup [.str "pick", b,tsD C t],tsD C u]]);generalize tsD C t=d1 at *;generalize tsD C u=d2 at *;generalize Tp C=u at *;simp[eG,h,t2,t3]
 . refine ⟨.tup [.str "pick", b,tsD C (.no (.no t))],some [.str "pick", b,tsD C t],⟨⟨C,(iQ (n:=2) (u:=.no (.no t)) (vs:=vs) hb.ask hs (by show t.dep+1+1<=5;omega) t2').mono (show 3<=14 by decide)⟩,?_,?_⟩,?_⟩
   . exact iN (n:=24) (r:=none) (λK hK=>bp_nn (M:=M) (x:=b) (f:=C) (u:=t) K (by omega)) (.inr rfl)
   . exact bH (n:=39) aM (hb.dp.mono (by decide)) (dt.mono (by omega))
   show _=aB.rt .fz (.tup [.tup [.str "pick", b,.tup [.str "not", .tup [.str "not", tsD C t]]],.tup [.str "pick", b,tsD C t]]);generalize tsD C t=d1 at *;generalize tsD C u=d2 at *;generalize Tp C=u at *;simp[eG,h,t2,t3]
 . refine ⟨.tup [.str "pick", b,tsD C (.no (.two true t u))],some [.str "pick", b,.tup [.str "both", .tup [.str "not", tsD C t],.tup [.str "not", tsD C u]]],⟨⟨C,(iQ (n:=2) (u:=.no (.two true t u)) (vs:=vs) hb.ask hs (by show max t.dep u.dep+1+1<=5;omega) ⟨t2',u2'⟩).mono (show 3<=14 by decide)⟩,?_,?_⟩,?_⟩
   . exact iN (n:=24) (r:=none) (λK hK=>bp_ne (M:=M) (x:=b) K (by omega)) (.inr rfl)
   . exact bH (n:=39) aM (hb.dp.mono (by decide)) (bH (n:=38) aM (dC (n:=37) aM (dt.mono (by omega))) (dC (n:=37) aM (du.mono (by omega))))
   show _=aB.rt .fz (.tup [.tup [.str "pick", b,.tup [.str "not", .tup [.str "either", tsD C t,tsD C u]]],.tup [.str "pick", b,.tup [.str "both", .tup [.str "not", tsD C t],.tup [.str "not", tsD C u]]]]);generalize tsD C t=d1 at *;generalize tsD C u=d2 at *;generalize Tp C=u at *;simp[eG,h,t2,t3]
end
def mk(f g:List Str)(j:Nat):List (Key×D):=(List.range j).map λk=>(.inr (nth f k),.str (nth g k))
theorem aMC{f g:List Str}{j:Nat}:mk f g (j+1)=mk f g j++[(.inr (nth f j),.str (nth g j))]:=by unfold mk;rw[List.range_succ,aQO];rfl
theorem aMD{f g:List Str}(hd:f.Nodup){n j:Nat}(hn:n<=f.length)(hj:j<n):aV (mk f g n) (.inr (nth f j))=some (.str (nth g j)):=by
 unfold aV;have:(mk f g n).find? (λkv=>decide (kv.1=.inr (nth f j)))=some (.inr (nth f j),.str (nth g j)):=by
  rw[List.find?_eq_some_iff_getElem];refine ⟨by simp,j,by simpa[mk] using hj,by simp[mk],λi hi=>?_⟩
  have:nth f i≠nth f j:=λe=>by
   rw[fW (by omega),fW (by omega)] at e
   have:=(aM4 hd).mp e;omega
  simp[mk,this]
 rw[this];rfl
theorem aME{f g:List Str}(hd:f.Nodup){j:Nat}(hj:j<f.length):dN (mk f g j) (.inr (nth f j)) (.str (nth g j))=mk f g (j+1):=by
 have:(mk f g j).any (λkv=>decide (kv.1=Sum.inr (nth f j)))=false:=by
  rw[List.any_eq_false];intro kv hkv;obtain ⟨i,hi,rfl⟩:=aQM.mp hkv;rw[aMX] at hi;have:nth f i≠nth f j:=λe=>by
   rw[fW (by omega),fW hj] at e
   have:=(aM4 hd).mp e;omega
  simp[this]
 unfold dN;rw[this,aMC];rfl
theorem nm_mk{f g:List Str}(hd:f.Nodup):Nm (mk f g f.length) f g:=λj hj=>aMD hd (aNH _) hj
theorem aMF{f g:List Str}{n:Nat}:(mk f g n).length=n:=by simp[mk]
structure Su(M:List (Key×D))(vs:List D)(x:D)(f:List Str)(u:Ts)(r:Option (List D))(C:List Str):Prop where
 ask:cI M x C 4
 fs:∀ z∈f,z∈C
 dep:u.dep<=3
 ok:u.ok vs f.length
 sk:sk u=true
 sunk:eI M x (tsD f u) r 20
 st:r=none->bT M x none 20
 dp:Dp 12 (rD r)
section
variable {M:List (Key×D)}{N C:List Str}{vs:List D}{b:D}
theorem fill{W:WD}{F:List Str}(hF:F.Nodup)(hl:F.length=C.length)(hb:F.length<=900){c:Int}{x5 x8 x9 x10:Option (Bool×D)}:∃ y8,evB W [.set 7 .dnew,.for (.rng1 (.bcall .len [(.var 6)])) (.nm 8) iG,.frzV 7] [some (false,.int c),some (false,b),some (false,Tp C),some (false,Tp N),some (false,.lst vs),x5,some (false,Tp F),none,x8,x9,x10]=.nx [some (false,.int c),some (false,b),some (false,Tp C),some (false,Tp N),some (false,.lst vs),x5,some (false,Tp F),some (false,.dct (mk F C F.length)),y8,x9,x10]:=by
 have hsz:sizeLine=16777216:=aNN;obtain ⟨ρ',e,y,rfl⟩:=lL (k:=aI (.nm 8)) (body:=evB W iG) (λi ρ=>∃ y,ρ=[some (false,.int c),some (false,b),some (false,Tp C),some (false,Tp N),some (false,.lst vs),x5,some (false,Tp F),some (true,.dct (mk F C i)),y,x9,x10]) (bJ 0 (F.length:Int)) 0 (ρ:=[some (false,.int c),some (false,b),some (false,Tp C),some (false,Tp N),some (false,.lst vs),x5,some (false,Tp F),some (true,.dct []),x8,x9,x10])
  (λj d hd ρ hρ=>by
   obtain ⟨y,rfl⟩:=hρ;obtain ⟨hj,rfl⟩:=yU hd;rw[aPT];have a1:=fV (C:=F) hj (m:=.fz) (m':=.fz);have a2:=fV (C:=C) (i:=j) (by omega) (m:=.fz) (m':=.fz)
   rw[<- fW hj] at a1;rw[<- fW (show j<C.length by omega)] at a2
   refine ⟨[some (false,.int c),some (false,b),some (false,Tp C),some (false,Tp N),some (false,.lst vs),x5,some (false,Tp F),some (true,.dct (mk F C j)),some (false,.int (j:Int)),x9,x10],[some (false,.int c),some (false,b),some (false,Tp C),some (false,Tp N),some (false,.lst vs),x5,some (false,Tp F),some (true,.dct (mk F C (j+1))),some (false,.int (j:Int)),x9,x10],rfl,?_,_,rfl⟩;rw[show iG=[.dput 7 (.ix (.var 6) (.var 8)) (.ix (.var 2) (.var 8))] from rfl]
   rw[oW (M:=mk F C j) rfl (z:=nth F j) (d:=.str (nth C j)) (by rw[gH,bS,bS];exact a1) (by rw[gH,bS,bS];exact a2) (by rw[aMF];omega) rfl,jN,aME hF hj]
   rfl)
  ⟨x8,rfl⟩
 refine ⟨y,?_⟩;rw[aPT,oI] at e;have er:=lJ (m:=.fz) (n:=(F.length:Int)) (by omega) (by omega)
 have ei:evE W (.rng1 (.bcall .len [(.var 6)])) [some (false,.int c),some (false,b),some (false,Tp C),some (false,Tp N),some (false,.lst vs),x5,some (false,Tp F),some (true,.dct []),x8,x9,x10]=.ok .fz (.lst (bJ 0 (F.length:Int))):=by rw[lB,fD (C:=F) rfl,f8,er]
 have e':dL (.ok .fz (.lst (bJ 0 (F.length:Int)))) [some (false,.int c),some (false,b),some (false,Tp C),some (false,Tp N),some (false,.lst vs),x5,some (false,Tp F),some (true,.dct []),x8,x9,x10] (aI (.nm 8)) (evB W iG)=_:=e;rw[bP,nG,wE,wO,aB.thn_nx];show evB W [.for (.rng1 (.bcall .len [(.var 6)])) (.nm 8) iG,.frzV 7] [some (false,.int c),some (false,b),some (false,Tp C),some (false,Tp N),some (false,.lst vs),x5,some (false,Tp F),some (true,.dct []),x8,x9,x10]=_;rw[bP,qR,ei,e',aB.thn_nx,bP,aJV];show (aB.nx [some (false,.int c),some (false,b),some (false,Tp C),some (false,Tp N),some (false,.lst vs),x5,some (false,Tp F),some (false,.dct (mk F C F.length)),y,x9,x10]).thn _=_;rw[aB.thn_nx,jN]
theorem t4{a b c d:D}:eY (.ok [(.fz,a),(.fz,b),(.fz,c),(.fz,d)])=.ok .fz (.tup [a,b,c,d]):=by rfl
theorem aMG(k:Nat)(hb:Bs M N b C)(hN:N.Nodup)(lN:N.length=7)(hv:Vs vs)(c:Int):∃ x f u l C',Su M vs x f u (some l) C'/\(WT TT (k+9)).Φ "_law_sunk_call" [.int c,b,Tp C,Tp N,.lst vs]=.ok .fz (.tup [x,tsD f u,.tup l,Tp C']):=by
 have hl:=hb.len;obtain ⟨a,ea,ha⟩:=md (c:=c / 5) (n:=7) (by decide)
 have fn:((N.drop a++N.take a).take C.length).Nodup:=(zO hN a).sublist (aNY _ _);have fl:((N.drop a++N.take a).take C.length).length=C.length:=by rw[aNS,zP];omega
 have gF:∀ y7 y8 y9 y10,evE (WT TT (k+8)) (.frz (.slice (.bin .Add (.slice (.var 3) (some (.var 5)) none) (.slice (.var 3) none (some (.var 5)))) none (some (.bcall .len [(.var 2)])))) [some (false,.int c),some (false,b),some (false,Tp C),some (false,Tp N),some (false,.lst vs),some (false,.int ((a:Nat):Int)),none,y7,y8,y9,y10]=.ok .fz (Tp ((N.drop a++N.take a).take C.length)):=λy7 y8 y9 y10=>by
  have g:=zN (W:=WT TT (k+8)) (ρ:=[some (false,.int c),some (false,b),some (false,Tp C),some (false,Tp N),some (false,.lst vs),some (false,.int ((a:Nat):Int)),none,y7,y8,y9,y10]) (C:=N) (a:=.var 3) (e:=.var 5) (i:=a) (m:=.fz) (by omega) rfl rfl
  have g':evE (WT TT (k+8)) (.bin .Add (.slice (.var 3) (some (.var 5)) none) (.slice (.var 3) none (some (.var 5)))) [some (false,.int c),some (false,b),some (false,Tp C),some (false,Tp N),some (false,.lst vs),some (false,.int ((a:Nat):Int)),none,y7,y8,y9,y10]=.ok .fz (Tp (N.drop a++N.take a)):=by
   rw[jL] at g;cases q:evE (WT TT (k+8)) (.bin .Add (.slice (.var 3) (some (.var 5)) none) (.slice (.var 3) none (some (.var 5)))) [some (false,.int c),some (false,b),some (false,Tp C),some (false,Tp N),some (false,.lst vs),some (false,.int ((a:Nat):Int)),none,y7,y8,y9,y10] with
   | ok m d =>
    rw[eC,fC (C:=N) (i:=a) (m:=.fz) rfl rfl,rT (C:=N) (i:=a) (m:=.fz) rfl rfl,oM (by have:=aNN;rw[aOC,aNS];omega)] at q
    exact q.symm
   | exc c=>rw[q] at g;cases g
   | stuck=>rw[q] at g;cases g
  rw[jL,fC g' (m:=.fz) (fD (C:=C) rfl),nI]
 generalize (N.drop a++N.take a).take C.length=F at *;obtain ⟨u,u1,u2',u3',eu⟩:=iP (k+4) (c / 9) (C:=F) hv;have cu:aD 3 ((WT TT (k+8)).Φ "_law_sinker") (.ok [(.fz,.int (c / 9)),(.fz,Tp F),(.fz,.lst vs)])=.ok .fz (tsD F u):=cZ eu;have cr:aD 2 ((WT TT (k+8)).Φ "_law_renamed") (.ok [(.fz,tsD F u),(.fz,.dct (mk F C F.length))])=.ok .fz (tsD C u):=aY (oY (nm_mk fn) u u2' (k+8) (by omega))
 obtain ⟨y8,ef⟩:=fill (W:=WT TT (k+8)) (b:=b) (N:=N) (vs:=vs) (c:=c) fn fl (by omega) (x5:=some (false,.int ((a:Nat):Int))) (x8:=none) (x9:=none) (x10:=none)
 refine ⟨.tup [.str "call", b,Tp F],F,u,[.str "call", .tup [.str "pick", b,tsD C u],Tp F],F,⟨?_,λ_ h=>h,u1,u2',u3',?_,λh=>(by cases h),?_⟩,?_⟩
 . obtain ⟨m,h1,h2⟩:=hb.ask;exact ⟨m+1,.call h1 fn fl (by omega),by omega⟩
 . exact λK hK=>aMA (n:=10) fn (by omega) (λK hK=>hb.ask.cols K (by omega)) u2' (by omega) K (by omega)
 . have ok':u.ok vs C.length:=by rw[<- fl];exact u2'
   exact bH (n:=11) aM (bH (n:=10) aM (hb.dp.mono (by decide)) ((dR hv (f:=C) u ok').mono (by omega))) (gR.mono (show 1<=11 by decide))
 rw[aK1];refine aJ rfl ?_;show evB (WT TT (k+8)) jT [some (false,.int c),some (false,b),some (false,Tp C),some (false,Tp N),some (false,.lst vs),none,none,none,none,none,none]=_;have g5:evE (WT TT (k+8)) (.frz (.bin .Mod (.bin .FloorDiv (.var 0) (.int 5)) (.bcall .len [(.var 3)]))) [some (false,.int c),some (false,b),some (false,Tp C),some (false,Tp N),some (false,.lst vs),none,none,none,none,none,none]=.ok .fz (.int ((a:Nat):Int)):=by rw[jL,eC,fD (C:=N) rfl,lN,<- ea];generalize Tp C=u1;generalize Tp N=u2;simp
 rw[show jT=.set 5 (.frz (.bin .Mod (.bin .FloorDiv (.var 0) (.int 5)) (.bcall .len [(.var 3)]))) :: .set 6 (.frz (.slice (.bin .Add (.slice (.var 3) (some (.var 5)) none) (.slice (.var 3) none (some (.var 5)))) none (some (.bcall .len [(.var 2)]))))::([.set 7 .dnew,.for (.rng1 (.bcall .len [(.var 6)])) (.nm 8) iG,.frzV 7]++jT.drop 5) from rfl]
 rw[fB g5 (ρ':=[some (false,.int c),some (false,b),some (false,Tp C),some (false,Tp N),some (false,.lst vs),some (false,.int ((a:Nat):Int)),none,none,none,none,none]) rfl,fB (gF _ _ _ _) (ρ':=[some (false,.int c),some (false,b),some (false,Tp C),some (false,Tp N),some (false,.lst vs),some (false,.int ((a:Nat):Int)),some (false,Tp F),none,none,none,none]) rfl,bB,ef,aB.thn_nx]
 clear gF ef g5 eu
 generalize D.dct (mk F C F.length)=Z at *;generalize tsD F u=d1 at *;generalize tsD C u=d2 at *;generalize Tp F=u1 at *;generalize Tp C=u2 at *;generalize Tp N=u3 at *;simp[jT,cu,cr,t3,t4]
end
abbrev RS1(v c:Int)(b C:D)(ws M vs:D)(x7 x8 x9 x10 x11 x12:Option (Bool×D)):Rho:=[some (false,.int v),some (false,.int c),some (false,b),some (false,C),some (false,ws),some (false,M),some (false,vs),x7,x8,x9,x10,x11,x12]
section
variable {M:List (Key×D)}{ws N C:List Str}{vs:List D}{b:D}
theorem eqv{W:WD}{t:Bool}{i j:Int}{r:Rho}(h:(i==j)=t):evE W (.cmp .Eq (.var 0) (.int j)) (some (false,.int i)::r)=.ok .fz (.bl t):=by rw[jK,bS,cN,g_0,qS,h]
theorem sunk(k:Nat)(sh:Sh M ws N)(hb:Bs M N b C)(hv:Vs vs){v:Int}(h8:v=3\/v=4\/v=6\/v=7)(c:Int):∃ x f u l C',Su M vs x f u (some l) C'/\(WT TT (k+5)).Φ "_law_sunk" [.int v,.int c,b,Tp C,.lst (ws.map .str),.dct M,.lst vs]=.ok .fz (.tup [x,tsD f u,.tup l,Tp C']):=by
 have hl:=hb.len;have d6:=hb.dp;obtain ⟨K,k1,k2,k3,ek⟩:=zQ (k+3) hb.nd (by omega) (c / 5)
 have ck:aD 2 ((WT TT (k+4)).Φ "_law_some") (.ok [(.fz,.int (c / 5)),(.fz,Tp C)])=.ok .fz (Tp K):=aY ek;have lt:=jW (C:=C) (m:=.fz)
 suffices q:∃ x f u l C',Su M vs x f u (some l) C'/\evB (WT TT (k+4)) (bQ.drop 1) (RS1 v c b (Tp C) (.lst (ws.map .str)) (.dct M) (.lst vs) (some (false,Tp K)) none none none none none)=.rt .fz (.tup [x,tsD f u,.tup l,Tp C']) by
  obtain ⟨x,f,u,l,C',h1,h2⟩:=q;refine ⟨x,f,u,l,C',h1,?_⟩;rw[aK2];refine aJ rfl ?_;show evB (WT TT (k+4)) bQ (RS1 v c b (Tp C) (.lst (ws.map .str)) (.dct M) (.lst vs) none none none none none none)=_;have g7:evE (WT TT (k+4)) (.frz (.call "_law_some" 2 [(.frz (.bin .FloorDiv (.var 1) (.int 5))),(.var 3)])) (RS1 v c b (Tp C) (.lst (ws.map .str)) (.dct M) (.lst vs) none none none none none none)=.ok .fz (Tp K):=by generalize Tp C=u1 at *;generalize Tp K=u2 at *;generalize ws.map D.str=w at *;simp[ck]
  rw[show bQ=.set 7 (.frz (.call "_law_some" 2 [(.frz (.bin .FloorDiv (.var 1) (.int 5))),(.var 3)]))::bQ.drop 1 from rfl,fB g7 (ρ':=RS1 v c b (Tp C) (.lst (ws.map .str)) (.dct M) (.lst vs) (some (false,Tp K)) none none none none none) rfl,h2]
 by_cases hk:v=3\/v=4/\C.length=0
 . obtain ⟨u,u1,u2',u3',eu⟩:=iP k (c / 9) (C:=K) hv;have cu:aD 3 ((WT TT (k+4)).Φ "_law_sinker") (.ok [(.fz,.int (c / 9)),(.fz,Tp K),(.fz,.lst vs)])=.ok .fz (tsD K u):=cZ eu;refine ⟨.tup [.str "keep", b,Tp K],K,u,[.str "keep", .tup [.str "pick", b,tsD K u],Tp K],K,⟨?_,λ_ h=>h,u1,u2',u3',?_,λh=>(by cases h),?_⟩,?_⟩
   . obtain ⟨m,h1,h2⟩:=hb.ask;exact ⟨m+1,.keep h1 k1 k2,by omega⟩
   . exact λK' hK=>rW (Str.ofString "keep") (l:=[Tp K]) (by decide +kernel) (by simp) K' (by omega)
   . exact bH (n:=11) aM (bH (n:=10) aM (d6.mono (by decide)) ((dR hv u u2').mono (by omega))) (gR.mono (show 1<=11 by decide))
   have g:evE (WT TT (k+4)) (.orL [(.cmp .Eq (.var 0) (.int 3)),(.andL [(.cmp .Eq (.var 0) (.int 4)),(.cmp .Eq (.bcall .len [(.var 3)]) (.int 0))])]) (RS1 v c b (Tp C) (.lst (ws.map .str)) (.dct M) (.lst vs) (some (false,Tp K)) none none none none none)=.ok .fz (.bl true):=by
    rcases hk with h | ⟨h,h'⟩
    . rw[qN,qP,eqv (t:=true) (by rw[h];rfl)];rfl
    . rw[qN,qP,eqv (t:=false) (by rw[h];rfl),wH,wB,wG,eqv (t:=true) (by rw[h];rfl),wF,jK,fD (C:=C) rfl,h'];rfl
   rw[show bQ.drop 1=.ite (.orL [(.cmp .Eq (.var 0) (.int 3)),(.andL [(.cmp .Eq (.var 0) (.int 4)),(.cmp .Eq (.bcall .len [(.var 3)]) (.int 0))])]) [.set 8 (.frz (.call "_law_sinker" 3 [(.frz (.bin .FloorDiv (.var 1) (.int 9))),(.var 7),(.var 6)])),.ret (.tup [(.tup [(.str "keep"),(.var 2),(.var 7)]),(.var 8),(.tup [(.str "keep"),(.tup [(.str "pick"),(.var 2),(.var 8)]),(.var 7)]),(.var 7)])] []::bQ.drop 2 from rfl]
   generalize bQ.drop 2=Y;refine lQ g ?_
   clear g ek eu
   generalize tsD K u=d1 at *;generalize Tp C=u1 at *;generalize Tp K=u2 at *;generalize ws.map D.str=w at *;simp[cu,t3,t4]
 . have g:evE (WT TT (k+4)) (.orL [(.cmp .Eq (.var 0) (.int 3)),(.andL [(.cmp .Eq (.var 0) (.int 4)),(.cmp .Eq (.bcall .len [(.var 3)]) (.int 0))])]) (RS1 v c b (Tp C) (.lst (ws.map .str)) (.dct M) (.lst vs) (some (false,Tp K)) none none none none none)=.ok .fz (.bl false):=by
     rw[qN,qP,eqv (t:=v==3) rfl,wH,wB,wG,eqv (t:=v==4) rfl,wF,jK,fD (C:=C) rfl,cN,qS,x_and,x_or];congr 2;rw[aO6,Bool.and_eq_false_iff,aMN,aMN,aMN];refine ⟨λh=>hk (.inl h),?_⟩;by_cases h4:v=4
     . exact .inr λh=>hk (.inr ⟨h4,by omega⟩)
     . exact .inl h4
   rw[show bQ.drop 1=.ite (.orL [(.cmp .Eq (.var 0) (.int 3)),(.andL [(.cmp .Eq (.var 0) (.int 4)),(.cmp .Eq (.bcall .len [(.var 3)]) (.int 0))])]) [.set 8 (.frz (.call "_law_sinker" 3 [(.frz (.bin .FloorDiv (.var 1) (.int 9))),(.var 7),(.var 6)])),.ret (.tup [(.tup [(.str "keep"),(.var 2),(.var 7)]),(.var 8),(.tup [(.str "keep"),(.tup [(.str "pick"),(.var 2),(.var 8)]),(.var 7)]),(.var 7)])] []::bQ.drop 2 from rfl,fX g]
   clear g
   by_cases h4:v=4
   . have hC:0<C.length:=by
       rcases Nat.eq_zero_or_pos C.length with h | h
       . exact absurd (.inr ⟨h4,h⟩) hk
       . exact h
     obtain ⟨u,u1,u2',u3',eu⟩:=iP k (c / 9) (C:=K) hv;have cu:aD 3 ((WT TT (k+4)).Φ "_law_sinker") (.ok [(.fz,.int (c / 9)),(.fz,Tp K),(.fz,.lst vs)])=.ok .fz (tsD K u):=cZ eu;obtain ⟨j,ej,hj⟩:=md (c:=c / 70) (n:=(C.length:Int)) (by omega)
     have hj':j<C.length:=by omega
     refine ⟨.tup [.str "total", b,.str C[j],Tp K],K,u,[.str "total", .tup [.str "pick", b,tsD K u],.str C[j],Tp K],K,⟨?_,λ_ h=>h,u1,u2',u3',?_,λh=>(by cases h),?_⟩,?_⟩
     . obtain ⟨m,h1,h2⟩:=hb.ask;exact ⟨m+1,.total h1 (aPD hj') k1 k2,by omega⟩
     . exact λK' hK=>rW (Str.ofString "total") (l:=[.str C[j],Tp K]) (by decide +kernel) (by simp) K' (by omega)
     . exact dp_4 (n:=11) aM (bH (n:=10) aM (d6.mono (by decide)) ((dR hv u u2').mono (by omega))) aM (gR.mono (show 1<=11 by decide))
     have g9:∀ x8,evE (WT TT (k+4)) (.ix (.var 3) (.bin .Mod (.bin .FloorDiv (.var 1) (.int 70)) (.bcall .len [(.var 3)]))) (RS1 v c b (Tp C) (.lst (ws.map .str)) (.dct M) (.lst vs) (some (false,Tp K)) x8 none none none none)=.ok .fz (.str C[j]):=λx8=>by
      rw[gH,eC,fD (C:=C) rfl];have:evE (WT TT (k+4)) (.bin .FloorDiv (.var 1) (.int 70)) (RS1 v c b (Tp C) (.lst (ws.map .str)) (.dct M) (.lst vs) (some (false,Tp K)) x8 none none none none)=.ok .fz (.int (c / 70)):=by rw[eC,bS,cN];exact aJ0 (by decide) (by decide)
      rw[this,gK (by omega),ej,bS]
      exact fV hj'
     rw[show bQ.drop 2=.ite (.cmp .Eq (.var 0) (.int 4)) [.set 8 (.frz (.call "_law_sinker" 3 [(.frz (.bin .FloorDiv (.var 1) (.int 9))),(.var 7),(.var 6)])),.set 9 (.ix (.var 3) (.bin .Mod (.bin .FloorDiv (.var 1) (.int 70)) (.bcall .len [(.var 3)]))),.set 10 (.tup [(.str "total"),(.tup [(.str "pick"),(.var 2),(.var 8)]),(.var 9),(.var 7)]),.ret (.tup [(.tup [(.str "total"),(.var 2),(.var 9),(.var 7)]),(.var 8),(.var 10),(.var 7)])] []::bQ.drop 3 from rfl]
     generalize bQ.drop 3=Y;refine lQ (eqv (t:=true) (by rw[h4];rfl)) ?_
     generalize E.ix (.var 3) (.bin .Mod (.bin .FloorDiv (.var 1) (.int 70)) (.bcall .len [(.var 3)]))=X at *
     clear ek eu
     generalize tsD K u=d1 at *;generalize C[j]=z at *;generalize Tp C=u1 at *;generalize Tp K=u2 at *;generalize ws.map D.str=w at *;simp[cu,g9,t3,t4]
   . have h4':(v==4)=false:=aMN.mpr h4;obtain ⟨u,u1,u2',u3',eu⟩:=iP k (c / 9) (C:=C.take 2) hv;have cu:aD 3 ((WT TT (k+4)).Φ "_law_sinker") (.ok [(.fz,.int (c / 9)),(.fz,Tp (C.take 2)),(.fz,.lst vs)])=.ok .fz (tsD (C.take 2) u):=cZ eu;have n2:(C.take 2).Nodup:=hb.nd.sublist (aNY _ _);have m2:∀ z∈C.take 2,z∈C:=λz hz=>aQQ hz;have gs:∀ x8 x11 x12,evE (WT TT (k+4)) (.slice (.var 3) none (some (.int 2))) (RS1 v c b (Tp C) (.lst (ws.map .str)) (.dct M) (.lst vs) (some (false,Tp K)) x8 none none x11 x12)=.ok .fz (Tp (C.take 2)):=λx8 x11 x12=>fC rfl (m:=.fz) (i:=2) (by rw[cN];rfl)
     have gs':∀ x8 x10 x11 x12,evE (WT TT (k+4)) (.slice (.var 3) none (some (.int 2))) (RS1 v c b (Tp C) (.lst (ws.map .str)) (.dct M) (.lst vs) (some (false,Tp K)) x8 none x10 x11 x12)=.ok .fz (Tp (C.take 2)):=λx8 x10 x11 x12=>fC rfl (m:=.fz) (i:=2) (by rw[cN];rfl)
     have p1:evB (WT TT (k+4)) ((bQ.drop 2).take 2) (RS1 v c b (Tp C) (.lst (ws.map .str)) (.dct M) (.lst vs) (some (false,Tp K)) none none none none none)=.nx (RS1 v c b (Tp C) (.lst (ws.map .str)) (.dct M) (.lst vs) (some (false,Tp K)) (some (false,tsD (C.take 2) u)) none none none none):=by
      rw[show (bQ.drop 2).take 2=.ite (.cmp .Eq (.var 0) (.int 4)) [.set 8 (.frz (.call "_law_sinker" 3 [(.frz (.bin .FloorDiv (.var 1) (.int 9))),(.var 7),(.var 6)])),.set 9 (.ix (.var 3) (.bin .Mod (.bin .FloorDiv (.var 1) (.int 70)) (.bcall .len [(.var 3)]))),.set 10 (.tup [(.str "total"),(.tup [(.str "pick"),(.var 2),(.var 8)]),(.var 9),(.var 7)]),.ret (.tup [(.tup [(.str "total"),(.var 2),(.var 9),(.var 7)]),(.var 8),(.var 10),(.var 7)])] []::[.set 8 (.frz (.call "_law_sinker" 3 [(.frz (.bin .FloorDiv (.var 1) (.int 9))),(.frz (.slice (.var 3) none (some (.int 2)))),(.var 6)]))] from rfl,fX (eqv (t:=false) h4')]
      have gs:=gs none none none;generalize E.slice (.var 3) none (some (.int 2))=X at *
      clear ek eu gs'
      generalize tsD (C.take 2) u=d1 at *;generalize Tp (C.take 2)=u3 at *;generalize Tp C=u1 at *;generalize Tp K=u2 at *;generalize ws.map D.str=w at *;simp[gs,cu]
     rw[show bQ.drop 2=(bQ.drop 2).take 2++bQ.drop 4 from rfl,bB,p1,aB.thn_nx]
     clear p1
     rcases h8 with h | h | h | h
     . exact absurd (.inl h) hk
     . exact absurd h h4
     . obtain ⟨o,lk,co⟩:=like (W:=WT TT (k+4)) (k:=k+3) rfl sh n2 (by rw[aNS];omega) (c / 5)
       refine ⟨.tup [.str "pour", .tup [.str "keep", b,Tp (C.take 2)],o],C.take 2,u,[.str "pour", .tup [.str "pick", .tup [.str "keep", b,Tp (C.take 2)],tsD (C.take 2) u],.tup [.str "pick", o,tsD (C.take 2) u]],C.take 2,⟨?_,λ_ h=>h,u1,u2',u3',?_,λh=>(by cases h),?_⟩,?_⟩
       . obtain ⟨m,h1,h2⟩:=hb.ask;obtain ⟨m',h3,h4⟩:=lk.ask;exact ⟨_,.pour (.keep h1 n2 m2) h3,by omega⟩
       . exact λK' hK=>aL8 K' (by omega)
       . have dt:=dR hv (f:=C.take 2) u u2';exact bH (n:=11) aM (bH (n:=10) aM (bH (n:=9) aM (d6.mono (by decide)) (gR.mono (show 1<=9 by decide))) (dt.mono (by omega))) (bH (n:=10) aM (lk.dp.mono (by decide)) (dt.mono (by omega)))
       rw[show bQ.drop 4=.ite (.cmp .Eq (.var 0) (.int 6)) [.set 11 (.tup [(.str "keep"),(.var 2),(.frz (.slice (.var 3) none (some (.int 2))))]),.set 12 (.frz (.call "_law_like" 4 [(.frz (.bin .Mod (.bin .FloorDiv (.var 1) (.int 5)) (.int 3))),(.frz (.slice (.var 3) none (some (.int 2)))),(.var 4),(.var 5)])),.set 10 (.tup [(.str "pour"),(.tup [(.str "pick"),(.var 11),(.var 8)]),(.tup [(.str "pick"),(.var 12),(.var 8)])]),.ret (.tup [(.tup [(.str "pour"),(.var 11),(.var 12)]),(.var 8),(.var 10),(.frz (.slice (.var 3) none (some (.int 2))))])] []::bQ.drop 5 from rfl]
       generalize bQ.drop 5=Y;refine lQ (eqv (t:=true) (by rw[h];rfl)) ?_
       generalize E.slice (.var 3) none (some (.int 2))=X at *
       clear ek eu cu lk
       generalize tsD (C.take 2) u=d1 at *;generalize Tp (C.take 2)=u3 at *;generalize Tp C=u1 at *;generalize Tp K=u2 at *;generalize ws.map D.str=w at *;simp[gs,gs',co,t3,t4]
     . have nK:(K.take 2).Nodup:=k1.sublist (aNY _ _);obtain ⟨o,lk,co⟩:=like (W:=WT TT (k+4)) (k:=k+3) rfl sh nK (by rw[aNS];omega) (c / 5)
       refine ⟨.tup [.str "leave", b,o],C.take 2,u,[.str "leave", .tup [.str "pick", b,tsD (C.take 2) u],o],C,⟨?_,m2,u1,u2',u3',?_,λh=>(by cases h),?_⟩,?_⟩
       . obtain ⟨m,h1,h2⟩:=hb.ask;obtain ⟨m',h3,h4⟩:=lk.ask;exact ⟨_,.leave h1 h3 λz hz=>k2 z (aQQ hz),by omega⟩
       . exact λK' hK=>rW (Str.ofString "leave") (l:=[o]) (by decide +kernel) (by simp) K' (by omega)
       . have dt:=dR hv (f:=C.take 2) u u2';exact bH (n:=11) aM (bH (n:=10) aM (d6.mono (by decide)) (dt.mono (by omega))) (lk.dp.mono (by decide))
       have gk:∀ x8,evE (WT TT (k+4)) (.slice (.var 7) none (some (.int 2))) (RS1 v c b (Tp C) (.lst (ws.map .str)) (.dct M) (.lst vs) (some (false,Tp K)) x8 none none none none)=.ok .fz (Tp (K.take 2)):=λx8=>fC rfl (m:=.fz) (i:=2) (by rw[cN];rfl)
       rw[show bQ.drop 4=[.ite (.cmp .Eq (.var 0) (.int 6)) [.set 11 (.tup [(.str "keep"),(.var 2),(.frz (.slice (.var 3) none (some (.int 2))))]),.set 12 (.frz (.call "_law_like" 4 [(.frz (.bin .Mod (.bin .FloorDiv (.var 1) (.int 5)) (.int 3))),(.frz (.slice (.var 3) none (some (.int 2)))),(.var 4),(.var 5)])),.set 10 (.tup [(.str "pour"),(.tup [(.str "pick"),(.var 11),(.var 8)]),(.tup [(.str "pick"),(.var 12),(.var 8)])]),.ret (.tup [(.tup [(.str "pour"),(.var 11),(.var 12)]),(.var 8),(.var 10),(.frz (.slice (.var 3) none (some (.int 2))))])] [],.set 12 (.frz (.call "_law_like" 4 [(.frz (.bin .Mod (.bin .FloorDiv (.var 1) (.int 5)) (.int 3))),(.frz (.slice (.var 7) none (some (.int 2)))),(.var 4),(.var 5)])),.ret (.tup [(.tup [(.str "leave"),(.var 2),(.var 12)]),(.var 8),(.tup [(.str "leave"),(.tup [(.str "pick"),(.var 2),(.var 8)]),(.var 12)]),(.var 3)])] from rfl]
       rw[fX (eqv (t:=false) (by rw[h];rfl))]
       generalize E.slice (.var 7) none (some (.int 2))=X at *
       clear ek eu cu lk gs gs'
       generalize tsD (C.take 2) u=d1 at *;generalize Tp (K.take 2)=u3 at *;generalize Tp C=u1 at *;generalize Tp K=u2 at *;generalize ws.map D.str=w at *;simp[gk,co,t3,t4]
end
theorem rX{L C:List Str}{z:Str}(hz:z∈L)(hC:¬ z∈C):(L.all λy=>decide (y∈C))=false:=by rw[List.all_eq_false];exact ⟨z,hz,by simpa using hC⟩
theorem aAC{L C:List Str}(h:∀ z∈L,z∈C):(L.all λy=>decide (y∈C))=true:=by rw[aPA];exact λz hz=>by simpa using h z hz
theorem rY{L:List Str}{ds:List D}{z:Str}(h:ds=L.map .str)(hz:D.str z∈ds):z∈L:=by
 rw[h] at hz;obtain ⟨y,hy,e⟩:=aQM.mp hz;injection e with e
 exact e ▸ hy
theorem rZ{f:List Str}{vs:List D}{u:Ts}(hu:u.ok vs f.length)(hd:u.dep<=5):∃ L:List Str,cols f u=L.map .str/\L.length<sizeLine/\(∀ z∈L,z∈f)/\∀ K,6<=K->(WT TT K).Φ "columns_in" [tsD f u]=.ok .fr (.lst (L.map .str)):=by
 have hsz:sizeLine=16777216:=aNN;obtain ⟨L,h1,h2,h3⟩:=lR u hu;have:2 ^ (u.dep+1)<=2 ^ 6:=aQR (by decide) (by omega)
 exact ⟨L,h1,by omega,h3,λK hK=>by rw[<- h1];exact yT u K (by omega) (by rw[h1,aN1];omega)⟩
abbrev J1(v c:Int)(b C:D)(ws M vs:D)(x7 x8 x9 x10 x11:Option (Bool×D)):Rho:=[some (false,.int v),some (false,.int c),some (false,b),some (false,C),some (false,ws),some (false,M),some (false,vs),x7,x8,x9,x10,x11]
section
variable {M:List (Key×D)}{w0 w1 w2 p0 p1 p2 p3 p4 p5 p6:Str}{vs:List D}{N C:List Str}{b:D}
theorem r6(T:Tb M w0 w1 w2 p0 p1 p2 p3 p4 p5 p6)(c:Int):∃ w q0 q1,aV M (.inr w)=some (Tp [q0,q1])/\[q0,q1].Nodup/\(∀ z∈[q0,q1],z∈[p0,p1,p2,p3,p4,p5,p6])/\¬ p0∈[q0,q1]/\¬ q1∈[p0,p1]/\op2 ixD (.ok .fz (.lst ([w0,w1,w2].map .str))) (.ok .fz (.int (1+c % 2)))=.ok .fz (.str w):=by
 have n2:=T.nd;simp only[aNQ,aM0,aQP,aP9,aPV] at n2;have h:c % 2=0\/c % 2=1:=by omega
 rcases h with h | h
 . refine ⟨w1,p1,p2,T.g1,by simp[n2.2.1.1],by simp,by simp[n2.1.1,n2.1.2.1],?_,by rw[h];exact dQ (bC (j:=1) rfl)⟩
   have h1:¬ p2=p0:=λe=>n2.1.2.1 e.symm;have h2:¬ p2=p1:=λe=>n2.2.1.1 e.symm;simp[h1,h2]
 . refine ⟨w2,p3,p4,T.g2,by simp[n2.2.2.2.1.1],by simp,by simp[n2.1.2.2.1,n2.1.2.2.2.1],?_,by rw[h];exact dQ (bC (j:=2) rfl)⟩
   have h1:¬ p4=p0:=λe=>n2.1.2.2.2.1 e.symm;have h2:¬ p4=p1:=λe=>n2.2.1.2.2.1 e.symm;simp[h1,h2]
theorem r8{W:WD}{v c:Int}{ws:D}{w:Str}{S:List Str}(hg:aV M (.inr w)=some (Tp S))(hw:op2 ixD (.ok .fz ws) (.ok .fz (.int (1+c % 2)))=.ok .fz (.str w)):evB W (bA.take 2) (J1 v c b (Tp C) ws (.dct M) (.lst vs) none none none none none)=.nx (J1 v c b (Tp C) ws (.dct M) (.lst vs) (some (false,.tup [.str "table", .str w])) (some (false,Tp S)) none none none):=by have gd:=gQ hg (m:=.fz) (m':=.fz);generalize Tp C=u1 at *;generalize Tp S=u2 at *;simp[bA,hw,gd,i1,t2]
theorem aAD{W:WD}{v c:Int}{ws m q o:D}{S:List Str}{x9 x10 x11:Option (Bool×D)}(hs:C.length+S.length<900):evE W (.frz (.bin .Add (.var 3) (.tcall .tuple [(.comp (.var 1) (.items (.var 8)) [(.cmp .NotIn (.var 1) (.var 0))] [3] (.nm 1) 1)]))) (J1 v c b (Tp C) ws m q (some (false,o)) (some (false,Tp S)) x9 x10 x11)=.ok .fz (Tp (C++dif S C)):=by
 have hsz:sizeLine=16777216:=aNN;have dl:=y4 (C:=C) (C':=S);have:=aLZ (W:=W) (ρ:=J1 v c b (Tp C) ws m q (some (false,o)) (some (false,Tp S)) x9 x10 x11) (X:=Tp C) (C:=C) (S:=S) (i:=3) (j:=8) aL0 rfl rfl (by omega)
 rw[jL,eC,this,bS];show bI (op2 (aT .Add) (.ok .fz (Tp C)) (.ok .fz (Tp (dif S C))))=_;rw[oM (by omega),nI]
theorem aMH(k:Nat)(T:Tb M w0 w1 w2 p0 p1 p2 p3 p4 p5 p6)(hb:Bs M N b C)(hv:Vs vs)(c:Int):∃ x f u l C',Su M vs x f u (some l) C'/\(WT TT (k+5)).Φ "_law_joined" [.int 8,.int c,b,Tp C,.lst ([w0,w1,w2].map .str),.dct M,.lst vs]=.ok .fz (.tup [x,tsD f u,.tup l,Tp C']):=by
 have hsz:sizeLine=16777216:=aNN;have hl:=hb.len;obtain ⟨w,q0,q1,g1,g2,g3,g4,g5,g6⟩:=r6 T c;generalize hS:[q0,q1]=S at *;have lS:S.length=2:=by rw[<- hS];rfl
 obtain ⟨u,u1,u2',u3',eu⟩:=iP k (c / 9) (C:=C) hv;have cu:aD 3 ((WT TT (k+4)).Φ "_law_sinker") (.ok [(.fz,.int (c / 9)),(.fz,Tp C),(.fz,.lst vs)])=.ok .fz (tsD C u):=cZ eu;obtain ⟨L,l1,l2,l3,l4⟩:=rZ u2' (by omega)
 refine ⟨.tup [.str "join", b,.tup [.str "table", .str w]],C,u,[.str "join", .tup [.str "pick", b,tsD C u],.tup [.str "table", .str w]],C++dif S C,⟨?_,λz hz=>aM2 _ hz,u1,u2',u3',?_,λh=>(by cases h),?_⟩,?_⟩
 . obtain ⟨m,h1,h2⟩:=hb.ask;exact ⟨_,.join h1 (.table g1) (by omega),by omega⟩
 . exact λK hK=>aAB (n:=16) l2 (λK hK=>l4 K (by omega)) (λK hK=>hb.ask.cols K (by omega)) (λK hK=>cI.cols (n:=0) ⟨0,.table g1,by decide⟩ K (by omega)) _ (.inl ⟨aAC l3,rfl⟩) K (by omega)
 . exact bH (n:=11) aM (bH (n:=10) aM (hb.dp.mono (by decide)) ((dR hv u u2').mono (by omega))) ((dC aM aM).mono (show 1<=11 by decide))
 rw[rC];refine aJ rfl ?_;show evB (WT TT (k+4)) bA (J1 8 c b (Tp C) (.lst ([w0,w1,w2].map .str)) (.dct M) (.lst vs) none none none none none)=_;rw[show bA=bA.take 2++(.ite (.cmp .Eq (.var 0) (.int 8)) [.set 9 (.frz (.bin .Add (.var 3) (.tcall .tuple [(.comp (.var 1) (.items (.var 8)) [(.cmp .NotIn (.var 1) (.var 0))] [3] (.nm 1) 1)]))),.set 10 (.frz (.call "_law_sinker" 3 [(.frz (.bin .FloorDiv (.var 1) (.int 9))),(.var 3),(.var 6)])),.ret (.tup [(.tup [(.str "join"),(.var 2),(.var 7)]),(.var 10),(.tup [(.str "join"),(.tup [(.str "pick"),(.var 2),(.var 10)]),(.var 7)]),(.var 9)])] []::bA.drop 3) from rfl,bB,r8 g1 g6,aB.thn_nx]
 generalize bA.drop 3=Y;refine lQ (eqv (t:=true) rfl) ?_;rw[fB (aAD (by omega)) (ρ':=J1 8 c b (Tp C) (.lst ([w0,w1,w2].map .str)) (.dct M) (.lst vs) (some (false,.tup [.str "table", .str w])) (some (false,Tp S)) (some (false,Tp (C++dif S C))) none none) rfl]
 clear eu l1
 generalize Tp (C++dif S C)=u0 at *;generalize tsD C u=d1 at *;generalize Tp C=u1 at *;generalize Tp S=u2 at *;generalize [w0,w1,w2].map D.str=w at *;simp[cu,t3,t4]
theorem aAE{W:WD}{v c:Int}{w:Str}{S S0:List Str}{s:D}(T0:aV M (.inr w0)=some (Tp S0))(hl:S0.length+S.length<900)(h8:(v==8)=false)(hs:op2 ixD (.ok .fr (.lst [.str "same", .str "under"])) (.ok .fz (.int (c / 2 % 2)))=.ok .fz s):evB W (bA.drop 2) (J1 v c b (Tp C) (.lst ([w0,w1,w2].map .str)) (.dct M) (.lst vs) (some (false,.tup [.str "table", .str w])) (some (false,Tp S)) none none none)=evB W (bA.drop 7) (J1 v c (.tup [.str "table", .str w0]) (Tp S0) (.lst ([w0,w1,w2].map .str)) (.dct M) (.lst vs) (some (false,.tup [.str "table", .str w])) (some (false,Tp S)) (some (false,Tp (S0++dif S S0))) none (some (false,s))):=by
 have x0:op2 ixD (.ok .fz (.lst ([w0,w1,w2].map .str))) (.ok .fz (.int 0))=.ok .fz (.str w0):=dQ (bC (j:=0) rfl);have gd:=gQ T0 (m:=.fz) (m':=.fz);rw[show bA.drop 2=.ite (.cmp .Eq (.var 0) (.int 8)) [.set 9 (.frz (.bin .Add (.var 3) (.tcall .tuple [(.comp (.var 1) (.items (.var 8)) [(.cmp .NotIn (.var 1) (.var 0))] [3] (.nm 1) 1)]))),.set 10 (.frz (.call "_law_sinker" 3 [(.frz (.bin .FloorDiv (.var 1) (.int 9))),(.var 3),(.var 6)])),.ret (.tup [(.tup [(.str "join"),(.var 2),(.var 7)]),(.var 10),(.tup [(.str "join"),(.tup [(.str "pick"),(.var 2),(.var 10)]),(.var 7)]),(.var 9)])] [] :: .set 2 (.tup [(.str "table"),(.ix (.var 4) (.int 0))]) :: .set 3 (.dix (.var 5) (.ix (.var 4) (.int 0))) :: .set 9 (.frz (.bin .Add (.var 3) (.tcall .tuple [(.comp (.var 1) (.items (.var 8)) [(.cmp .NotIn (.var 1) (.var 0))] [3] (.nm 1) 1)]))) :: .set 11 (.ix (.lst [(.str "same"),(.str "under")]) (.bin .Mod (.bin .FloorDiv (.var 1) (.int 2)) (.int 2)))::bA.drop 7 from rfl]
 have g2:evE W (.tup [(.str "table"),(.ix (.var 4) (.int 0))]) (J1 v c b (Tp C) (.lst ([w0,w1,w2].map .str)) (.dct M) (.lst vs) (some (false,.tup [.str "table", .str w])) (some (false,Tp S)) none none none)=.ok .fz (.tup [.str "table", .str w0]):=by generalize Tp C=u1 at *;generalize Tp S=u2 at *;generalize [w0,w1,w2].map D.str=w at *;simp[x0,t2]
 have g3:evE W (.dix (.var 5) (.ix (.var 4) (.int 0))) (J1 v c (.tup [.str "table", .str w0]) (Tp C) (.lst ([w0,w1,w2].map .str)) (.dct M) (.lst vs) (some (false,.tup [.str "table", .str w])) (some (false,Tp S)) none none none)=.ok .fz (Tp S0):=by generalize Tp S0=u3 at *;generalize Tp C=u1 at *;generalize Tp S=u2 at *;generalize [w0,w1,w2].map D.str=w at *;simp[x0,gd]
 have g4:evE W (.ix (.lst [(.str "same"),(.str "under")]) (.bin .Mod (.bin .FloorDiv (.var 1) (.int 2)) (.int 2))) (J1 v c (.tup [.str "table", .str w0]) (Tp S0) (.lst ([w0,w1,w2].map .str)) (.dct M) (.lst vs) (some (false,.tup [.str "table", .str w])) (some (false,Tp S)) (some (false,Tp (S0++dif S S0))) none none)=.ok .fz s:=by generalize Tp (S0++dif S S0)=u4 at *;generalize Tp S0=u3 at *;generalize Tp S=u2 at *;generalize [w0,w1,w2].map D.str=w at *;simp[l2,hs]
 rw[fX (eqv (t:=false) h8),fB g2 (ρ':=J1 v c (.tup [.str "table", .str w0]) (Tp C) (.lst ([w0,w1,w2].map .str)) (.dct M) (.lst vs) (some (false,.tup [.str "table", .str w])) (some (false,Tp S)) none none none) rfl,fB g3 (ρ':=J1 v c (.tup [.str "table", .str w0]) (Tp S0) (.lst ([w0,w1,w2].map .str)) (.dct M) (.lst vs) (some (false,.tup [.str "table", .str w])) (some (false,Tp S)) none none none) rfl,fB (aAD hl) (ρ':=J1 v c (.tup [.str "table", .str w0]) (Tp S0) (.lst ([w0,w1,w2].map .str)) (.dct M) (.lst vs) (some (false,.tup [.str "table", .str w])) (some (false,Tp S)) (some (false,Tp (S0++dif S S0))) none none) rfl,fB g4 rfl];rfl
theorem aMI(k:Nat)(T:Tb M w0 w1 w2 p0 p1 p2 p3 p4 p5 p6)(hv:Vs vs)(c:Int):∃ x f u l C',Su M vs x f u (some l) C'/\(WT TT (k+5)).Φ "_law_joined" [.int 9,.int c,b,Tp C,.lst ([w0,w1,w2].map .str),.dct M,.lst vs]=.ok .fz (.tup [x,tsD f u,.tup l,Tp C']):=by
 have hsz:sizeLine=16777216:=aNN;obtain ⟨w,q0,q1,g1,g2,g3,g4,g5,g6⟩:=r6 T c;have b0:=oZ T;have tg:=T.g0;obtain ⟨p,hp,ep⟩:=rR (k+3) (c / 4) (C:=[q0,q1]) hv;obtain ⟨y,hy,ey⟩:=rE vs (c / 8) 3 (by rw[hv.1];rfl) (by decide)
 have cp:aD 3 ((WT TT (k+4)).Φ "_law_part") (.ok [(.fz,.int (c / 4)),(.fz,Tp [q0,q1]),(.fz,.lst vs)])=.ok .fz (ptD [q0,q1] p):=cZ ep;obtain ⟨s,es⟩:=pk2 (a:=.str "same") (b:=.str "under") (m:=.fr) (m':=.fz) (c / 2);have hw:(if s=true then D.str "under" else .str "same")=.str (if (!s)=true then "same" else "under"):=by cases s <;> rfl
 rw[hw] at es;have ba:(Ts.atom (!s) p (.of 1)).ok vs [q0,q1].length:=⟨hp,by show 1<2;decide⟩
 obtain ⟨u,u1,u2',u3',u4',eu⟩:∃ u:Ts,u.dep<=3/\u.ok vs [q0,q1].length/\sk u=true/\D.str q1∈cols [q0,q1] u/\evB (WT TT (k+4)) ((bA.drop 8).take 2) (J1 9 c (.tup [.str "table", .str w0]) (Tp [p0,p1]) (.lst ([w0,w1,w2].map .str)) (.dct M) (.lst vs) (some (false,.tup [.str "table", .str w])) (some (false,Tp [q0,q1])) (some (false,Tp ([p0,p1]++dif [q0,q1] [p0,p1]))) none (some (false,.str (if (!s)=true then "same" else "under"))))=.nx (J1 9 c (.tup [.str "table", .str w0]) (Tp [p0,p1]) (.lst ([w0,w1,w2].map .str)) (.dct M) (.lst vs) (some (false,.tup [.str "table", .str w])) (some (false,Tp [q0,q1])) (some (false,Tp ([p0,p1]++dif [q0,q1] [p0,p1]))) (some (false,tsD [q0,q1] u)) (some (false,.str (if (!s)=true then "same" else "under")))):=by
  have a1:op2 ixD (.ok .fz (Tp [q0,q1])) (.ok .fz (.int 1))=.ok .fz (.str q1):=fV (C:=[q0,q1]) (i:=1) (by simp)
  have a0:op2 ixD (.ok .fz (Tp [q0,q1])) (.ok .fz (.int 0))=.ok .fz (.str q0):=fV (C:=[q0,q1]) (i:=0) (by simp)
  have ay:op2 ixD (.ok .fz (.lst vs)) (.ok .fz (.int (c / 8 % 3)))=.ok .fz y:=dQ ey;have p1':evB (WT TT (k+4)) ((bA.drop 8).take 1) (J1 9 c (.tup [.str "table", .str w0]) (Tp [p0,p1]) (.lst ([w0,w1,w2].map .str)) (.dct M) (.lst vs) (some (false,.tup [.str "table", .str w])) (some (false,Tp [q0,q1])) (some (false,Tp ([p0,p1]++dif [q0,q1] [p0,p1]))) none (some (false,.str (if (!s)=true then "same" else "under"))))=.nx (J1 9 c (.tup [.str "table", .str w0]) (Tp [p0,p1]) (.lst ([w0,w1,w2].map .str)) (.dct M) (.lst vs) (some (false,.tup [.str "table", .str w])) (some (false,Tp [q0,q1])) (some (false,Tp ([p0,p1]++dif [q0,q1] [p0,p1]))) (some (false,.tup [.str (if (!s)=true then "same" else "under"),ptD [q0,q1] p,.tup [.str "of", .str q1]])) (some (false,.str (if (!s)=true then "same" else "under")))):=by
   clear ep
   generalize ptD [q0,q1] p=d1 at *;generalize (if (!s)=true then ("same" : Str) else "under")=z at *;generalize Tp ([p0,p1]++dif [q0,q1] [p0,p1])=u0 at *;generalize Tp [q0,q1]=u1 at *;generalize Tp [p0,p1]=u2 at *;generalize [w0,w1,w2].map D.str=w at *;simp[bA,cp,a1,t2,t3]
  by_cases h:c / 36 % 3=1
  . refine ⟨.two true (.atom false (.of 0) (.just y)) (.atom (!s) p (.of 1)),by show max 0 0+1<=3;decide,⟨⟨by show 0<2;decide,hy⟩,ba⟩,rfl,by simp[cols,cl,nth],?_⟩
    rw[show (bA.drop 8).take 2=(bA.drop 8).take 1++(bA.drop 9).take 1 from rfl,bB,p1',aB.thn_nx]
    show evB _ _ _=aB.nx (J1 9 c (.tup [.str "table", .str w0]) (Tp [p0,p1]) (.lst ([w0,w1,w2].map .str)) (.dct M) (.lst vs) (some (false,.tup [.str "table", .str w])) (some (false,Tp [q0,q1])) (some (false,Tp ([p0,p1]++dif [q0,q1] [p0,p1]))) (some (false,.tup [.str "either", .tup [.str "under", .tup [.str "of", .str q0],.tup [.str "just", y]],.tup [.str (if (!s)=true then "same" else "under"),ptD [q0,q1] p,.tup [.str "of", .str q1]]])) (some (false,.str (if (!s)=true then "same" else "under"))))
    clear p1' ep cp
    generalize D.tup [.str (if (!s)=true then "same" else "under"),ptD [q0,q1] p,.tup [.str "of", .str q1]]=d1 at *;generalize (if (!s)=true then ("same" : Str) else "under")=z at *;generalize Tp ([p0,p1]++dif [q0,q1] [p0,p1])=u0 at *;generalize Tp [q0,q1]=u1 at *;generalize Tp [p0,p1]=u2 at *;generalize [w0,w1,w2].map D.str=w at *;simp[bA,h,a0,ay,t2,t3]
  . have h':(c / 36 % 3==1)=false:=aMN.mpr h;refine ⟨.atom (!s) p (.of 1),aOV _,ba,rfl,by simp[cols,cl,nth],?_⟩
    rw[show (bA.drop 8).take 2=(bA.drop 8).take 1++(bA.drop 9).take 1 from rfl,bB,p1',aB.thn_nx]
    show evB _ _ _=aB.nx (J1 9 c (.tup [.str "table", .str w0]) (Tp [p0,p1]) (.lst ([w0,w1,w2].map .str)) (.dct M) (.lst vs) (some (false,.tup [.str "table", .str w])) (some (false,Tp [q0,q1])) (some (false,Tp ([p0,p1]++dif [q0,q1] [p0,p1]))) (some (false,.tup [.str (if (!s)=true then "same" else "under"),ptD [q0,q1] p,.tup [.str "of", .str q1]])) (some (false,.str (if (!s)=true then "same" else "under"))))
    clear p1' ep cp
    generalize D.tup [.str (if (!s)=true then "same" else "under"),ptD [q0,q1] p,.tup [.str "of", .str q1]]=d1 at *;generalize (if (!s)=true then ("same" : Str) else "under")=z at *;generalize Tp ([p0,p1]++dif [q0,q1] [p0,p1])=u0 at *;generalize Tp [q0,q1]=u1 at *;generalize Tp [p0,p1]=u2 at *;generalize [w0,w1,w2].map D.str=w at *;simp[bA,h']
 obtain ⟨L,l1,l2',l3,l4⟩:=rZ u2' (by omega)
 have du:=dR hv (f:=[q0,q1]) u u2';refine ⟨.tup [.str "join", .tup [.str "table", .str w0],.tup [.str "table", .str w]],[q0,q1],u,[.str "join", .tup [.str "table", .str w0],.tup [.str "pick", .tup [.str "table", .str w],tsD [q0,q1] u]],[p0,p1]++dif [q0,q1] [p0,p1],⟨?_,?_,u1,u2',u3',?_,λh=>(by cases h),?_⟩,?_⟩
 . exact ⟨1,.join (n:=0) (n':=0) (.table tg) (.table g1) (by simp;omega),by decide⟩
 . intro z hz;by_cases q:z∈[p0,p1]
   . exact aM2 _ q
   . refine aNL _ ?_;unfold dif;rw[aMW];exact ⟨hz,by simpa using q⟩
 . exact λK hK=>aAB (n:=16) l2' (λK hK=>l4 K (by omega)) (λK hK=>cI.cols (n:=0) ⟨0,.table tg,by decide⟩ K (by omega)) (λK hK=>cI.cols (n:=0) ⟨0,.table g1,by decide⟩ K (by omega)) _ (.inr ⟨rX (rY l1 u4') g5,aAC l3,rfl⟩) K (by omega)
 . exact bH (n:=11) aM ((dC aM aM).mono (show 1<=11 by decide)) (bH (n:=10) aM ((dC aM aM).mono (show 1<=10 by decide)) (du.mono (by omega)))
 rw[rC];refine aJ rfl ?_;show evB (WT TT (k+4)) bA (J1 9 c b (Tp C) (.lst ([w0,w1,w2].map .str)) (.dct M) (.lst vs) none none none none none)=_;rw[show bA=bA.take 2++bA.drop 2 from rfl,bB,r8 g1 g6,aB.thn_nx,aAE tg (by simp) rfl es]
 rw [show bA.drop 7 = .ite (.cmp .Eq (.var 0) (.int 10)) [.set 10 (.tup [(.var 11), (.tup [(.str "of"), (.ix (.var 3) (.int 0))]), (.tup [(.str "of"), (.ix (.var 8) (.int 1))])]),
     .ite (.cmp .Eq (.bin .Mod (.bin .FloorDiv (.var 1) (.int 4)) (.int 3)) (.int 1)) [.set 10 (.tup [(.str "either"),(.var 10),(.frz (.call "_law_test" 4 [(.frz (.bin .FloorDiv (.var 1) (.int 12))),(.int 1),(.var 9),(.var 6)]))])] [],
     .ret (.tup [(.tup [(.str "join"),(.var 2),(.var 7)]),(.var 10),.non,(.var 9)])] []::((bA.drop 8).take 2++bA.drop 10) from rfl,fX (eqv (t:=false) rfl),bB,eu,aB.thn_nx]
 clear eu cp ep
 generalize tsD [q0,q1] u=d1 at *;generalize (if (!s)=true then ("same" : Str) else "under")=z at *;generalize Tp ([p0,p1]++dif [q0,q1] [p0,p1])=u0 at *;generalize Tp [q0,q1]=u1 at *;generalize Tp [p0,p1]=u2 at *;generalize [w0,w1,w2].map D.str=w at *;simp[bA,t3,t4]
theorem aMJ(k:Nat)(T:Tb M w0 w1 w2 p0 p1 p2 p3 p4 p5 p6)(hv:Vs vs)(c:Int):∃ x f u C',Su M vs x f u none C'/\(WT TT (k+5)).Φ "_law_joined" [.int 10,.int c,b,Tp C,.lst ([w0,w1,w2].map .str),.dct M,.lst vs]=.ok .fz (.tup [x,tsD f u,.non,Tp C']):=by
 have hsz:sizeLine=16777216:=aNN;obtain ⟨w,q0,q1,g1,g2,g3,g4,g5,g6⟩:=r6 T c;have b0:=oZ T;have tg:=T.g0;have q1m:q1∈[p0,p1]++dif [q0,q1] [p0,p1]:=by refine aNL _ ?_;unfold dif;rw[aMW];exact ⟨by simp,by simpa using g5⟩
 obtain ⟨j,hj,ej⟩:=List.mem_iff_getElem.mp q1m;have ej':nth ([p0,p1]++dif [q0,q1] [p0,p1]) j=q1:=by rw[fW hj];exact ej
 have e0':nth ([p0,p1]++dif [q0,q1] [p0,p1]) 0=p0:=rfl;have l0:0<([p0,p1]++dif [q0,q1] [p0,p1]).length:=by simp
 obtain ⟨t,t1,t2',et⟩:=iO (k+1) (c / 12) (C:=[p0,p1]++dif [q0,q1] [p0,p1]) hv;have ct:aD 4 ((WT TT (k+4)).Φ "_law_test") (.ok [(.fz,.int (c / 12)),(.fz,.int 1),(.fz,Tp ([p0,p1]++dif [q0,q1] [p0,p1])),(.fz,.lst vs)])=.ok .fz (tsD ([p0,p1]++dif [q0,q1] [p0,p1]) t):=eE et;obtain ⟨s,es⟩:=pk2 (a:=.str "same") (b:=.str "under") (m:=.fr) (m':=.fz) (c / 2);have hw:(if s=true then D.str "under" else .str "same")=.str (if (!s)=true then "same" else "under"):=by cases s <;> rfl
 rw[hw] at es;have ba:(Ts.atom (!s) (.of 0) (.of j)).ok vs ([p0,p1]++dif [q0,q1] [p0,p1]).length:=⟨l0,hj⟩;have eD:tsD ([p0,p1]++dif [q0,q1] [p0,p1]) (.atom (!s) (.of 0) (.of j))=.tup [.str (if (!s)=true then "same" else "under"),.tup [.str "of", .str p0],.tup [.str "of", .str q1]]:=by show D.tup [.str (if (!s)=true then "same" else "under"),.tup [.str "of", .str (nth ([p0,p1]++dif [q0,q1] [p0,p1]) 0)],.tup [.str "of", .str (nth ([p0,p1]++dif [q0,q1] [p0,p1]) j)]]=_;rw[ej',e0']
 have cA:cols ([p0,p1]++dif [q0,q1] [p0,p1]) (.atom (!s) (.of 0) (.of j))=[.str p0,.str q1]:=by show [D.str (nth ([p0,p1]++dif [q0,q1] [p0,p1]) 0)]++[.str (nth ([p0,p1]++dif [q0,q1] [p0,p1]) j)]=_;rw[ej',e0'];rfl
 obtain ⟨u, u1, u2', u3', u4', u5', eu⟩ : ∃ u : Ts, u.dep ≤ 3 ∧ u.ok vs ([p0, p1] ++ dif [q0, q1] [p0, p1]).length ∧ sk u = true ∧ D.str q1 ∈ cols ([p0, p1] ++ dif [q0, q1] [p0, p1]) u ∧ D.str p0 ∈ cols ([p0, p1] ++ dif [q0, q1] [p0, p1]) u ∧ evB (WT TT (k + 4)) [.set 10 (.tup [(.var 11), (.tup [(.str "of"), (.ix (.var 3) (.int 0))]), (.tup [(.str "of"), (.ix (.var 8) (.int 1))])]),
     .ite (.cmp .Eq (.bin .Mod (.bin .FloorDiv (.var 1) (.int 4)) (.int 3)) (.int 1)) [.set 10 (.tup [(.str "either"),(.var 10),(.frz (.call "_law_test" 4 [(.frz (.bin .FloorDiv (.var 1) (.int 12))),(.int 1),(.var 9),(.var 6)]))])] [],
     .ret (.tup [(.tup [(.str "join"),(.var 2),(.var 7)]),(.var 10),.non,(.var 9)])] (J1 10 c (.tup [.str "table", .str w0]) (Tp [p0,p1]) (.lst ([w0,w1,w2].map .str)) (.dct M) (.lst vs) (some (false,.tup [.str "table", .str w])) (some (false,Tp [q0,q1])) (some (false,Tp ([p0,p1]++dif [q0,q1] [p0,p1]))) none (some (false,.str (if (!s)=true then "same" else "under"))))=.rt .fz (.tup [.tup [.str "join", .tup [.str "table", .str w0],.tup [.str "table", .str w]],tsD ([p0,p1]++dif [q0,q1] [p0,p1]) u,.non,Tp ([p0,p1]++dif [q0,q1] [p0,p1])]):=by
  have a1:op2 ixD (.ok .fz (Tp [q0,q1])) (.ok .fz (.int 1))=.ok .fz (.str q1):=fV (C:=[q0,q1]) (i:=1) (by simp)
  have a0:op2 ixD (.ok .fz (Tp [p0,p1])) (.ok .fz (.int 0))=.ok .fz (.str p0):=fV (C:=[p0,p1]) (i:=0) (by simp)
  by_cases h:c / 4 % 3=1
  . refine ⟨.two true (.atom (!s) (.of 0) (.of j)) t,by show max 0 t.dep+1<=3;omega,⟨ba,t2'⟩,rfl,aM2 _ (by rw[cA];simp),aM2 _ (by rw[cA];simp),?_⟩
    show _=aB.rt .fz (.tup [.tup [.str "join", .tup [.str "table", .str w0],.tup [.str "table", .str w]],.tup [.str "either", tsD ([p0,p1]++dif [q0,q1] [p0,p1]) (.atom (!s) (.of 0) (.of j)),tsD ([p0,p1]++dif [q0,q1] [p0,p1]) t],.non,Tp ([p0,p1]++dif [q0,q1] [p0,p1])]);rw[eD]
    clear et ba ej' ej hj e0' eD cA
    generalize tsD ([p0,p1]++dif [q0,q1] [p0,p1]) t=d1 at *;generalize (if (!s)=true then ("same" : Str) else "under")=z at *;generalize Tp ([p0,p1]++dif [q0,q1] [p0,p1])=u0 at *;generalize Tp [q0,q1]=u1 at *;generalize Tp [p0,p1]=u2 at *;generalize [w0,w1,w2].map D.str=w at *;simp[h,a0,a1,ct,t2,t3,t4]
  . have h':(c / 4 % 3==1)=false:=aMN.mpr h;refine ⟨.atom (!s) (.of 0) (.of j),aOV _,ba,rfl,by rw[cA];simp,by rw[cA];simp,?_⟩
    rw[eD]
    clear et ba ej' ej hj e0' eD ct cA
    generalize (if (!s)=true then ("same" : Str) else "under")=z at *;generalize Tp ([p0,p1]++dif [q0,q1] [p0,p1])=u0 at *;generalize Tp [q0,q1]=u1 at *;generalize Tp [p0,p1]=u2 at *;generalize [w0,w1,w2].map D.str=w at *;simp[h',a0,a1,t2,t3,t4]
 obtain ⟨L,l1,l2',l3,l4⟩:=rZ u2' (by omega)
 refine ⟨.tup [.str "join", .tup [.str "table", .str w0],.tup [.str "table", .str w]],[p0,p1]++dif [q0,q1] [p0,p1],u,[p0,p1]++dif [q0,q1] [p0,p1],⟨?_,λ_ h=>h,u1,u2',u3',?_,λ_=>?_,rU⟩,?_⟩
 . exact ⟨1,.join (n:=0) (n':=0) (.table tg) (.table g1) (by simp;omega),by decide⟩
 . exact λK hK=>aLO (n:=16) l2' (λK hK=>l4 K (by omega)) (λK hK=>cI.cols (n:=0) ⟨0,.table tg,by decide⟩ K (by omega)) (λK hK=>cI.cols (n:=0) ⟨0,.table g1,by decide⟩ K (by omega)) (rX (rY l1 u4') g5) (rX (rY l1 u5') g4) K (by omega)
 . exact (zR (n:=14) (r:=none) (r':=none) (Str.ofString "join") (fA.mono (by decide)) (.inl (fA.mono (by decide))) (nj _)).mono (by decide)
 rw[rC];refine aJ rfl ?_;show evB (WT TT (k+4)) bA (J1 10 c b (Tp C) (.lst ([w0,w1,w2].map .str)) (.dct M) (.lst vs) none none none none none)=_;rw[show bA=bA.take 2++bA.drop 2 from rfl,bB,r8 g1 g6,aB.thn_nx,aAE tg (by simp) rfl es]
 rw [show bA.drop 7 = .ite (.cmp .Eq (.var 0) (.int 10)) [.set 10 (.tup [(.var 11), (.tup [(.str "of"), (.ix (.var 3) (.int 0))]), (.tup [(.str "of"), (.ix (.var 8) (.int 1))])]),
     .ite (.cmp .Eq (.bin .Mod (.bin .FloorDiv (.var 1) (.int 4)) (.int 3)) (.int 1)) [.set 10 (.tup [(.str "either"),(.var 10),(.frz (.call "_law_test" 4 [(.frz (.bin .FloorDiv (.var 1) (.int 12))),(.int 1),(.var 9),(.var 6)]))])] [],
     .ret (.tup [(.tup [(.str "join"),(.var 2),(.var 7)]),(.var 10),.non,(.var 9)])] []::bA.drop 8 from rfl,lQ (eqv (t:=true) rfl) eu]
end
abbrev P1(v c:Int)(ws M N vs b C:D)(x8 x9 x10 x11 x12:Option (Bool×D)):Rho:=[some (false,.int v),some (false,.int c),some (false,ws),some (false,M),some (false,N),some (false,vs),some (false,b),some (false,C),x8,x9,x10,x11,x12]
section
variable {M:List (Key×D)}{w0 w1 w2 p0 p1 p2 p3 p4 p5 p6:Str}{vs:List D}{N C:List Str}{b:D}
theorem aAF{x:D}{f C':List Str}{u:Ts}{r:Option (List D)}(ask:cI M x C' 7)(fs:∀ z∈f,z∈C')(dep:u.dep<=3)(ok:u.ok vs f.length)(hsk:sk u=true)(sunk:eI M x (tsD f u) r 23)(st:r=none->bT M x none 23)(dp:Dp 20 (rD r)):Fin M (.tup [.str "pick", x,tsD f u]) r where
 ask:=⟨C',(iQ ask fs (by omega) ok).mono (by decide)⟩
 st:=by
  cases r with
  | some l=>exact (iN (n:=24) (r:=none) (λK hK=>oQ hsk sunk K (by omega)) (.inr rfl))
  | none=>exact (iN (n:=24) (r:=none) (λK hK=>oQ hsk sunk K (by omega)) (.inl ((st rfl).mono (by decide))))
 dp:=dp.mono (by decide)
theorem btw(k:Nat)(hv:Vs vs){v c:Int}{ws m n b' t x l:D}{i:Int}{x12:Option (Bool×D)}:∃ a:Ts,a.dep<=2/\a.ok vs C.length/\evB (WT TT (k+4)) jR (P1 v c ws m n (.lst vs) b' (Tp C) (some (false,x)) (some (false,t)) (some (false,l)) (some (false,.int i)) x12)=.nx (P1 v c ws m n (.lst vs) b' (Tp C) (some (false,.tup [.str "pick", x,tsD C a])) (some (false,t)) (some (false,.tup [.str "pick", l,tsD C a])) (some (false,.int i)) (some (false,tsD C a))):=by
 obtain ⟨a,a1,a2,ea⟩:=test2 k ((c / 78+7+i) * 48271 % 2147483647) (C:=C) hv;have ca:aD 4 ((WT TT (k+4)).Φ "_law_test") (.ok [(.fz,.int ((c / 78+7+i) * 48271 % 2147483647)),(.fz,.int 2),(.fz,Tp C),(.fz,.lst vs)])=.ok .fz (tsD C a):=eE ea;have m1:op2 (aT .Mult) (.ok .fz (.int (c / 78+7+i))) (.ok .fz (.int 48271))=.ok .fz (.int ((c / 78+7+i) * 48271)):=iD (by decide)
 refine ⟨a,a1,a2,?_⟩
 clear ea
 generalize tsD C a=d1 at *;generalize Tp C=u1 at *;simp[jR,m1,ca,t3]
theorem aMK(k:Nat)(hv:Vs vs){v c:Int}{ws m n b' x:D}{f:List Str}{u:Ts}{r:Option (List D)}{x11 x12:Option (Bool×D)}(su:Su M vs x f u r C):∃ d r',Fin M d r'/\evB (WT TT (k+4)) (bK.drop 5) (P1 v c ws m n (.lst vs) b' (Tp C) (some (false,x)) (some (false,tsD f u)) (some (false,rD r)) x11 x12)=.rt .fz (.tup [d,rD r']):=by
 have ea:bK.drop 5=[.ite (.andL [(.cmp .IsNot (.var 10) .non),(.cmp .Eq (.bin .Mod (.bin .FloorDiv (.var 1) (.int 13)) (.int 2)) (.int 1))]) [.for (.rng1 (.bin .Add (.int 1) (.bin .Mod (.bin .FloorDiv (.var 1) (.int 26)) (.int 3)))) (.nm 11) jR] [],.ret (.tup [(.tup [(.str "pick"),(.var 8),(.var 9)]),(.var 10)])]:=rfl;rw[ea];have fin:∀ {y11 y12:Option (Bool×D)} {x l t:D},evB (WT TT (k+4)) [.ret (.tup [(.tup [(.str "pick"),(.var 8),(.var 9)]),(.var 10)])] (P1 v c ws m n (.lst vs) b' (Tp C) (some (false,x)) (some (false,t)) (some (false,l)) y11 y12)=.rt .fz (.tup [.tup [.str "pick", x,t],l]):=λ{y11 y12 x l t}=>by generalize Tp C=u1 at *;simp[t2,t3]
 have gc:evE (WT TT (k+4)) (.andL [(.cmp .IsNot (.var 10) .non),(.cmp .Eq (.bin .Mod (.bin .FloorDiv (.var 1) (.int 13)) (.int 2)) (.int 1))]) (P1 v c ws m n (.lst vs) b' (Tp C) (some (false,x)) (some (false,tsD f u)) (some (false,rD r)) x11 x12)=.ok .fz (.bl (r.isSome&&(c / 13 % 2==1))):=by
  have hr:(!d7 (rD r))=r.isSome:=by cases r <;> rfl
  generalize rD r=R at *;generalize tsD f u=d1 at *;generalize Tp C=u1 at *;simp[hr]
 by_cases h:(r.isSome&&(c / 13 % 2==1))=true
 . rw[h] at gc;obtain ⟨l,rfl⟩:∃ l,r=some l:=by
     cases r with
     | none=>simp at h
     | some l=>exact ⟨l,rfl⟩
   obtain ⟨j,ej,hj⟩:=md (c:=c / 26) (n:=3) (by decide)
   obtain ⟨ρ',e,y,y12,x',l',q1,q2,q3,rfl⟩:=lL (k:=aI (.nm 11)) (body:=evB (WT TT (k+4)) jR) (λi ρ=>∃ y y12 x l,cI M x C (4+i)/\eI M x (tsD f u) (some l) (20+i)/\Dp (12+i) (.tup l)/\ρ=P1 v c ws m n (.lst vs) b' (Tp C) (some (false,x)) (some (false,tsD f u)) (some (false,.tup l)) y y12) (bJ 0 ((1+j:Nat):Int)) 0 (ρ:=P1 v c ws m n (.lst vs) b' (Tp C) (some (false,x)) (some (false,tsD f u)) (some (false,.tup l)) x11 x12)
    (λi d hd ρ hρ=>by
     obtain ⟨y,y12,x,l,h1,h2,h3,rfl⟩:=hρ;obtain ⟨hi,rfl⟩:=yU hd;rw[aPT] at *;obtain ⟨a,a1,a2,ea⟩:=btw k hv (C:=C) (v:=v) (c:=c) (ws:=ws) (m:=m) (n:=n) (b':=b') (t:=tsD f u) (x:=x) (l:=.tup l) (i:=(i:Int)) (x12:=y12);have da:=dR hv (f:=C) a a2
     exact ⟨_,_,rfl,ea,_,_,_,[.str "pick", .tup l,tsD C a],iQ h1 (λ_ h=>h) (by omega) a2,aL9 h2,bH (n:=12+i) aM h3 (da.mono (by omega)),rfl⟩)
    ⟨x11,x12,x,l,su.ask,su.sunk,su.dp,rfl⟩
   rw[aPT,oI] at q1 q2 q3;have er:=lJ (m:=.fz) (n:=((1+j:Nat):Int)) (by omega) (by omega)
   have ei:evE (WT TT (k+4)) (.rng1 (.bin .Add (.int 1) (.bin .Mod (.bin .FloorDiv (.var 1) (.int 26)) (.int 3)))) (P1 v c ws m n (.lst vs) b' (Tp C) (some (false,x)) (some (false,tsD f u)) (some (false,rD (some l))) x11 x12)=.ok .fz (.lst (bJ 0 ((1+j:Nat):Int))):=by
    rw[lB];have:evE (WT TT (k+4)) (.bin .Add (.int 1) (.bin .Mod (.bin .FloorDiv (.var 1) (.int 26)) (.int 3))) (P1 v c ws m n (.lst vs) b' (Tp C) (some (false,x)) (some (false,tsD f u)) (some (false,rD (some l))) x11 x12)=.ok .fz (.int ((1+j:Nat):Int)):=by
     rw[show ((1+j:Nat):Int)=1+(j:Int) by omega,<- ej]
     generalize tsD f u=d1 at *;generalize Tp C=u1 at *;generalize rD (some l)=R at *;simp
    rw[this,f8,er]
   have e':dL (.ok .fz (.lst (bJ 0 ((1+j:Nat):Int)))) (P1 v c ws m n (.lst vs) b' (Tp C) (some (false,x)) (some (false,tsD f u)) (some (false,rD (some l))) x11 x12) (aI (.nm 11)) (evB (WT TT (k+4)) jR)=_:=e;refine ⟨.tup [.str "pick", x',tsD f u],some l',aAF (q1.mono (by omega)) su.fs su.dep su.ok su.sk (λK hK=>q2 K (by omega)) (λh=>by cases h) (q3.mono (by omega)),?_⟩
   rw[ite_n gc (ρ':=P1 v c ws m n (.lst vs) b' (Tp C) (some (false,x')) (some (false,tsD f u)) (some (false,.tup l')) y y12) ?_,fin]
   . rfl
   . rw[bP,qR,ei,e',aB.thn_nx,jN]
 . have h:(r.isSome&&(c / 13 % 2==1))=false:=by simpa using h
   rw[h] at gc;exact ⟨.tup [.str "pick", x,tsD f u],r,aAF (su.ask.mono (by decide)) su.fs su.dep su.ok su.sk (λK hK=>su.sunk K (by omega)) (λh=>(su.st h).mono (by decide)) (su.dp.mono (by decide)),by rw[fX gc,fin]⟩
theorem r9{Φ:List D->Res}{a b c e f d:D}(q:Φ [a,b,c,e,f]=.ok .fz d):aD 5 Φ (.ok [(.fz,a),(.fz,b),(.fz,c),(.fz,e),(.fz,f)])=.ok .fz d:=iE (ds:=[a,b,c,e,f]) rfl rfl q
theorem call6{Φ:List D->Res}{a b c e f g d:D}(q:Φ [a,b,c,e,f,g]=.ok .fz d):aD 6 Φ (.ok [(.fz,a),(.fz,b),(.fz,c),(.fz,e),(.fz,f),(.fz,g)])=.ok .fz d:=iE (ds:=[a,b,c,e,f,g]) rfl rfl q
theorem lU{W:WD}{v c:Int}{ws m n b' x t l C':D}{u:D}(h3:¬ v<3)(h11:(v==11)=false)(h:v=5/\aD 5 (W.Φ "_law_sunk_call") (.ok [(.fz,.int c),(.fz,b'),(.fz,u),(.fz,n),(.fz,.lst vs)])=.ok .fz (.tup [x,t,l,C'])\/(v==5)=false/\v<8/\aD 7 (W.Φ "_law_sunk") (.ok [(.fz,.int v),(.fz,.int c),(.fz,b'),(.fz,u),(.fz,ws),(.fz,m),(.fz,.lst vs)])=.ok .fz (.tup [x,t,l,C'])\/(v==5)=false/\¬ v<8/\aD 7 (W.Φ "_law_joined") (.ok [(.fz,.int v),(.fz,.int c),(.fz,b'),(.fz,u),(.fz,ws),(.fz,m),(.fz,.lst vs)])=.ok .fz (.tup [x,t,l,C'])):evB W ((bK.drop 1).take 4) (P1 v c ws m n (.lst vs) b' u none none none none none)=.nx (P1 v c ws m n (.lst vs) b' C' (some (false,x)) (some (false,t)) (some (false,l)) none none):=by
 have ea:(bK.drop 1).take 4=(bK.drop 1).take 3++(bK.drop 4).take 1:=rfl;have p1:evB W ((bK.drop 1).take 3) (P1 v c ws m n (.lst vs) b' u none none none none none)=.nx (P1 v c ws m n (.lst vs) b' u none none none none none):=by simp[bK,h3,h11]
 rw[ea,bB,p1,aB.thn_nx];rcases h with ⟨h,e⟩ | ⟨h,h',e⟩ | ⟨h,h',e⟩
 . simp[bK,h,e,d8]
 . simp[bK,h,h',e,d8]
 . simp[bK,h,h',e,d8]
theorem sC(k:Nat)(T:Tb M w0 w1 w2 p0 p1 p2 p3 p4 p5 p6)(hv:Vs vs){v:Int}(h0:0<=v/\v<12)(c:Int):∃ d r,Fin M d r/\(WT TT (k+10)).Φ "_law_pair" [.int v,.int c,.lst ([w0,w1,w2].map .str),.dct M,Tp [p0,p1,p2,p3,p4,p5,p6],.lst vs]=.ok .fz (.tup [d,rD r]):=by
 obtain ⟨b,C,hb,eb⟩:=base (k+4) T hv (c / 11);have cb:aD 5 ((WT TT (k+9)).Φ "_law_base") (.ok [(.fz,.int (c / 11)),(.fz,.lst ([w0,w1,w2].map .str)),(.fz,.dct M),(.fz,Tp [p0,p1,p2,p3,p4,p5,p6]),(.fz,.lst vs)])=.ok .fz (.tup [b,Tp C]):=r9 eb
 suffices q:∃ d r,Fin M d r/\evB (WT TT (k+9)) (bK.drop 1) (P1 v c (.lst ([w0,w1,w2].map .str)) (.dct M) (Tp [p0,p1,p2,p3,p4,p5,p6]) (.lst vs) b (Tp C) none none none none none)=.rt .fz (.tup [d,rD r]) by
  obtain ⟨d,r,h1,h2⟩:=q;refine ⟨d,r,h1,?_⟩;rw[aK3];refine aJ rfl ?_;show evB (WT TT (k+9)) bK [some (false,.int v),some (false,.int c),some (false,.lst ([w0,w1,w2].map .str)),some (false,.dct M),some (false,Tp [p0,p1,p2,p3,p4,p5,p6]),some (false,.lst vs),none,none,none,none,none,none,none]=_;have pre:evB (WT TT (k+9)) (bK.take 1) [some (false,.int v),some (false,.int c),some (false,.lst ([w0,w1,w2].map .str)),some (false,.dct M),some (false,Tp [p0,p1,p2,p3,p4,p5,p6]),some (false,.lst vs),none,none,none,none,none,none,none]=.nx (P1 v c (.lst ([w0,w1,w2].map .str)) (.dct M) (Tp [p0,p1,p2,p3,p4,p5,p6]) (.lst vs) b (Tp C) none none none none none):=by
   clear h2 eb
   generalize Tp C=u1 at *;generalize Tp [p0,p1,p2,p3,p4,p5,p6]=u2 at *;generalize [w0,w1,w2].map D.str=w at *;simp[bK,cb,d8]
  rw[show bK=bK.take 1++bK.drop 1 from rfl,bB,pre,aB.thn_nx,h2]
 clear cb eb
 have sh := T.sh; have tnd := T.nd; have go : ∀ x f u r C', Su M vs x f u r C' → evB (WT TT (k + 9)) ((bK.drop 1).take 4) (P1 v c (.lst ([w0, w1, w2].map .str)) (.dct M) (Tp [p0, p1, p2, p3, p4, p5, p6]) (.lst vs) b (Tp C) none none none none none) = .nx (P1 v c (.lst ([w0, w1, w2].map .str)) (.dct M) (Tp [p0, p1, p2, p3, p4, p5, p6]) (.lst vs) b (Tp C') (some (false, x)) (some (false, tsD f u)) (some (false, rD r)) none none) →
     ∃ d r,Fin M d r/\evB (WT TT (k+9)) (bK.drop 1) (P1 v c (.lst ([w0,w1,w2].map .str)) (.dct M) (Tp [p0,p1,p2,p3,p4,p5,p6]) (.lst vs) b (Tp C) none none none none none)=.rt .fz (.tup [d,rD r]):=λx f u r C' su e=>by
  obtain ⟨d,r',h1,h2⟩:=aMK (k+5) hv su (v:=v) (c:=c) (ws:=.lst ([w0,w1,w2].map .str)) (m:=.dct M) (n:=Tp [p0,p1,p2,p3,p4,p5,p6]) (b':=b) (x11:=none) (x12:=none);refine ⟨d,r',h1,?_⟩;rw[show bK.drop 1=(bK.drop 1).take 4++bK.drop 5 from rfl,bB,e,aB.thn_nx,h2]
 by_cases h3:v<3
 . obtain ⟨d,r,h1,h2⟩:=apart (k+5) hb hv (v:=v) (by omega) c
   have ca:aD 5 ((WT TT (k+9)).Φ "_law_apart") (.ok [(.fz,.int v),(.fz,.int c),(.fz,b),(.fz,Tp C),(.fz,.lst vs)])=.ok .fz (.tup [d,rD r]):=r9 h2;refine ⟨d,r,h1,?_⟩
   clear h2 go
   generalize rD r=R at *;generalize Tp C=u1 at *;generalize Tp [p0,p1,p2,p3,p4,p5,p6]=u2 at *;generalize [w0,w1,w2].map D.str=w at *;simp[bK,h3,ca]
 by_cases h11:v=11
 . by_cases h2:c % 2=0
   . refine ⟨b,none,⟨⟨C,hb.ask.mono (by decide)⟩,hb.st.mono (by decide),rU⟩,?_⟩
     show _=aB.rt .fz (.tup [b,.non])
     clear go
     generalize Tp C=u1 at *;generalize Tp [p0,p1,p2,p3,p4,p5,p6]=u2 at *;generalize [w0,w1,w2].map D.str=w at *;simp[bK,h11,h2,t2]
   . have h2':(c % 2==0)=false:=aMN.mpr h2;obtain ⟨t,t1,t2',t3',et⟩:=iP (k+5) (c / 2) (C:=[p0,p1]) hv;have ct:aD 3 ((WT TT (k+9)).Φ "_law_sinker") (.ok [(.fz,.int (c / 2)),(.fz,Tp [p0,p1]),(.fz,.lst vs)])=.ok .fz (tsD [p0,p1] t):=cZ et;have b0:=oZ T;refine ⟨.tup [.str "pick", .tup [.str "table", .str w0],tsD [p0,p1] t],none,⟨⟨[p0,p1],(iQ (n:=2) (u:=t) b0.ask (λ_ h=>h) (by omega) t2').mono (by decide)⟩,?_,rU⟩,?_⟩
     . exact iN (n:=24) (r:=none) (r0:=none) (λK hK=>oQ t3' zC K (by omega)) (.inl (fA.mono (by decide)))
     show _=aB.rt .fz (.tup [.tup [.str "pick", .tup [.str "table", .str w0],tsD [p0,p1] t],.non]);have gd:=gQ T.g0 (m:=.fz) (m':=.fz);have x0:op2 ixD (.ok .fz (.lst ([w0,w1,w2].map .str))) (.ok .fz (.int 0))=.ok .fz (.str w0):=dQ (bC (j:=0) rfl)
     clear go et
     generalize tsD [p0,p1] t=d1 at *;generalize Tp C=u1 at *;generalize Tp [p0,p1,p2,p3,p4,p5,p6]=u2 at *;generalize Tp [p0,p1]=u3 at *;generalize [w0,w1,w2].map D.str=w at *;simp[bK,h11,h2',x0,gd,ct,t2,t3]
 have h11':(v==11)=false:=aMN.mpr h11;by_cases h5:v=5
 . obtain ⟨x,f,u,l,C',su,e⟩:=aMG k hb tnd rfl hv c;exact go x f u (some l) C' su (lU h3 h11' (.inl ⟨h5,r9 e⟩))
 have h5':(v==5)=false:=aMN.mpr h5;by_cases h8:v<8
 . obtain ⟨x,f,u,l,C',su,e⟩:=sunk (k+4) sh hb hv (v:=v) (by omega) c
   exact go x f u (some l) C' su (lU h3 h11' (.inr (.inl ⟨h5',h8,oU e⟩)))
 have h:v=8\/v=9\/v=10:=by omega
 rcases h with rfl | rfl | rfl
 . obtain ⟨x,f,u,l,C',su,e⟩:=aMH (k+4) T hb hv c;exact go x f u (some l) C' su (lU h3 h11' (.inr (.inr ⟨h5',h8,oU e⟩)))
 . obtain ⟨x,f,u,l,C',su,e⟩:=aMI (k+4) (b:=b) (C:=C) T hv c;exact go x f u (some l) C' su (lU h3 h11' (.inr (.inr ⟨h5',h8,oU e⟩)))
 . obtain ⟨x,f,u,C',su,e⟩:=aMJ (k+4) (b:=b) (C:=C) T hv c;exact go x f u none C' su (lU h3 h11' (.inr (.inr ⟨h5',h8,oU e⟩)))
end
section
variable {W:WD}
theorem lawA{S:D}{c0 c1 c2 c3 c4 v:Int}{L1 L2 vs:List D}{M:D}(e0:aD 2 (W.Φ "_law_cell_at") (.ok [(.fz,S),(.fz,.int 0)])=.ok .fz (.int c0))(e1:aD 2 (W.Φ "_law_cell_at") (.ok [(.fz,S),(.fz,.int 1)])=.ok .fz (.int c1))(e2:aD 2 (W.Φ "_law_cell_at") (.ok [(.fz,S),(.fz,.int 2)])=.ok .fz (.int c2))(e3:aD 2 (W.Φ "_law_cell_at") (.ok [(.fz,S),(.fz,.int 3)])=.ok .fz (.int c3))(e4:aD 2 (W.Φ "_law_cell_at") (.ok [(.fz,S),(.fz,.int 4)])=.ok .fz (.int c4))(n1:aD 2 (W.Φ "_law_names") (.ok [(.fz,.int c0),(.fz,.int 7)])=.ok .fr (.lst L1))(n2:aD 2 (W.Φ "_law_names") (.ok [(.fz,.int c1),(.fz,.int 3)])=.ok .fr (.lst L2))(n3:aD 1 (W.Φ "_law_values") (.ok [(.fz,.int c2)])=.ok .fr (.lst vs))(n4:aD 2 (W.Φ "_law_shapes") (.ok [(.fz,.lst L2),(.fz,.tup L1)])=.ok .fr M)(n5:aD 2 (W.Φ "_law_mixed") (.ok [(.fz,.int c4),(.fz,.int 2147483629)])=.ok .fz (.int v)):evB W (dB.take 6) [some (false,S),none,none,none,none,none,none,none,none,none,none]=.nx [some (false,S),some (false,.tup L1),some (false,.lst L2),some (false,.lst vs),some (false,M),some (false,.int (c3 % 12)),some (false,.int v),none,none,none,none]:=by
 have ea:dB.take 6=dB.take 3++(dB.drop 3).take 3:=rfl;have p1:evB W (dB.take 3) [some (false,S),none,none,none,none,none,none,none,none,none,none]=.nx [some (false,S),some (false,.tup L1),some (false,.lst L2),some (false,.lst vs),none,none,none,none,none,none,none]:=by simp[dB,e0,e1,e2,n1,n2,n3]
 rw[ea,bB,p1,aB.thn_nx];simp[dB,e3,e4,n4,n5]
theorem lawC{S N ws vs A:D}{M:List (Key×D)}{r:Option (List D)}{a v:Int}(n6:aD 6 (W.Φ "_law_pair") (.ok [(.fz,.int a),(.fz,.int v),(.fz,ws),(.fz,.dct M),(.fz,N),(.fz,vs)])=.ok .fz (.tup [A,rD r]))(c1:aD 2 (W.Φ "step") (.ok [(.fz,A),(.fz,.dct M)])=.ok .fz (rD r))(hq:op2 (eqN false) (.ok .fz (.dct M)) (.ok .fz (.dct M))=.ok .fz (.bl true))(he:op2 (bF .Eq) (.ok .fz (rD r)) (.ok .fz (rD r))=.ok .fz (.bl true)):evB W (dB.drop 6) [some (false,S),some (false,N),some (false,ws),some (false,vs),some (false,.dct M),some (false,.int a),some (false,.int v),none,none,none,none]=.rt .fz (.bl true):=by have ea:dB.drop 6=[.asg (.tp [(.nm 7),(.nm 8)]) (.call "_law_pair" 6 [(.var 5),(.var 6),(.var 2),(.var 4),(.var 1),(.var 3)]),.set 9 (.frz (.tcall .dict [(.var 4)])),.set 10 (.frz (.call "step" 2 [(.var 7),(.var 9)])),.ret (.andL [(.cmp .Eq (.var 10) (.var 8)),(.deq false (.var 9) (.var 4))])]:=rfl;rw[ea];have dc:kX [(.fz,.dct M)]=some (.fr,.dct M):=rfl;generalize rD r=R at *;simp[d8,n6,dc,c1,hq,he]
theorem aML{M:List (Key×D)}{d:D}{r:Option (List D)}(g:Fin M d r){K:Nat}(hK:27<=K):(WT TT K).Φ "step" [d,.dct M]=.ok .fz (rD r):=by
 obtain ⟨k,rfl,hk⟩:=le1 (n:=26) hK;obtain ⟨C,ha⟩:=g.ask;have c1:aD 2 ((WT TT k).Φ "columns_of") (.ok [(.fz,d),(.fz,.dct M)])=.ok .fz (Tp C):=aY (ha.cols k (by omega))
 have c2:aD 2 ((WT TT k).Φ "stepped") (.ok [(.fz,d),(.fz,.dct M)])=.ok .fz (rD r):=aY (g.st k hk);rw[aKP];refine aJ rfl ?_;show evB (WT TT k) oA [some (false,d),some (false,.dct M)]=_;generalize Tp C=u at *;generalize rD r=R at *;simp[oA,c1,c2,Res.thS]
end
def kk:Nat:=40
theorem main(ns:List Int)(hn:ns.length<=63):(WT TT (kk+1)).Φ ("law" : Str) (mS ns)=.ok .fz (.bl true):=by
 rw[u_law];refine aJ rfl ?_;show evB (WT TT 40) dB [some (false,.lst (ns.map .int)),none,none,none,none,none,none,none,none,none,none]=_;have c0:=lI 39 ns (i:=0) (by decide)
 have c1:=lI 39 ns (i:=1) (by decide)
 have c2:=lI 39 ns (i:=2) (by decide)
 have c3:=lI 39 ns (i:=3) (by decide)
 have c4:=lI 39 ns (i:=4) (by decide)
 obtain ⟨N,n1,n2,n4⟩:=names 39 (ce ns 0) (n:=7) (by decide)
 obtain ⟨ws,v1,v2,v4⟩:=names 39 (ce ns 1) (n:=3) (by decide)
 obtain ⟨a,b,z,ev⟩:=aLT 38 (ce ns 2);obtain ⟨v,emx⟩:=mixed 39 (ce ns 4) (p:=2147483629) (by decide)
 have m1:aD 2 ((WT TT 40).Φ "_law_names") (.ok [(.fz,.int (ce ns 0)),(.fz,.int 7)])=.ok .fr (.lst (N.map .str)):=lK (ds:=[.int (ce ns 0),.int 7]) rfl rfl n4;have m2:aD 2 ((WT TT 40).Φ "_law_names") (.ok [(.fz,.int (ce ns 1)),(.fz,.int 3)])=.ok .fr (.lst (ws.map .str)):=lK (ds:=[.int (ce ns 1),.int 3]) rfl rfl v4;have m3:aD 1 ((WT TT 40).Φ "_law_values") (.ok [(.fz,.int (ce ns 2))])=.ok .fr (.lst [.int a,.int b,.str z]):=jV ev;have hv:Vs [.int a,.int b,.str z]:=⟨rfl,λd hd=>by
  simp only[aM0,aQP,aP9] at hd;rcases hd with rfl | rfl | rfl
  . exact .inl ⟨_,rfl⟩
  . exact .inl ⟨_,rfl⟩
  . exact .inr ⟨_,rfl⟩⟩
 obtain ⟨w0,w1,w2,rfl⟩:∃ w0 w1 w2,ws=[w0,w1,w2]:=by
  match ws,v1 with
  | [a,b,c],_=>exact ⟨a,b,c,rfl⟩
 obtain ⟨p0,p1,p2,p3,p4,p5,p6,rfl⟩:∃ p0 p1 p2 p3 p4 p5 p6,N=[p0,p1,p2,p3,p4,p5,p6]:=by
  match N,n1 with
  | [a,b,c,d,e,f,g],_=>exact ⟨a,b,c,d,e,f,g,rfl⟩
 have nd:w0≠w1/\w0≠w2/\w1≠w2:=by simp[aNQ] at v2;exact ⟨v2.1.1,v2.1.2,v2.2⟩
 obtain ⟨h01,h02,h12⟩:=nd;have es:=aL2 39 (n0:=p0) (n1:=p1) (n2:=p2) (n3:=p3) (n4:=p4) (n5:=p5) (n6:=p6) h01 h02 h12;have m4:aD 2 ((WT TT 40).Φ "_law_shapes") (.ok [(.fz,.lst ([w0,w1,w2].map .str)),(.fz,Tp [p0,p1,p2,p3,p4,p5,p6])])=.ok .fr (.dct (sh3 w0 w1 w2 [p0,p1] [p1,p2] [p3,p4])):=lK (ds:=[.lst ([w0,w1,w2].map .str),Tp [p0,p1,p2,p3,p4,p5,p6]]) rfl rfl es;have m5:aD 2 ((WT TT 40).Φ "_law_mixed") (.ok [(.fz,.int (ce ns 4)),(.fz,.int 2147483629)])=.ok .fz (.int v):=aY emx;obtain ⟨g0,g1,g2⟩:=aL1 (S0:=[p0,p1]) (S1:=[p1,p2]) (S2:=[p3,p4]) h01 h02 h12;have T:Tb (sh3 w0 w1 w2 [p0,p1] [p1,p2] [p3,p4]) w0 w1 w2 p0 p1 p2 p3 p4 p5 p6:=⟨g0,g1,g2,n2⟩;have hq:op2 (eqN false) (.ok .fz (.dct (sh3 w0 w1 w2 [p0,p1] [p1,p2] [p3,p4]))) (.ok .fz (.dct (sh3 w0 w1 w2 [p0,p1] [p1,p2] [p3,p4])))=.ok .fz (.bl true):=bL (by
  have:eA (sh3 w0 w1 w2 [p0,p1] [p1,p2] [p3,p4]) (sh3 w0 w1 w2 [p0,p1] [p1,p2] [p3,p4])=some true:=zU _ λkv hkv=>by
   simp only[sh3,aM0,aQP,aP9] at hkv;rcases hkv with rfl | rfl | rfl
   . exact ⟨g0,_,rfl⟩
   . exact ⟨g1,_,rfl⟩
   . exact ⟨g2,_,rfl⟩
  show (eA _ _).map _=_;rw[this];simp)
 generalize sh3 w0 w1 w2 [p0,p1] [p1,p2] [p3,p4]=M at *;have e1:=lawA c0 c1 c2 c3 c4 m1 m2 m3 m4 m5;obtain ⟨d,r,fi,ep⟩:=sC 30 T hv (v:=ce ns 3 % 12) (by omega) v
 have e2:=lawC (W:=WT TT 40) (S:=.lst (ns.map .int)) (call6 ep) (aY (aML fi (K:=40) (by decide))) hq (aLV fi.dp (by decide))
 rw[show dB=dB.take 6++dB.drop 6 from rfl,bB,e1,aB.thn_nx]
 exact e2
end K60
namespace K60
open PySem PySem.W Tp
theorem tw:Prod.fst (true,PySem.Challenge.pw_whencewise_k60_a_step)=true:=by k_qdec
def as:List Addr:=[2,3,15,22,23,24,25,28,35,36,37,40,47,48,49,52,59,60,61,64,71,72,73,76,78,79,81,82,83,86,87,88,90,91,93,94,95,97,98,100,101,102,104,105,107,108,109,111,112,114,115,116,118,119,121,122,123,125,126,128,129,130,132,133,135,136,137,139,140,142,143,144,146,147,149,150,151,153,154,156,157,158,160,161,163,164,165,168,169,170,172,173,175,176,177,179,180,182,183,184,185,188,189,190,192,193,195,196,197,199,200,202,203,204,206,207,209,210,211,213,214,216,217,218,220,221,223,224,225,227,228,230,231,232,235,236,237,239,240,242,243,244,246,247,249,250,251,254,255,256,258,259,261,262,263,265,266,268,269,270,272,273,275,276,277,279,280,282,283,284,286,287,289,290,291,293,294,296,297,298,300,301,303,304,305,307,308,310,311,312,314,315,317,318,319,322,323,324,326,327,329,330,331,333,334,336,337,338,341,342,343,345,346,348,349,350,352,353,355,356]
theorem pre(w:World)(os:OsState):topGo treeTable PySem.Challenge.pw_whencewise_k60_a_step w 11 an 12 ⟨boot_heap w.params,#[],boot_drawn,boot_toks,os⟩ (topStub PySem.Challenge.pw_whencewise_k60_a_step)=some ((sh w.params (sA w.params) 15 187 os).abs,⟨denote treeTable (cd PySem.Challenge.pw_whencewise_k60_a_step),cd PySem.Challenge.pw_whencewise_k60_a_step,z0,[topFrame z0]⟩):=by
 rw[Fast.te17671172477840585580,Fast.te203182992438928480,Fast.te13144403056285818395,Fast.te15667345088766844465,Fast.te14364793385576792824,Fast.te11892475500146522536]
 kernel_rfl
theorem blk(w:World)(s:Shared):segRun treeTable PySem.Challenge.pw_whencewise_k60_a_step w 11 an 1 1 s (blockOf PySem.Challenge.pw_whencewise_k60_a_step.main.body (ev PySem.Challenge.pw_whencewise_k60_a_step) (cd PySem.Challenge.pw_whencewise_k60_a_step) z0 [topFrame z0])=some (.next,s,cd PySem.Challenge.pw_whencewise_k60_a_step,z0):=by kernel_rfl
theorem run(w:World)(os:OsState):go treeTable PySem.Challenge.pw_whencewise_k60_a_step w 1000 PySem.Challenge.pw_whencewise_k60_a_step.main.body (sh w.params (sA w.params) 15 187 os) (cd PySem.Challenge.pw_whencewise_k60_a_step) z0=some (sh w.params (lay w.params PySem.Challenge.pw_whencewise_k60_a_step.main.body (sA w.params)) 357 709 os,cd PySem.Challenge.pw_whencewise_k60_a_step,⟨302,0,312,69⟩) :=
 byRow2 "special-get-raises" (P:=λw=>∀ os:OsState,go treeTable PySem.Challenge.pw_whencewise_k60_a_step w 1000 PySem.Challenge.pw_whencewise_k60_a_step.main.body (sh w.params (sA w.params) 15 187 os) (cd PySem.Challenge.pw_whencewise_k60_a_step) z0=some (sh w.params (lay w.params PySem.Challenge.pw_whencewise_k60_a_step.main.body (sA w.params)) 357 709 os,cd PySem.Challenge.pw_whencewise_k60_a_step,⟨302,0,312,69⟩))
  (λw os=>by
   rw[Fast.te17671172477840585580,Fast.te203182992438928480,Fast.te13144403056285818395,Fast.te5678740263434597267,Fast.te14364793385576792824,Fast.te10212481707522018265]
   kernel_rfl)
  (λw os=>by
   rw[Fast.te17671172477840585580,Fast.te203182992438928480,Fast.te13144403056285818395,Fast.te5678740263434597267,Fast.te14364793385576792824,Fast.te10212481707522018265]
   kernel_rfl) w os
def tabs:=@D3.aKA K60.GG (KK PySem.Challenge.pw_whencewise_k60_a_step.main.body as) "DEEDS" [("pick", "columns_of_pick"),("keep", "columns_of_keep"),("call", "columns_of_call"),("join", "columns_of_join"),("pour", "columns_of_pour"),("total", "columns_of_total"),("leave", "columns_of_leave")] (by decide +kernel) (λP=>by kernel_rfl) (λP=>by kernel_rfl) (by decide) (by decide)
theorem sD(w:World):(λos=>((staticsOk (importedModules PySem.Challenge.pw_whencewise_k60_a_step.main.body) (boot_heap w.params) (H1 PySem.Challenge.pw_whencewise_k60_a_step.main.body 357 w.params)&&namesBound PySem.Challenge.pw_whencewise_k60_a_step (H1 PySem.Challenge.pw_whencewise_k60_a_step.main.body 357 w.params)&&gensDone (S1 PySem.Challenge.pw_whencewise_k60_a_step.main.body 357 709 w.params os)&&laidKept (boot_heap w.params) (H1 PySem.Challenge.pw_whencewise_k60_a_step.main.body 357 w.params)),openSeen (vw PySem.Challenge.pw_whencewise_k60_a_step) (los PySem.Challenge.pw_whencewise_k60_a_step.main.body) (importedModules PySem.Challenge.pw_whencewise_k60_a_step.main.body) (xt PySem.Challenge.rw_whencewise_k60_a_step.row) true (S1 PySem.Challenge.pw_whencewise_k60_a_step.main.body 357 709 w.params os),(hk PySem.Challenge.pw_whencewise_k60_a_step.main.body as).obs (S1 PySem.Challenge.pw_whencewise_k60_a_step.main.body 357 709 w.params os)))=λ_=>(true,openGood (vw PySem.Challenge.pw_whencewise_k60_a_step) (los PySem.Challenge.pw_whencewise_k60_a_step.main.body),(hk PySem.Challenge.pw_whencewise_k60_a_step.main.body as).val w):=by
 rw[Fast.te14387180822208032119,Fast.te17671172477840585580,Fast.te5923862056798008813,Fast.te9407923862454927560,Fast.te15884229538025494872,Fast.te4187177175401517315,Fast.te18076920544200396443,Fast.te9318435048543301240,Fast.te17808466708180730929,Fast.te2368527892694137696]
 kernel_rfl
theorem gf(P:Params):D3.qW (KK PySem.Challenge.pw_whencewise_k60_a_step.main.body as P) GG TT=true:=by
 kernel_rfl
abbrev dl:DefRec:=⟨"law", L2.mL qY,L2.iT qY,L2.eK qY,⟨302,0,312,69⟩⟩
end K60
open PySem PySem.W PyProof.Rows
set_option maxRecDepth 100000 in
set_option maxHeartbeats 0 in
theorem PySem.Challenge.cw_whencewise_k60_a_step_holds : PySem.Challenge.rw_whencewise_k60_a_step.Holds := by
 w_on;o_law
 exact Tp.head (p:=PySem.Challenge.rw_whencewise_k60_a_step) (d:=K60.dl) (Tp.left (by kernel_rfl) K60.pre K60.blk K60.run (by kernel_rfl) (by kernel_rfl) (λ_=>by kernel_rfl) K60.sD) (by assumption) (by kernel_rfl) (by kernel_rfl) rfl rfl (by decide +kernel) ⟨rfl,rfl,rfl,rfl,rfl,by decide +kernel⟩ (by w_witness2)
  (D3.walkG (K:=Tp.KK PySem.Challenge.pw_whencewise_k60_a_step.main.body K60.as) (kk:=K60.kk) (e:=K60.qX) rfl rfl rfl (λw h Y=>PySem.W.kIn_of Y) K60.gf K60.tabs rfl rfl ⟨rfl,by decide,by decide⟩ K60.main)
