import PyProof.Rows.All
import Wide.All
import OpenK.AllK
import Wide.FinOn
import Lean
import PyProof.EqAt
import PyProof.EqKinds
import PyProof.TupleCall
import PySem.Challenge.RW_whencewise_k33_turned
set_option compiler.extract_closed false
set_option bootstrap.genMatcherCode false
set_option maxHeartbeats 0
set_option linter.all false
section
open PySem PySem.Spec PyProof.Rows
def aLH:=@List.mem_cons_of_mem
def aLI:=@decide_eq_false
def aLJ:=@beq_eq_false_iff_ne
def aLK:=@Heap.get?_push_size
def aLL:=@Heap.lt_size
def aLM:=@Nat.lt_of_lt_of_le
def aLN:=@Nat.lt_irrefl
def aLO:=@Nat.ne_of_lt
def aLP:=@List.mem_filter
def aLQ:=@List.mem_range
def aLR:=@Array.getElem?_eq_some_iff
def aLS:=@Nat.le_trans
def aLT:=@List.filterMap_cons
def aLU:=@List.mem_cons
def aLV:=@List.mem_append
def aLW:=@List.mem_append_left
def aLX:=@List.getElem?_eq_some_iff
def aLY:=@List.getElem?_set_self
def aLZ:=@List.getElem?_set_ne
def aL0:=@Option.some.inj
def aL1:=@wpAny_mono
def aL2:=@wpAny_truthy_bool
def aL3:=@Array.length_toList
def aL4:=@wpAny_execs_cons
def aL5:=@wpAny_pure
def aL6:=@wpAny_bind
def aL7:=@Nat.le_refl
def aL8:=@PyProof.Rows.callWith_type1
def aL9:=@List.mem_filterMap
def aMA:=@List.mem_append_right
def aMB:=@wpAny_passesOwn
def aMC:=@sizeLine_eq
def aMD:=@List.size_toArray
def aME:=@Array.mem_toList_iff
def aMF:=@Bool.false_ne_true
def aMG:=@beq_iff_eq
def aMH:=@List.length_cons
def aMI:=@List.map_cons
def aMJ:=@List.length_map
def aMK:=@Heap.size_push
def aML:=@Nat.le_of_eq
def aMM:=@Nat.lt_succ_self
def aMN:=@Nat.zero_le
def aMO:=@List.append_nil
def aMP:=@wpAny_standAt
def aMQ:=@List.nodup_cons
def aMR:=@List.of_mem_zip
def aMS:=@W.cellsFrom_some
def aMT:=@List.length_take
def aMU:=@PySem.mem_of_lookup
def aMV:=@List.getElem?_append_right
def aMW:=@List.getElem?_replicate
def aMX:=@List.getElem?_append_left
def aMY:=@List.getElem?_map
def aMZ:=@List.mem_of_getElem?
def aM0:=@List.length_append
def aM1:=@codeAny_call_function
def aM2:=@wpAny_Call_Name_kw
def aM3:=@concat_meets
def aM4:=@noFill_tuple_add
def aM5:=@F.slot_tuple_add
def aM6:=@F.entry_tuple_add
def aM7:=@F.args_tuple_add_2
def aM8:=@Int.toNat_natCast
def aM9:=@if_false
def aNA:=@if_true
def aNB:=@wpAny_field
def aNC:=@List.length_drop
def aND:=@wpAny_holding
def aNE:=@wpAny_callSpecial?_slot
def aNF:=@PyProof.Rows.slot_tuple_getitem
def aNG:=@wpAny_call_entry
def aNH:=@wpAny_typeOf
def aNI:=@Bool.and_eq_true
def aNJ:=@wpAny_newObj_type
def aNK:=@Option.getD_none
def aNL:=@call_meets
def aNM:=@List.length_singleton
def aNN:=@List.map_nil
def aNO:=@decide_eq_true
def aNP:=@codeAny_mono
def aNQ:=@List.cons_append
def aNR:=@Nat.add_assoc
def aNS:=@wpAny_specialOf
def aNT:=@wpAny_forIn_list
def aNU:=@Nat.min_le_left
def aNV:=@Bool.false_eq_true
def aNW:=@List.nil_append
def aNX:=@Option.some.injEq
def aNY:=@List.lookup_cons
def aNZ:=@decide_eq_true_eq
def aN0:=@of_decide_eq_true
def aN1:=@Bool.or_eq_true
def aN2:=@Array.all_eq_true_iff_forall_mem
def aN3:=@wpAny_getItem_str_slice
def aN4:=@post_val_or_str
def aN5:=@Txt.slice_le
def aN6:=@Array.mem_of_getElem?
def aN7:=@W.kia_one
def aN8:=@List.length_set
def aN9:=@List.getElem?_set
def aOA:=@List.getElem?_range
def aOB:=@Option.map_some
def aOC:=@List.getElem?_eq_getElem
def aOD:=@List.forIn_nil
def aOE:=@List.forIn_cons
def aOF:=@LawfulMonad.pure_bind
def aOG:=@beq_self_eq_true
def aOH:=@wpAny_call
def aOI:=@W.callWith_K
def aOJ:=@List.find?_some
def aOK:=@List.mem_of_find?_eq_some
def aOL:=@Nat.zero_add
def aOM:=@List.mem_singleton
def aON:=@List.zip_cons_cons
def aOO:=@List.length_nil
def aOP:=@or_false
def aOQ:=@F.slot_tuple_mul
def aOR:=@F.entry_tuple_mul
def aOS:=@F.args_tuple_mul_2
def aOT:=@List.find?_cons
def aOU:=@Option.map_eq_some_iff
def aOV:=@Array.getD_eq_getD_getElem?
def aOW:=@Array.Perm.refl
def aOX:=@codeAny_builtin
def aOY:=@PyProof.Rows.listUpdate_at
def aOZ:=@PyProof.Rows.get?_update_seq
def aO0:=@wpAny_dictEntries
def aO1:=@wpAny_dictEpoch
def aO2:=@F.slot_dict_keyiterator_next
def aO3:=@F.entry_dict_keyiterator_next
def aO4:=@F.args_dict_keyiterator_next_1
def aO5:=@wpAny_typeNameOfWhole_keyiter
def aO6:=@wpAny_fieldsOf
def aO7:=@wpAny_typeNameOf_keyiter
def aO8:=@wpAny_isOneOf_keyiter
def aO9:=@Heap.SameBut.update
def aPA:=@List.length_range
def aPB:=@List.not_mem_nil
def aPC:=@List.Perm.refl
def aPD:=@List.pairwise_cons
def aPE:=@List.mem_map
def aPF:=@List.map_map
def aPG:=@List.all_eq_true
def aPH:=@List.isEmpty_iff
def aPI:=@Option.isNone_iff_eq_none
def aPJ:=@List.getElem_of_mem
def aPK:=@List.nodup_append
def aPL:=@Nat.le_add_right
def aPM:=@Nat.add_sub_cancel_left
def aPN:=@List.getElem?_inj
def aPO:=@List.contains_iff_mem
def aPP:=@Bool.not_eq_true'
def aPQ:=@bne_iff_ne
def aPR:=@List.all_cons
def aPS:=@List.getElem?_cons_succ
def aPT:=@Array.eq_empty_of_size_eq_zero
def aPU:=@W.mg_of
def aPV:=@Int.emod_nonneg
def aPW:=@Int.emod_lt_of_pos
def aPX:=@Int.eq_ofNat_of_zero_le
def aPY:=@List.map_append
def aPZ:=@Classical.axiomOfChoice
end
abbrev aP5:=PySem.Challenge.pw_whencewise_k33_turned
abbrev aP0:=PySem.Value
abbrev aP1:=PySem.Shared
abbrev aP2:=PySem.Around
abbrev aP3:=PySem.World
abbrev aP4:=PySem.Program
abbrev VSP := PySem.Value -> PySem.Shared -> Prop
abbrev Fg := PySem.W.Frag
abbrev LAO := List (PySem.Addr × PySem.Obj)
abbrev SOV := PySem.Str -> Option PySem.Value
def mcm {α : Type} {a b : α} {l : List α} (h : a ∈ l) : a ∈ b :: l := aLH _ h
def mcs {α : Type} {a : α} {l : List α} : a ∈ a :: l := List.mem_cons_self
def hps {h : PySem.Heap} {o p : PySem.Obj} {b : PySem.Addr} (e : h.get? b = some o) : (h.push p).get? b = some o := PySem.Heap.get?_push_of_some _ e
set_option Elab.async false
set_option maxRecDepth 100000
noncomputable section
open PySem PySem.Spec PyProof.Rows
namespace L2
abbrev Key:=Sum Int Str
def pW:Key->aP0->Bool
 |.inl k,v=>Value.isInt k v
 |.inr x,v=>Value.isStrOf x v
def keyH(w:aP3):Key->Int
 |.inl k=>hashInt k
 |.inr x=>hashStr w x
def e8:∀{k:Key}{v:aP0},pW k v=true->(∃i t,k=Sum.inl i/\v=Value.int i t)\/(∃x t,k=Sum.inr x/\v=Value.str x t)
 |.inl i,v,h=>by obtain⟨t,e⟩:=Value.isInt_shape (k:=i) (v:=v) h;exact .inl ⟨i,t,rfl,e⟩
 |.inr x,v,h=>by obtain⟨t,e⟩:=Value.isStrOf_shape (x:=x) (v:=v) h;exact .inr ⟨x,t,rfl,e⟩
def xW(a b:Int):decide ((Sum.inl a:Key)=Sum.inl b)=(a==b):=by
 by_cases e:a=b
 . subst e;simp
 . have h:¬ (Sum.inl a:Key)=Sum.inl b:=λq=>e (Sum.inl.inj q);rw[aLI h];exact(aLJ.mpr e).symm
def xX(a b:Str):decide ((Sum.inr a:Key)=Sum.inr b)=decide (a=b):=by
 by_cases e:a=b
 . subst e;simp
 . have h:¬ (Sum.inr a:Key)=Sum.inr b:=λq=>e (Sum.inr.inj q);rw[aLI h,aLI e]
def xY(a:Int)(b:Str):decide ((Sum.inl a:Key)=Sum.inr b)=false:=aLI (λq=>nomatch q)
def xZ(a:Str)(b:Int):decide ((Sum.inr a:Key)=Sum.inl b)=false:=aLI (λq=>nomatch q)
noncomputable def kG(prog:aP4)(w:aP3):PySem.KeyKind prog w Key where
 is:=pW
 hash:=keyH w
 inj:=λv a b ha hb=>by
  rcases e8 ha with⟨i,t,rfl,rfl⟩|⟨x,t,rfl,rfl⟩
  . rcases e8 hb with⟨j,u,rfl,e⟩|⟨y,u,rfl,e⟩
    . injection e with e1 _;rw[e1]
    . exact nomatch e
  . rcases e8 hb with⟨j,u,rfl,e⟩|⟨y,u,rfl,e⟩
    . exact nomatch e
    . injection e with e1 _;rw[e1]
 byValue:=λk v h=>by rcases e8 h with⟨i,t,rfl,rfl⟩|⟨x,t,rfl,rfl⟩ <;> rfl
 pyHash:=λhv h=>by
  rcases e8 hv with⟨i,t,rfl,rfl⟩|⟨x,t,rfl,rfl⟩
  . exact wpAny_pyHash_int h
  . exact wpAny_pyHash_str h
 eqBool:=λhu hv h=>by
  rcases e8 hu with⟨i,t,rfl,rfl⟩|⟨x,t,rfl,rfl⟩
  . rcases e8 hv with⟨j,u,rfl,rfl⟩|⟨y,u,rfl,rfl⟩
    . rw[xW]at h;exact wpAny_eqBool_int h
    . rw[xY]at h;exact SeqAt.EqAt.int_str i t y u _ _ _ _ h
  . rcases e8 hv with⟨j,u,rfl,rfl⟩|⟨y,u,rfl,rfl⟩
    . rw[xZ]at h;exact SeqAt.EqAt.str_int x t j u _ _ _ _ h
    . rw[xX]at h;exact wpAny_eqBool_str h
 «strs»:=λk x t v h=>by
  rcases e8 h with⟨i,u,rfl,e⟩|⟨y,u,rfl,e⟩
  . exact nomatch e
  . injection e with e1 _
    subst e1;cases v <;> rfl
inductive V where
 |non|bl (b:Bool)|int (i:Int)|str (x:Str)|byt (b:Array UInt8)|flt (b:UInt64)|ref (a:Addr)|ty (n:String)
 deriving DecidableEq
def aH:V->aP0->Prop
 |.non,u=>u=Value.none
 |.bl b,u=>u=Value.bool b
 |.int i,u=>∃t,u=Value.int i t
 |.str x,u=>∃t,u=Value.str x t
 |.byt b,u=>∃t,u=Value.bytes b t
 |.flt b,u=>∃t,u=Value.float b t
 |.ref a,u=>u=Value.ref a
 |.ty n,u=>u=Value.type n
abbrev aL:List V->List aP0->Prop:=Paired aH
theorem aL.length{xs:List V}{us:List aP0}(r:aL xs us):xs.length=us.length:=Paired.length r
theorem aL.get:∀{xs:List V}{us:List aP0}{i:Nat}{x:V},aL xs us->xs[i]? = some x->∃u,us[i]? = some u/\aH x u
 |_,_,_,_,.nil,e=>by simp at e
 |_,_,0,_,.cons r _,e=>by simp at e;subst e;exact⟨_,rfl,r⟩
 |_,_,i+1,x,.cons _ t,e=>by
  obtain⟨u,h1,h2⟩:=aL.get (i:=i) (x:=x) t (by simpa using e)
  exact⟨u,by simpa using h1,h2⟩
theorem aL.append:∀{xs ys:List V}{us ws:List aP0},aL xs us->aL ys ws->aL (xs++ys) (us++ws)
 |_,_,_,_,.nil,s=>s
 |_,_,_,_,.cons r t,s=>.cons r (aL.append t s)
theorem aL.take:∀{xs:List V}{us:List aP0} (n:Nat),aL xs us->aL (xs.take n) (us.take n)
 |_,_,0,_=>.nil
 |_,_,_+1,.nil=>.nil
 |_,_,n+1,.cons r t=>.cons r (aL.take n t)
theorem aL.drop:∀{xs:List V}{us:List aP0} (n:Nat),aL xs us->aL (xs.drop n) (us.drop n)
 |_,_,0,r=>r
 |_,_,_+1,.nil=>.nil
 |_,_,n+1,.cons _ t=>aL.drop n t
def cZ:Option V->Option aP0->Prop
 |some v,some u=>aH v u
 |none,none=>True
 |_,_=>False
def KV{κ:Type}:List (κ×V)->List (κ×aP0)->Prop:=Paired λ(p:κ×V) (q:κ×aP0)=>p.1=q.1/\aH p.2 q.2
def kV:Key->V
 |.inl i=>.int i
 |.inr x=>.str x
inductive N where|i (n:Int)|s (x:Str)|t (xs:List N)
mutual
def dO(w:aP3):N->Int
 |.i n=>hashInt n
 |.s x=>hashStr w x
 |.t xs=>reduceHash (Builtin.Tuple.tupleHashOf (c7 w xs))
def c7(w:aP3):List N->List Int
 |[]=>[]
 |x::xs=>dO w x::c7 w xs
end
def pX(w:aP3)(x:N×Addr×aP0):DictEntry:=⟨dO w x.1,.ref x.2.1,x.2.2⟩
inductive HO where
 /-- a list -/
 |lst (xs:List V)
 /-- a tuple (never changes) -/
 |tup (xs:List V)
 /-- a dict whose keys are ints and eL;one whose keys are tuples of ints and eL (the empty one is both) -/
 |dK (kvs:List (Key×V))|dT (kvs:List (List Key×V))
 |dN (kvs:List (N×Addr×V))
 /-- a set of ints: its members,its size -/
 |set (S:Key->Bool) (n:Nat)
 /-- an instance of the class at C,its dict at dx,its attributes -/
 |ins (C dx:Addr) (fs:List (Str×V))
 /-- the dict of the instance at x -/
 |own (x:Addr)
 /-- the dict of an exception -/
 |xd (fs:List (Str×V))
 /-- a bound method,f of x -/
 |met (f x:Addr)
 /-- a range object lo,lo+1,.. below hi -/
 |rng (lo hi:Int)
 /-- a thing that is known to the object (the script;a dict while a loop walks it): read,never written while it is so -/
 |frz (o:Obj) (u:HO)
 /-- a code object's table -/
 |tbl (ps:Array aP0)
 /-- a code record of that name -/
 |crec (q:Str)
 /-- any other thing,by what is true of its one object (a def of one's own: SetO a S n:=HO.ext λh=>..) -/
 |ext (φ:Heap->Prop)
abbrev Hp:=Addr->Option HO
noncomputable def yA(q:Str):Option Str:=if q="valued.<locals>." then some "worth" else if q="lifted.<locals>." then some "lift" else none
end L2
open L2
variable {α κ:Type}{xs vs:List L2.V}{us:List aP0}{H H' F' F1 F0 H0:L2.Hp}{b it l dx:Addr}{h h' base hp:Heap}{items:Array aP0}{P prog:aP4}{w:aP3}{u cdv:aP0}{x q y qual z f0:Str}{K:Fg}{aA pins':LAO}{s s':aP1}{t' i j k n ep:Nat}{ch fp:List Addr}{v:L2.V}{Q:Unit->aP1->Prop}{pos pos' p apos p2 cpos q' ap cp p1 q1:Pos}{st:Stmt}{c tg aS elt ke ea:Expr}{lo hi:Option Int}{body sts:List Stmt}{mA mg:SOV}{kw:List (Str×aP0)}{env:Env}{fd:FuncData}{ps zs loose aI tgN:List Str}{outer:List Env}{ks:List L2.N}{sc scope:Scope}{kvs:List (L2.N×Addr×L2.V)}{XP:(Str->Option aP0)->Heap->Prop}{YP:aP3->Heap->Prop}{ifs:List Expr}{caps:List Nat}{neg:Bool}{cl:List (Str×Addr)}{fa:Str->Addr}{kr:L2.N}{wy:Int}
namespace L2
def jB(q:Str)(l:Nat):Str:=match yA q with
 |some n=>n
 |none=>if q="_law_way.<locals>." then(([(274,"_law_wheeled"),(277,"_law_whether"),(280,"_law_priced"),(285,"_law_halved"),(288,"_law_paired"),(291,"_law_heaped")]:List (Nat×Str)).lookup l).getD "<lambda>" else "<lambda>"
inductive HT where|tup (xs:List V)|crec (q:Str)
def HT.ho:HT->HO|.tup xs=>.tup xs|.crec q=>.crec q
noncomputable def upd(H:Hp)(a:Addr)(o:HO):Hp:=λb=>if b=a then some o else H b
def a9{a:Addr}{o:HO}:upd H a o a=some o:=by unfold upd;rw[if_pos rfl]
def aK{a:Addr}{o:HO}(h:b≠a):upd H a o b=H b:=by unfold upd;rw[if_neg h]
def bL{a:Addr}{o:HO}(h:H a=some o)(h':H b=none):a≠b:=by intro e;subst e;rw[h]at h';cases h'
def eP(h:Heap)(a:Addr)(items:Array aP0):Prop:=∃o,h.get? a=some o/\o.cls=.type "tuple" /\ o.dict=none/\∃n,o.data=.seq items n
def eP.isTup{a:Addr}(x:eP h a items):IsTup h a items:=by obtain⟨o,e,c,_,n,d⟩:=x;exact⟨o,e,c,n,d⟩
def eP.new(h:Heap)(items:Array aP0):eP (h.push { cls:=.type "tuple", data:=.seq items }) h.objs.size items:=⟨_,aLK _ rfl,rfl,rfl,_,rfl⟩
section
variable (P:aP4)(w:aP3)
def bW(H:Hp)(h:Heap)(a:Addr):HO->Prop
 |.lst xs=>xs.length<=sizeLine/\∃(its:List aP0) (n:Nat),aL xs its/\h.get? a=some { cls:=.type "list", data:=.seq its.toArray n }
 |.tup xs=>xs.length<=sizeLine/\∃its:List aP0,aL xs its/\eP h a its.toArray
 |.dK kvs=>kvs.length<=sizeLine/\(a==sysModules)=false/\∃vs,KV kvs vs/\h.DictOf (kG P w) a vs
 | .dT kvs => kvs.length ≤ sizeLine ∧ (a == sysModules) = false ∧ ∃ xs : List (List Key × Addr × aP0),
     Paired (λ(p:List Key×V) (q:List Key×Addr×aP0)=>p.1=q.1/\H q.2.1=some (.tup (p.1.map kV))/\aH p.2 q.2.2) kvs xs /\
     ∃o es ep,h.get? a=some o/\o.ExactDict/\o.data=.dict es ep/\es.toList=xs.map (entryOfKey (tupleKind (kG P w)))/\(xs.map (·.1)).Nodup
 | .dN kvs => kvs.length ≤ sizeLine ∧ (a == sysModules) = false ∧ ∃ xs : List (N × Addr × aP0), Paired (fun (p : N × Addr × V) (q : N × Addr × aP0) => p.1 = q.1 ∧ p.2.1 = q.2.1 ∧ aH p.2.2 q.2.2) kvs xs ∧
     ∃o es ep,h.get? a=some o/\o.ExactDict/\o.data=.dict es ep/\es.toList=xs.map (pX w)/\(xs.map (·.1)).Nodup
 |.set S n=>h.SetOf (kG P w) a S n
 | .ins C dx fs => H dx = some (.own a) ∧ fs.length ≤ 1000 ∧ dx ≠ a ∧ h.get? a = some (W.instObj C dx) ∧
     ∃mA,h.Ns1 dx mA/\(∀f,cZ (fs.lookup f) (mA f))/\PySem.Within mA (fs.map (·.1))
 |.own _=>∃o,h.get? a=some o
 |.xd fs=>∃mA,h.Ns1 a mA/\∀f,cZ (fs.lookup f) (mA f)
 |.rng lo hi=>∃t u v,h.get? a=some { cls:=.type "range", data:=.fields #[.int lo t,.int hi u,.int 1 v] }
 |.frz o u=>h.get? a=some o/\bW H h a u
 |.tbl ps=>∃(q:Str) (m:Array aP0),ps[0]? = some (.str q 0)/\h.get? a=some ⟨.none,none,.fields m,#[]⟩/\TriplesOk m.toList/\∀z cv,codeAmong z m.toList=some cv->∃c,cv=.ref c/\H c=some (.crec (q++jB q z.line))
 |.crec q=>∃oc vs t,h.get? a=some oc/\oc.data=.fields vs/\vs[1]? = some (.str q t)
 |.met f x=>h.get? a=some (W.methodObj (.ref f) (.ref x))
 |.ext φ=>φ h/\(∃o,h.get? a=some o)/\∀h1 h2:Heap,φ h1->(∀o,h1.get? a=some o->h2.get? a=some o)->φ h2
def HOk(H:Hp)(h:Heap):Prop:=∀a o,H a=some o->bW P w H h a o
end
section
variable {a:Addr}{o:HO}
theorem bW.lt(x:bW P w H h a o):a<h.objs.size:=by
 cases o with
 |lst xs=>obtain⟨_,_,_,_,e⟩:=x;exact aLL e
 |tup xs=>obtain⟨_,_,_,p⟩:=x;exact p.isTup.lt
 |dK kvs=>obtain⟨_,_,_,_,o,_,_,e,_⟩:=x;exact aLL e
 |dT kvs=>obtain⟨_,_,_,_,o,_,_,e,_⟩:=x;exact aLL e
 |dN kvs=>obtain⟨_,_,_,_,o,_,_,e,_⟩:=x;exact aLL e
 |set S n=>obtain⟨o,_,_,_,e,_⟩:=x;exact aLL e
 |ins C dx fs=>obtain⟨_,_,_,e,_⟩:=x;exact aLL e
 |own y=>obtain⟨_,e⟩:=x;exact aLL e
 |xd fs=>obtain⟨_,⟨_,_,_,e,_⟩,_⟩:=x;exact aLL e
 |rng lo hi=>obtain⟨_,_,_,e⟩:=x;exact aLL e
 |frz ob u=>obtain⟨e,_⟩:=x;exact aLL e
 |tbl ps=>obtain⟨_,_,_,e,_⟩:=x;exact aLL e
 |crec q=>obtain⟨_,_,_,e,_⟩:=x;exact aLL e
 |met f y=>exact aLL (show h.get? a=some _ from x)
 |ext φ=>obtain⟨_,⟨_,e⟩,_⟩:=x;exact aLL e
theorem Paired.mapP{α β:Type}{F G:α->β->Prop}:∀{l₁:List α}{l₂:List β},Paired F l₁ l₂->(∀a b,F a b->G a b)->Paired G l₁ l₂
 |_,_,.nil,_=>.nil
 |_,_,.cons r t,f=>.cons (f _ _ r) (Paired.mapP t f)
def bW.stay(x:bW P w H h a o)(k:∀b u,(b=a\/H b=some (.own a))->h.get? b=some u->h'.get? b=some u)(ho:∀b,H b=some (.own a)->H' b=some (.own a))(ht:∀(b:Addr) (u:HT),H b=some u.ho->H' b=some u.ho):bW P w H' h' a o:=by
 induction o with
 |lst xs=>obtain⟨z,its,n,r,e⟩:=x;exact⟨z,its,n,r,k _ _ (.inl rfl) e⟩
 |tup xs=>obtain⟨z,its,r,ob,e,c⟩:=x;exact⟨z,its,r,ob,k _ _ (.inl rfl) e,c⟩
 |dK kvs=>obtain⟨z,y,vs,r,ob,es,ep,e,c⟩:=x;exact⟨z,y,vs,r,ob,es,ep,k _ _ (.inl rfl) e,c⟩
 |dT kvs=>obtain⟨z,y,xs,r,ob,es,ep,e,c⟩:=x;exact⟨z,y,xs,Paired.mapP r λp q z=>⟨z.1,ht _ (.tup _) z.2.1,z.2.2⟩,ob,es,ep,k _ _ (.inl rfl) e,c⟩
 |dN kvs=>obtain⟨z,y,xs,r,ob,es,ep,e,c⟩:=x;exact⟨z,y,xs,r,ob,es,ep,k _ _ (.inl rfl) e,c⟩
 |set S n=>obtain⟨ob,es,ep,t,e,c⟩:=x;exact⟨ob,es,ep,t,k _ _ (.inl rfl) e,c⟩
 |ins C dx fs=>obtain⟨d,z,ne,e,mA,⟨od,es,ep,e2,c⟩,r⟩:=x;exact⟨ho _ d,z,ne,k _ _ (.inl rfl) e,mA,⟨od,es,ep,k _ _ (.inr d) e2,c⟩,r⟩
 |own y=>obtain⟨ob,e⟩:=x;exact⟨ob,k _ _ (.inl rfl) e⟩
 |xd fs=>obtain⟨mA,⟨od,es,ep,e,c⟩,r⟩:=x;exact⟨mA,⟨od,es,ep,k _ _ (.inl rfl) e,c⟩,r⟩
 |rng lo hi=>obtain⟨t,u,v,e⟩:=x;exact⟨t,u,v,k _ _ (.inl rfl) e⟩
 |frz ob u ih=>obtain⟨e,q⟩:=x;exact⟨k _ _ (.inl rfl) e,ih q⟩
 |tbl ps =>
  obtain⟨q,m,e1,e2,e3,e4⟩:=x;exact⟨q,m,e1,k _ _ (.inl rfl) e2,e3,λz cv f=>by
   obtain⟨c,g1,g2⟩:=e4 z cv f;exact⟨c,g1,ht _ (.crec _) g2⟩⟩
 |crec q=>obtain⟨oc,vs,t,e,r⟩:=x;exact⟨oc,vs,t,k _ _ (.inl rfl) e,r⟩
 |met f y=>have e:h.get? a=some (W.methodObj (.ref f) (.ref y)):=x;show h'.get? a=some (W.methodObj (.ref f) (.ref y));exact k a _ (.inl rfl) e
 |ext φ=>obtain⟨p,⟨o,e⟩,st⟩:=x;exact⟨st _ _ p λo q=>k _ _ (.inl rfl) q,⟨o,k _ _ (.inl rfl) e⟩,st⟩
theorem HOk.lt(x:HOk P w H h)(e:H a=some o):a<h.objs.size:=(x a o e).lt
def HOk.fresh(x:HOk P w H h)(e:h.objs.size<=a):H a=none:=by
 cases q:H a with
 |none=>rfl
 |some u=>exact absurd (aLM (x.lt q) e) (aLN _)
def HOk.kept(x:HOk P w H h)(k:∀b u,h.get? b=some u->h'.get? b=some u):HOk P w H h':=λa o e =>
 (x a o e).stay (λb u _ q=>k b u q) (λ_ q=>q) λ_ _ q=>q
def HOk.laid(x:HOk P w H h)(k:∀b u,h.get? b=some u->h'.get? b=some u)(hp:h.objs.size<=a)(new:bW P w (upd H a o) h' a o):HOk P w (upd H a o) h':=λb u e=>by
 have hn:=x.fresh hp;by_cases hb:b=a
 . subst hb;rw[a9]at e;cases e;exact new
 . rw[aK hb]at e;exact(x b u e).stay (λc v _ q=>k c v q) (λc q=>by rw[aK (bL q hn)];exact q) λc xs q=>by rw[aK (bL q hn)];exact q
end
def Rd(H:Hp)(a:Addr)(u:HO):Prop:=H a=some u\/∃o,H a=some (.frz o u)
def Rd.ok{a:Addr}{u:HO}(r:Rd H a u)(x:HOk P w H h):bW P w H h a u:=by
 rcases r with r|⟨o,r⟩
 . exact x a u r
 . obtain⟨_,q⟩:=x a _ r;exact q
def Mut:Option HO->Prop
 |some (.lst _)=>True
 |some (.dK _)=>True
 |some (.dT _)=>True
 |some (.dN _)=>True
 |some (.set _ _)=>True
 |some (.ins _ _ _)=>True
 |some (.ext _)=>True
 |_=>False
section
variable {x e:Addr}{o':HO}
def HOk.write(ok:HOk P w H h)(mu:Mut (H x))(he:e=x\/H e=some (.own x))(k:∀b u,b≠e->h.get? b=some u->h'.get? b=some u)(heo:∃u,h'.get? e=some u)(new:bW P w (upd H x o') h' x o'):HOk P w (upd H x o') h':=λb u q=>by
 have nown:∀c y,H c=some (.own y)->c≠x:=λc y r z=>by subst z;rw[r]at mu;exact mu
 have ntup:∀(c:Addr) (u:HT),H c=some u.ho->c≠x:=λc u r z=>by subst z;rw[r]at mu;cases u <;> exact mu
 by_cases hb:b=x
 . subst hb;rw[a9]at q;cases q;exact new
 . rw[aK hb]at q;by_cases hbe:b=e
   . have q':H b=some (.own x):=by
       rcases he with z|z
       . exact absurd (hbe.trans z) hb
       . rw[hbe];exact z
     rw[q]at q';cases q';obtain⟨v,hv⟩:=heo;exact⟨v,by rw[hbe];exact hv⟩
   . refine(ok b u q).stay (λc v hc r=>k c v ?_ r) (λc r=>by rw[aK (nown c b r)];exact r) λc xs r=>by rw[aK (ntup c xs r)];exact r
     rcases hc with rfl|hc
     . exact hbe
     . rintro rfl;rcases he with z|z
       . exact nown c b hc z
       . rw[hc]at z;cases z;exact hb rfl
end
structure Un(fs ex:List Addr)(H H':Hp)(h h':Heap):Prop where
 keep:∀b o,h.get? b=some o->H b=none->b∉fs->b∉ex->h'.get? b=some o
 slot:∀b o,h.get? b=some o->H b=none->b∈fs->b∉ex->∃sl,h'.get? b=some {o with slots:=sl}
 free:∀b o,h.get? b=some o->H b=none->b∉ex->H' b=none
 there:∀b o,h.get? b=some o->b∉ex->∃o',h'.get? b=some o'
 tups:∀b xs,H b=some (.tup xs)->H' b=some (.tup xs)
 frzs:∀b o u,H b=some (.frz o u)->H' b=some (.frz o u)
 tbls:∀b ps,H b=some (.tbl ps)->∃more,H' b=some (.tbl (ps++more))
section
variable {fs fs' ex ex':List Addr}{H1 H2:Hp}{h1 h2:Heap}{a x e:Addr}{o:HO}
def Un.any(u:Un fs ex H H1 h h1){ob:Obj}(q:h.get? b=some ob)(n:H b=none)(hx:b∉ex):∃sl,h1.get? b=some {ob with slots:=sl}:=by
 by_cases hb:b∈fs
 . exact u.slot b ob q n hb hx
 . exact⟨ob.slots,u.keep b ob q n hb hx⟩
def Un.kept(k:∀b u,h.get? b=some u->h'.get? b=some u):Un fs ex H H h h' :=
 ⟨λb ob q _ _ _=>k b ob q,λb ob q _ _ _=>⟨ob.slots,k b ob q⟩,λ_ _ _ n _=>n,λb ob q _=>⟨ob,k b ob q⟩,λ_ _ q=>q,λ_ _ _ q=>q,λ_ ps q=>⟨#[],by rw[q];simp⟩⟩
def Un.refl:Un fs ex H H h h:=Un.kept λ_ _ q=>q
def Un.laid(k:∀b u,h.get? b=some u->h'.get? b=some u)(hp:h.objs.size<=a)(hn:H a=none):Un fs ex H (upd H a o) h h' where
 keep:=λb u q _ _ _=>k b u q
 slot:=λb u q _ _ _=>⟨u.slots,k b u q⟩
 free:=λb u q n _=>by rw[aK (aLO (aLM (aLL q) hp))];exact n
 there:=λb u q _=>⟨u,k b u q⟩
 tups:=λb xs q=>by rw[aK (bL q hn)];exact q
 frzs:=λb u xs q=>by rw[aK (bL q hn)];exact q
 tbls:=λb ps q=>⟨#[],by rw[aK (bL q hn),q];simp⟩
def Un.write(mu:Mut (H x))(he:e=x\/H e=some (.own x))(k:∀b u,b≠e->h.get? b=some u->h'.get? b=some u)(heo:∃u,h'.get? e=some u):Un fs ex H (upd H x o) h h':=by
 have hx:∀b,H b=none->b≠x:=λb n z=>by subst z;rw[n]at mu;exact mu
 have hb:∀b,H b=none->b≠e:=λb n z=>by
  subst z;rcases he with r|r
  . exact hx b n r
  . rw[n]at r;cases r
 have hm:∀b u,H b=some u -> ¬ Mut (some u)->b≠x:=λb u q nm z=>by subst z;rw[q]at mu;exact nm mu
 refine⟨λb u q n _ _=>k b u (hb b n) q,λb u q n _ _=>⟨u.slots,k b u (hb b n) q⟩,λb u q n _=>by rw[aK (hx b n)];exact n,λb u q _=>?_,
  λb xs q=>by rw[aK (hm b _ q λz=>z)];exact q,λb u xs q=>by rw[aK (hm b _ q λz=>z)];exact q,λb ps q=>⟨#[],by rw[aK (hm b _ q λz=>z),q];simp⟩⟩
 by_cases hbe:b=e
 . subst hbe;exact heo
 . exact⟨u,k b u hbe q⟩
end
def trk(h:Heap)(H:Hp):List Addr:=(List.range h.objs.size).filter λa=>(H a).isSome
def e9(h:Heap)(H:Hp):Heap:=W.hideAll h (trk h H)
def yB(h:Heap)(H:Hp):(e9 h H).objs.size=h.objs.size:=W.hideAll_size _ _
def mQ{o:Obj}(e:h.get? b=some o)(n:H b=none):(e9 h H).get? b=some o :=
 W.hideAll_get _ e λhm=>by have q:(H b).isSome=true:=(aLP.mp hm).2;rw[n]at q;simp at q
def yC{o:Obj}(e:(e9 h H).get? b=some o):h.get? b=some o/\H b=none:=by
 have e':h.get? b=some o:=W.of_hideAll (trk h H) e;refine⟨e',?_⟩;cases q:H b with
 |none=>rfl
 |some x =>
  have hm:b∈trk h H:=aLP.mpr ⟨aLQ.mpr (aLL e'),by simp[q]⟩
  have z:(e9 h H).get? b=none:=W.hideAll_none (trk h H) hm;rw[z]at e;cases e
def yD(g h:Heap)(L:Addr):LAO:=(List.range h.objs.size).filterMap λa=>if a=L\/(g.get? a).isSome=true then none else(h.get? a).map λo=>(a,o)
def rest(g h:Heap)(L d:Addr):LAO:=(yD g h L).filter λp=>decide (p.1≠d)
structure Mod(K:Fg)(mg:SOV)(base:Heap):Prop where
 kin:K.In base
 glob:base.Ns mainGlobals mg
 blt:∃mb,base.Ns builtinsNs mb/\∀x:Str,x ≠ "__name__" -> mb x=bootBuiltins x
 nolimit:base.NoLimit
 bmod:∃bm ob,mg "__builtins__" = some (.ref bm)/\bm≠builtinsNs/\base.get? bm=some ob/\ob.cls=.type "module" /\ ob.dict=some builtinsNs/\ob.data=.plain
def CdT(base:Heap)(H:Hp)(q:Str)(cd:aP0):Prop:=∃c T ps,cd=.ref c/\W.CodeHd base c T/\H T=some (.tbl ps)/\ps[0]? = some (.str (q ++ ".<locals>.") 0)
def CdT.mono{cd:aP0}(x:CdT base H q cd)(t:∀b ps,H b=some (.tbl ps)->∃more,H' b=some (.tbl (ps++more))):CdT base H' q cd:=by
 obtain⟨c,T,ps,e1,e2,e3,e4⟩:=x;obtain⟨m,e5⟩:=t T ps e3;refine⟨c,T,_,e1,e2,e5,?_⟩;rw[Array.getElem?_append_left (by have:=(aLR.mp e4).1;exact this)]
 exact e4
def iC(K:Fg)(base:Heap)(H:Hp):Prop:=∀cd q,W.codeIn K cd q=true->CdT base H q cd
theorem iC.mono(x:iC K base H)(t:∀b ps,H b=some (.tbl ps)->∃more,H' b=some (.tbl (ps++more))):iC K base H':=λcd q e=>(x cd q e).mono t
structure Cx where
 prog:aP4
 w:aP3
 K:Fg
 mg:SOV
 base:Heap
 A:aP2
 N:List Str
 s₀:aP1
 H₀:Hp
 env:Env
 outer:List Env
 stack:List Env
 ex:List Addr
 fn:Str->Bool
 calm:Bool
 pn:LAO
 xe:VSP
def frs(l:List Env):List Addr:=l.filterMap (·.frame)
end L2
variable {X:L2.Cx}
namespace L2
abbrev Cx.fs(X:Cx):List Addr:=frs X.outer
def Vis(sc:Scope)(x:Str):Prop:=sc.names.lookup x=some .local\/sc.names.lookup x=some .cell\/sc.names.lookup x=some .free
def Loc(sc:Scope)(x:Str):Prop:=sc.names.lookup x=some .local\/sc.names.lookup x=some .cell
def Look(env:Env)(h:Heap)(m:SOV)(x:Str)(u:aP0):Prop :=
 (env.kindOf x=some .local/\m x=some u)\/((env.kindOf x=some .cell\/env.kindOf x=some .free)/\∃c,env.cells.lookup x=some c/\h.IsCell c (some u))
structure Cx.Ok(X:Cx):Prop where
 mod:Mod X.K X.mg X.base
 kind:X.env.scope.kind=.function
 glob:X.env.globals=mainGlobals
 blt:X.env.builtins=builtinsNs
 above:X.s₀.heap.objs.size<=X.env.locals
 inj:∀x y c,X.env.cells.lookup x=some c->X.env.cells.lookup y=some c->x=y
 has:∀x,(X.env.kindOf x=some .cell\/X.env.kindOf x=some .free)->∃c,X.env.cells.lookup x=some c
 cab:∀x c,X.fn x=true->X.env.cells.lookup x=some c->X.s₀.heap.objs.size<=c
 hd:X.calm=true->X.A.handled=none
 frames:X.A.frames=some X.stack
 stk:X.stack=X.outer\/(X.stack=X.env::X.outer/\X.env.frame=some X.env.locals)
 exf:∀b∈X.ex,b≠X.env.locals/\∀x c,X.env.cells.lookup x=some c->c≠b
 bs:∀b o,X.base.get? b=some o->X.s₀.heap.get? b=some o/\X.H₀ b=none
 bsz:X.base.objs.size<=X.s₀.heap.objs.size
 noex:∀b o,X.base.get? b=some o->b∉X.ex
 exfs:∀b∈X.ex,b∉X.fs
 funs:X.s₀.heap.FunFrames X.base X.outer
 frf:∀b∈X.fs,X.H₀ b=none
 tabs:iC X.K X.base X.H₀
structure Inv(X:Cx)(aA:LAO)(σ:List (Option V))(H:Hp)(s:aP1):Prop where
 ok:X.Ok
 os:s.os=X.s₀.os
 bare:AllBare s.gens
 base:Un X.fs X.ex X.H₀ H X.s₀.heap s.heap
 loc:∃m,s.heap.Ns X.env.locals m/\∀(i:Nat) (x:Str) (v:V),X.N[i]? = some x->σ[i]? = some (some v)->Vis X.env.scope x->∃u,aH v u/\Look X.env s.heap m x u
 cell:∀x c,X.env.cells.lookup x=some c->∃v,s.heap.IsCell c v
 free:H X.env.locals=none
 freeC:∀x c,X.env.cells.lookup x=some c->H c=none
 pin:∀p∈X.pn++aA,s.heap.get? p.1=some p.2/\H p.1=none/\p.1≠X.env.locals/\p.1∉X.fs/\∀v,p.2.data ≠ .cell v
 hok:HOk X.prog X.w H s.heap
 len:σ.length=X.N.length
section
variable {σ:List (Option V)}
def Cx.Ok.nofr(ok:X.Ok){o:Obj}(e:X.base.get? b=some o):b∉X.fs:=λhb=>by have:=(ok.funs.mem hb).1;rw[e]at this;cases this
theorem Inv.bs(I:Inv X aA σ H s):∀b o,X.base.get? b=some o->s.heap.get? b=some o/\H b=none:=λb o e =>
 ⟨I.base.keep b o (I.ok.bs b o e).1 (I.ok.bs b o e).2 (I.ok.nofr e) (I.ok.noex b o e),I.base.free b o (I.ok.bs b o e).1 (I.ok.bs b o e).2 (I.ok.noex b o e)⟩
def Inv.bk(I:Inv X aA σ H s):∀b o,X.base.get? b=some o->s.heap.get? b=some o:=λb o e=>(I.bs b o e).1
theorem Inv.mod(I:Inv X aA σ H s):Mod X.K X.mg X.base:=I.ok.mod
def Inv.kIn(I:Inv X aA σ H s):X.K.In s.heap:=I.ok.mod.kin.keeps I.bk
theorem Inv.lt(I:Inv X aA σ H s):X.env.locals<s.heap.objs.size:=let⟨_,hn,_⟩:=I.loc;hn.lt
def Inv.sz(I:Inv X aA σ H s):X.s₀.heap.objs.size<=s.heap.objs.size:=aLS I.ok.above (Nat.le_of_lt I.lt)
def Inv.nofs(I:Inv X aA σ H s){a:Addr}(h:s.heap.objs.size<=a):a∉X.fs:=λhb=>by obtain⟨_,o,ho,_⟩:=I.ok.funs.mem hb;exact absurd (aLM (aLL ho) (aLS I.sz h)) (aLN _)
def Inv.cne(I:Inv X aA σ H s):∀x c,X.env.cells.lookup x=some c->c≠X.env.locals:=λx c e z=>by obtain⟨v,o,ho,hd⟩:=I.cell x c e;obtain⟨m,⟨o',es,ep,ho',hd',_⟩,_⟩:=I.loc;rw[z,ho']at ho;cases ho;rw[hd']at hd;cases hd
theorem Inv.funs(I:Inv X aA σ H s):s.heap.FunFrames X.base X.outer:=by
 have all:∀(l:List Env),(∀b∈frs l,b∈X.fs)->X.s₀.heap.FunFrames X.base l->s.heap.FunFrames X.base l:=by
  intro l
  induction l with
  |nil=>intro _ _;trivial
  |cons env r ih =>
   intro hs hl;obtain⟨hk,⟨L,o,hf,hn,ho,hd⟩,hr⟩:=hl;have hL:L∈X.fs:=hs L (by unfold frs;rw[aLT,hf];exact mcs)
   obtain⟨sl,e⟩:=I.base.slot L o ho (I.ok.frf L hL) hL λz=>I.ok.exfs L z hL;exact⟨hk,⟨L,_,hf,hn,e,hd⟩,ih (λb hb=>hs b (by unfold frs;rw[aLT,hf];exact mcm hb)) hr⟩
 exact all X.outer (λ_ hb=>hb) I.ok.funs
theorem Inv.stack(I:Inv X aA σ H s):s.heap.FunFrames X.base X.stack:=by
 rcases I.ok.stk with e|⟨e,hf⟩
 . rw[e];exact I.funs
 . rw[e];obtain⟨m,hn,_⟩:=I.loc;refine .cons (by rw[I.ok.kind];decide) hf hn ?_ I.funs
   exact Heap.get?_none_of_le (aLS I.ok.bsz I.ok.above)
def Inv.stkSub(I:Inv X aA σ H s):∀b∈frs X.stack,b∈X.env.locals::X.fs:=λb hb=>by
 rcases I.ok.stk with e|⟨e,hf⟩
 . rw[e]at hb;exact mcm hb
 . rw[e]at hb;unfold frs at hb;rw[aLT,hf]at hb;exact hb
def Inv.stkFree(I:Inv X aA σ H s):∀b∈frs X.stack,H b=none:=λb hb=>by
 rcases aLU.mp (I.stkSub b hb)with e|hb
 . rw[e];exact I.free
 . obtain⟨_,o,ho,_⟩:=I.ok.funs.mem hb;exact I.base.free b o ho (I.ok.frf b hb) λz=>I.ok.exfs b z hb
def Inv.step{g':Array GenState}{d':Drawn}(I:Inv X aA σ H s)(hch:∀b∈ch,(b∈X.ex\/X.s₀.heap.objs.size<=b)/\b≠X.env.locals/\(∀x c,X.env.cells.lookup x=some c->c≠b)/\∀p∈X.pn++aA,p.1≠b)(keep:∀b o,b≠X.env.locals->b∉X.fs->b∉ch->s.heap.get? b=some o->H b=none->h'.get? b=some o)(slot:∀b o,b≠X.env.locals->b∈X.fs->b∉ch->s.heap.get? b=some o->H b=none->∃sl,h'.get? b=some {o with slots:=sl})(free:∀b o,b∉ch->s.heap.get? b=some o->H b=none->H' b=none)(there:∀b o,b∉ch->s.heap.get? b=some o->∃o',h'.get? b=some o')(tups:∀b xs,H b=some (.tup xs)->H' b=some (.tup xs))(frzs:∀b o u,H b=some (.frz o u)->H' b=some (.frz o u))(tbls:∀b ps,H b=some (.tbl ps)->∃more,H' b=some (.tbl (ps++more)))(ns:∀m,s.heap.Ns X.env.locals m->h'.Ns X.env.locals m)(hok:HOk X.prog X.w H' h')(hg:AllBare g'):Inv X aA σ H' {s with heap:=h',gens:=g',drawn:=d',toks:=t'}:=by
 have neL:∀b o,X.s₀.heap.get? b=some o->b≠X.env.locals:=λb o e=>aLO (aLM (aLL e) I.ok.above);have neC:∀b o,X.s₀.heap.get? b=some o->b∉X.ex->b∉ch:=λb o e hx hb=>by
  rcases(hch b hb).1 with z|z
  . exact hx z
  . exact absurd (aLM (aLL e) z) (aLN _)
 have cellK:∀x c,X.env.cells.lookup x=some c->∀v,s.heap.IsCell c v->h'.IsCell c v:=λx c e v ⟨o,ho,hd⟩=>by
  have nch:c∉ch:=λz=>(hch c z).2.2.1 x c e rfl;by_cases hc:c∈X.fs
  . obtain⟨sl,q⟩:=slot c o (I.cne x c e) hc nch ho (I.freeC x c e);exact⟨_,q,hd⟩
  . exact⟨o,keep c o (I.cne x c e) hc nch ho (I.freeC x c e),hd⟩
 refine⟨I.ok,I.os,hg,⟨λb o e n hb hx=>?_,λb o e n hb hx=>?_,λb o e n hx=>?_,λb o e hx=>?_,λb xs e=>tups b xs (I.base.tups b xs e),λb o xs e=>frzs b o xs (I.base.frzs b o xs e),λb ps e=>?_⟩,?_,λx c e=>?_,?_,λx c e=>?_,λp hp=>?_,hok,I.len⟩
 . exact keep b o (neL b o e) hb (neC b o e hx) (I.base.keep b o e n hb hx) (I.base.free b o e n hx)
 . obtain⟨sl,e1⟩:=I.base.slot b o e n hb hx;obtain⟨sl',e2⟩:=slot b _ (neL b o e) hb (neC b o e hx) e1 (I.base.free b o e n hx);exact⟨sl',e2⟩
 . obtain⟨o',e1⟩:=I.base.there b o e hx;exact free b o' (neC b o e hx) e1 (I.base.free b o e n hx)
 . obtain⟨o',e1⟩:=I.base.there b o e hx;exact there b o' (neC b o e hx) e1
 . obtain⟨m1,e1⟩:=I.base.tbls b ps e;obtain⟨m2,e2⟩:=tbls b _ e1;exact⟨m1++m2,by rw[e2,Array.append_assoc]⟩
 . obtain⟨m,hn,hl⟩:=I.loc;refine⟨m,ns m hn,λi x v e1 e2 e3=>?_⟩;obtain⟨u,r,l⟩:=hl i x v e1 e2 e3;refine⟨u,r,?_⟩;rcases l with l|⟨k,c,e,z⟩
   . exact .inl l
   . exact .inr ⟨k,c,e,cellK x c e _ z⟩
 . obtain⟨v,z⟩:=I.cell x c e;exact⟨v,cellK x c e v z⟩
 . obtain⟨m,⟨o,_,_,ho,_⟩,_⟩:=I.loc;exact free _ o (λz=>(hch _ z).2.1 rfl) ho I.free
 . obtain⟨v,o,ho,hd⟩:=I.cell x c e;exact free c o (λz=>(hch c z).2.2.1 x c e rfl) ho (I.freeC x c e)
 . obtain⟨e,n,ne,nf,d⟩:=I.pin p hp;have nch:p.1∉ch:=λz=>(hch p.1 z).2.2.2 p hp rfl;exact⟨keep p.1 p.2 ne nf nch e n,free p.1 p.2 nch e n,ne,nf,d⟩
def Inv.un(I:Inv X aA σ H s)(u:Un X.fs [] H H' s.heap h')(hok:HOk X.prog X.w H' h'):Inv X aA σ H' {s with heap:=h',toks:=t'}:=by
 obtain⟨m,⟨o,es,ep,ho,r⟩,_⟩:=id I.loc;obtain⟨sl,hL⟩:=u.any ho I.free (by simp)
 exact I.step (g':=s.gens) (d':=s.drawn) (ch:=[]) (λ_ z=>nomatch z) (λb o _ hb _ e n=>u.keep b o e n hb (by simp)) (λb o _ hb _ e n=>u.slot b o e n hb (by simp)) (λb o _ e n=>u.free b o e n (by simp)) (λb o _ e=>u.there b o e (by simp)) u.tups u.frzs u.tbls (λm' hm=>by
  obtain⟨o',es',ep',ho',r'⟩:=hm;rw[ho]at ho';cases ho';exact⟨_,es',ep',hL,r'⟩) hok I.bare
def Inv.call{g':Array GenState}{d':Drawn}(I:Inv X aA σ H s)(u:Un (frs X.stack) ch H H' s.heap h')(hok:HOk X.prog X.w H' h')(hg:AllBare g')(hch:∀b∈ch,(b∈X.ex\/X.s₀.heap.objs.size<=b)/\b≠X.env.locals/\(∀x c,X.env.cells.lookup x=some c->c≠b)/\∀p∈X.pn++aA,p.1≠b):Inv X aA σ H' {s with heap:=h',gens:=g',drawn:=d',toks:=t'}:=by
 obtain⟨m,⟨o,es,ep,ho,r⟩,_⟩:=id I.loc;obtain⟨sl,hL⟩:=u.any ho I.free λz=>(hch _ z).2.1 rfl;exact I.step (ch:=ch) hch (λb o hL hb hc e n=>u.keep b o e n (λz=>(aLU.mp (I.stkSub b z)).elim hL hb) hc) (λb o _ _ hc e n=>u.any e n hc) (λb o hc e n=>u.free b o e n hc) (λb o hc e=>u.there b o e hc) u.tups u.frzs u.tbls (λm' hm=>by
  obtain⟨o',es',ep',ho',r'⟩:=hm;rw[ho]at ho';cases ho';exact⟨_,es',ep',hL,r'⟩) hok hg
def Inv.turned(I:Inv X aA σ H s)(k:∀b o,b≠it->s.heap.get? b=some o->h'.get? b=some o)(hn:H it=none)(hL:it≠X.env.locals)(h1:it∈X.ex\/X.s₀.heap.objs.size<=it)(h2:∀x c,X.env.cells.lookup x=some c->c≠it)(h3:∀p∈X.pn++aA,p.1≠it):Inv X aA σ H {s with heap:=h',toks:=t'}:=by
 have nit:∀b u,H b=some u->b≠it:=λb u e z=>by rw[z,hn]at e;cases e
 refine I.step (g':=s.gens) (d':=s.drawn) (ch:=[it]) (λb hb=>?_) (λb o _ _ hc e _=>k b o (λz=>hc (by simp[z])) e) (λb o _ _ hc e _=>⟨o.slots,k b o (λz=>hc (by simp[z])) e⟩) (λ_ _ _ _ n=>n)
  (λb o hc e=>⟨o,k b o (λz=>hc (by simp[z])) e⟩) (λ_ _ e=>e) (λ_ _ _ e=>e) (λb ps e=>⟨#[],by rw[e];simp⟩) (λm hm=>?_) (λb u e=>?_) I.bare
 . have e:b=it:=by simpa using hb
   subst e;exact⟨h1,hL,h2,h3⟩
 . obtain⟨o,es,ep,ho,r⟩:=hm;exact⟨o,es,ep,k _ o (Ne.symm hL) ho,r⟩
 . refine(I.hok b u e).stay (λc v hc q=>k c v ?_ q) (λ_ q=>q) λ_ _ q=>q;rcases hc with z|z
   . rw[z];exact nit b u e
   . exact nit c _ z
def Inv.tok(I:Inv X aA σ H s)(t:Nat):Inv X aA σ H {s with toks:=t}:=I.un (h':=s.heap) (t':=t) Un.refl I.hok
theorem Inv.kept(I:Inv X aA σ H s)(k:∀b u,s.heap.get? b=some u->h'.get? b=some u):Inv X aA σ H {s with heap:=h',toks:=t'}:=I.un (Un.kept k) (I.hok.kept k)
theorem Inv.laid{a:Addr}{o:HO}(I:Inv X aA σ H s)(k:∀b u,s.heap.get? b=some u->h'.get? b=some u)(hp:s.heap.objs.size<=a)(new:bW X.prog X.w (upd H a o) h' a o):Inv X aA σ (upd H a o) {s with heap:=h',toks:=t'}:=I.un (Un.laid k hp (I.hok.fresh hp)) (I.hok.laid k hp new)
theorem Inv.write{x e:Addr}{o:HO}(I:Inv X aA σ H s)(mu:Mut (H x))(he:e=x\/H e=some (.own x))(k:∀b u,b≠e->s.heap.get? b=some u->h'.get? b=some u)(heo:∃u,h'.get? e=some u)(new:bW X.prog X.w (upd H x o) h' x o):Inv X aA σ (upd H x o) {s with heap:=h',toks:=t'}:=I.un (Un.write mu he k heo) (I.hok.write mu he k heo new)
def Inv.weak{σ':List (Option V)}(I:Inv X aA σ H s)(hl:σ'.length=σ.length)(w:∀(i:Nat) v,σ'[i]? = some (some v)->σ[i]? = some (some v)):Inv X aA σ' H s :=
 ⟨I.ok,I.os,I.bare,I.base,let⟨m,hn,hl'⟩:=I.loc;⟨m,hn,λi x v e1 e2 e3=>hl' i x v e1 (w i v e2) e3⟩,I.cell,I.free,I.freeC,I.pin,I.hok,hl.trans I.len⟩
def Inv.pins_of(I:Inv X aA σ H s)(h:∀p∈pins',s.heap.get? p.1=some p.2/\H p.1=none/\p.1≠X.env.locals/\p.1∉X.fs/\∀v,p.2.data ≠ .cell v):Inv X pins' σ H s :=
 ⟨I.ok,I.os,I.bare,I.base,I.loc,I.cell,I.free,I.freeC,λp hp=>(aLV.mp hp).elim (λz=>I.pin p (aLW _ z)) (h p),I.hok,I.len⟩
def pY{N:List Str}(hN:N.Nodup)(a:N[i]? = some x)(b:N[j]? = some x):i=j:=by obtain⟨h1,e1⟩:=aLX.mp a;obtain⟨h2,e2⟩:=aLX.mp b;exact(List.getElem_inj hN).mp (e1.trans e2.symm)
def pZ{M:Model}{A:aP2}{E:VSP}(I:Inv X aA σ H s)(hN:X.N.Nodup)(hi:X.N[i]? = some x)(hx:Loc X.env.scope x)(r:aH v u)(h:∀s',Inv X aA (σ.set i (some v)) H s'->(∃a,Heap.SameBut a s.heap s'.heap/\(a=X.env.locals\/X.env.cells.lookup x=some a))->Q () s')(hf:X.fn x=true\/X.env.scope.names.lookup x=some .local:=by first|exact .inl rfl|exact .inr rfl|assumption):wpAny M A (storeName X.env x u) Q E s:=by
 obtain⟨m,hn,hl⟩:=id I.loc;have hcls:(X.env.scope.kind == .class||(X.env.scope.kind == .module&&X.env.locals != X.env.globals))=false:=by rw[I.ok.kind];rfl
 have hiσ:i<σ.length:=by rw[I.len];exact(aLX.mp hi).1
 have cne:=I.cne;have tracked:∀{a:Addr}{h':Heap},(∃o,s.heap.get? a=some o/\H a=none)->Heap.SameBut a s.heap h'->HOk X.prog X.w H h':=λ{a h'} ha hs b ob e=>by
  obtain⟨_,_,cY⟩:=ha;refine(I.hok b ob e).stay (λc w' hc q=>(hs.2 c ?_).trans q) (λ_ q=>q) λ_ _ q=>q;rintro rfl;rcases hc with rfl|hc
  . rw[cY]at e;cases e
  . rw[cY]at hc;cases hc
 rcases hx with hk|hk
 . refine wpAny_storeName_local hk hn (λh' hn' hs=>?_) hcls;obtain⟨oL,_,_,hoL,_⟩:=id hn;refine h _ ⟨I.ok,I.os,I.bare,⟨λb o e n hb hx=>?_,λb o e n hb hx=>?_,I.base.free,λb o e hx=>?_,I.base.tups,I.base.frzs,I.base.tbls⟩,⟨_,hn',λj y v' e1 e2 e3=>?_⟩,λy c e=>?_,I.free,I.freeC,λp hp=>?_,tracked ⟨oL,hoL,I.free⟩ hs,by simpa using I.len⟩ ⟨_,hs,.inl rfl⟩
   . exact(hs.2 b (aLO (aLM (aLL e) I.ok.above))).trans (I.base.keep b o e n hb hx)
   . obtain⟨sl,e1⟩:=I.base.slot b o e n hb hx;exact⟨sl,(hs.2 b (aLO (aLM (aLL e) I.ok.above))).trans e1⟩
   . obtain⟨o',e1⟩:=I.base.there b o e hx;exact⟨o',(hs.2 b (aLO (aLM (aLL e) I.ok.above))).trans e1⟩
   . by_cases hj:j=i
     . subst hj;rw[hi]at e1;cases e1;rw[aLY hiσ]at e2;cases e2;exact⟨u,r,.inl ⟨hk,by simp⟩⟩
     . rw[aLZ (Ne.symm hj)]at e2;obtain⟨u',r',q⟩:=hl j y v' e1 e2 e3;refine⟨u',r',?_⟩;rcases q with⟨k,e⟩|⟨k,c,e,z⟩
       . refine .inl ⟨k,?_⟩;have:y≠x:=λe=>hj (pY hN e1 (e ▸ hi));simp[this,e]
       . exact .inr ⟨k,c,e,z.sameBut hs (cne y c e)⟩
   . obtain⟨w',z⟩:=I.cell y c e;exact⟨w',z.sameBut hs (cne y c e)⟩
   . obtain⟨e,n,ne,nf,d⟩:=I.pin p hp;exact⟨(hs.2 p.1 ne).trans e,n,ne,nf,d⟩
 . have hfn:X.fn x=true:=by
     rcases hf with z|z
     . exact z
     . rw[z]at hk;cases hk
   obtain⟨c,hc⟩:=I.ok.has x (.inl hk);obtain⟨w',z⟩:=I.cell x c hc;refine wpAny_storeName_cell I.ok.kind hk hc z (λh' hc' hs=>?_);obtain⟨oc,hoc,hocd⟩:=id z;refine h {s with heap:=h'} ⟨I.ok,I.os,I.bare,⟨λb o e n hb hx=>?_,λb o e n hb hx=>?_,I.base.free,λb o e hx=>?_,I.base.tups,I.base.frzs,I.base.tbls⟩,⟨m,hn.sameBut hs (Ne.symm (cne x c hc)),λj y v' e1 e2 e3=>?_⟩,λy c' e=>?_,I.free,I.freeC,λp hp=>?_,tracked ⟨oc,hoc,I.freeC x c hc⟩ hs,by simpa using I.len⟩ ⟨c,hs,.inr hc⟩
   . exact(hs.2 b (aLO (aLM (aLL e) (I.ok.cab x c hfn hc)))).trans (I.base.keep b o e n hb hx)
   . obtain⟨sl,e1⟩:=I.base.slot b o e n hb hx;exact⟨sl,(hs.2 b (aLO (aLM (aLL e) (I.ok.cab x c hfn hc)))).trans e1⟩
   . obtain⟨o',e1⟩:=I.base.there b o e hx;exact⟨o',(hs.2 b (aLO (aLM (aLL e) (I.ok.cab x c hfn hc)))).trans e1⟩
   . by_cases hj:j=i
     . subst hj;rw[hi]at e1;cases e1;rw[aLY hiσ]at e2;cases e2;exact⟨u,r,.inr ⟨.inl hk,c,hc,hc'⟩⟩
     . rw[aLZ (Ne.symm hj)]at e2;obtain⟨u',r',q⟩:=hl j y v' e1 e2 e3;refine⟨u',r',?_⟩;rcases q with q|⟨k,c',e,z'⟩
       . exact .inl q
       . refine .inr ⟨k,c',e,z'.sameBut hs ?_⟩;rintro rfl;exact hj (pY hN e1 (I.ok.inj _ _ _ e hc ▸ hi))
   . by_cases hcc:c'=c
     . subst hcc;exact⟨_,hc'⟩
     . obtain⟨w2,z2⟩:=I.cell y c' e;exact⟨w2,z2.sameBut hs hcc⟩
   . obtain⟨e,n,ne,nf,d⟩:=I.pin p hp;refine⟨(hs.2 p.1 ?_).trans e,n,ne,nf,d⟩;intro q;rw[q,hoc]at e;have q':oc=p.2:=aL0 e;exact d w' (by rw[<- q'];exact hocd)
def mR{M:Model}{A:aP2}{E:VSP}(I:Inv X aA σ H s)(hN:X.N.Nodup)(hi:X.N[i]? = some x)(hx:Loc X.env.scope x)(r:aH v u)(h:∀s',Inv X aA (σ.set i (some v)) H s'->Q () s')(hf:X.fn x=true\/X.env.scope.names.lookup x=some .local:=by first|exact .inl rfl|exact .inr rfl|assumption):wpAny M A (storeName X.env x u) Q E s :=
 pZ I hN hi hx r (λs' I' _=>h s' I') hf
def Inv.call'(I:Inv X aA σ H s)(ho:s'.os=s.os)(u:Un (frs X.stack) ch H H' s.heap s'.heap)(hok:HOk X.prog X.w H' s'.heap)(hg:AllBare s'.gens)(hch:∀b∈ch,(b∈X.ex\/X.s₀.heap.objs.size<=b)/\b≠X.env.locals/\(∀x c,X.env.cells.lookup x=some c->c≠b)/\∀p∈X.pn++aA,p.1≠b):Inv X aA σ H' s':=by obtain⟨h',g',d',t',o'⟩:=s';have e:o'=s.os:=ho;subst e;exact I.call (g':=g') (t':=t') (d':=d') u hok hg hch
end
abbrev XK:=aP0->Option Addr->Hp->Prop
abbrev St:=List (Option V)
abbrev VK:=V->Hp->Prop
abbrev TE:=St->Hp->VK->Prop
abbrev TT:=St->Hp->(Bool->Hp->Prop)->Prop
abbrev TA:=St->Hp->(List V->Hp->Prop)->Prop
end L2
variable {σ:L2.St}{ta te tl td:L2.TE}{tt:L2.TT}
namespace L2
structure eB where
 nx:St->Hp->Prop
 rt:VK
 bk:St->Hp->Prop:=λ_ _=>False
 ct:St->Hp->Prop:=λ_ _=>False
abbrev TS:=eB->St->Hp->Prop
def EP(X:Cx)(aA:LAO)(σ:St)(Q:VK)(u:aP0)(s':aP1):Prop:=∃v H',Inv X aA σ H' s'/\aH v u/\Q v H'
def TP(X:Cx)(aA:LAO)(σ:St)(Q:Bool->Hp->Prop)(b:Bool)(s':aP1):Prop:=∃H',Inv X aA σ H' s'/\Q b H'
def AP(X:Cx)(aA:LAO)(σ:St)(Q:List V->Hp->Prop)(us:List aP0)(s':aP1):Prop:=∃vs H',Inv X aA σ H' s'/\aL vs us/\Q vs H'
def SP(X:Cx)(aA:LAO)(D:eB)(f:Flow)(s':aP1):Prop :=
 match f with
 |.next=>∃σ' H',Inv X aA σ' H' s'/\D.nx σ' H'
 |.brk=>∃σ' H',Inv X aA σ' H' s'/\D.bk σ' H'
 |.cont=>∃σ' H',Inv X aA σ' H' s'/\D.ct σ' H'
 |.ret u=>∃v σ' H',Inv X aA σ' H' s'/\aH v u/\D.rt v H'
def PE(X:Cx)(e:Expr)(t:TE):Prop :=
 ∀(aA:LAO) (s:aP1) (σ:St) (H:Hp) (Q:VK),Inv X aA σ H s->t σ H Q->wpAny (model X.prog X.w) X.A (eval e X.env) (EP X aA σ Q) X.xe s
def PT(X:Cx)(e:Expr)(t:TT):Prop :=
 ∀(aA:LAO) (s:aP1) (σ:St) (H:Hp) (Q:Bool->Hp->Prop),Inv X aA σ H s->t σ H Q->wpAny (model X.prog X.w) X.A (isTrue e X.env (eval e X.env)) (TP X aA σ Q) X.xe s
def PW(X:Cx)(e:Expr)(t:TT):Prop :=
 ∀(cI:Sem aP0) (aA:LAO) (s:aP1) (σ:St) (H:Hp) (Q:Bool->Hp->Prop),Inv X aA σ H s->t σ H Q->wpAny (model X.prog X.w) X.A (isTrue e X.env cI) (TP X aA σ Q) X.xe s
def PW.pt{e:Expr}{t:TT}(h:PW X e t):PT X e t:=h _
def PA(X:Cx)(es:List Expr)(t:TA):Prop :=
 ∀(pos:Pos) (aA:LAO) (s:aP1) (σ:St) (H:Hp) (Q:List V->Hp->Prop),Inv X aA σ H s->t σ H Q->wpAny (model X.prog X.w) X.A (spliced (backTo pos (starEach es X.env))) (AP X aA σ Q) X.xe s
def PS(X:Cx)(st:Stmt)(t:TS):Prop :=
 ∀(aA:LAO) (s:aP1) (σ:St) (H:Hp) (D:eB),Inv X aA σ H s->t D σ H->wpAny (model X.prog X.w) X.A (exec st X.env) (SP X aA D) X.xe s
def PSs(X:Cx)(st:List Stmt)(t:TS):Prop :=
 ∀(aA:LAO) (s:aP1) (σ:St) (H:Hp) (D:eB),Inv X aA σ H s->t D σ H->wpAny (model X.prog X.w) X.A (execs st X.env) (SP X aA D) X.xe s
def thn{t:Sem α}{Q Q':α->aP1->Prop}{M:Model}{A:aP2}{E:VSP}(h:wpAny M A t Q E s)(hQ:∀a s,Q a s->Q' a s):wpAny M A t Q' E s:=aL1 h hQ λ_ _ x=>x
section
def iD(i:Nat):TE:=λσ H Q=>∃v,σ[i]? = some (some v)/\Q v H
def tC(v:V):TE:=λ_ H Q=>Q v H
def iE(hN:X.N[i]? = some x)(hv:Vis X.env.scope x)(hd:(x==("__debug__":Str))=false:=by decide)(hcd:(x==("__classdict__":Str))=false:=by decide):PE X (.Name x pos) (iD i):=by
 intro aA s σ H Q I h;obtain⟨v,e,h⟩:=h;obtain⟨m,hn,hl⟩:=I.loc;obtain⟨u,r,l⟩:=hl i x v hN e hv;have fin:EP X aA σ Q u s:=⟨v,H,I,r,h⟩;rcases l with⟨hk,hm⟩|⟨hk,c,hc,bV⟩
 . exact wpAny_Name (wpAny_loadName_local I.ok.kind hk hn hm fin) hd
 . rcases hk with hk|hk
   . exact wpAny_Name (wpAny_loadName_cell I.ok.kind hk hc bV fin) hd
   . exact wpAny_Name (wpAny_loadName_free I.ok.kind hk hc bV fin hcd) hd
def yE{i j pos:_}:PE X (.Constant (.int i) j pos) (tC (.int i)):=λ_ _ _ H _ I h=>wpAny_Constant_int ⟨.int i,H,I.tok _,⟨_,rfl⟩,h⟩
def pe_bl{b j pos:_}:PE X (.Constant (.bool b) j pos) (tC (.bl b)):=λ_ _ _ H _ I h=>Constant_bool ⟨.bl b,H,I,rfl,h⟩
def yF{j pos:_}:PE X (.Constant .none j pos) (tC .non):=λ_ _ _ H _ I h=>Constant_none ⟨.non,H,I,rfl,h⟩
def yG{x j pos:_}:PE X (.Constant (.str x) j pos) (tC (.str x)):=λ_ _ _ H _ I h=>Calls.Constant_str ⟨.str x,H,I.tok _,⟨_,rfl⟩,h⟩
def Gl(X:Cx)(x:Str):Prop:=X.env.kindOf x=some .globalImplicit
def jC{E:VSP}{σ:St}{Q:VSP}(I:Inv X aA σ H s)(hg:Gl X x)(hm:X.mg x=some u)(h:Q u s)(hd:(x==("__debug__":Str))=false:=by decide):wpAny (model X.prog X.w) X.A (eval (.Name x pos) X.env) Q E s :=
 Calls.Name_function_global I.ok.kind hg (Calls.loadGlobal_global (by rw[I.ok.glob];exact I.mod.glob.keeps I.bk) hm h) hd
def jD{E:VSP}{σ:St}{Q:VSP}(I:Inv X aA σ H s)(hg:Gl X x)(hm:X.mg x=none)(hv:bootBuiltins x=some u)(h:Q u s)(hn:x ≠ "__name__" := by decide)(hd:(x==("__debug__":Str))=false:=by decide):wpAny (model X.prog X.w) X.A (eval (.Name x pos) X.env) Q E s:=by obtain⟨mb,h1,h2⟩:=I.mod.blt;exact Calls.Name_function_global I.ok.kind hg (Calls.loadGlobal_builtin (by rw[I.ok.glob];exact I.mod.glob.keeps I.bk) hm (by rw[I.ok.blt];exact h1.keeps I.bk) ((h2 x hn).trans hv) h) hd
def mS(hg:Gl X x)(hm:X.mg x=some u)(r:aH v u)(hd:(x==("__debug__":Str))=false:=by decide):PE X (.Name x pos) (tC v) :=
 λ_ _ _ H _ I h=>jC I hg hm ⟨v,H,I,r,h⟩ hd
def yH(hg:Gl X x)(hm:X.mg x=none)(hv:bootBuiltins x=some u)(r:aH v u)(hn:x ≠ "__name__" := by decide)(hd:(x==("__debug__":Str))=false:=by decide):PE X (.Name x pos) (tC v) :=
 λ_ _ _ H _ I h=>jD I hg hm hv ⟨v,H,I,r,h⟩ hn hd
variable {a b:Expr}{tb:TE}
variable {tA tB':TT}{rest:List Expr}
def mU(t u:TT):TT:=λσ H Q=>t σ H λc H1=>if c=true then u σ H1 Q else Q false H1
def tOr(t u:TT):TT:=λσ H Q=>t σ H λc H1=>if c=true then Q true H1 else u σ H1 Q
def tNot(t:TT):TT:=λσ H Q=>t σ H λc H1=>Q (!c) H1
def yI(ha:PT X a tA):PW X (.BoolOp .And [a] pos) tA:=by
 intro wh aA s σ H Q I h;refine isTrue_and (thn (ha aA s σ H Q I h) λc s1 e=>?_);cases c with
 |true=>exact isTrue_and_nil e
 |false=>exact e
def yJ(ha:PT X a tA):PW X (.BoolOp .Or [a] pos) tA:=by
 intro wh aA s σ H Q I h;refine isTrue_or (thn (ha aA s σ H Q I h) λc s1 e=>?_);cases c with
 |false=>exact isTrue_or_nil e
 |true=>exact e
def yK(ha:PT X a tA)(hb:PW X (.BoolOp .And (b::rest) pos) tB'):PW X (.BoolOp .And (a::b::rest) pos) (mU tA tB'):=by
 intro wh aA s σ H Q I h;refine isTrue_and (thn (ha aA s σ H _ I h) λc s1 ⟨H1,I1,q1⟩=>?_);cases c with
 |true=>exact hb wh aA s1 σ H1 Q I1 q1
 |false=>exact⟨H1,I1,q1⟩
def pw_or(ha:PT X a tA)(hb:PW X (.BoolOp .Or (b::rest) pos) tB'):PW X (.BoolOp .Or (a::b::rest) pos) (tOr tA tB'):=by
 intro wh aA s σ H Q I h;refine isTrue_or (thn (ha aA s σ H _ I h) λc s1 ⟨H1,I1,q1⟩=>?_);cases c with
 |true=>exact⟨H1,I1,q1⟩
 |false=>exact hb wh aA s1 σ H1 Q I1 q1
def yL(ha:PT X a tA):PT X (.UnaryOp .Not a pos) (tNot tA):=by intro aA s σ H Q I h;exact isTrue_not (ha aA s σ H (λc H1=>Q (!c) H1) I h)
def qA(ta tb:TE):TE:=λσ H Q=>ta σ H λx H1=>∃c,x=.bl c/\if c=true then tb σ H1 Q else Q (.bl false) H1
def tOrV(ta tb:TE):TE:=λσ H Q=>ta σ H λx H1=>∃c,x=.bl c/\if c=true then Q (.bl true) H1 else tb σ H1 Q
def qB(ta:TE):TE:=λσ H Q=>ta σ H λx H1=>∃c,x=.bl c/\Q (.bl (!c)) H1
def yM{op}{t:TE}(h:PE X a t):PE X (.BoolOp op [a] pos) t:=λaA s σ H Q I hw=>BoolOp_one (h aA s σ H Q I hw)
def yN(ha:PE X a ta)(hb:PE X (.BoolOp .And (b::rest) pos) tb):PE X (.BoolOp .And (a::b::rest) pos) (qA ta tb):=by
 intro aA s σ H Q I h;refine BoolOp_and (thn (ha aA s σ H _ I h) λv s1 ⟨x,H1,I1,r1,q1⟩=>?_);obtain⟨c,rfl,q1⟩:=q1;cases r1;refine aL2 ?_;cases c with
 |true=>exact hb aA s1 σ H1 Q I1 q1
 |false=>exact⟨.bl false,H1,I1,rfl,q1⟩
def pe_or(ha:PE X a ta)(hb:PE X (.BoolOp .Or (b::rest) pos) tb):PE X (.BoolOp .Or (a::b::rest) pos) (tOrV ta tb):=by
 intro aA s σ H Q I h;refine BoolOp_or (thn (ha aA s σ H _ I h) λv s1 ⟨x,H1,I1,r1,q1⟩=>?_);obtain⟨c,rfl,q1⟩:=q1;cases r1;refine aL2 ?_;cases c with
 |false=>exact hb aA s1 σ H1 Q I1 q1
 |true=>exact⟨.bl true,H1,I1,rfl,q1⟩
def yO(ha:PE X a ta):PE X (.UnaryOp .Not a pos) (qB ta):=by intro aA s σ H Q I h;refine UnaryOp_ (thn (ha aA s σ H _ I h) λv s1 ⟨x,H1,I1,r1,q1⟩=>?_);obtain⟨c,rfl,q1⟩:=q1;cases r1;exact not_of (aL2 ⟨.bl (!c),H1,I1,rfl,q1⟩)
end
def SqL(K:Fg)(H:Hp)(a:Addr)(xs:List V):Prop :=
 Rd H a (.lst xs) \/
  ∃(o:Obj) (its:Array aP0) (n:Nat),K.lookup a=some o/\o.cls=.type "list" /\ o.dict=none/\o.data=.seq its n/\its.size<=sizeLine/\aL xs its.toList
def SqT(K:Fg)(H:Hp)(a:Addr)(xs:List V):Prop :=
 Rd H a (.tup xs) \/
  ∃(o:Obj) (its:Array aP0) (n:Nat),K.lookup a=some o/\o.cls=.type "tuple" /\ o.dict=none/\o.data=.seq its n/\its.size<=sizeLine/\aL xs its.toList
def absV:aP0->Option V
 |.none=>some .non
 |.bool b=>some (.bl b)
 |.int i _=>some (.int i)
 |.str x _=>some (.str x)
 |.bytes b _=>some (.byt b)
 |.float b _=>some (.flt b)
 |.ref a=>some (.ref a)
 |.type n=>some (.ty n)
 |_=>none
def aH.abs{x:V}(r:aH x u):absV u=some x:=by
 cases x with
 |non=>cases r;rfl
 |bl _=>cases r;rfl
 |int _=>obtain⟨t,rfl⟩:=r;rfl
 |str _=>obtain⟨t,rfl⟩:=r;rfl
 |byt _=>obtain⟨t,rfl⟩:=r;rfl
 |flt _=>obtain⟨t,rfl⟩:=r;rfl
 |ref _=>cases r;rfl
 |ty _=>cases r;rfl
def aH.inj{x y:V}(r:aH x u)(q:aH y u):x=y:=aL0 (r.abs.symm.trans q.abs)
theorem aL.inj:∀{xs ys:List V}{us:List aP0},aL xs us->aL ys us->xs=ys
 |_,_,_,.nil,.nil=>rfl
 |_,_,_,.cons r t,.cons r' t'=>by rw[r.inj r',aL.inj t t']
section
variable {σ:St}{a:Addr}{ys:List V}
def SqL.of(h:H a=some (.lst xs)):SqL K H a xs:=.inl (.inl h)
def SqT.of(h:H a=some (.tup xs)):SqT K H a xs:=.inl (.inl h)
theorem Inv.list(I:Inv X aA σ H s)(h:SqL X.K H a xs):∃its:List aP0,aL xs its/\PlainL s.heap a its.toArray/\xs.length<=sizeLine:=by
 rcases h with h|⟨o,its,n,hk,hc,hd,hs,hz,r⟩
 . obtain⟨z,its,n,r,e⟩:=h.ok I.hok;exact⟨its,r,⟨_,n,e,rfl,rfl,rfl⟩,z⟩
 . refine⟨its.toList,r,⟨o,n,I.kIn a o hk,hc,hd,by simpa using hs⟩,?_⟩
   have e:=r.length;simp only[aL3]at e;lia
theorem Inv.tuple(I:Inv X aA σ H s)(h:SqT X.K H a xs):∃its:List aP0,aL xs its/\IsTup s.heap a its.toArray/\xs.length<=sizeLine:=by
 rcases h with h|⟨o,its,n,hk,hc,hdt,hs,hz,r⟩
 . obtain⟨z,its,r,p⟩:=h.ok I.hok;exact⟨its,r,p.isTup,z⟩
 . refine⟨its.toList,r,⟨o,I.kIn a o hk,hc,n,by simpa using hs⟩,?_⟩
   have e:=r.length;simp only[aL3]at e;lia
def Inv.list_inj(I:Inv X aA σ H s)(h:SqL X.K H a xs)(h':SqL X.K H a ys):xs=ys:=by
 obtain⟨its,r,⟨o,n,e,_,_,d⟩,_⟩:=I.list h;obtain⟨its',r',⟨o',n',e',_,_,d'⟩,_⟩:=I.list h';rw[e]at e';cases e';rw[d]at d';injection d' with d1 _
 have:its=its':=by simpa using congrArg Array.toList d1
 subst this;exact r.inj r'
def Inv.tuple_inj(I:Inv X aA σ H s)(h:SqT X.K H a xs)(h':SqT X.K H a ys):xs=ys:=by
 obtain⟨its,r,⟨o,e,_,n,d⟩,_⟩:=I.tuple h;obtain⟨its',r',⟨o',e',_,n',d'⟩,_⟩:=I.tuple h';rw[e]at e';cases e';rw[d]at d';injection d' with d1 _
 have:its=its':=by simpa using congrArg Array.toList d1
 subst this;exact r.inj r'
end
abbrev Cx.wish(X:Cx)(E:VSP):Cx:={X with xe:=E}
section
variable {σ:St}{E:VSP}
end
section
variable {rest:List Stmt}{t u:TS}{e:Expr}
def tNext:TS:=λD σ H=>D.nx σ H
def tSeq(t u:TS):TS:=λD σ H=>t {D with nx:=u D} σ H
def mV:PSs X [] tNext:=λ_ _ σ H _ I h=>wpAny_execs_nil ⟨σ,H,I,h⟩
def mW(h1:PS X st t)(h2:PSs X rest u):PSs X (st::rest) (tSeq t u):=by
 intro aA s σ H D I h;refine aL4 (thn (h1 aA s σ H {D with nx:=u D} I h) λf s1 q=>?_)
 cases f with
 |next=>obtain⟨σ',H',I',q⟩:=q;exact h2 aA s1 σ' H' D I' q
 |ret v=>exact q
 |brk=>exact q
 |cont=>exact q
def Inv.quiet{σ:St}(I:Inv X aA σ H s):interactive X.env=false:=by simp[interactive,I.ok.kind]
def qC(te:TE):TS:=λD σ H=>te σ H λ_ H1=>D.nx σ H1
def yP(he:PE X e te)(hs:swapsWith e none pos.line X.env=pure false:=by rfl):PS X (.Expr e pos) (qC te):=by intro aA s σ H D I h;exact wpAny_Expr_any (thn (he aA s σ H _ I h) λv s1 ⟨x,H1,I1,r1,q1⟩=>⟨σ,H1,I1,q1⟩) I.quiet hs
def tRet(te:TE):TS:=λD σ H=>te σ H D.rt
def qD(he:PE X e te):PS X (.Return (some e) pos) (tRet te):=by intro aA s σ H D I h;exact wpAny_Return_some (thn (he aA s σ H _ I h) λv s1 ⟨x,H1,I1,r1,q1⟩=>⟨x,σ,H1,I1,r1,q1⟩)
def tIfS(c:TT)(t u:TS):TS:=λD σ H=>c σ H λb H1=>if b=true then t D σ H1 else u D σ H1
def qE{a b:List Stmt}{tc:TT}(hc:PT X c tc)(ha:PSs X a t)(hb:PSs X b u):PS X (.If c a b pos) (tIfS tc t u):=by
 intro aA s σ H D I h;refine wpAny_If (thn (hc aA s σ H _ I h) λd s1 ⟨H1,I1,q1⟩=>?_);cases d with
 |true=>exact ha aA s1 σ H1 D I1 q1
 |false=>exact hb aA s1 σ H1 D I1 q1
end
abbrev TG:=V->St->Hp->(St->Hp->Prop)->Prop
abbrev TGs:=List V->St->Hp->(St->Hp->Prop)->Prop
def PG(X:Cx)(target:Expr)(t:TG):Prop :=
 ∀(aA:LAO) (s:aP1) (σ:St) (H:Hp) (v:V) (u:aP0) (Q:St->Hp->Prop),Inv X aA σ H s->aH v u->t v σ H Q ->
  wpAny (model X.prog X.w) X.A (assign target X.env u) (λ_ s'=>∃σ' H',Inv X aA σ' H' s'/\Q σ' H') X.xe s
def PGs(X:Cx)(ts:List Expr)(t:TGs):Prop :=
 ∀(aA:LAO) (s:aP1) (σ:St) (H:Hp) (vs:List V) (us:List aP0) (Q:St->Hp->Prop),Inv X aA σ H s->aL vs us->t vs σ H Q ->
  wpAny (model X.prog X.w) X.A (assignInOrder ((assignEach ts X.env).map (·.2)) us) (λ_ s'=>∃σ' H',Inv X aA σ' H' s'/\Q σ' H') X.xe s
def jE(i:Nat):TG:=λv σ H Q=>Q (σ.set i (some v)) H
def yQ(hN:X.N.Nodup)(hi:X.N[i]? = some x)(hx:Loc X.env.scope x)(hf:X.fn x=true\/X.env.scope.names.lookup x=some .local:=by first|exact .inl rfl|exact .inr rfl|assumption):PG X (.Name x pos) (jE i):=by intro aA s σ H v u Q I r h;exact wpAny_assign_Name (mR I hN hi hx r (λs' I'=>⟨_,H,I',h⟩) hf)
def gNil:TGs:=λvs σ H Q=>vs=[]/\Q σ H
def qF(t:TG)(u:TGs):TGs:=λvs σ H Q=>∃v r,vs=v::r/\t v σ H λσ' H'=>u r σ' H' Q
def yR:PGs X [] gNil:=by intro aA s σ H vs us Q I r h;obtain⟨e,h⟩:=h;subst e;cases r;exact assignInOrder_nil ⟨σ,H,I,h⟩
def yS{e:Expr}{es:List Expr}{t:TG}{u:TGs}(h1:PG X e t)(h2:PGs X es u)(hs:(assignEach (e::es) X.env).map (·.2)=assign e X.env::(assignEach es X.env).map (·.2):=by rfl):PGs X (e::es) (qF t u):=by
 intro aA s σ H vs us Q I r h;obtain⟨v,vr,e1,h⟩:=h;subst e1;cases r with
 |cons r rr=>rw[hs];refine assignInOrder_cons (thn (h1 aA s σ H _ _ _ I r h) λ_ s1 ⟨σ1,H1,I1,q1⟩=>?_);exact h2 aA s1 σ1 H1 _ _ Q I1 rr q1
def gTup(K:Fg)(n:Nat)(t:TGs):TG:=λv σ H Q=>∃a xs,v=.ref a/\SqT K H a xs/\xs.length=n/\t xs σ H Q
def yT{es:List Expr}{t:TGs}(hc:X.calm=true)(h:PGs X es t)(hn:(assignEach es X.env).length=n:=by rfl)(hst:(assignEach es X.env).findIdx? (·.1)=none:=by rfl):PG X (.Tuple es k pos) (gTup X.K n t):=by
 intro aA s σ H v u Q I r hw;obtain⟨a,xs,e1,hq,hl,hw⟩:=hw;subst e1;cases r;obtain⟨its,rv,ht,hz⟩:=I.tuple hq;refine assign_Tuple_tuple (I.ok.hd hc) ht (by simp[hn,<- hl,rv.length]) hst λh' hx=>?_
 have I1:Inv X aA σ H {s with heap:=h'}:=I.kept (t':=s.toks) λb o e=>hx b o (aLO (aLL e)) e
 exact h aA _ σ H xs _ Q I1 (by simpa using rv) hw
def jF(te:TE)(g:TG):TS:=λD σ H=>te σ H λx H1=>g x σ H1 D.nx
def yU{e:Expr}{g:TG}(he:PE X e te)(hg:PG X tg g)(hs:swapsWithSole [tg] e pos.line X.env=pure false:=by rfl)(hw:swappedStores [tg] e X.env=pure none:=by rfl)(h1:(assignEach [tg] X.env).map (·.2)=[assign tg X.env]:=by rfl):PS X (.Assign [tg] e pos) (jF te g):=by intro aA s σ H D I h;refine wpAny_Assign_stores (thn (he aA s σ H _ I h) λv s1 ⟨x,H1,I1,r1,q1⟩=>?_) hs hw;rw[h1];exact thn (hg aA s1 σ H1 x v _ I1 r1 q1) λ_ s2 q=>q
def yV{e:Expr}(hN:X.N.Nodup)(hi:X.N[i]? = some x)(hx:Loc X.env.scope x)(he:PE X e te)(hs:swapsWith e (some (.Name x pos')) pos.line X.env=pure false:=by rfl)(hf:X.fn x=true\/X.env.scope.names.lookup x=some .local:=by first|exact .inl rfl|exact .inr rfl|assumption):PS X (.Assign [.Name x pos'] e pos) (jF te (jE i)):=by intro aA s σ H D I h;refine wpAny_Assign_Name (thn (he aA s σ H _ I h) λv s1 ⟨y,H1,I1,r1,q1⟩=>?_) hs;exact mR I1 hN hi hx r1 (λs2 I2=>⟨_,H1,I2,q1⟩) hf
structure It where
 go:Nat->Hp->Prop
 yld:Nat->Hp->V->Hp->Prop
 stop:Nat->Hp->Prop
def cG(X:Cx)(aA:LAO)(H:Hp)(b:Addr):Prop :=
 H b=none/\b≠X.env.locals/\b∉X.fs/\(b∈X.ex\/X.s₀.heap.objs.size<=b)/\(∀x c,X.env.cells.lookup x=some c->c≠b)/\∀p∈X.pn++aA,p.1≠b
def Inv.fpOk{σ:St}(I:Inv X aA σ H s)(hb:s.heap.objs.size<=b)(hn:H' b=none):cG X aA H' b:=by
 refine⟨hn,Nat.ne_of_gt (aLM I.lt hb),I.nofs hb,.inr (aLS I.sz hb),λx c e z=>?_,λp hp z=>?_⟩
 . obtain⟨v,q⟩:=I.cell x c e;exact absurd (aLM q.lt (by rw[z];exact hb)) (aLN _)
 . exact absurd (aLM (aLL (I.pin p hp).1) (by rw[z];exact hb)) (aLN _)
structure jG(P:aP4)(w:aP3)(K:Fg)(tg:Expr)(J:It)(fp:List Addr)(it:Addr)(tn:Nat->Heap->Prop):Prop where
 mem:it∈fp
 obj:∀i h,tn i h->∀b∈fp,∃o,h.get? b=some o/\∀v,o.data ≠ .cell v
 keep:∀i h h',tn i h->(∀b∈fp,∀o,h.get? b=some o->h'.get? b=some o)->tn i h'
 item:∀(X:Cx),X.prog=P->X.w=w->X.K=K->X.calm=true->∀(i:Nat) (aA:LAO) (s:aP1) (σ:St) (H:Hp) (E:VSP),Inv X aA σ H s->(∀b∈fp,cG X aA H b)->tn i s.heap->J.go i H ->
  wpAny (model P w) X.A (pyNext (.ref it)) (λr s1=>∃u,r=some u /\
   wpAny (model P w) X.A (letOwnedTupleGo tg (.ref it) u) (λ_ s2=>∃x H',Inv X aA σ H' s2/\aH x u/\J.yld i H x H'/\tn (i+1) s2.heap/\∀b∈fp,H' b=none) E s1) E s
 done:∀(X:Cx),X.prog=P->X.w=w->X.K=K->X.calm=true->∀(i:Nat) (aA:LAO) (s:aP1) (σ:St) (H:Hp) (E:VSP),Inv X aA σ H s->(∀b∈fp,cG X aA H b)->tn i s.heap->J.stop i H ->
  wpAny (model P w) X.A (pyNext (.ref it)) (λr s1=>r=none/\Inv X aA σ H s1) E s
 self:∀(A:aP2) (i:Nat) (s:aP1) (Q:VSP) (E:VSP),tn i s.heap->Q (.ref it) s->wpAny (model P w) A (pyIter (.ref it)) Q E s
abbrev TI:=St->Hp->(It->Hp->Prop)->Prop
def PIE(X:Cx)(aA:LAO)(σ:St)(tg:Expr)(R:It->Hp->Prop)(itv:aP0)(s2:aP1):Prop :=
 ∃(it:Addr) (fp:List Addr) (tn:Nat->Heap->Prop) (J:It) (H':Hp),itv=.ref it/\Inv X aA σ H' s2/\jG X.prog X.w X.K tg J fp it tn/\tn 0 s2.heap/\(∀b∈fp,cG X aA H' b)/\R J H'
def PI(X:Cx)(tg aS:Expr)(wi:TI):Prop :=
 ∀(aA:LAO) (s:aP1) (σ:St) (H:Hp) (R:It->Hp->Prop),Inv X aA σ H s->wi σ H R ->
  wpAny (model X.prog X.w) X.A (eval aS X.env) (λv s1=>wpAny (model X.prog X.w) X.A (pyIter v) (PIE X aA σ tg R) X.xe s1) X.xe s
def kH{M:Model}{A:aP2}{E:VSP}{o:Obj}{n:String}{vs:Array aP0}(ho:s.heap.get? it=some o)(hc:o.cls=.type n)(hd:o.data=.fields vs)(hn:["enumerate", "zip", "dict_itemiterator", "dict_reverseitemiterator", "odict_iterator", "itertools.zip_longest", "itertools.pairwise"].contains n=false)(hQ:Q () s):wpAny M A (letOwnedTupleGo tg (.ref it) u) Q E s:=by
 unfold letOwnedTupleGo;cases tg <;> first
  |exact aL5 hQ
  | (cases u <;> first
      |exact aL5 hQ
      | (refine aL6 (wpAny_load ho ?_)
         rw[hc,hd];show wpAny M A (if(["enumerate", "zip", "dict_itemiterator", "dict_reverseitemiterator", "odict_iterator", "itertools.zip_longest", "itertools.pairwise"].contains n&&vs[0]?==some (rawInt _))=true then _ else _) Q E s;rw[if_neg (by intro h;rw[hn,Bool.false_and]at h;cases h)]
         exact aL5 hQ))
def Itl(K:Fg)(a:Addr):It :=
 ⟨λi H=>∃xs x,SqL K H a xs/\xs[i]? = some x,λi H x H'=>H'=H/\∀xs,SqL K H a xs->xs[i]? = some x,λi H=>∃xs,SqL K H a xs/\xs.length<=i⟩
def Itt(K:Fg)(a:Addr):It :=
 ⟨λi H=>∃xs x,SqT K H a xs/\xs[i]? = some x,λi H x H'=>H'=H/\∀xs,SqT K H a xs->xs[i]? = some x,λi H=>∃xs,SqT K H a xs/\xs.length<=i⟩
def Itr(lo:Int)(n:Nat):It:=⟨λi _=>i<n,λi H x H'=>H'=H/\x=.int (lo+i),λi _=>n<=i⟩
end L2
variable {wi:L2.TI}
namespace L2
theorem yW(a it:Addr):jG P w K tg (Itl K a) [it] it (λi h=>h.IsListIter it a i) where
 mem:=by simp
 obj:=λi h st b hb=>by
  have e:b=it:=by simpa using hb
  subst e;obtain⟨o,e,c,d⟩:=st;exact⟨o,e,λv z=>by rw[d]at z;cases z⟩
 keep:=λi h h' st k=>st.at λo e=>k it (by simp) o e
 item:=by
  intro X hP hw hK hc i aA s σ H E I hf st hg;subst hP hw hK;obtain⟨xs,x,hq,hx⟩:=hg;obtain⟨its,rv,p,hz⟩:=I.list hq;obtain⟨u,hu,ru⟩:=rv.get hx;obtain⟨f0,f1,f2,f3,f4,f5⟩:=hf it (by simp)
  refine wpAny_pyNext_list_item st p.isList (x:=u) (by simpa using hu) λh' st' sb=>?_
  have I1:Inv X aA σ H {s with heap:=h'}:=I.turned (t':=s.toks) (λb o hb e=>(sb.2 b hb).trans e) f0 f1 f3 f4 f5
  obtain⟨o,e,c,d⟩:=id st';exact⟨u,rfl,kH (s:={s with heap:=h'}) e c d (by decide) ⟨x,H,I1,ru,⟨rfl,λys hy=>by rw[I.list_inj hy hq];exact hx⟩,st',λb hb=>(hf b hb).1⟩⟩
 done:=by
  intro X hP hw hK hc i aA s σ H E I hf st hg;subst hP hw hK;obtain⟨xs,hq,hx⟩:=hg;obtain⟨its,rv,p,hz⟩:=I.list hq;obtain⟨f0,f1,f2,f3,f4,f5⟩:=hf it (by simp)
  have hl:=rv.length;exact wpAny_pyNext_list_end (I.ok.hd hc) st p.isList (by simp;lia) λh' eb=>⟨rfl,I.turned (t':=s.toks) (λb o hb e=>eb b o hb e) f0 f1 f3 f4 f5⟩
 self:=λ_ _ _ _ _ st h=>wpAny_pyIter_listiter st h
theorem yX(a it:Addr):jG P w K tg (Itt K a) [it] it (λi h=>h.IsTupleIter it a i) where
 mem:=by simp
 obj:=λi h st b hb=>by
  have e:b=it:=by simpa using hb
  subst e;obtain⟨o,e,c,d⟩:=st;exact⟨o,e,λv z=>by rw[d]at z;cases z⟩
 keep:=λi h h' st k=>st.at λo e=>k it (by simp) o e
 item:=by
  intro X hP hw hK hc i aA s σ H E I hf st hg;subst hP hw hK;obtain⟨xs,x,hq,hx⟩:=hg;obtain⟨its,rv,p,hz⟩:=I.tuple hq;obtain⟨u,hu,ru⟩:=rv.get hx;obtain⟨f0,f1,f2,f3,f4,f5⟩:=hf it (by simp)
  refine wpAny_pyNext_tuple_item st (show s.heap.IsTuple a its.toArray from p) (x:=u) (by simpa using hu) λh' st' sb=>?_
  have I1:Inv X aA σ H {s with heap:=h'}:=I.turned (t':=s.toks) (λb o hb e=>(sb.2 b hb).trans e) f0 f1 f3 f4 f5
  obtain⟨o,e,c,d⟩:=id st';exact⟨u,rfl,kH (s:={s with heap:=h'}) e c d (by decide) ⟨x,H,I1,ru,⟨rfl,λys hy=>by rw[I.tuple_inj hy hq];exact hx⟩,st',λb hb=>(hf b hb).1⟩⟩
 done:=by
  intro X hP hw hK hc i aA s σ H E I hf st hg;subst hP hw hK;obtain⟨xs,hq,hx⟩:=hg;obtain⟨its,rv,p,hz⟩:=I.tuple hq;obtain⟨f0,f1,f2,f3,f4,f5⟩:=hf it (by simp)
  have hl:=rv.length;exact wpAny_pyNext_tuple_end (I.ok.hd hc) st (show s.heap.IsTuple a its.toArray from p) (by simp;lia) λh' eb=>⟨rfl,I.turned (t':=s.toks) (λb o hb e=>eb b o hb e) f0 f1 f3 f4 f5⟩
 self:=λ_ _ _ _ _ st h=>wpAny_pyIter_tupleiter st h
theorem yY(it:Addr)(lo:Int)(n:Nat):jG P w K tg (Itr lo n) [it] it (λi h=>IsRangeIter h it (lo+(i:Nat) * 1) ((n:Int)-(i:Nat)) 1) where
 mem:=by simp
 obj:=λi h st b hb=>by
  have e:b=it:=by simpa using hb
  subst e;exact⟨_,st,λv z=>by
   have z':Data.fields _=Data.cell v:=z;cases z'⟩
 keep:=λi h h' st k=>k it (by simp) _ st
 item:=by
  intro X hP hw hK hc i aA s σ H E I hf st hg;subst hP hw hK;obtain⟨f0,f1,f2,f3,f4,f5⟩:=hf it (by simp)
  have W:=Walks.range (prog:=X.prog) (w:=X.w) (I.ok.hd hc) it lo 1 n;refine W.item i s _ _ hg st λv h' tk hv st' kk=>?_;obtain⟨t,rfl⟩:=hv;have I1:Inv X aA σ H {s with heap:=h',toks:=tk}:=I.turned (λb o hb e=>kk b o (by simpa using hb) e) f0 f1 f3 f4 f5
  refine⟨_,rfl,kH (s:={s with heap:=h',toks:=tk}) (n := "range_iterator") st' rfl rfl (by decide) ⟨.int (lo+i),H,I1,⟨t,?_⟩,⟨rfl,rfl⟩,st',λb hb=>(hf b hb).1⟩⟩
  rw[Int.mul_one]
 done:=by
  intro X hP hw hK hc i aA s σ H E I hf st hg;subst hP hw hK;obtain⟨f0,f1,f2,f3,f4,f5⟩:=hf it (by simp)
  exact wpAny_pyNext_range_end (I.ok.hd hc) st (by have:n<=i:=hg;lia) λh' eb=>⟨rfl,I.turned (t':=s.toks) (λb o hb e=>eb b o hb e) f0 f1 f3 f4 f5⟩
 self:=λ_ _ _ _ _ st h=>wpAny_pyIter_rangeiter st h
def mX(K:Fg)(tl:TE):TI:=λσ H R=>tl σ H λx H1=>∃a,x=.ref a/\(∃xs,SqL K H1 a xs)/\R (Itl K a) H1
def iTup(K:Fg)(tl:TE):TI:=λσ H R=>tl σ H λx H1=>∃a,x=.ref a/\(∃xs,SqT K H1 a xs)/\R (Itt K a) H1
def yZ{l:Expr}(hl:PE X l tl):PI X tg l (mX X.K tl):=by
 intro aA s σ H R I h;refine thn (hl aA s σ H _ I h) λv s1 ⟨x,H1,I1,r1,q1⟩=>?_;obtain⟨a,e,⟨xs,hq⟩,q⟩:=q1;subst e;cases r1;obtain⟨its,rv,p,hz⟩:=I1.list hq;refine wpAny_pyIter_list p.isList ?_;refine⟨s1.heap.objs.size,[s1.heap.objs.size],_,_,H1,rfl,I1.kept (t':=s1.toks) λb o e=>hps e,yW a _,⟨_,aLK _ rfl,rfl,rfl⟩,λb hb=>?_,q⟩;have e:b=s1.heap.objs.size:=by simpa using hb
 subst e;exact I1.fpOk (aL7 _) (I1.hok.fresh (aL7 _))
def y0{l:Expr}(hl:PE X l tl):PI X tg l (iTup X.K tl):=by
 intro aA s σ H R I h;refine thn (hl aA s σ H _ I h) λv s1 ⟨x,H1,I1,r1,q1⟩=>?_;obtain⟨a,e,⟨xs,hq⟩,q⟩:=q1;subst e;cases r1;obtain⟨its,rv,p,hz⟩:=I1.tuple hq;refine wpAny_pyIter_tuple (show s1.heap.IsTuple a its.toArray from p) ?_
 refine⟨s1.heap.objs.size,[s1.heap.objs.size],_,_,H1,rfl,I1.kept (t':=s1.toks) λb o e=>hps e,yX a _,⟨_,aLK _ rfl,rfl,rfl⟩,λb hb=>?_,q⟩;have e:b=s1.heap.objs.size:=by simpa using hb
 subst e;exact I1.fpOk (aL7 _) (I1.hok.fresh (aL7 _))
theorem y1{σ:St}{R:It->Hp->Prop}{E:VSP}{lo hi:Int}{t u v:Tok}{tk:Nat}(I:Inv X aA σ H s)(h1:-(2 ^ 62)<=lo)(h2:lo<2 ^ 62)(h3:-(2 ^ 62)<=hi)(h4:hi<2 ^ 62)(q:R (Itr lo (hi-lo).toNat) H):wpAny (model X.prog X.w) X.A (pyIter (.ref s.heap.objs.size)) (PIE X aA σ tg R) E { s with heap:=s.heap.push { cls:=.type "range", data:=.fields #[.int lo t,.int hi u,.int 1 v] },toks:=tk }:=by
 refine wpAny_pyIter_range (IsRange.new ..) (small_one h1 h2 h3 h4) ?_;have I1:Inv X aA σ H { s with heap:=s.heap.push { cls:=.type "range", data:=.fields #[.int lo t,.int hi u,.int 1 v] },toks:=tk }:=I.kept λb o e=>hps e
 refine⟨(s.heap.push { cls:=.type "range", data:=.fields #[.int lo t,.int hi u,.int 1 v] }).objs.size,[(s.heap.push { cls:=.type "range", data:=.fields #[.int lo t,.int hi u,.int 1 v] }).objs.size],_,_,H,rfl,
  I1.kept (t':=tk) λb o e=>hps e,yY _ lo (hi-lo).toNat,?_,λb hb=>?_,q⟩
 . have e1:lo+((0:Nat):Int) * 1=lo:=by simp
   have e2:(((hi-lo).toNat:Nat):Int)-((0:Nat):Int)=Builtin.Range.rangeSize lo hi 1:=by rw[rangeSize_one];split <;> lia
   show IsRangeIter _ _ (lo+((0:Nat):Int) * 1) ((((hi-lo).toNat:Nat):Int)-((0:Nat):Int)) 1;rw[e1,e2];exact aLK _ rfl
 . have e:b=(s.heap.push { cls:=.type "range", data:=.fields #[.int lo t,.int hi u,.int 1 v] }).objs.size:=by simpa using hb
   subst e;exact I1.fpOk (aL7 _) (I1.hok.fresh (aL7 _))
def qG(ta:TA):TI:=λσ H R=>ta σ H λvs H1=>∃j:Int,vs=[.int j] /\ -(2 ^ 62)<=j/\j<2 ^ 62/\R (Itr 0 j.toNat) H1
theorem y2{a:Expr}{ta:TA}(hg:Gl X "range")(hm:X.mg "range" = none)(ha:PA X [a] ta)(hs:starEach [a] X.env=[(false,eval a X.env)]:=by rfl):PI X tg (.Call (.Name "range" p) [a] [] pos) (qG ta):=by
 intro aA s σ H R I h;refine Call_ (jD I hg hm boot_range (aL8 (thn (ha pos aA s σ H _ I h) λus s1 ⟨vs,H1,I1,r1,q1⟩=>?_) hs rfl));obtain⟨j,e,q1,q2,q⟩:=q1;subst e;cases r1 with
 |cons r rr=>cases rr;obtain⟨t,rfl⟩:=r;exact call_range_1 (y1 I1 (by lia) (by lia) q1 q2 (by simpa using q))
def tFor(wi:TI)(g:TG)(tb:TS):TS:=λD σ H=>wi σ H λJ H1=>∃W:Nat->Nat->St->Hp->Prop,(∃m,W 0 m σ H1)/\∀i m σ H,W i m σ H ->
 (J.stop i H/\D.nx σ H)\/(J.go i H/\∃N:St->Hp->Prop,(∀σ' H',N σ' H'->∃m',m'<m/\W (i+1) m' σ' H')/\∀x H',J.yld i H x H'->g x σ H' λσ2 H2=>tb {D with nx:=N,ct:=N,bk:=D.nx} σ2 H2)
def jH(fp:List Addr)(h:Heap):LAO:=fp.filterMap λb=>(h.get? b).map λo=>(b,o)
def mY{o:Obj}(hb:b∈fp)(e:h.get? b=some o):(b,o)∈jH fp h:=aL9.mpr ⟨b,hb,by rw[e];rfl⟩
def zA{p:Addr×Obj}(hp:p∈jH fp h):p.1∈fp/\h.get? p.1=some p.2:=by
 obtain⟨b,hb,e⟩:=aL9.mp hp;cases q:h.get? b with
 |none=>rw[q]at e;cases e
 |some o=>rw[q]at e;have e':(b,o)=p:=aL0 e;subst e';exact⟨hb,q⟩
def Inv.pinned{σ:St}(I:Inv X aA σ H s)(hf:∀b∈fp,cG X aA H b)(ho:∀b∈fp,∃o,s.heap.get? b=some o/\∀v,o.data ≠ .cell v):Inv X (aA++jH fp s.heap) σ H s :=
 I.pins_of λp hp=>(aLV.mp hp).elim (λz=>I.pin p (aMA _ z)) λz=>by obtain⟨hb,e⟩:=zA z;obtain⟨f0,f1,f2,_⟩:=hf p.1 hb;obtain⟨o,e',d⟩:=ho p.1 hb;rw[e]at e';cases e';exact⟨e,f0,f1,f2,d⟩
def Inv.unpinned{pl:LAO}{σ:St}(I:Inv X (aA++pl) σ H s):Inv X aA σ H s:=I.pins_of λp hp=>I.pin p (aMA _ (aLW _ hp))
def zB{g:TG}{tb:TS}(hp:PassesOwn (model X.prog X.w) X.A X.env X.xe)(hc:X.calm=true)(hi:PI X tg aS wi)(hg:PG X tg g)(hb:PSs X body tb)(hs:∀x,foldedSetIterable aS X.env x=pure x:=by intro _;rfl):PS X (.For tg aS body [] pos) (tFor wi g tb):=by
 intro aA s σ H D I h;refine wpAny_For (thn (hi aA s σ H _ I h) λv s1 h1=>thn h1 λitv s2 h2=>?_) hs;obtain⟨it,fp,tn,J,H2,e,I2,T,st2,f2,W,⟨m0,w0⟩,turn⟩:=h2;subst e;have stat:∀{H':Hp},(∀b∈fp,H' b=none)->∀b∈fp,cG X aA H' b:=λhn b hb=>⟨hn b hb,(f2 b hb).2⟩;refine codeAny_forLoop_any (λn s'=>∃i σ' H',Inv X aA σ' H' s'/\tn i s'.heap/\(∀b∈fp,H' b=none)/\W i n σ' H') ?_ m0 ⟨0,σ,H2,I2,st2,λb hb=>(f2 b hb).1,w0⟩;rintro n s3 ⟨i,σ3,H3,I3,st3,fr3,w3⟩;rcases turn i n σ3 H3 w3 with⟨stop,qn⟩|⟨go,N,hN,step⟩
 . refine aMB hp (thn (T.done X rfl rfl rfl hc i aA s3 σ3 H3 X.xe I3 (stat fr3) st3 stop) λr s4 ⟨hr,I4⟩=>?_);subst hr;exact wpAny_execs_nil ⟨σ3,H3,I4,qn⟩
 . refine aMB hp (thn (T.item X rfl rfl rfl hc i aA s3 σ3 H3 X.xe I3 (stat fr3) st3 go) λr s4 ⟨u,hr,h4⟩=>?_);subst hr;refine aMB hp (thn h4 λ_ s5 ⟨x,H5,I5,r5,y5,st5,fr5⟩=>?_);have I5':=I5.pinned (stat fr5) (T.obj _ _ st5);refine aMB hp (thn (hg _ s5 σ3 H5 x u _ I5' r5 (step x H5 y5)) λ_ s6 ⟨σ6,H6,I6,q6⟩=>?_);refine aMB hp (thn (hb _ s6 σ6 H6 _ I6 q6) λf s7 q7=>?_);have again:∀{σ7:St}{H7:Hp},Inv X (aA++jH fp s5.heap) σ7 H7 s7->N σ7 H7->∃m,m<n/\∃i σ' H',Inv X aA σ' H' s7/\tn i s7.heap/\(∀b∈fp,H' b=none)/\W i m σ' H':=λ{σ7 H7} I7 n7=>by obtain⟨m',hm,w7⟩:=hN σ7 H7 n7;refine⟨m',hm,i+1,σ7,H7,I7.unpinned,T.keep _ _ _ st5 λb hb o e=>(I7.pin (b,o) (aMA _ (aMA _ (mY hb e)))).1,λb hb=>?_,w7⟩;obtain⟨o,e,d⟩:=T.obj _ _ st5 b hb;exact(I7.pin (b,o) (aMA _ (aMA _ (mY hb e)))).2.1
   cases f with
   |next=>obtain⟨σ7,H7,I7,n7⟩:=q7;exact again I7 n7
   |cont=>obtain⟨σ7,H7,I7,n7⟩:=q7;exact again I7 n7
   |brk=>obtain⟨σ7,H7,I7,q7⟩:=q7;exact⟨σ7,H7,I7.unpinned,q7⟩
   |ret v=>obtain⟨x7,σ7,H7,I7,r7,q7⟩:=q7;exact⟨x7,σ7,H7,I7.unpinned,r7,q7⟩
abbrev R2:=V->V->Hp->VK->Prop
def OpR(X:Cx)(f:aP0->aP0->Sem aP0)(r:R2):Prop :=
 ∀(aA:LAO) (s:aP1) (σ:St) (H:Hp) (x y:V) (v u:aP0) (Q:VK),Inv X aA σ H s->aH x v->aH y u->r x y H Q ->
  wpAny (model X.prog X.w) X.A (f v u) (EP X aA σ Q) X.xe s
def UnR(X:Cx)(f:aP0->Sem aP0)(r:V->Hp->VK->Prop):Prop :=
 ∀(aA:LAO) (s:aP1) (σ:St) (H:Hp) (x:V) (v:aP0) (Q:VK),Inv X aA σ H s->aH x v->r x H Q ->
  wpAny (model X.prog X.w) X.A (f v) (EP X aA σ Q) X.xe s
def gK(X:Cx)(f:aP0)(r:List V->Hp->VK->Prop):Prop :=
 ∀(aA:LAO) (s:aP1) (σ:St) (H:Hp) (xs:List V) (us:List aP0) (Q:VK),Inv X aA σ H s->aL xs us->r xs H Q ->
  wpAny (model X.prog X.w) X.A (call f us) (EP X aA σ Q) X.xe s
def TruR(X:Cx)(r:V->Hp->(Bool->Hp->Prop)->Prop):Prop :=
 ∀(aA:LAO) (s:aP1) (σ:St) (H:Hp) (x:V) (v:aP0) (Q:Bool->Hp->Prop),Inv X aA σ H s->aH x v->r x H Q ->
  wpAny (model X.prog X.w) X.A (truthy v) (TP X aA σ Q) X.xe s
def tOp(r:R2)(ta tb:TE):TE:=λσ H Q=>ta σ H λx H1=>tb σ H1 λy H2=>r x y H2 Q
def tUn(r:V->Hp->VK->Prop)(ta:TE):TE:=λσ H Q=>ta σ H λx H1=>r x H1 Q
def rI(C:Int->Int->Prop)(g:Int->Int->V):R2:=λx y H Q=>∃i j,x=.int i/\y=.int j/\C i j/\Q (g i j) H
def rI0(g:Int->Int->V):R2:=λx y H Q=>∃i j,x=.int i/\y=.int j/\Q (g i j) H
def rU(g:Int->V):V->Hp->VK->Prop:=λx H Q=>∃i,x=.int i/\Q (g i) H
section
variable  {a b:Expr}{tb tc:TE}
def mZ(ha:PE X a ta)(hb:PE X b tb){σ:St}{R:V->V->Hp->Prop}(I:Inv X aA σ H s)(h:ta σ H λx H1=>tb σ H1 λy H2=>R x y H2){Q:VSP}{f:aP0->aP0->Sem aP0}(hf:∀v u s2 x y H2,Inv X aA σ H2 s2->aH x v->aH y u->R x y H2->wpAny (model X.prog X.w) X.A (f v u) Q X.xe s2):wpAny (model X.prog X.w) X.A (eval a X.env) (λv s₁=>wpAny (model X.prog X.w) X.A (eval b X.env) (λu s₂=>wpAny (model X.prog X.w) X.A (f v u) Q X.xe s₂) X.xe s₁) X.xe s:=by refine thn (ha aA s σ H _ I h) λv s1 ⟨x,H1,I1,r1,q1⟩=>?_;refine thn (hb aA s1 σ H1 _ I1 q1) λu s2 ⟨y,H2,I2,r2,q2⟩=>?_;exact hf v u s2 x y H2 I2 r1 r2 q2
def pe_op{op:Operator}{r:R2}(ho:OpR X (binaryOp op) r)(ha:PE X a ta)(hb:PE X b tb):PE X (.BinOp a op b pos) (tOp r ta tb):=by intro aA s σ H Q I h;exact wpAny_BinOp (mZ ha hb I h λv u s2 x y H2 I2 rx ry q=>ho aA s2 σ H2 x y v u Q I2 rx ry q)
def pe_un{op:UnaryOp}{r:V->Hp->VK->Prop}(ho:UnR X (unaryOp op) r)(ha:PE X a ta):PE X (.UnaryOp op a pos) (tUn r ta):=by intro aA s σ H Q I h;exact UnaryOp_ (thn (ha aA s σ H _ I h) λv s1 ⟨x,H1,I1,r1,q1⟩=>ho aA s1 σ H1 x v Q I1 r1 q1)
def opI{f:aP0->aP0->Sem aP0}{C:Int->Int->Prop}{g:Int->Int->Int}(rule:∀(i j:Int) (t u:Tok) (s:aP1) (Q:VSP) (E:VSP),C i j->Q (.int (g i j) s.toks) {s with toks:=s.toks+1} -> wpAny (model X.prog X.w) X.A (f (.int i t) (.int j u)) Q E s):OpR X f (rI C λi j=>.int (g i j)):=by intro aA s σ H x y v u Q I rx ry h;obtain⟨i,j,rfl,rfl,hc,q⟩:=h;obtain⟨t,rfl⟩:=rx;obtain⟨t',rfl⟩:=ry;exact rule i j t t' s _ _ hc ⟨.int (g i j),H,I.tok _,⟨_,rfl⟩,q⟩
def opI0{f:aP0->aP0->Sem aP0}{g:Int->Int->Int}(rule:∀(i j:Int) (t u:Tok) (s:aP1) (Q:VSP) (E:VSP),Q (.int (g i j) s.toks) {s with toks:=s.toks+1} -> wpAny (model X.prog X.w) X.A (f (.int i t) (.int j u)) Q E s):OpR X f (rI0 λi j=>.int (g i j)):=by intro aA s σ H x y v u Q I rx ry h;obtain⟨i,j,rfl,rfl,q⟩:=h;obtain⟨t,rfl⟩:=rx;obtain⟨t',rfl⟩:=ry;exact rule i j t t' s _ _ ⟨.int (g i j),H,I.tok _,⟨_,rfl⟩,q⟩
def kI{f:aP0->aP0->Sem aP0}{g:Int->Int->Bool}(rule:∀(i j:Int) (t u:Tok) (s:aP1) (Q:VSP) (E:VSP),Q (.bool (g i j)) s->wpAny (model X.prog X.w) X.A (f (.int i t) (.int j u)) Q E s):OpR X f (rI0 λi j=>.bl (g i j)):=by intro aA s σ H x y v u Q I rx ry h;obtain⟨i,j,rfl,rfl,q⟩:=h;obtain⟨t,rfl⟩:=rx;obtain⟨t',rfl⟩:=ry;exact rule i j t t' s _ _ ⟨.bl (g i j),H,I,rfl,q⟩
def CPow(i j:Int):Prop:=0<=j/\j<=1000000/\i.natAbs<2 ^ 64
def zC:OpR X (binaryOp .Add) (rI0 λi j=>.int (i+j)):=opI0 λ_ _ _ _ _ _ _ q=>add_int q
def zD:OpR X (binaryOp .Sub) (rI0 λi j=>.int (i-j)):=opI0 λ_ _ _ _ _ _ _ q=>sub_int q
theorem zE:OpR X (binaryOp .Mod) (rI (λ_ j=>0<j) λi j=>.int (i % j)):=opI λi j _ _ _ _ _ hc q=>by have h1:(0:Int)<j:=hc;exact mod_int' (by lia) (by rw[Int.fmod_eq_emod_of_nonneg i (by lia)];exact q)
def zF:OpR X (binaryOp .Pow) (rI CPow λi j=>.int (i ^ j.toNat)):=opI λ_ _ _ _ _ _ _ hc q=>pow_int_small hc.1 hc.2.1 hc.2.2 q
def unI{f:aP0->Sem aP0}{g:Int->Int}(rule:∀(i:Int) (t:Tok) (s:aP1) (Q:VSP) (E:VSP),Q (.int (g i) s.toks) {s with toks:=s.toks+1} -> wpAny (model X.prog X.w) X.A (f (.int i t)) Q E s):UnR X f (rU λi=>.int (g i)):=by intro aA s σ H x v Q I rx h;obtain⟨i,rfl,q⟩:=h;obtain⟨t,rfl⟩:=rx;exact rule i t s _ _ ⟨.int (g i),H,I.tok _,⟨_,rfl⟩,q⟩
def zG:UnR X (unaryOp .USub) (rU λi=>.int (-i)):=unI λ_ _ _ _ _ q=>neg_int q
end
section
variable  {a b:Expr}{tb tc:TE}
def qH{σ:St}{Q:VK}{k k':Bool}(I:Inv X aA σ H s)(q:Q (.bl k) H)(e:k=k'):EP X aA σ Q (.bool k') s:=by subst e;exact⟨.bl k,H,I,rfl,q⟩
def op_lt:OpR X (compareOp .Lt) (rI0 λi j=>.bl (decide (i<j))):=kI λ_ _ _ _ _ _ _ q=>lt_int q
def op_le:OpR X (compareOp .LtE) (rI0 λi j=>.bl (decide (i<=j))):=kI λ_ _ _ _ _ _ _ q=>le_int q
def op_gt:OpR X (compareOp .Gt) (rI0 λi j=>.bl (decide (j<i))):=kI λ_ _ _ _ _ _ _ q=>gt_int q
def op_ge:OpR X (compareOp .GtE) (rI0 λi j=>.bl (decide (j<=i))):=kI λ_ _ _ _ _ _ _ q=>ge_int q
def zH:OpR X (compareOp .Is) (λx y H Q=>y=.non/\Q (.bl (decide (x=.non))) H):=by
 intro aA s σ H x y v u Q I rx ry h;obtain⟨rfl,q⟩:=h;cases ry;refine is_none_gen (qH I q ?_);cases x <;> first
  |(cases rx;rfl)
  |(obtain⟨t,rfl⟩:=rx;rfl)
def zI:OpR X (compareOp .IsNot) (λx y H Q=>y=.non/\Q (.bl (!decide (x=.non))) H):=by
 intro aA s σ H x y v u Q I rx ry h;obtain⟨rfl,q⟩:=h;cases ry;refine isnot_none_gen (qH I q ?_);cases x <;> first
  |(cases rx;rfl)
  |(obtain⟨t,rfl⟩:=rx;rfl)
def OpR.or{f:aP0->aP0->Sem aP0}{r r':R2}(h:OpR X f r)(h':OpR X f r'):OpR X f (λx y H Q=>r x y H Q\/r' x y H Q):=by
 intro aA s σ H x y v u Q I rx ry q;rcases q with q|q
 . exact h aA s σ H x y v u Q I rx ry q
 . exact h' aA s σ H x y v u Q I rx ry q
def zJ{op:CmpOp}{r:R2}(ho:OpR X (compareOp op) r)(ha:PE X a ta)(hb:PE X b tb)(hm:behindInMarks op b=false):PE X (.Compare a [op] [b] pos) (tOp r ta tb):=by intro aA s σ H Q I h;exact wpAny_Compare1 (mZ ha hb I h λv u s2 x y H2 I2 rx ry q=>ho aA s2 σ H2 x y v u Q I2 rx ry q) hm
def qI(t:TE):TT:=λσ H Q=>t σ H λx H'=>∃k,x=.bl k/\Q k H'
def zK{op:CmpOp}{r:R2}(ho:OpR X (compareOp op) r)(ha:PE X a ta)(hb:PE X b tb)(hm:behindInMarks op b=false):PT X (.Compare a [op] [b] pos) (qI (tOp r ta tb)):=by
 intro aA s σ H Q I h;refine wpAny_isTrue_Compare1 (thn (ha aA s σ H _ I h) λv s1 ⟨x,H1,I1,r1,q1⟩=>thn (hb aA s1 σ H1 _ I1 q1) λu s2 ⟨y,H2,I2,r2,q2⟩ =>
  thn (ho aA s2 σ H2 x y v u _ I2 r1 r2 q2) λc s3 ⟨z,H3,I3,r3,k,e,q3⟩=>?_) hm
 subst e;cases r3;exact aL2 ⟨H3,I3,q3⟩
def m5(K:Fg)(x:V)(H:Hp)(k:Bool):Prop :=
 match x with
 |.non=>k=false
 |.bl b=>k=b
 |.int i=>k=(i != 0)
 |.str y=>y.length<=sizeLine/\k=((y.length:Int) != 0)
 |.byt y=>y.size<=sizeLine/\k=((y.size:Int) != 0)
 |.ref p=>(∃xs,SqL K H p xs/\k = !xs.isEmpty)\/(∃xs,SqT K H p xs/\k = !xs.isEmpty)\/∃kvs,H p=some (.dK kvs)/\k = !kvs.isEmpty
 |_=>False
def zL{kvs:List (κ×V)}{vs:List (κ×aP0)}(r:KV kvs vs):(!vs.isEmpty) = !kvs.isEmpty:=by cases r <;> rfl
def qJ{its:List aP0}(r:aL xs its):(!its.toArray.isEmpty) = !xs.isEmpty:=by cases r <;> simp
def jI:(sizeLine:Nat)<2 ^ 63:=by rw[aMC];decide
theorem zM:TruR X (λx H Q=>∃k,m5 X.K x H k/\Q k H):=by
 intro aA s σ H x v Q I rx h;obtain⟨k,e,q⟩:=h;have hl:=jI;have hs:sizeLine=16777216:=aMC;cases x with
 |non=>cases rx;have e':k=false:=e;subst e';exact truthy_none ⟨H,I,q⟩
 |bl b=>cases rx;have e':k=b:=e;subst e';exact aL2 ⟨H,I,q⟩
 |int i=>obtain⟨t,rfl⟩:=rx;have e':k=(i != 0):=e;subst e';exact PySem.P.truthy_int ⟨H,I,q⟩
 |str y=>obtain⟨t,rfl⟩:=rx;obtain⟨hy,e'⟩:y.length<=sizeLine/\k=((y.length:Int) != 0):=e;subst e';exact PySem.P.truthy_str (by lia) ⟨H,I.tok _,q⟩
 |byt y=>obtain⟨t,rfl⟩:=rx;obtain⟨hy,e'⟩:y.size<=sizeLine/\k=((y.size:Int) != 0):=e;subst e';exact W.truthy_bytes (by lia) ⟨H,I.tok _,q⟩
 |ref p =>
  cases rx;have e':(∃xs,SqL X.K H p xs/\k = !xs.isEmpty)\/(∃xs,SqT X.K H p xs/\k = !xs.isEmpty)\/∃kvs,H p=some (.dK kvs)/\k = !kvs.isEmpty:=e;rcases e' with⟨xs,hx,e'⟩|⟨xs,hx,e'⟩|⟨kvs,hx,e'⟩
  . subst e';obtain⟨its,r,pl,hz⟩:=I.list hx;have hlen:=r.length;exact wpAny_truthy_list pl.isList (by simp only[aMD];lia) ⟨H,I.tok _,by rw[qJ r];exact q⟩
  . subst e';obtain⟨its,r,pl,hz⟩:=I.tuple hx;have hlen:=r.length;exact truthy_tuple pl (by simp only[aMD];lia) ⟨H,I.tok _,by rw[qJ r];exact q⟩
  . subst e';obtain⟨hz,hS,vs,r,m⟩:kvs.length<=sizeLine/\(p==sysModules)=false/\∃vs,KV kvs vs/\s.heap.DictOf (kG X.prog X.w) p vs:=I.hok p _ hx;have hlen:kvs.length=vs.length:=Paired.length r;exact wpAny_truthy_dict hS m (by lia) ⟨H,I.tok _,by rw[zL r];exact q⟩
 |_=>exact(show False from e).elim
def zN (ha : PE X a ta) (he : ∀ cI, isTrue a X.env cI = (do let v ← cI; standAt a.pos; holding [v] (truthy v))) :
    PT X a (λσ H Q=>ta σ H λx H'=>∃k,m5 X.K x H' k/\Q k H'):=by
 intro aA s σ H Q I h;exact isTrue_plain (thn (ha aA s σ H _ I h) λv s1 ⟨x,H1,I1,r1,q1⟩=>zM aA s1 σ H1 x v Q I1 r1 q1) (he _)
def zO:OpR X (binaryOp .Add) (λx y H Q=>∃i j,x=.str i/\y=.str j/\i.length+j.length<=sizeLine/\Q (.str (i++j)) H):=by intro aA s σ H x y v u Q I rx ry h;obtain⟨i,j,rfl,rfl,hz,q⟩:=h;obtain⟨t,rfl⟩:=rx;obtain⟨t',rfl⟩:=ry;exact add_str (λt' tk=>⟨.str (i++j),H,I.tok _,⟨_,rfl⟩,q⟩) hz
def fA{x:V}(r:aL [x] us):∃u,us=[u]/\aH x u:=by
 cases r with
 |cons r1 r2=>cases r2;exact⟨_,rfl,r1⟩
def vals2{x y:V}(r:aL [x,y] us):∃u w',us=[u,w']/\aH x u/\aH y w':=by
 cases r with
 |cons r1 r2 =>
  cases r2 with
  |cons r3 r4=>cases r4;exact⟨_,_,rfl,r1,r3⟩
def zP:gK X (.type "int") (λxs H Q=>(∃i,xs=[.int i]/\Q (.int i) H)\/∃k,xs=[.bl k]/\Q (.int (if k then 1 else 0)) H):=by
 intro aA s σ H xs us Q I r h;rcases h with⟨i,rfl,q⟩|⟨k,rfl,q⟩
 . obtain⟨u,rfl,t,rfl⟩:=fA r;exact call_int_int ⟨.int i,H,I,⟨_,rfl⟩,q⟩
 . obtain⟨u,rfl,r1⟩:=fA r;cases r1;exact call_int_bool ⟨.int (if k then 1 else 0),H,I.tok _,⟨_,rfl⟩,q⟩
def LenV(K:Fg)(x:V)(H:Hp)(n:Nat):Prop :=
 match x with
 |.str y=>y.length<=sizeLine/\n=y.length
 |.byt y=>y.size<=sizeLine/\n=y.size
 |.ref p=>(∃xs,SqL K H p xs/\n=xs.length)\/∃xs,SqT K H p xs/\n=xs.length
 |_=>False
theorem zQ:gK X (.builtin "len") (λxs H Q=>∃x n,xs=[x]/\LenV X.K x H n/\Q (.int n) H):=by
 intro aA s σ H xs us Q I r h;obtain⟨x,n,rfl,e,q⟩:=h;obtain⟨u,rfl,rx⟩:=fA r;have hl:=jI;have hs:sizeLine=16777216:=aMC;cases x with
 |str y=>obtain⟨t,rfl⟩:=rx;obtain⟨hy,e'⟩:y.length<=sizeLine/\n=y.length:=e;subst e';exact len_str (by lia) ⟨.int _,H,I.tok _,⟨_,rfl⟩,q⟩
 |byt y=>obtain⟨t,rfl⟩:=rx;obtain⟨hy,e'⟩:y.size<=sizeLine/\n=y.size:=e;subst e';exact W.len_bytes (by lia) ⟨.int _,H,I.tok _,⟨_,rfl⟩,q⟩
 |ref p =>
  cases rx;have e':(∃xs,SqL X.K H p xs/\n=xs.length)\/∃xs,SqT X.K H p xs/\n=xs.length:=e;rcases e' with⟨xs,hx,e'⟩|⟨xs,hx,e'⟩
  . subst e';obtain⟨its,r',pl,hz⟩:=I.list hx;have hlen:=r'.length;exact Calls.call_len_list pl.isList (by simp only[aMD];lia) ⟨.int xs.length,H,I.tok _,⟨_,by simp only[aMD];rw[hlen]⟩,q⟩
  . subst e';obtain⟨its,r',pl,hz⟩:=I.tuple hx;have hlen:=r'.length;exact len_tuple pl (by simp only[aMD];lia) ⟨.int xs.length,H,I.tok _,⟨_,by simp only[aMD];rw[hlen]⟩,q⟩
 |_=>exact(show False from e).elim
end
structure gL(h:Heap)(x dx C:Addr)(mA:SOV):Prop where
 obj:h.get? x=some (W.instObj C dx)
 ns:h.Ns1 dx mA
 ne:dx≠x
def zR(n:h.Ns1 dx mA):∃od,h.get? dx=some od/\∀name,W.lookIn name od=some (mA name):=by
 obtain⟨o,es,ep,ho,hd,hk,_,hm⟩:=n;refine⟨o,ho,λname=>?_⟩;have e:=hm name;unfold nsFind findBy at e;rw[<- Array.find?_toList]at e;unfold W.lookIn;rw[hd];dsimp only;split
 . rename_i y q;rw[q]at e;exact congrArg some e
 . rename_i q;rw[q]at e;have a:es.toList.any (·.refKey)=false:=by rw[List.any_eq_false];intro y hy;obtain⟨z,t,hkey⟩:=hk y (aME.mp hy);simp[DictEntry.refKey,hkey]
   have a':¬ es.toList.any (·.refKey)=true:=by rw[a];exact aMF
   rw[if_neg a'];exact congrArg some e
def gL.look{x C:Addr}(I:gL h x dx C mA):∃od,W.InstAt h x (W.instObj C dx) C (some od)/\∀name,W.lookIn name od=some (mA name) :=
 let⟨od,ho,hl⟩:=zR I.ns
 ⟨od,⟨I.obj,rfl,rfl,ho⟩,hl⟩
section
variable {A:aP2}{E:VSP}{x C f:Addr}{name:Str}{v:aP0}
def zS{expr:Bool}{Q:VSP}(X:K.In s.heap)(I:gL s.heap x dx C mA)(hg:W.plainGet K C name=true)(hh:W.hasDictIn K C=true)(ha:W.findIn K (.ref C) name=some none)(hv:mA name=some v)(hv':W.handedIn v=true)(h:Q v {s with toks:=s.toks+1}):wpAny (model prog w) A (getAttr (.ref x) name expr) Q E s:=by obtain⟨od,J,hl⟩:=I.look;exact W.get_value X J (W.plainGet_of hg).1 (W.findObj_own hh ha rfl (by rw[hl,hv])) hv' h
def zT{pl:Sem Bool}{Q:aP0×List aP0->aP1->Prop}(X:K.In s.heap)(I:gL s.heap x dx C mA)(hg:W.plainGet K C name=true)(hf:W.findIn K (.ref C) name=some (some (.ref f)))(ht:W.isFn K (.ref f)=true)(hv:mA name=none)(h:Q (.ref f,[.ref x]) s):wpAny (model prog w) A (getMethod (.ref x) name pl) Q E s:=by obtain⟨od,J,hl⟩:=I.look;exact W.method_fn X J (W.plainGet_of hg).1 (W.plainGet_of hg).2 hf (aMG.mp ht) (by show(W.lookIn name od).map (·.isSome)=some false;rw[hl,hv];rfl) h
theorem zU{ns:List Str}(X:K.In s.heap)(I:gL s.heap x dx C mA)(hs:W.findIn K (.ref C) "__setattr__" = some (some (.builtin "object.__setattr__")))(hp:W.plainOver K C=true)(ht:W.takerIn K C name=some none)(hh:W.hasDictIn K C=true)(hw:PySem.Within mA ns)(hsz:ns.length<=sizeLine)(h:∀h',gL h' x dx C (λy=>if y=name then some v else mA y)->Heap.SameBut dx s.heap h'->Q () {s with heap:=h',toks:=s.toks+2}):wpAny (model prog w) A (setAttr (.ref x) name v) Q E s:=by
 obtain⟨od,J,hl⟩:=I.look;refine W.set_plain X J hs (W.osa_open (s:={s with toks:=s.toks+1}) (r:=none) X J hp ht λb=>?_)
 obtain⟨cd,hc,hd'⟩:=W.any_some hh;have hx:s.heap.get? x=some ⟨.ref C,some dx,.plain,#[]⟩:=I.obj;refine aL6 (aL5 (aL6 (aL6 (wpAny_loadPart hx (aL6 (W.Looks.here (s:={s with toks:=s.toks+1}) (W.looks_clsIn X hc) ?_))))))
 rw[hd'];refine aL5 (a:=some dx) (aL6 (aL5 (aL6 ?_)));refine wpAny_nsSet1 (s:={s with toks:=s.toks+1}) I.ns λh' hn2 hs2=>?_
 obtain⟨oD,esD,epD,hoD,hdD,hcD⟩:=hn2.count (PySem.Within.cons name v hw);refine aL6 (wpAny_lookBehind hoD (by rw[hdD];exact pastItsLine_dict (aLS hcD (by rw[aMH];lia))) ?_)
 exact aL5 (h _ ⟨(hs2.2 _ (Ne.symm I.ne)).trans I.obj,hn2,I.ne⟩ hs2)
def zV{R:Result->aP1->Prop}{vs:List aP0}(X:K.In s.heap)(hm:W.makesIn K C=true)(hi:W.findIn K (.ref C) "__init__" = some (some (.ref f)))(hf:W.typeIn K (.ref f)=some (.type "function"))(h:codeAny (model prog w) (A.under (.builtin "type.__call__" ⟨.ref C::vs,kw⟩)) (.call (.ref f) ⟨.ref (s.heap.objs.size+1)::vs,kw⟩) (W.InitBack (s.heap.objs.size+1) R) {s with heap:=(s.heap.push W.emptyDict).push (W.instObj C s.heap.objs.size)}):codeAny (model prog w) A (.call (.ref C) ⟨vs,kw⟩) R s:=by obtain⟨hh,g,d,t,os⟩:=s;exact W.make_core (W.makes_of X hm) (W.looks_findIn X hi) (λself=>W.bind_fn X self hf) (.inl rfl) h
def zW{R:Result->aP1->Prop}(X:K.In s.heap)(hm:W.makesIn K C=true)(hi:W.findIn K (.ref C) "__init__" = some (some (.builtin "object.__init__")))(hb:∀self,W.Looks (model prog w) s.heap (bindSpecial (.builtin "object.__init__") self) (.builtin "object.__init__", [self]))(h:codeAny (model prog w) (A.under (.builtin "type.__call__" ⟨[.ref C],[]⟩)) (.call (.builtin "object.__init__") ⟨[.ref (s.heap.objs.size+1)],[]⟩) (W.InitBack (s.heap.objs.size+1) R) {s with heap:=(s.heap.push W.emptyDict).push (W.instObj C s.heap.objs.size)}):codeAny (model prog w) A (.call (.ref C) ⟨[],[]⟩) R s:=by obtain⟨hh,g,d,t,os⟩:=s;exact W.make_core (W.makes_of X hm) (W.looks_findIn X hi) hb (.inr ⟨rfl,rfl⟩) h
end
def bY(f:Str)(v:V):List (Str×V)->List (Str×V)
 |[]=>[(f,v)]
 |(g,x)::r=>if g=f then(g,v)::r else(g,x)::bY f v r
theorem qK(f g:Str)(v:V):∀fs:List (Str×V),(bY f v fs).lookup g=if g=f then some v else fs.lookup g
 |[]=>by
  show List.lookup g [(f,v)]=_;by_cases h:g=f
  . have hb:(g==f)=true:=aMG.mpr h;simp only[List.lookup,hb,if_pos h]
  . have hb:(g==f)=false:=aLJ.mpr h;simp only[List.lookup,hb,if_neg h]
 |(k,x)::r=>by
  have ih:=qK f g v r;rw[show bY f v ((k,x)::r)=(if k=f then(k,v)::r else(k,x)::bY f v r)from rfl]
  by_cases hk:k=f
  . rw[if_pos hk];by_cases h:g=k
    . have hb:(g==k)=true:=aMG.mpr h;simp only[List.lookup,hb,if_pos (h.trans hk)]
    . have hb:(g==k)=false:=aLJ.mpr h;simp only[List.lookup,hb,if_neg (λe:g=f=>h (e.trans hk.symm))]
  . rw[if_neg hk];by_cases h:g=k
    . have hb:(g==k)=true:=aMG.mpr h;simp only[List.lookup,hb,if_neg (λe:g=f=>hk (h.symm.trans e))]
    . have hb:(g==k)=false:=aLJ.mpr h;simp only[List.lookup,hb];exact ih
theorem m6(f:Str)(v:V):∀fs:List (Str×V),f∈(bY f v fs).map (·.1)/\∀g,g∈fs.map (·.1)->g∈(bY f v fs).map (·.1)
 |[]=>⟨by simp[bY],λg h=>by simp at h⟩
 |(k,x)::r=>by
  obtain⟨i1,i2⟩:=m6 f v r;rw[show bY f v ((k,x)::r)=(if k=f then(k,v)::r else(k,x)::bY f v r)from rfl]
  by_cases hk:k=f
  . rw[if_pos hk];subst hk;exact⟨by simp,λg h=>by simpa using h⟩
  . rw[if_neg hk];refine⟨?_,λg h=>?_⟩
    . rw[aMI];exact mcm i1
    . rw[aMI]at h ⊢;rcases aLU.mp h with e|e
      . exact aLU.mpr (.inl e)
      . exact mcm (i2 g e)
theorem qL(f:Str)(v:V):∀fs:List (Str×V),(bY f v fs).length<=fs.length+1
 |[]=>by simp[bY]
 |(k,x)::r=>by
  have ih:=qL f v r;rw[show bY f v ((k,x)::r)=(if k=f then(k,v)::r else(k,x)::bY f v r)from rfl]
  by_cases hk:k=f
  . rw[if_pos hk,aMH,aMH];lia
  . rw[if_neg hk,aMH,aMH];lia
def cZ.some_of{o:Option aP0}(r:cZ (some v) o):∃u,o=some u/\aH v u:=by
 cases o with
 |none=>exact(show False from r).elim
 |some u=>exact⟨u,rfl,r⟩
def cZ.none_of{o:Option aP0}(r:cZ none o):o=none:=by
 cases o with
 |none=>rfl
 |some u=>exact(show False from r).elim
def zX(r:aH v u):W.handedIn u=true:=by
 cases v with
 |non=>cases(show u=Value.none from r);rfl
 |bl b=>cases(show u=Value.bool b from r);rfl
 |int i=>obtain⟨t,e⟩:=(show ∃t,u=Value.int i t from r);cases e;rfl
 |str x=>obtain⟨t,e⟩:=(show ∃t,u=Value.str x t from r);cases e;rfl
 |byt b=>obtain⟨t,e⟩:=(show ∃t,u=Value.bytes b t from r);cases e;rfl
 |flt b=>obtain⟨t,e⟩:=(show ∃t,u=Value.float b t from r);cases e;rfl
 |ref a=>cases(show u=Value.ref a from r);rfl
 |ty n=>cases(show u=Value.type n from r);rfl
section
variable  {a C:Addr}{fs fs':List (Str×V)}
def m7(hok:HOk P w H h)(e:H a=some (.ins C dx fs)):∃mA,gL h a dx C mA/\(∀f,cZ (fs.lookup f) (mA f))/\PySem.Within mA (fs.map (·.1))/\fs.length<=1000/\H dx=some (.own a):=by
 obtain⟨d,z,ne,ob,mA,n,r,q⟩:=(show bW P w H h a (.ins C dx fs)from hok a _ e)
 exact⟨mA,⟨ob,n,ne⟩,r,q,z,d⟩
end
structure Cls(K:Fg)(C:Addr):Prop where
 pg:W.plainGet K C Str.empty=true
 hd:W.hasDictIn K C=true
 po:W.plainOver K C=true
 sa:W.findIn K (.ref C) "__setattr__" = some (some (.builtin "object.__setattr__"))
def Cls.get{C:Addr}(c:Cls K C)(f:Str):W.plainGet K C f=true:=c.pg
def fB(K:Fg)(C:Addr)(f:Str):Prop:=W.findIn K (.ref C) f=some none
def fB.taker{C:Addr}{f:Str}(n:fB K C f):W.takerIn K C f=some none:=by
 unfold W.takerIn;rw[show W.findIn K (.ref C) f=some none from n]
 rfl
structure jJ(K:Fg)(C:Addr)(m:Str)(f:Addr):Prop where
 at_:W.findIn K (.ref C) m=some (some (.ref f))
 fn:W.isFn K (.ref f)=true
 kp:W.keepIn K (.ref f)=true
section
variable {σ:St}{a C:Addr}{fs:List (Str×V)}{f:Str}{A:aP2}{E:VSP}
def zY{b:Bool}{Q:VSP}(I:Inv X aA σ H s)(e:H a=some (.ins C dx fs))(c:Cls X.K C)(n:fB X.K C f)(l:fs.lookup f=some v)(h:∀u s',Inv X aA σ H s'->aH v u->Q u s'):wpAny (model X.prog X.w) A (getAttr (.ref a) f b) Q E s:=by
 obtain⟨mA,O,r,_,_,_⟩:=m7 I.hok e;obtain⟨u,hu,ru⟩:=cZ.some_of (v:=v) (o:=mA f) (by rw[<- l];exact r f)
 exact zS I.kIn O (c.get f) c.hd n hu (zX ru) (h u _ (I.tok _) ru)
def zZ{m:Str}{g:Addr}{pl:Sem Bool}{Q:aP0×List aP0->aP1->Prop}(I:Inv X aA σ H s)(e:H a=some (.ins C dx fs))(c:Cls X.K C)(k:jJ X.K C m g)(l:fs.lookup m=none)(h:Q (.ref g,[.ref a]) s):wpAny (model X.prog X.w) A (getMethod (.ref a) m pl) Q E s:=by
 obtain⟨mA,O,r,_,_,_⟩:=m7 I.hok e;have hn:mA m=none:=cZ.none_of (by rw[<- l];exact r m)
 exact zT I.kIn O (c.get m) k.at_ k.fn hn h
theorem z8{y:V}(I:Inv X aA σ H s)(e:H a=some (.ins C dx fs))(c:Cls X.K C)(n:fB X.K C f)(hl:fs.length<1000)(ry:aH y u)(h:∀s',Inv X aA σ (upd H a (.ins C dx (bY f y fs))) s'->Q () s'):wpAny (model X.prog X.w) A (setAttr (.ref a) f u) Q E s:=by
 obtain⟨mA,O,r,wi,_,ho⟩:=m7 I.hok e;have hz:(fs.map (·.1)).length<=sizeLine:=by rw[aMJ,aMC];lia
 refine zU I.kIn O c.sa c.po n.taker c.hd wi hz λh' O' sb=>h _ ?_;have hd:∃o,h'.get? dx=some o:=let⟨o,_,_,e',_⟩:=O'.ns;⟨o,e'⟩
 refine I.write (x:=a) (e:=dx) (by rw[e];exact True.intro) (.inr ho) (λb q hb z=>(sb.2 b hb).trans z) hd ?_
 refine⟨by rw[aK O.ne];exact ho,?_,O.ne,O'.obj,_,O'.ns,λg=>?_,λg hg=>?_⟩
 . have:=qL f y fs;lia
 . show cZ ((bY f y fs).lookup g) (if g=f then some u else mA g);rw[qK];by_cases q:g=f
   . rw[if_pos q,if_pos q];exact ry
   . rw[if_neg q,if_neg q];exact r g
 . by_cases q:g=f
   . rw[q];exact(m6 f y fs).1
   . refine(m6 f y fs).2 g (wi g λz=>hg ?_);show(if g=f then some u else mA g)=none;rw[if_neg q];exact z
def Inv.made(I:Inv X aA σ H s):Inv X aA σ (upd (upd H s.heap.objs.size (.own (s.heap.objs.size+1))) (s.heap.objs.size+1) (.ins C s.heap.objs.size [])) {s with heap:=(s.heap.push W.emptyDict).push (W.instObj C s.heap.objs.size)}:=by
 have e1:(s.heap.push W.emptyDict).get? s.heap.objs.size=some W.emptyDict:=aLK s.heap rfl;have e2:((s.heap.push W.emptyDict).push (W.instObj C s.heap.objs.size)).get? (s.heap.objs.size+1)=some (W.instObj C s.heap.objs.size):=by
  have:=aLK (s.heap.push W.emptyDict) (o:=W.instObj C s.heap.objs.size) rfl
  rwa [aMK]at this
 have e3:(s.heap.push W.emptyDict).Ns s.heap.objs.size (λ_=>none):=⟨W.emptyDict,#[],_,e1,rfl,(λe he=>absurd he (by simp)),λ_=>rfl⟩
 have I1:=I.laid (a:=s.heap.objs.size) (o:=.own (s.heap.objs.size+1)) (h':=s.heap.push W.emptyDict) (t':=s.toks) (λb u q=>hps q) (aL7 _) ⟨_,e1⟩;refine I1.laid (a:=s.heap.objs.size+1) (o:=.ins C s.heap.objs.size []) (t':=s.toks) (λb u q=>hps q) (aML (aMK _ _)) ?_;have ne:s.heap.objs.size≠s.heap.objs.size+1:=aLO (aMM _);refine⟨by rw[aK ne,a9],aMN _,ne,e2,λ_=>none,(Heap.Ns1.of_empty e3).at λo q=>hps q,λ_=>True.intro,λy hy=>absurd rfl hy⟩
def z9{e:Expr}{f:Str}{Q:VSP}(hb:attributeBase e f env (eval e env)=eval e env)(h:wpAny (model prog w) A (eval e env) (λo s₁=>wpAny (model prog w) A (getAttr o f true) Q E s₁) E s):wpAny (model prog w) A (eval (.Attribute e f pos) env) Q E s :=
 Attribute_any_ h (by rw[arm_eval_Attribute,hb])
end
def tFld(K:Fg)(ta:TE)(f:Str):TE:=λσ H Q=>ta σ H λx H1=>∃a C dx fs v,x=.ref a/\H1 a=some (.ins C dx fs)/\Cls K C/\fB K C f/\fs.lookup f=some v/\Q v H1
def sFld(K:Fg)(ta tv:TE)(f:Str):TS:=λD σ H=>tv σ H λy H1=>ta σ H1 λx H2=>∃a C dx fs,x=.ref a/\H2 a=some (.ins C dx fs)/\Cls K C/\fB K C f/\fs.length<1000 /\
 D.nx σ (upd H2 a (.ins C dx (bY f y fs)))
section
variable {o e value:Expr}{f:Str}{tpos:Pos}{tv:TE}
def aAA(he:PE X e ta)(hb:attributeBase e f X.env (eval e X.env)=eval e X.env):PE X (.Attribute e f pos) (tFld X.K ta f):=by intro aA s σ H Q I h;refine z9 hb (thn (he aA s σ H _ I h) λu s1 ⟨x,H1,I1,rx,a,C,dx,fs,v,ex,ea,c,n,l,q⟩=>?_);subst ex;obtain rfl:u=Value.ref a:=rx;exact zY I1 ea c n l λu' s2 I2 ru=>⟨v,H1,I2,ru,q⟩
def aAB(ha:PE X o ta)(hv:PE X value tv)(hs:swapsWith value (some (.Attribute o f pos')) pos.line X.env=pure false):PS X (.Assign [.Attribute o f pos'] value pos) (sFld X.K ta tv f):=by intro aA s σ H D I h;refine plainObj_wpAny_Assign_Attribute (thn (hv aA s σ H _ I h) λu s1 ⟨y,H1,I1,ry,q⟩=>thn (ha aA s1 σ H1 _ I1 q) λov s2 ⟨x,H2,I2,rx,a,C,dx,fs,ex,ea,c,n,l,q2⟩=>?_) hs;subst ex;obtain rfl:ov=Value.ref a:=rx;exact z8 I2 ea c n l ry λs3 I3=>⟨σ,_,I3,q2⟩
def aAC {pl : Sem Bool} {m : Str} {apos : Pos} {args : List Expr} {aA : List (Addr × Obj)} {s : aP1} {σ : St} {H : Hp} {Q : aP0 → aP1 → Prop} {te : TE} (he : PE X e te) (I : Inv X aA σ H s) (h : te σ H fun x H1 => ∃ a C dx fs g, x = .ref a ∧ H1 a = some (.ins C dx fs) ∧ Cls X.K C ∧ jJ X.K C m g ∧ fs.lookup m = none ∧ ∀ s1, Inv X aA σ H1 s1 → wpAny (model X.prog X.w) X.A (callWith pos (.ref g) [.ref a] (backTo pos (starEach args X.env)) (backToKw pos (keywordEach [] X.env))) Q X.xe s1)
    (ht:eval (.Call (.Attribute e m apos) args [] pos) X.env=(do
     let ov <- eval e X.env
     standAt apos.atName
     let(f,first) <- holding [ov] (getMethod ov m pl)
     callWith pos f first (backTo pos (starEach args X.env)) (backToKw pos (keywordEach [] X.env)))) :
    wpAny (model X.prog X.w) X.A (eval (.Call (.Attribute e m apos) args [] pos) X.env) Q X.xe s:=by
 refine W.methodCall_KW (pl:=pl) (thn (he aA s σ H _ I h) λu s1 ⟨x,H1,I1,rx,a,C,dx,fs,g,ex,ea,c,k,l,q⟩=>?_) ht;subst ex;obtain rfl:u=Value.ref a:=rx;exact zZ I1 ea c k l (q s1 I1)
end
section
variable {σ:St}{A:aP2}{E:VSP}{Q:VSP}{c:aP0}{b:Bool}
end
structure aX(k:Nat)(A:aP2):Prop where
 hd:A.handled=none
 dp:A.depth+3 * k+5<recursionLimit
 un:A.units+16 * k+200<cLine
theorem aX.mono{A:aP2}(r:aX k A)(h:j<=k):aX j A:=⟨r.hd,by have:=r.dp;lia,by have:=r.un;lia⟩
theorem aX.deeper{A:aP2}(r:aX (k+1) A)(env:Env):aX k (A.deeper env) :=
 ⟨r.hd,by have:=r.dp;show A.depth+1+3 * k+5<_;lia,by have:=r.un;show A.units+3+16 * k+200<_;lia⟩
def aAD{A:aP2}{C:Addr}:(A.under (.builtin "type.__call__" ⟨.ref C::us,kw⟩)).depth=A.depth+1:=by
 first|rfl|simp[Around.under,Code.weight,Code.isCreation,Code.isGuard,Code.isCaller,Code.frames,Code.isFrame,guardIds]
def aAE{A:aP2}{C:Addr}:(A.under (.builtin "type.__call__" ⟨.ref C::us,kw⟩)).units=A.units+1:=by
 first|rfl|simp[Around.under,Code.cUnits,Code.frames,Code.isFrame]
theorem aX.make{A:aP2}(r:aX (k+1) A)(C:Addr)(us:List aP0)(kw:List (Str×aP0)):aX k (A.under (.builtin "type.__call__" ⟨.ref C::us,kw⟩)) :=
 ⟨r.hd,by have:=r.dp;rw[aAD];lia,by have:=r.un;rw[aAE];lia⟩
theorem aX.depth{A:aP2}(r:aX k A):A.depth<recursionLimit:=by have:=r.dp;lia
theorem aX.units{A:aP2}(r:aX k A):A.units+64<cLine:=by have:=r.un;lia
def kJ:TA:=λ_ H Q=>Q [] H
def iF(ta:TE)(tr:TA):TA:=λσ H Q=>ta σ H λx H1=>tr σ H1 λxs H2=>Q (x::xs) H2
section
variable {e:Expr}{es:List Expr}{t:TA}
def m8:PA X [] kJ:=λ_ _ _ _ H Q I h=>Calls.spliced_nil ⟨[],H,I,.nil,h⟩
def m9(ha:PE X e te)(hr:PA X es t)(hs:starEach (e::es) X.env=(false,eval e X.env)::starEach es X.env:=by rfl):PA X (e::es) (iF te t):=by intro pos aA s σ H Q I h;rw[hs];show wpAny _ _ (spliced ((false,eval e X.env)::backTo pos (starEach es X.env))) _ _ s;refine Calls.spliced_cons (thn (ha aA s σ H _ I h) λu s1 ⟨x,H1,I1,r1,q1⟩=>?_);exact thn (hr pos aA s1 σ H1 _ I1 q1) λus s2 ⟨xs,H2,I2,r2,q2⟩=>⟨x::xs,H2,I2,.cons r1 r2,q2⟩
def tTup(t:TA):TE:=λσ H Q=>t σ H λxs H1=>xs.length<=sizeLine/\∀p,H1 p=none->Q (.ref p) (upd H1 p (.tup xs))
def tLst(t:TA):TE:=λσ H Q=>t σ H λxs H1=>xs.length<=sizeLine/\∀p,H1 p=none->Q (.ref p) (upd H1 p (.lst xs))
def aAF{x1}(h:PA X es t):PE X (.Tuple es x1 pos) (tTup t):=by
 intro aA s σ H Q I hq;refine wpAny_Tuple_spliced (thn (h pos aA s σ H _ I hq) λus s1 ⟨xs,H1,I1,r,z,q⟩=>⟨by rw[<- r.length];exact z,?_⟩)
 have hf:H1 s1.heap.objs.size=none:=I1.hok.fresh (aL7 _);refine⟨.ref s1.heap.objs.size,upd H1 s1.heap.objs.size (.tup xs),I1.laid (t':=s1.toks) (λb u e=>hps e) (aL7 _) ?_,rfl,q _ hf⟩;exact⟨z,us,r,⟨_,aLK _ rfl,rfl,rfl,_,rfl⟩⟩
def aAG(h:PA X es t):PE X (.List es pos) (tLst t):=by
 intro aA s σ H Q I hq;refine wpAny_List_spliced (thn (h pos aA s σ H _ I hq) λus s1 ⟨xs,H1,I1,r,z,q⟩=>⟨by rw[<- r.length];exact z,?_⟩)
 have hf:H1 s1.heap.objs.size=none:=I1.hok.fresh (aL7 _);refine⟨.ref s1.heap.objs.size,upd H1 s1.heap.objs.size (.lst xs),I1.laid (t':=s1.toks) (λb u e=>hps e) (aL7 _) ?_,rfl,q _ hf⟩;exact⟨z,us,0,r,aLK _ rfl⟩
end
abbrev Sp:=List V->Hp->VK->XK->Prop
abbrev CXT:=List Env->Hp->aP1->XK->aP0->aP1->Prop
structure dP(P:aP4)(w:aP3)(K:Fg)(mg:SOV)(base:Heap)(A:aP2)(outer:List Env)(s:aP1)(H:Hp):Prop where
 frames:A.frames=some outer
 mod:Mod K mg base
 bs:∀b o,base.get? b=some o->s.heap.get? b=some o/\H b=none
 bsz:base.objs.size<=s.heap.objs.size
 funs:s.heap.FunFrames base outer
 frf:∀b∈frs outer,H b=none
 hok:HOk P w H s.heap
 bare:AllBare s.gens
 tabs:iC K base H
def CE(outer:List Env)(P:aP4)(w:aP3)(H:Hp)(s:aP1)(Q:VK)(u:aP0)(s':aP1):Prop :=
 ∃v H',s'.os=s.os/\AllBare s'.gens/\Un (frs outer) [] H H' s.heap s'.heap/\HOk P w H' s'.heap/\aH v u/\Q v H'
def CR(CX:CXT)(outer:List Env)(P:aP4)(w:aP3)(H:Hp)(s:aP1)(Q:VK)(E:XK)(r:Result)(s':aP1):Prop :=
 match r with
 |.ok (.ret u)=>CE outer P w H s Q u s'
 |.ok _=>False
 |.error e=>CX outer H s E e s'
structure bH(P:aP4)(w:aP3)(K:Fg)(mg:SOV)(base:Heap)(CX:CXT)(k:Nat)(f:Addr)(fd:FuncData)(ps:List Str)(sp:Sp):Prop where
 len:∀vs H Q E,sp vs H Q E->vs.length=ps.length
 run:∀(A:aP2) (outer:List Env) (s:aP1) (H:Hp) (args:Args) (us:List aP0) (vs:List V) (Q:VK) (E:XK),aX k A->dP P w K mg base A outer s H->BindsTo s fd args (ps.zip us)->aL vs us->sp vs H Q E ->
  codeAny (model P w) A (.call (.ref f) args) (CR CX outer P w H s Q E) s
def bH.imp{CX:CXT}{f:Addr}{sp sp':Sp}(F:bH P w K mg base CX k f fd ps sp)(h:∀vs H Q E,sp' vs H Q E->sp vs H Q E):bH P w K mg base CX k f fd ps sp' :=
 ⟨λvs H Q E q=>F.len vs H Q E (h _ _ _ _ q),λA outer s H args us vs Q E hr he hb hv hs=>F.run A outer s H args us vs Q E hr he hb hv (h _ _ _ _ hs)⟩
def dP.make{A:aP2}(e:dP P w K mg base A outer s H)(C:Addr)(us:List aP0)(kw:List (Str×aP0)):dP P w K mg base (A.under (.builtin "type.__call__" ⟨.ref C::us,kw⟩)) outer s H:=⟨by first|exact e.frames|(simpa[Around.under,Code.envs,Code.isFrame,pushEnvs]using e.frames),e.mod,e.bs,e.bsz,e.funs,e.frf,e.hok,e.bare,e.tabs⟩
end L2
variable {CX:L2.CXT}{sp:L2.Sp}
namespace L2
theorem dP.in1{A:aP2}(e:dP P w K mg base A outer s H):dP P w K mg base A.in1 outer s H:=⟨e.frames,e.mod,e.bs,e.bsz,e.funs,e.frf,e.hok,e.bare,e.tabs⟩
section
variable {σ:St}
def Inv.env0(I:Inv X aA σ H s):dP X.prog X.w X.K X.mg X.base X.A X.stack s H :=
 ⟨I.ok.frames,I.ok.mod,I.bs,aLS I.ok.bsz I.sz,I.stack,I.stkFree,I.hok,I.bare,I.ok.tabs.mono I.base.tbls⟩
def Inv.after{Q:VK}(I:Inv X aA σ H s)(h:CE X.stack X.prog X.w H s Q u s'):EP X aA σ Q u s':=by obtain⟨v,H',os,bare,un,hok,r,q⟩:=h;obtain⟨hh,g,d,t,os'⟩:=s';obtain rfl:os'=s.os:=os;exact⟨v,H',I.call (h':=hh) (g':=g) (d':=d) (t':=t) (ch:=[]) un hok bare (λb z=>absurd z (by simp)),r,q⟩
end
def cB(K:Fg)(fd:FuncData)(ps:List Str)(ds:List aP0):Prop :=
 ∀(s:aP1) (us:List aP0),K.In s.heap->(us++ds).length=ps.length->BindsTo s fd ⟨us,[]⟩ (ps.zip (us++ds))
def cB.all(h:∀us:List aP0,us.length=ps.length->bindArgs fd ⟨us,[]⟩=pure (ps.zip us)):cB K fd ps []:=λs us _ hl=>by rw[aMO]at hl ⊢;exact .of_eq (h us hl)
section
variable {f C:Addr}{dvs:List V}{ds:List aP0}{E:XK}{m:Str}{e o:Expr}{es:List Expr}{t:TA}
structure Mk(K:Fg)(C f:Addr):Prop where
 makes:W.makesIn K C=true
 init:W.findIn K (.ref C) "__init__" = some (some (.ref f))
 fn:W.isFn K (.ref f)=true
 kp:W.keepIn K (.ref C)=true
end
def PK(X:Cx)(kws:List Keyword)(t:TA):Prop :=
 ∀(pos:Pos) (aA:LAO) (s:aP1) (σ:St) (H:Hp) (Q:List V->Hp->Prop),Inv X aA σ H s->t σ H Q->wpAny (model X.prog X.w) X.A (evalAll ((backToKw pos (keywordEach kws X.env)).map (·.2))) (AP X aA σ Q) X.xe s
section
variable {f C:Addr}{ks:List Str}{E:XK}{m:Str}{kpos:Pos}{e o:Expr}{es:List Expr}{kws:List Keyword}{t tk:TA}{nm:Option Str}
def aAH:PK X [] kJ:=λ_ _ _ _ H Q I h=>wpAny_evalAll_nil ⟨[],H,I,.nil,h⟩
def aAI(ha:PE X e te)(hr:PK X kws t):PK X (⟨nm,e,kpos⟩::kws) (iF te t):=by
 intro pos aA s σ H Q I h;show wpAny _ _ (evalAll ((do let v <- eval e X.env;standAt pos;pure v)::(backToKw pos (keywordEach kws X.env)).map (·.2))) _ _ s
 refine wpAny_evalAll_cons (aL6 (thn (ha aA s σ H _ I h) λu s1 ⟨x,H1,I1,r1,q1⟩=>aL6 (aMP (aL5 ?_))));exact thn (hr pos aA s1 σ H1 _ I1 q1) λus s2 ⟨xs,H2,I2,r2,q2⟩=>⟨x::xs,H2,I2,.cons r1 r2,q2⟩
variable {g:List aP0->List aP0->List aP0}{gV:List V->List V->List V}
end
structure jK(N P:List Str)(sc:Scope):Prop where
 kind:sc.kind=.function
 co:sc.isCoroutine=false
 gen:sc.isGenerator=false
 nd:N.Nodup
 pre:N.take P.length=P
 par:∀x∈P,sc.names.lookup x=some .local\/sc.names.lookup x=some .cell
 nofree:∀y∈sc.names,y.2 ≠ .free
theorem qM{kindOf:Str->Option NameKind}{x:Str}:∀{binds:List (Str×aP0)}{m:SOV},(∀v,(x,v)∉binds)->bindL kindOf binds m x=m x
 |[],_,_=>rfl
 |(n,v)::r,m,h=>by
  unfold bindL;rw[qM λw hw=>h w (mcm hw)];split
  . have:x≠n:=by rintro rfl;exact h v mcs
    simp[this]
  . rfl
theorem qN{kindOf:Str->Option NameKind}{x:Str}:∀{binds:List (Str×aP0)}{m:SOV},(∀v,(x,v)∉binds)->bindC kindOf binds m x=m x
 |[],_,_=>rfl
 |(n,v)::r,m,h=>by
  unfold bindC;rw[qN λw hw=>h w (mcm hw)];split
  . rfl
  . have:x≠n:=by rintro rfl;exact h v mcs
    simp[this]
theorem qO{kindOf:Str->Option NameKind}{x:Str}{v:aP0}:∀{P:List Str}{vs:List aP0}{i:Nat}{m:SOV},P.Nodup->P[i]? = some x->vs[i]? = some v->kindOf x=some .local->bindL kindOf (P.zip vs) m x=some v
 |[],_,_,_,_,h,_,_=>by simp at h
 |_::_,[],_,_,_,_,h,_=>by simp at h
 |p::P,w::vs,0,m,nd,h1,h2,hk=>by simp at h1 h2;subst h1;subst h2;show bindL kindOf ((p,w)::P.zip vs) m p=_;unfold bindL;rw[qM λv hv=>(aMQ.mp nd).1 (aMR hv).1,if_pos hk];simp
 |p::P,w::vs,i+1,m,nd,h1,h2,hk=>by show bindL kindOf ((p,w)::P.zip vs) m x=_;unfold bindL;exact qO (i:=i) (aMQ.mp nd).2 (by simpa using h1) (by simpa using h2) hk
theorem qP{kindOf:Str->Option NameKind}{x:Str}{v:aP0}:∀{P:List Str}{vs:List aP0}{i:Nat}{m:SOV},P.Nodup->P[i]? = some x->vs[i]? = some v->kindOf x≠some .local->bindC kindOf (P.zip vs) m x=some v
 |[],_,_,_,_,h,_,_=>by simp at h
 |_::_,[],_,_,_,_,h,_=>by simp at h
 |p::P,w::vs,0,m,nd,h1,h2,hk=>by simp at h1 h2;subst h1;subst h2;show bindC kindOf ((p,w)::P.zip vs) m p=_;unfold bindC;rw[qN λv hv=>(aMQ.mp nd).1 (aMR hv).1,if_neg hk];simp
 |p::P,w::vs,i+1,m,nd,h1,h2,hk=>by show bindC kindOf ((p,w)::P.zip vs) m x=_;unfold bindC;exact qP (i:=i) (aMQ.mp nd).2 (by simpa using h1) (by simpa using h2) hk
def bM(N:List Str)(vs:List V):St:=vs.map some++List.replicate (N.length-vs.length) none
noncomputable def bZ(CX:CXT)(P:aP4)(w:aP3)(K:Fg)(mg:SOV)(base:Heap)(N:List Str)(qual:Str)(scope:Scope)(f:Addr)(cd:aP0)(A:aP2)(outer:List Env)(s:aP1)(H:Hp)(E:XK):Cx where
 prog:=P
 w:=w
 K:=K
 mg:=mg
 base:=base
 A:=A.deeper (envOfC qual scope s.heap.objs.size f cd)
 N:=N
 s₀:=s
 H₀:=H
 env:=envOfC qual scope s.heap.objs.size f cd
 outer:=outer
 stack:=envOfC qual scope s.heap.objs.size f cd::outer
 ex:=[]
 calm:=true
 fn:=λ_=>true
 pn:=[]
 xe:=λe s'=>wpAny (model P w) (A.deeper (envOfC qual scope s.heap.objs.size f cd)) (leaving (envOfC qual scope s.heap.objs.size f cd) e) (λ_ s''=>CX outer H s E e s'') (λe' s''=>CX outer H s E e' s'') s'
def qQ(h:sc.names.lookup x=some .cell):∃c,(cellsFrom n sc.names []).lookup x=some c:=by have q:=aMS sc.names n [] (.inl h);exact Option.isSome_iff_exists.mp q
theorem qR{N:List Str}{f:Addr}{cd:aP0}{A:aP2}{s1:aP1}{E:XK}(S:jK N ps scope)(hd:A.handled=none)(e0:dP P w K mg base A outer s H)(hl:vs.length=ps.length)(r:aL vs us)(x:InCallC s s.heap.objs.size (bindL (envOfC qual scope s.heap.objs.size f cd).kindOf (ps.zip us) λ_=>none) (cellsFrom (s.heap.objs.size+1) scope.names []) (bindC (envOfC qual scope s.heap.objs.size f cd).kindOf (ps.zip us) λ_=>none) s1):Inv (bZ CX P w K mg base N qual scope f cd A outer s H E) [] (bM N vs) H s1:=by
 have hpl:ps.length<=N.length:=by have:=congrArg List.length S.pre;rw[aMT]at this;lia
 obtain⟨h1,tk,rfl,hk⟩:=x.done;have noA:∀b:Addr,b∉(bZ CX P w K mg base N qual scope f cd A outer s H E).ex:=λb z=>absurd (show b∈([]:List Addr)from z) (by simp)
 refine⟨⟨e0.mod,S.kind,rfl,rfl,aL7 _,λy z c h1 h2=>?_,λy hy=>?_,λy c _ h=>?_,λ_=>hd,Around.frames_deeper e0.frames,.inr ⟨rfl,rfl⟩,λb z=>absurd z (noA b),e0.bs,e0.bsz,λb _ _=>noA b,λb z=>absurd z (noA b),e0.funs,e0.frf,e0.tabs⟩,
  rfl,e0.bare,Un.kept hk,⟨_,x.toInCall.ns,λi y v h1 h2 h3=>?_⟩,λy c h=>⟨_,x.cell y c h⟩,e0.hok.fresh (aL7 _),λy c h=>?_,λp hp=>absurd (show p∈([]:LAO)from hp) (by simp),e0.hok.kept hk,?_⟩
 . exact name_of_addr x.apart (aMU h1) (aMU h2)
 . have hy:scope.names.lookup y=some .cell\/scope.names.lookup y=some .free:=hy;rcases hy with hy|hy
   . exact qQ hy
   . exact absurd rfl (S.nofree _ (aMU hy))
 . exact Nat.le_of_lt (x.above y c (aMU h))
 . have hi:i<vs.length:=by
     unfold bM at h2;by_cases hi:i<vs.length
     . exact hi
     . rw[aMV (by simpa using hi)]at h2
       rw[aMW]at h2;split at h2 <;> cases h2
   have ha:vs[i]? = some v:=by
    unfold bM at h2;rw[aMX (by simpa using hi),aMY]at h2
    cases e:vs[i]? with
    |none=>rw[e]at h2;cases h2
    |some a=>rw[e]at h2;cases h2;rfl
   obtain⟨u,hu,rv⟩:=r.get ha;have hp:ps[i]? = some y:=by rw[<- S.pre,List.getElem?_take_of_lt (by lia)];exact h1
   have ndP:ps.Nodup:=by rw[<- S.pre];exact S.nd.sublist (List.take_sublist _ _)
   refine⟨u,rv,?_⟩;rcases S.par y (aMZ hp)with k|k
   . exact .inl ⟨k,qO ndP hp hu k⟩
   . obtain⟨c,e⟩:=qQ (n:=s.heap.objs.size+1) k;refine .inr ⟨.inl k,c,e,?_⟩;have q:=x.cell y c e;rw[qP ndP hp hu (by show scope.names.lookup y≠_;rw[k];decide)]at q
     exact q
 . exact e0.hok.fresh (Nat.le_of_lt (x.above y c (aMU h)))
 . unfold bM;show _=N.length;rw[aM0,aMJ,List.length_replicate];lia
def qS{f:Addr}{name:Str}{params:Arguments}{dV kV doc pm ct oc:aP0}{an od:Option Addr}{osl:Array (Option aP0)}{N:List Str}(lk:K.lookup f=some ⟨oc,od,.func (W.fnOf name qual params body scope dV kV doc pm an cdv ct),osl⟩)(hcd:W.codeIn K cdv qual=true)(S:jK N ps scope)(len:∀vs H Q E,sp vs H Q E->vs.length=ps.length)(hbody:∀(A:aP2) (outer:List Env) (s:aP1) (H:Hp) (vs:List V) (Q:VK) (E:XK),aX k (A.deeper (envOfC qual scope s.heap.objs.size f cdv))->sp vs H Q E->∃t,PSs (bZ CX P w K mg base N qual scope f cdv A outer s H E) body t/\t {nx:=λ_ H'=>Q .non H',rt:=Q} (bM N vs) H):bH P w K mg base CX (k+1) f (W.fnOf name qual params body scope dV kV doc pm an cdv ct) ps sp:=by
 refine⟨len,λA outer s H args us vs Q E hr e0 hb r hsp=>?_⟩;have hl:=len _ _ _ _ hsp;have KX:K.In s.heap:=e0.mod.kin.keeps λb o e=>(e0.bs b o e).1;have lim:s.heap.NoLimit:=e0.mod.nolimit.keeps λb o e=>(e0.bs b o e).1;have cJ:∀y∈ps.zip us,scope.names.lookup y.1=some .local\/(scope.names.lookup y.1=some .cell/\((cellsFrom (s.heap.objs.size+1) scope.names []).lookup y.1).isSome=true):=λ⟨n,v⟩ hy=>by
  rcases S.par n (aMR hy).1 with q|q
  . exact .inl q
  . exact .inr ⟨q,aMS _ _ _ (.inl q)⟩
 refine aM1 hr.depth (KX _ _ lk) rfl S.co S.gen rfl (W.codeRec_of KX hcd) (hb _ _ _ _ ?_);refine wpAny_newFunctionEnv_cells S.kind cJ λenv he s1 x=>?_;subst he;refine⟨lim.keeps x.toInCall.keep,codeAny_func ?_⟩;obtain⟨t,ht,hq⟩:=hbody A outer s H vs Q E (hr.deeper _) hsp;have I:Inv (bZ CX P w K mg base N qual scope f cdv A outer s H E) [] (bM N vs) H s1:=qR S hr.hd e0 hl r x;refine aL1 (ht [] s1 (bM N vs) H _ I hq) (λfl s' hs=>?_) λe s' hs=>hs;have fin:∀{σ':St}{H':Hp}{v:V}{u:aP0},Inv (bZ CX P w K mg base N qual scope f cdv A outer s H E) [] σ' H' s'->aH v u->Q v H'->CE outer P w H s Q u s' :=
  λ{σ' H' v u} J rv q=>⟨v,H',J.os,J.bare,J.base,J.hok,rv,q⟩
 cases fl with
 |ret u=>obtain⟨v,σ',H',J,rv,q⟩:=hs;exact fin J rv q
 |next=>obtain⟨σ',H',J,q⟩:=hs;exact fin (v:=V.non) (u:=Value.none) J rfl q
 |brk=>obtain⟨_,_,_,q⟩:=hs;exact False.elim q
 |cont=>obtain⟨_,_,_,q⟩:=hs;exact False.elim q
section
variable {e:Expr}{es:List Expr}{t:TA}{id T:String}{r:List V->Hp->VK->Prop}
def tCB(r:List V->Hp->VK->Prop)(t:TA):TE:=λσ H Q=>t σ H λvs H1=>r vs H1 Q
def aAJ(hc:gK X (.builtin id) r)(hg:Gl X x)(hm:X.mg x=none)(hv:bootBuiltins x=some (.builtin id))(ha:PA X (e::es) t)(hn:x ≠ "__name__" := by decide)(hdb:(x==("__debug__":Str))=false:=by decide)(he:starEach (e::es) X.env=(false,eval e X.env)::starEach es X.env:=by rfl)(hpl:(backTo pos (starEach es X.env)).any (·.1)=false:=by rfl):PE X (.Call (.Name x p) (e::es) [] pos) (tCB r t):=by intro aA s σ H Q I h;refine aM2 (jD I hg hm hv ?_ hn hdb);exact PyProof.Rows.callWith_builtin1 (thn (ha pos aA s σ H _ I h) λus s1 ⟨vs,H1,I1,r1,q1⟩=>hc aA s1 σ H1 vs us Q I1 r1 q1) he hpl
def aAK(hc:gK X (.type T) r)(hg:Gl X x)(hm:X.mg x=none)(hv:bootBuiltins x=some (.type T))(ha:PA X (e::es) t)(hn:x ≠ "__name__" := by decide)(hdb:(x==("__debug__":Str))=false:=by decide)(he:starEach (e::es) X.env=(false,eval e X.env)::starEach es X.env:=by rfl)(hpl:(backTo pos (starEach es X.env)).any (·.1)=false:=by rfl):PE X (.Call (.Name x p) (e::es) [] pos) (tCB r t):=by intro aA s σ H Q I h;refine aM2 (jD I hg hm hv ?_ hn hdb);exact aL8 (thn (ha pos aA s σ H _ I h) λus s1 ⟨vs,H1,I1,r1,q1⟩=>hc aA s1 σ H1 vs us Q I1 r1 q1) he hpl
end
end L2
namespace HT
section
open PySem.SeqAt
open PySem.AutoSeq1 (wpAny_loadPart')
open PySem.MeetsSeq PySem.MeetsSeq2 PySem.MeetsSeq3
end
section
variable {A:aP2}{E:VSP}
def aAL{t:Addr}{vs ws:List aP0}{Q:VSP}(ht:IsTup s.heap t vs.toArray)(hb:IsTup s.heap b ws.toArray)(hv:vs≠[])(h1:ws=[]->Q (.ref t) s)(h2:ws≠[]->Q (.ref s.heap.objs.size) { s with heap:=s.heap.push { cls:=.type "tuple", data:=.seq (vs++ws).toArray } })(hsz:vs.length+ws.length<=sizeLine):wpAny (model prog w) A (binaryOp .Add (.ref t) (.ref b)) Q E s:=by
 obtain⟨⟨cls,dd,data,sl⟩,ho,hc,n,hd⟩:=id ht;obtain⟨⟨cls2,dd2,data2,sl2⟩,ho2,hc2,n2,hd2⟩:=id hb;simp only at hc hd hc2 hd2;subst hc hd hc2 hd2;have e:vs.toArray++ws.toArray=(vs++ws).toArray:=by simp
 by_cases hw:ws=[]
 . exact aM3 ⟨_,ho,rfl⟩ ⟨_,ho2,rfl⟩ aM4 seq_tuple_add aM5 aM6 (aM7 _ _)
     (tuple_addW1 t b vs.toArray ws.toArray n n2 dd dd2 sl sl2 (by simpa using hv) (by simp[hw])) ⟨ho,ho2,h1 hw⟩
 . refine aM3 ⟨_,ho,rfl⟩ ⟨_,ho2,rfl⟩ aM4 seq_tuple_add aM5 aM6 (aM7 _ _)
     (tuple_addW2 t b vs.toArray ws.toArray n n2 dd dd2 sl sl2 (by simpa using hv) (by simpa using hw) (by rw[aMD,aMD];exact hsz)) ⟨ho,ho2,?_⟩
   rw[e];exact h2 hw
def sIx(n d:Nat):Option Int->Nat
 |none=>d
 |some v=>if v<0 then(v+(n:Int)).toNat else min v.toNat n
theorem qT(n d k:Nat):sIx n d (some (k:Int))=min k n:=by show(if(k:Int)<0 then((k:Int)+(n:Int)).toNat else min (k:Int).toNat n)=min k n;rw[if_neg (by lia),aM8]
theorem aAM(n d:Nat)(hd:d<=n)(o:Option Int):sIx n d o<=n:=by
 cases o with
 |none=>exact hd
 |some v =>
  show(if v<0 then(v+(n:Int)).toNat else min v.toNat n)<=n;by_cases hv:v<0
  . rw[if_pos hv];lia
  . rw[if_neg hv];exact Nat.min_le_right _ _
theorem qU(v:Int)(n d:Nat):(if v<0 then max (v+(n:Int)) 0 else min v (n:Int))=((sIx n d (some v):Nat):Int):=by
 show(if v<0 then max (v+(n:Int)) 0 else min v (n:Int))=(((if v<0 then(v+(n:Int)).toNat else min v.toNat n):Nat):Int);by_cases hv:v<0
 . simp only[if_pos hv];lia
 . simp only[if_neg hv];lia
theorem aAN(lo hi:Option Int)(n:Nat):Builtin.Slice.sliceAdjust lo hi 1 (n:Int)=(((sIx n 0 lo:Nat):Int),((sIx n n hi:Nat):Int)):=by
 have h1:¬ ((1:Int)<0):=by lia
 unfold Builtin.Slice.sliceAdjust;simp only[h1,aM9];refine Prod.ext ?_ ?_
 . cases lo with
   |none=>rfl
   |some v=>exact qU v n 0
 . cases hi with
   |none=>rfl
   |some v=>exact qU v n n
theorem aAO(i j:Nat):Builtin.Slice.slicePlaces (i:Int) (j:Int) 1=j-i:=by
 unfold Builtin.Slice.slicePlaces;have h1:(1:Int) > 0:=by lia
 simp only[h1,aNA,Int.ediv_one];split <;> lia
def qV{v:aP0}{o:Option Int}{Q:Option Int->aP1->Prop}(p:IsPart v o)(h:Q o s):wpAny (model prog w) A (Builtin.Slice.slicePartIndex v) Q E s:=by
 cases p with
 |none=>exact slicePart_none h
 |int i t=>exact slicePart_int h
def qW{sl:Addr}{vl vu:aP0}{Q:Int×Int×Nat->aP1->Prop}(hs:s.heap.IsSliceOf sl vl vu .none)(pl:IsPart vl lo)(pu:IsPart vu hi)(h:Q (((sIx n 0 lo:Nat):Int),1,sIx n n hi-sIx n 0 lo) s):wpAny (model prog w) A (Builtin.Slice.sliceApplied (.ref sl) (pure (n:Int))) Q E s:=by
 obtain⟨os,hos,hcs,hds⟩:=id hs;unfold Builtin.Slice.sliceApplied Builtin.Slice.sliceFields;refine aL6 (aL6 (aNB hos hds (x:=vl) rfl (aL6 (aNB hos hds (x:=vu) rfl (aL6 (aNB hos hds (x:=.none) rfl (aL5 ?_)))))));refine aL6 (slicePart_none ?_);show wpAny _ _ (if((1:Int)==0)=true then _ else _) _ _ s;rw[if_neg (by decide)]
 refine aL6 (qV pl (aL6 (qV pu (aL6 (aL5 ?_)))));show wpAny _ _ (match Builtin.Slice.sliceAdjust lo hi 1 (n:Int)with|(lo,hi)=>pure (lo,(1:Int),Builtin.Slice.slicePlaces lo hi 1)) _ _ s
 rw[aAN lo hi n];show wpAny _ _ (pure (((sIx n 0 lo:Nat):Int),(1:Int),Builtin.Slice.slicePlaces ((sIx n 0 lo:Nat):Int) ((sIx n n hi:Nat):Int) 1)) _ _ s;rw[aAO];exact aL5 h
theorem aAP(xs:Array aP0)(i k:Nat):((List.range k).filterMap λ(m:Nat)=>xs[((i:Int)+(m:Int) * 1).toNat]?).toArray=((xs.toList.drop i).take k).toArray:=by
 have e:(λ(m:Nat)=>xs[((i:Int)+(m:Int) * 1).toNat]?)=λm=>xs[i+m]?:=by
  funext m;have:((i:Int)+(m:Int) * 1).toNat=i+m:=by lia
  rw[this]
 rw[e];have:=pick_run xs i k;rw[List.filterMap_map]at this;have e2:((λx=>xs[x]?) ∘ λx=>i+x)=λm=>xs[i+m]?:=rfl;rw[e2]at this;rw[this]
theorem aAQ{t sl:Addr}{vl vu:aP0}{Q:VSP}(ht:IsTup s.heap t items)(hs:s.heap.IsSliceOf sl vl vu .none)(pl:IsPart vl lo)(pu:IsPart vu hi)(hw:¬ (sIx items.size 0 lo=0/\sIx items.size items.size hi=items.size))(h:Q (.ref s.heap.objs.size) { s with heap:=s.heap.push { cls:=.type "tuple", data:=.seq ((items.toList.drop (sIx items.size 0 lo)).take (sIx items.size items.size hi-sIx items.size 0 lo)).toArray } })(hsz:items.size<=sizeLine):wpAny (model prog w) A (getItem (.ref t) (.ref sl)) Q E s:=by
 have htake:sizeOk (.seq ((items.toList.drop (sIx items.size 0 lo)).take (sIx items.size items.size hi-sIx items.size 0 lo)).toArray):=by show((items.toList.drop (sIx items.size 0 lo)).take (sIx items.size items.size hi-sIx items.size 0 lo)).toArray.size<=sizeLine;rw[aMD,aMT,aNC,aL3];lia
 have hj:sIx items.size items.size hi<=items.size:=aAM _ _ (aL7 _) hi;obtain⟨os,hos,hcs,hds⟩:=id hs;have hTs:s.TypeIs (.ref sl) "slice" := ⟨os,hos,hcs⟩;unfold getItem
 try with_reducible refine aND ?_
 first|refine aL6 (aL5 ?_)|skip
 refine aL6 (wpAny_sequenceKey ht.typeIs (by decide) ?_)
 refine aL6 (aNE (name:=Str.ofString "__getitem__") ht.typeIs aNF
  (aNG aNF ht.typeIs entry_tuple_getitem ?_ (args_tuple_getitem _ _)))
 show wpAny _ _ (Builtin.Tuple.tupleItemsOf (.ref t)>>=_) _ _ s;refine aL6 (tupleItemsOf_ ht ?_);refine aL6 (aNH hTs ?_);rw[if_pos (by decide)]
 refine aL6 (qW hs pl pu ?_);have hno:¬ ((((sIx items.size 0 lo:Nat):Int)==0&&(1:Int)==1&&(sIx items.size items.size hi-sIx items.size 0 lo)==items.size)=true):=by intro q;rw[aNI,aNI]at q;have q1:((sIx items.size 0 lo:Nat):Int)=0:=eq_of_beq q.1.1;have q2:sIx items.size items.size hi-sIx items.size 0 lo=items.size:=eq_of_beq q.2;exact hw ⟨by lia,by lia⟩
 show wpAny _ _ (if(((sIx items.size 0 lo:Nat):Int)==0&&(1:Int)==1&&(sIx items.size items.size hi-sIx items.size 0 lo)==items.size)=true then _ else _) _ _ s;rw[if_neg hno,aAP]
 first
  |exact aL6 (m:=Builtin.Tuple.tupleExact _) (aNJ (aL5 ⟨_,rfl,aL5 h⟩) htake)
  |exact aL6 (m:=Builtin.Tuple.tupleExact _) (aNJ (aL6 (aL5 (aL5 ⟨_,rfl,aL5 h⟩))) htake)
  |exact aL6 (aL6 (m:=Builtin.Tuple.tupleExact _) (aNJ (aL5 (aL5 ⟨_,rfl,aL5 h⟩)) htake))
  |exact aL6 (aL6 (m:=Builtin.Tuple.tupleExact _) (aNJ (aL5 ⟨_,rfl,aL5 h⟩) htake))
end
end HT
namespace L2
abbrev TO:=St->Hp->(Option Int->Hp->Prop)->Prop
def PO(X:Cx)(e:Option Expr)(t:TO):Prop :=
 ∀(aA:LAO) (s:aP1) (σ:St) (H:Hp) (Q:Option Int->Hp->Prop),Inv X aA σ H s->t σ H Q ->
  wpAny (model X.prog X.w) X.A (evalPart e X.env) (λu s'=>∃o H',Inv X aA σ H' s'/\IsPart u o/\Q o H') X.xe s
def qX:TO:=λ_ H Q=>Q none H
def kK(t:TE):TO:=λσ H Q=>t σ H λx H1=>∃i,x=.int i/\Q (some i) H1
section
variable {e:Expr}{lo hi:Option Expr}{tl th:TO}
def aAR:PO X none qX:=by intro aA s σ H Q I h;rw[evalPart_none];exact aL5 ⟨none,H,I,.none,h⟩
def aAS(h:PE X e te):PO X (some e) (kK te):=by intro aA s σ H Q I hw;rw[evalPart_some];refine thn (h aA s σ H _ I hw) λu s1 ⟨x,H1,I1,r1,q1⟩=>?_;obtain⟨i,rfl,q⟩:=q1;obtain⟨t,rfl⟩:=r1;exact⟨some i,H1,I1,.int i t,q⟩
def SlR(X:Cx)(r:V->Option Int->Option Int->Hp->VK->Prop):Prop :=
 ∀(aA:LAO) (s:aP1) (σ:St) (H:Hp) (x:V) (v vl vu:aP0) (lo hi:Option Int) (sl:Addr) (Q:VK),Inv X aA σ H s->aH x v->s.heap.IsSliceOf sl vl vu .none->IsPart vl lo->IsPart vu hi->r x lo hi H Q ->
  ∃T id,typeLookup (.type T) "__getitem__" = pure (some (.builtin id))/\s.TypeIs v T/\wpAny (model X.prog X.w) X.A (getItem v (.ref sl)) (EP X aA σ Q) X.xe s
def SlR.or{r r':V->Option Int->Option Int->Hp->VK->Prop}(h:SlR X r)(h':SlR X r'):SlR X (λx lo hi H Q=>r x lo hi H Q\/r' x lo hi H Q):=by
 intro aA s σ H x v vl vu lo hi sl Q I rx hs pl pu q;rcases q with q|q
 . exact h aA s σ H x v vl vu lo hi sl Q I rx hs pl pu q
 . exact h' aA s σ H x v vl vu lo hi sl Q I rx hs pl pu q
def tSl(r:V->Option Int->Option Int->Hp->VK->Prop)(te:TE)(tl th:TO):TE:=λσ H Q=>te σ H λx H1=>tl σ H1 λl H2=>th σ H2 λu H3=>r x l u H3 Q
def aAT{r:V->Option Int->Option Int->Hp->VK->Prop}(hr:SlR X r)(he:PE X e te)(hl:PO X lo tl)(hu:PO X hi th):PE X (.Subscript e (.Slice lo hi none p2) pos) (tSl r te tl th):=by
 intro aA s σ H Q I h;refine Subscript_ (thn (he aA s σ H _ I h) λv s1 ⟨x,H1,I1,r1,q1⟩=>?_);refine wpAny_Slice (thn (hl aA s1 σ H1 _ I1 q1) λvl s2 ⟨l,H2,I2,pl,q2⟩=>thn (hu aA s2 σ H2 _ I2 q2) λvu s3 ⟨u,H3,I3,pu,q3⟩=>?_);rw[evalPart_none];refine aL5 ?_;have I4:Inv X aA σ H3 { s3 with heap:=s3.heap.push { cls:=.type "slice", data:=.fields #[vl,vu,.none] } }:=I3.kept (t':=s3.toks) λb ob q=>hps q
 obtain⟨T,id,hT,ht,hg⟩:=hr aA { s3 with heap:=s3.heap.push { cls:=.type "slice", data:=.fields #[vl,vu,.none] } } σ H3 x v vl vu l u s3.heap.objs.size Q I4 r1 (Heap.IsSliceOf.new ..) pl pu q3
 show wpAny (model X.prog X.w) X.A (subscriptTail e (.Slice lo hi none p2) v (.ref s3.heap.objs.size)) (EP X aA σ Q) X.xe { s3 with heap:=s3.heap.push { cls:=.type "slice", data:=.fields #[vl,vu,.none] } }
 exact tail_any (ops:=[.ref s3.heap.objs.size,v]) ht hT hg (by with_unfolding_all rfl)
def fC(xs:List V)(lo hi:Option Int):List V:=(xs.drop (HT.sIx xs.length 0 lo)).take (HT.sIx xs.length xs.length hi-HT.sIx xs.length 0 lo)
theorem qY(xs:List V)(lo hi:Option Int):(fC xs lo hi).length<=xs.length:=by unfold fC;rw[aMT,aNC];lia
def rSlT(K:Fg):V->Option Int->Option Int->Hp->VK->Prop:=λx lo hi H Q=>∃a xs,x=.ref a/\SqT K H a xs /\
 ¬ (HT.sIx xs.length 0 lo=0/\HT.sIx xs.length xs.length hi=xs.length)/\∀p,H p=none->Q (.ref p) (upd H p (.tup (fC xs lo hi)))
def aAU:SlR X (rSlT X.K):=by
 intro aA s σ H x v vl vu lo hi sl Q I rx hs pl pu h;obtain⟨a,xs,rfl,hx,hw,q⟩:=h;cases rx;obtain⟨its,r,ht,hz⟩:=I.tuple hx;have hlen:its.toArray.size=xs.length:=by rw[aMD];exact r.length.symm
 refine⟨"tuple", _,PyProof.Rows.slot_tuple_getitem.lookup,ht.typeIs,?_⟩;refine HT.aAQ ht hs pl pu (by rw[hlen];exact hw) ?_ (by rw[hlen];exact hz)
 rw[hlen];refine⟨.ref s.heap.objs.size,_,I.laid (t':=s.toks) (o:=.tup (fC xs lo hi)) (λb ob q=>hps q) (aL7 _) ?_,rfl,q _ (I.hok.fresh (aL7 _))⟩;exact⟨aLS (qY xs lo hi) hz,_,(r.drop (HT.sIx xs.length 0 lo)).take (HT.sIx xs.length xs.length hi-HT.sIx xs.length 0 lo),eP.new _ _⟩
def aL.nil_iff(r:aL xs us):us=[]↔xs=[]:=by
 cases r with
 |nil=>simp
 |cons _ _=>simp
end
def ixN(n:Nat)(i:Int):Option Nat:=if 0<=i then(if i<n then some i.toNat else none)else if -(n:Int)<=i then some (i+n).toNat else none
noncomputable def atI(xs:List α)(i:Int):Option α:=(ixN xs.length i).bind λj=>xs[j]?
theorem aAV{i:Int}(h:ixN n i=some j):seqIndex? i n=some j/\j<n /\ -(n:Int)<=i/\i<n:=by
 unfold ixN at h;by_cases h0:0<=i
 . rw[if_pos h0]at h;by_cases h1:i<n
   . rw[if_pos h1]at h;have e:i.toNat=j:=aL0 h;exact⟨by rw[seqIndex_of h0 h1,e],by lia,by lia,h1⟩
   . rw[if_neg h1]at h;cases h
 . rw[if_neg h0]at h;by_cases h1:-(n:Int)<=i
   . rw[if_pos h1]at h;have e:(i+n).toNat=j:=aL0 h;exact⟨by rw[seqIndex_neg (by lia) h1,e],by lia,h1,by lia⟩
   . rw[if_neg h1]at h;cases h
def kL{xs:List α}{i:Int}{v:α}(h:atI xs i=some v):∃j,seqIndex? i xs.length=some j/\xs[j]? = some v/\j<xs.length /\ -(xs.length:Int)<=i/\i<xs.length:=by
 unfold atI at h;cases e:ixN xs.length i with
 |none=>rw[e]at h;cases h
 |some j=>rw[e]at h;obtain⟨h1,h2,h3,h4⟩:=aAV e;exact⟨j,h1,h,h2,h3,h4⟩
theorem eC{xs:List α}{v:α}(h:xs[j]? = some v):atI xs (j:Int)=some v:=by
 have hj:j<xs.length:=(aLX.mp h).1;have e:ixN xs.length (j:Int)=some j:=by unfold ixN;rw[if_pos (by lia),if_pos (by lia)];simp
 unfold atI;rw[e];exact h
def kM(b:Expr):Prop:=∀o i,subscripted b false o i=operate [o,i] (getItem o i)
def IxR(X:Cx)(r:R2):Prop :=
 ∀(value slice:Expr) (aA:LAO) (s:aP1) (σ:St) (H:Hp) (x y:V) (v u:aP0) (Q:VK),Inv X aA σ H s->aH x v->aH y u->r x y H Q ->
  subscripted slice false v u=operate [v,u] (getItem v u)->wpAny (model X.prog X.w) X.A (subscriptTail value slice v u) (EP X aA σ Q) X.xe s
def MtR(X:Cx)(id:String)(r:V->List V->Hp->VK->Prop):Prop :=
 ∀(aA:LAO) (s:aP1) (σ:St) (H:Hp) (x:V) (xs:List V) (v:aP0) (us:List aP0) (Q:VK),Inv X aA σ H s->aH x v->aL xs us->r x xs H Q ->
  wpAny (model X.prog X.w) X.A (call (.builtin id) (v::us)) (EP X aA σ Q) X.xe s
section
variable {a b:Expr}{tb:TE}
def IxR.or{r r':R2}(h:IxR X r)(h':IxR X r'):IxR X (λx y H Q=>r x y H Q\/r' x y H Q):=by
 intro value slice aA s σ H x y v u Q I rx ry q hs;rcases q with q|q
 . exact h value slice aA s σ H x y v u Q I rx ry q hs
 . exact h' value slice aA s σ H x y v u Q I rx ry q hs
def qZ{r:R2}(hr:IxR X r)(ha:PE X a ta)(hb:PE X b tb)(hs:kM b):PE X (.Subscript a b pos) (tOp r ta tb):=by intro aA s σ H Q I h;exact Subscript_ (mZ ha hb I h λv u s2 x y H2 I2 rx ry q=>hr a b aA s2 σ H2 x y v u Q I2 rx ry q (hs _ _))
def rIxL(K:Fg):R2:=λx y H Q=>∃p xs i v,x=.ref p/\y=.int i/\SqL K H p xs/\atI xs i=some v/\Q v H
def rIxT(K:Fg):R2:=λx y H Q=>∃p xs i v,x=.ref p/\y=.int i/\SqT K H p xs/\atI xs i=some v/\Q v H
def rIxS:R2:=λx y H Q=>∃z i c,x=.str z/\y=.int i/\z.length<=sizeLine/\atI z.cps.toList i=some c/\Q (.str ⟨#[c]⟩) H
theorem aAW:IxR X (rIxL X.K):=by
 intro value slice aA s σ H x y v u Q I rx ry h hs;obtain⟨p,xs,i,z,rfl,rfl,hq,he,q⟩:=h;cases rx;obtain⟨t,rfl⟩:=ry;obtain⟨its,r,pl,hz⟩:=I.list hq;obtain⟨j,h1,h2,h3,h4,h5⟩:=kL he;obtain⟨w,ew,rw'⟩:=r.get h2;have hl:=r.length;have hn:=jI;have fin:EP X aA σ Q w s:=⟨z,H,I,rw',q⟩;by_cases h0:0<=i
 . have hj:i.toNat=j:=by rw[seqIndex_of h0 h5]at h1;exact aL0 h1
   exact item_listR pl.isList h0 (by lia) (by rw[hj];simpa using ew) fin hs
 . have hj:(i+(its.toArray.size:Int)).toNat=j:=by
     rw[seqIndex_neg (by lia) h4]at h1
     rw[aMD,<- hl];exact aL0 h1
   exact subscriptTail_builtinR (x:=w) pl.isList.typeIs slot_list_getitem.lookup
    (wpAny_getItem_list_neg (Q:=λr s'=>r=w/\EP X aA σ Q r s') pl.isList (by lia) (by rw[aMD] <;> lia) (by lia) (by rw[hj];simpa using ew) ⟨rfl,fin⟩) hs
theorem aAX:IxR X (rIxT X.K):=by
 intro value slice aA s σ H x y v u Q I rx ry h hs;obtain⟨p,xs,i,z,rfl,rfl,hq,he,q⟩:=h;cases rx;obtain⟨t,rfl⟩:=ry;obtain⟨its,r,pl,hz⟩:=I.tuple hq;obtain⟨j,h1,h2,h3,h4,h5⟩:=kL he;obtain⟨w,ew,rw'⟩:=r.get h2;have hl:=r.length;have hn:=jI;have fin:EP X aA σ Q w s:=⟨z,H,I,rw',q⟩;exact subscriptTail_builtinR (x:=w) pl.typeIs slot_tuple_getitem.lookup
  (getItem_tuple (j:=j) (Q:=λr s'=>r=w/\EP X aA σ Q r s') pl (by lia) (by lia) (by rw[aMD,<- hl];exact h1) (by simpa using ew) ⟨rfl,fin⟩) hs
theorem aAY:IxR X rIxS:=by
 intro value slice aA s σ H x y v u Q I rx ry h hs;obtain⟨z,i,c,rfl,rfl,hz,he,q⟩:=h;obtain⟨t,rfl⟩:=rx;obtain⟨t',rfl⟩:=ry;obtain⟨j,h1,h2,h3,h4,h5⟩:=kL he;have hl:z.cps.toList.length=z.length:=by simp[Str.length]
 rw[hl]at h1 h4 h5;have hn:=jI;exact tail_any (typeIs_str s z t) slot_str_getitem.lookup (getItem_str (c:=c) (by
  have e1:decide (i < -(2 ^ 63:Int))=false:=aLI (by lia)
  have e2:decide (i ≥ 2 ^ 63)=false:=aLI (by lia)
  rw[e1,e2,Bool.or_false]) (by rw[h1];simpa using h2) ⟨.str ⟨#[c]⟩,H,I.tok _,⟨_,rfl⟩,q⟩) hs
def rIx(K:Fg):R2:=λx y H Q=>rIxL K x y H Q\/rIxT K x y H Q\/rIxS x y H Q
def aAZ:IxR X (rIx X.K):=aAW.or (aAX.or aAY)
theorem aA0(lo hi:Option Int)(n:Nat):(sliceBounds lo hi none n).1=((HT.sIx n 0 lo:Nat):Int)/\(sliceBounds lo hi none n).2.1=((HT.sIx n n hi:Nat):Int)/\(sliceBounds lo hi none n).2.2=1:=by
 refine⟨?_,?_,rfl⟩
 . cases lo with
   |none=>simp[sliceBounds,HT.sIx]
   |some i =>
    simp only[sliceBounds,HT.sIx,aNK,show(1:Int) > 0 by decide,aNA]
    by_cases h:i<0
    . simp only[h,aNA] <;> lia
    . simp only[h,aM9] <;> lia
 . cases hi with
   |none=>simp[sliceBounds,HT.sIx]
   |some i =>
    simp only[sliceBounds,HT.sIx,aNK,show(1:Int) > 0 by decide,aNA]
    by_cases h:i<0
    . simp only[h,aNA] <;> lia
    . simp only[h,aM9] <;> lia
def aA1(its:List aP0)(lo hi:Option Int):slicePick its.toArray lo hi none=((its.drop (HT.sIx its.length 0 lo)).take (HT.sIx its.length its.length hi-HT.sIx its.length 0 lo)).toArray:=by obtain⟨h1,h2,h3⟩:=aA0 lo hi its.toArray.size;unfold slicePick;rw[h1,h2,h3];simp only[sliceRange_one,pick_run,aMD] <;> rfl
def rSlL(K:Fg):V->Option Int->Option Int->Hp->VK->Prop:=λx lo hi H Q=>∃a xs,x=.ref a/\SqL K H a xs/\∀p,H p=none->Q (.ref p) (upd H p (.lst (fC xs lo hi)))
theorem aA2:SlR X (rSlL X.K):=by
 intro aA s σ H x v vl vu lo hi sl Q I rx hs pl pu h;obtain⟨a,xs,rfl,hx,q⟩:=h;cases rx;obtain⟨its,r,ht,hz⟩:=I.list hx;have hlen:=r.length;refine⟨"list", _,slot_list_getitem.lookup,ht.isList.typeIs,?_⟩;refine wpAny_getItem_list_slice ht.isList hs pl pu .none (by simp) ?_ (by rw[aMD] <;> lia)
 rw[aA1,<- hlen];refine⟨.ref s.heap.objs.size,_,I.laid (t':=s.toks) (o:=.lst (fC xs lo hi)) (λb ob q=>hps q) (aL7 _) ?_,rfl,q _ (I.hok.fresh (aL7 _))⟩;exact⟨aLS (qY xs lo hi) hz,_,0,(r.drop (HT.sIx xs.length 0 lo)).take (HT.sIx xs.length xs.length hi-HT.sIx xs.length 0 lo),aLK _ rfl⟩
theorem aA3:gK X (.type "tuple") (λxs H Q=>∃p ys,xs=[.ref p]/\((SqL X.K H p ys/\∀l,H l=none->Q (.ref l) (upd H l (.tup ys)))\/(SqT X.K H p ys/\Q (.ref p) H))):=by
 intro aA s σ H xs us Q I r h;obtain⟨p,ys,rfl,h⟩:=h;obtain⟨u,rfl,rx⟩:=fA r;cases rx;rcases h with⟨hq,q⟩|⟨hq,q⟩
 . obtain⟨its,r',pl,hz⟩:=I.list hq;have hlen:=r'.length;refine call_tuple_list pl.isList (λh' kp=>?_) (by simp only[aMD] <;> lia)
   have I1:Inv X aA σ H {s with heap:=h'}:=I.kept (t':=s.toks) kp
   have I2:Inv X aA σ (upd H h'.objs.size (.tup ys)) { s with heap:=h'.push { cls:=.type "tuple", data:=.seq its.toArray } } :=
    I1.laid (t':=s.toks) (λb o e=>hps e) (aL7 _) (show bW X.prog X.w _ _ _ (.tup ys)from⟨hz,its,r',eP.new _ _⟩)
   exact⟨.ref h'.objs.size,_,I2,rfl,q _ (I1.hok.fresh (aL7 _))⟩
 . obtain⟨its,r',pl,hz⟩:=I.tuple hq;exact call_tuple_same pl ⟨.ref p,H,I,rfl,q⟩
def tyV(K:Fg)(T:String)(x:V)(H:Hp):Prop:=match x with
 |.str _=>T="str"
 |.int _=>T="int"
 | .ref p => (T = "list" ∧ ∃ xs, SqL K H p xs) ∨ (T = "tuple" ∧ ∃ o, K.lookup p = some o ∧ o.cls = .type "tuple" ∧ o.dict = none) ∨
     (T="dict" /\ ((∃kvs,H p=some (.dK kvs))\/∃kvs,H p=some (.dT kvs)))\/(T="set" /\ ∃S n,H p=some (.set S n))
 |_=>False
def aA4{σ:St}{T:String}{x:V}{v:aP0}(I:Inv X aA σ H s)(r:aH x v)(ty:tyV X.K T x H):s.TypeIs v T/\∀a,v=.ref a->∃ob,s.heap.get? a=some ob/\ob.dict=none:=by
 cases x with
 |str z =>
  obtain⟨t,rfl⟩:=r;cases(show T="str" from ty)
  exact⟨typeIs_str s z t,λ_ e=>nomatch e⟩
 |int i =>
  obtain⟨t,rfl⟩:=r;cases(show T="int" from ty)
  exact⟨typeIs_int s i t,λ_ e=>nomatch e⟩
 |ref p =>
  cases r;rcases ty with⟨rfl,xs,hq⟩|⟨rfl,o,hk,hc,hd⟩|⟨rfl,hk⟩|⟨rfl,S,n,hk⟩
  . obtain⟨its,_,pl,_⟩:=I.list hq;refine⟨pl.isList.typeIs,λa e=>?_⟩;cases e;obtain⟨o,n,e,c,hd,_⟩:=pl;exact⟨o,e,hd⟩
  . refine⟨⟨o,I.kIn p o hk,hc⟩,λa e=>?_⟩;cases e;exact⟨o,I.kIn _ o hk,hd⟩
  . have z:∃o,s.heap.get? p=some o/\o.ExactDict:=by
      rcases hk with⟨kvs,hk⟩|⟨kvs,hk⟩
      . obtain⟨_,_,_,_,o,_,_,e,ex,_⟩:=I.hok p _ hk;exact⟨o,e,ex⟩
      . obtain⟨_,_,_,_,o,_,_,e,ex,_⟩:=I.hok p _ hk;exact⟨o,e,ex⟩
    obtain⟨o,e,ex⟩:=z;refine⟨⟨o,e,ex.1⟩,λa e2=>?_⟩;cases e2;exact⟨o,e,ex.2.1⟩
  . obtain⟨o,_,_,_,e,ex,_⟩:=I.hok p _ hk;refine⟨⟨o,e,ex.1⟩,λa e2=>?_⟩;cases e2;exact⟨o,e,ex.2.1⟩
 |_=>exact False.elim ty
def tBM(K:Fg)(T:String)(r:V->List V->Hp->VK->Prop)(to:TE)(t:TA):TE:=λσ H Q=>to σ H λx H1=>tyV K T x H1/\t σ H1 λxs H2=>r x xs H2 Q
variable {o e:Expr}{es:List Expr}{to:TE}{t:TA}{name:Str}{T id:String}{r:V->List V->Hp->VK->Prop}
def pe_bm(pa:PlainAttrs T)(slot:Slot T name id)(hty:typeOf (.builtin id)=pure (.type "method_descriptor"))(hm:MtR X id r)(ho:PE X o to)(ha:PA X (e::es) t)(hbase:attributeBase o name X.env (eval o X.env)=eval o X.env:=by rfl)(hfew:((backTo cpos (starEach (e::es) X.env)).all (λx=>!x.1)&&(backToKw cpos (keywordEach [] X.env)).all (λx=>x.1.isSome)&&decide ((e::es).length+([]:List Keyword).length+(if([]:List Keyword).isEmpty then 0 else 1)<30))=true:=by rfl)(hline:(apos.endLine==cpos.line)=true:=by rfl)(hs:starEach (e::es) X.env=(false,eval e X.env)::starEach es X.env:=by rfl)(hplain:(backTo cpos (starEach es X.env)).any (·.1)=false:=by rfl):PE X (.Call (.Attribute o name apos) (e::es) [] cpos) (tBM X.K T r to t):=by
 intro aA s σ H Q I h;refine wpAny_Call_method_late hbase hfew hline rfl (thn (ho aA s σ H _ I h) λv s1 ⟨x,H1,I1,r1,ty,q1⟩=>?_);obtain⟨h1,h2⟩:=aA4 I1 r1 ty;refine⟨T,id,pa,slot,hty,h1,h2,?_⟩;have hA:=ha cpos aA s1 σ H1 _ I1 q1;rw[hs]at hA ⊢;refine Calls.callWith_builtin (by show(false||(backTo cpos (starEach es X.env)).any (·.1))=false;rw[hplain] <;> rfl) (Calls.evalArgs_plain ?_)
 exact thn hA λus s2 ⟨vs,H2,I2,r2,q2⟩=>hm aA s2 σ H2 x vs v us Q I2 r1 r2 q2
end
def MtM(X:Cx)(id:String)(r:V->List V->Hp->VK->Prop):Prop :=
 ∀(aA:LAO) (s:aP1) (σ:St) (H:Hp) (x:V) (xs:List V) (v:aP0) (us:List aP0) (Q:VK),Inv X aA σ H s->aH x v->aL xs us->r x xs H Q ->
  wpAny (model X.prog X.w) X.A (call (.builtin id) (v::us)) (EP X aA σ Q) X.xe s
def aL.one:∀{x:V}{us:List aP0},aL [x] us->∃u,us=[u]/\aH x u
 |_,_,.cons r .nil=>⟨_,rfl,r⟩
section
variable {σ:St}{ys zs:List V}
def Inv.lset{its its':List aP0}{f:Array aP0->Array aP0}(I:Inv X aA σ H s)(hH:H l=some (.lst xs))(e:s.heap.get? l=some { cls:=.type "list", data:=.seq its.toArray n })(hf:f its.toArray=its'.toArray)(hv:aL ys its')(hz:ys.length<=sizeLine):Inv X aA σ (upd H l (.lst ys)) {s with heap:=s.heap.update l (Obj.mapSeq f),toks:=t'}:=by
 have q:=PySem.IsL.update e f;rw[hf]at q;refine I.write (x:=l) (e:=l) (by rw[hH];exact trivial) (.inl rfl) (λb' u hb hu=>(Heap.get?_update_other s.heap (Obj.mapSeq f) (Ne.symm hb)).trans hu) ⟨_,q⟩ ?_
 exact⟨hz,its',_,hv,q⟩
def Inv.lstM(I:Inv X aA σ H s)(hH:H l=some (.lst xs)):xs.length<=sizeLine/\∃(its:List aP0) (n:Nat),aL xs its/\xs.length=its.length/\s.heap.get? l=some { cls:=.type "list", data:=.seq its.toArray n }:=by obtain⟨z,its,n,r,e⟩:=I.hok l _ hH;exact⟨z,its,n,r,r.length,e⟩
end
def aA5:V->List V->Hp->VK->Prop:=λx vs H Q=>∃l xs y,x=.ref l/\vs=[y]/\H l=some (.lst xs)/\xs.length<sizeLine/\Q .non (upd H l (.lst (xs++[y])))
theorem rA:MtM X "list.append" aA5:=by
 intro aA s σ H x vs v us Q I rx rv h;obtain⟨l,xs,y,rfl,rfl,hH,hz,q⟩:=h;cases rx;obtain⟨u,rfl,ru⟩:=rv.one;obtain⟨z,its,n,r,hl,e⟩:=I.lstM hH;refine aNL F.slot_list_append ⟨_,e,rfl⟩ F.entry_list_append (F.args_list_append_2 _ _) (PySem.list_append l its.toArray n u (by rw[aMD];lia)) ⟨e,?_⟩
 refine⟨.non,_,I.lset (its':=its++[u]) hH e (by simp) (r.append (.cons ru .nil)) ?_,rfl,q⟩
 rw[aM0,aNM];lia
section
variable {A:aP2}{E:VSP}
end
section
variable [DecidableEq κ]
noncomputable def valV(kvs:List (κ×V))(k:κ):Option V:=(kvs.find? λkv=>decide (kv.1=k)).map (·.2)
noncomputable def putK(kvs:List (κ×V))(k:κ)(v:V):List (κ×V) :=
 if(kvs.any λkv=>decide (kv.1=k))=true then kvs.map (λkv=>if kv.1=k then(kv.1,v)else kv)else kvs++[(k,v)]
def cZ.isSome_eq{o:Option V}{u:Option aP0}(r:cZ o u):o.isSome=u.isSome:=by
 cases o with
 |none=>cases u with
  |none=>rfl
  |some _=>exact(show False from r).elim
 |some _=>cases u with
  |none=>exact(show False from r).elim
  |some _=>rfl
end
section
variable {a:Addr}
end
def DGet(H:Hp)(a:Addr)(y:V)(r:Option V):Prop :=
 (∃kvs k,Rd H a (.dK kvs)/\y=kV k/\r=valV kvs k)\/∃kvs k b,Rd H a (.dT kvs)/\y=.ref b/\H b=some (.tup (k.map kV))/\r=valV kvs k
def DPut(H:Hp)(a:Addr)(y v:V)(H':Hp):Prop :=
 (∃kvs k,H a=some (.dK kvs)/\y=kV k/\kvs.length<sizeLine/\H'=upd H a (.dK (putK kvs k v))) \/
 ∃kvs k b,H a=some (.dT kvs)/\y=.ref b/\H b=some (.tup (k.map kV))/\kvs.length<sizeLine/\H'=upd H a (.dT (putK kvs k v))
section
variable {σ:St}{a:Addr}{y:V}{r:aP0}{o:Option V}{A:aP2}{E:VSP}
def Inv.big(I:Inv X aA σ H s):sysModules<s.heap.objs.size:=by have h:mainGlobals<s.heap.objs.size:=(I.mod.glob.keeps I.bk).lt;exact Nat.lt_trans (by decide) h
def aA6{ob:HO}(I:Inv X aA σ H s)(mu:Mut (H a))(hs:Heap.SameBut a s.heap h')(he:∃q,h'.get? a=some q)(new:bW X.prog X.w (upd H a ob) h' a ob):Inv X aA σ (upd H a ob) {s with heap:=h',toks:=t'} :=
 I.write (x:=a) (e:=a) mu (.inl rfl) (λb q hb z=>(hs.2 b hb).trans z) he new
end
section
variable {σ:St}{a:Addr}{kvs:List (Key×V)}{k:Key}{A:aP2}{E:VSP}
end
section
variable {o i e value:Expr}{tpos:Pos}{ty tv:TE}
end
section
variable {σ:St}{a:Addr}{y d:V}{r:aP0}{o:Option V}{A:aP2}{E:VSP}
end
section
variable {o e f:Expr}{ty tx:TE}
end
section
variable {σ:St}{a:Addr}{kvs:List (Key×V)}{A:aP2}{E:VSP}
end
section
variable {σ:St}{a:Addr}{y:V}{A:aP2}{E:VSP}
end
end L2
namespace Att
open PySem.W PySem.Calls
def aA7{P:Params}:∀(ns:List Int) (vs:List aP0),WellAll P h vs (ns.map WData.int)->IntsAre vs ns:=by
 intro ns
 induction ns with
 |nil=>intro vs w;rw[aNN]at w;cases w;exact .nil
 |cons n ns ih =>
  intro vs w;rw[aMI]at w;cases w with
  |cons a b=>cases a;exact .cons _ _ (ih _ b)
theorem aA8{l:OpenLaw}(hn:l.most=some n){P:Params}{args:List WData}{vals:List aP0}(hpre:l.row.toRowW.claim.pre args=true)(hwl:WellAll P h vals args):∃a vs ns,vals=[Value.ref a]/\args=[WData.list (ns.map WData.int)]/\h.get? a=some { cls:=.type "list", data:=.seq vs.toArray }/\IntsAre vs ns/\ns.length<=n:=by
 have hsh:WShape.hasAll [] args [.list .int]=true:=(pre_splitW hpre).1;have hc:l.pre.holds [] {args:=args}=true:=(pre_splitW hpre).2;obtain⟨d,r,rfl,h1,h2⟩:=hasAllW_cons hsh;obtain rfl:=hasAllW_nil h2;obtain⟨xs,rfl,h3⟩:=hasW_list h1;obtain⟨ns,rfl⟩:=items_int h3;have hlen:ns.length<=n:=by
  unfold OpenLaw.pre at hc;have h4:(WTm.not (.lt (.lit (.int (n:Int))) (.len (.arg 0)))).holds [] {args:=[.list (ns.map .int)]}=true:=by have h4:=(holds_andW hc).1;rw[hn]at h4;exact h4
  have h5:=condW_of h4 (w_not (w_lt w_lit (w_len_list (w_arg rfl))));rw[aMJ]at h5;refine Nat.le_of_not_lt λq=>?_;have q':(n:Int)<((ns.length:Nat):Int):=by lia
  first
   |(rw[aNO q']at h5;exact absurd h5 (by decide))
   |(simp at h5;lia)
 cases hwl with
 |cons w1 w2 =>
  cases w2;cases w1 with
  |list ho hall=>exact⟨_,_,ns,rfl,rfl,ho,aA7 ns _ hall,hlen⟩
def aA9(l:OpenLaw)(args:List WData):l.row.toRowW.claim.post args (.bool true) args=true :=
 postW_of (r:=l.row.toRowW) (X:=(true==true))
  (show WShape.has [] (.bool true) .bool=true by first|rfl|decide|simp[WShape.has,WShape.arms,WShape.armsAll])
  (show(WTm.eq .res (.lit (.bool true))).value [] {args:=args,res:=some (.bool true),after:=args}=some (.bool (true==true))from w_eq_bool (w_res rfl) w_lit) rfl
def aBA{l:OpenLaw}{q:aP4}{d:DefRec}(hn:l.most=some n)(hdf:d.params.defaults=[])(call:∀(w:aP3) (s₀ s₁:aP1) (mg mb:SOV) (fa:Addr) (o:Obj) (pm cd doc:aP0) (a:Addr) (vs:List aP0) (ns:List Int),Ground q loose [] XP w s₀ mg mb s₁.heap->YP w s₁.heap->s₁.heap.get? fa=some o->o.data=.func (docDef d.name d.params d.body d.scope pm cd doc)->s₁.heap.CodeRec cd d.name->mg d.name=some (.ref fa)->s₁.heap.get? a=some { cls:=.type "list", data:=.seq vs.toArray } -> IntsAre vs ns->ns.length<=n->s₁.gens = #[]->codeAny (model l.prog w) callerA (.call (.ref fa) ⟨[.ref a],[]⟩) (λr s'=>r=.ok (.ret (.bool true))/\OldK s₁.heap s'.heap/\s'.os=s₁.os/\AllBare s'.gens) s₁):WalkO q loose XP YP l.row.toRowW d [] (λf vs=>PySem.call f vs):=by intro w s₀ s₁ mg mb G Y fa o pm cd doc dV kV ho hd hcd hD hmg hg args vals as hpre hlay hrd hwl hlo;obtain rfl:dV=.none:=Dflts.none hD hdf;obtain rfl:kV=.none:=Dflts.noKw hD;obtain⟨a,vs,ns,rfl,rfl,hobj,hints,hlen⟩:=aA8 hn hpre hwl;refine enter_call (aNP (call w s₀ s₁ mg mb fa o pm cd doc a vs ns G Y ho (fd_plain hd) hcd hmg hobj hints hlen hg) λr s' hq=>?_);obtain⟨rfl,h2,h3,h4⟩:=hq;exact⟨.inl ⟨.bool true,.bool true,[],rfl,λ_=>rfl,.bool true,aA9 l _,λ_=>⟨List.Pairwise.nil,λ_ hm=>(nomatch hm)⟩⟩,h2,h3,h4⟩
section
variable {A:aP2}{E:VSP}{K:Frag}
def ledger(h:Heap)(L d:Addr):LAO:=(List.range h.objs.size).filterMap λa=>if a=L\/a=d then none else(h.get? a).map λo=>(a,o)
end
end Att
namespace L2
noncomputable abbrev KOf(_:K.In h):Fg:=K
def iG(s:Stmt):Arguments:=match s with
 |.FunctionDef _ a _ _ _ _ _ _ _ _=>a
 |_=>{posonlyargs:=[],args:=[],vararg:=none,kwonlyargs:=[],kw_defaults:=[],kwarg:=none,defaults:=[]}
def cQ(s:Stmt):List Stmt:=match s with
 |.FunctionDef _ _ b _ _ _ _ _ _ _=>b
 |_=>[]
def bA(s:Stmt):Scope:=match s with
 |.FunctionDef _ _ _ _ _ _ sc _ _ _=>sc
 |_=>{kind:=.function,names:=[],isGenerator:=false,isCoroutine:=false}
abbrev CX0:CXT:=λ_ _ _ _ _ _=>False
abbrev E0:XK:=λ_ _ _=>False
structure Fun(K:Fg)(x qual:Str)(st:Stmt)(f:Addr)(fd:FuncData):Prop where
 ex:∃(oc:aP0) (od:Option Addr) (kV doc pm:aP0) (an:Option Addr) (cdv ct:aP0) (osl:Array (Option aP0)),
  fd=W.fnOf x qual (iG st) (cQ st) (bA st) .none kV doc pm an cdv ct/\K.lookup f=some ⟨oc,od,.func fd,osl⟩/\W.codeIn K cdv qual=true
 kp:W.keepIn K (.ref f)=true
def aBB{f:Addr}{oc:aP0}{od an:Option Addr}{osl:Array (Option aP0)}{kV doc pm ct:aP0}(l:K.lookup f=some ⟨oc,od,.func (W.fnOf x qual (iG st) (cQ st) (bA st) .none kV doc pm an cdv ct),osl⟩)(c:W.codeIn K cdv qual=true)(k:W.keepIn K (.ref f)=true):Fun K x qual st f (W.fnOf x qual (iG st) (cQ st) (bA st) .none kV doc pm an cdv ct):=⟨⟨oc,od,kV,doc,pm,an,cdv,ct,osl,rfl,l,c⟩,k⟩
def aD(H H':Hp):Prop:=∀b o,H b=some o->H' b=some o
def aD.refl(H:Hp):aD H H:=λ_ _ h=>h
def aD.trans{H1 H2:Hp}(a:aD H H1)(b:aD H1 H2):aD H H2:=λc o h=>b c o (a c o h)
def aD.free(e:aD H H')(h:H' l=Option.none):H l=Option.none:=by
 cases q:H l with
 |none=>rfl
 |some o=>rw[e l o q]at h;cases h
def aD.seq{a:Addr}(e:aD H H')(h:SqL K H a xs):SqL K H' a xs:=by
 rcases h with(h|⟨o,h⟩)|h
 . exact .inl (.inl (e _ _ h))
 . exact .inl (.inr ⟨o,e _ _ h⟩)
 . exact .inr h
section
variable [DecidableEq κ]
end
def N.ind{P:N->Prop}(hi:∀n,P (.i n))(hs:∀x,P (.s x))(ht:∀xs,(∀x∈xs,P x)->P (.t xs))(k:N):P k :=
 N.rec (motive_1:=P) (motive_2:=λxs=>∀x∈xs,P x) hi hs ht (λ_ h=>nomatch h) (λa l h1 h2 x hx=>by
  rcases aLU.mp hx with rfl|hx
  . exact h1
  . exact h2 x hx) k
mutual
def N.eq:N->N->Bool
 |.i n,.i m=>n==m
 |.s x,.s y=>x==y
 |.t xs,.t ys=>N.eqL xs ys
 |_,_=>false
def N.eqL:List N->List N->Bool
 |[],[]=>true
 |x::xs,y::ys=>N.eq x y&&N.eqL xs ys
 |_,_=>false
end
theorem N.eqL_iff:∀{xs ys:List N},(∀x∈xs,∀y,N.eq x y=true↔x=y)->(N.eqL xs ys=true↔xs=ys)
 |[],[],_=>by simp[N.eqL]
 |[],_::_,_=>by simp[N.eqL]
 |_::_,[],_=>by simp[N.eqL]
 |x::xs,y::ys,h=>by rw[N.eqL,aNI,h x mcs y,N.eqL_iff λz hz=>h z (mcm hz),List.cons.injEq]
def N.eq_iff(k:N):∀y,N.eq k y=true↔k=y:=by
 induction k using N.ind with
 |hi n=>intro y;cases y <;> simp[N.eq]
 |hs x=>intro y;cases y <;> simp[N.eq]
 |ht xs ih =>
  intro y;cases y with
  |t ys=>rw[N.eq,N.eqL_iff ih];simp
  |_=>simp[N.eq]
instance:DecidableEq N:=λa b=>decidable_of_iff _ (N.eq_iff a b)
mutual
def N.py:N->PyData
 |.i n=>.int n
 |.s x=>.str x
 |.t xs=>.tuple (N.pyL xs)
def N.pyL:List N->List PyData
 |[]=>[]
 |x::xs=>N.py x::N.pyL xs
end
mutual
def N.dp:N->Nat
 |.i _=>0
 |.s _=>0
 |.t xs=>N.dpL xs+1
def N.dpL:List N->Nat
 |[]=>0
 |x::xs=>max (N.dp x) (N.dpL xs)
end
theorem N.dp_mem:∀{xs:List N}{x:N},x∈xs->x.dp<=N.dpL xs
 |y::ys,x,h=>by
  rw[N.dpL];rcases aLU.mp h with rfl|h
  . lia
  . have:=N.dp_mem h;lia
theorem N.py_depthL:∀{xs:List N},(∀x∈xs,x.py.depth=x.dp)->PyData.depthAll (N.pyL xs)=N.dpL xs
 |[],_=>by simp[N.pyL,N.dpL,PyData.depthAll]
 |x::xs,h=>by simp only[N.pyL,N.dpL,PyData.depthAll];rw[h x mcs,N.py_depthL λz hz=>h z (mcm hz)]
def N.py_depth(k:N):k.py.depth=k.dp:=by
 induction k using N.ind with
 |hi n=>simp[N.py,N.dp,PyData.depth]
 |hs x=>simp[N.py,N.dp,PyData.depth]
 |ht xs ih=>simp only[N.py,N.dp,PyData.depth];rw[N.py_depthL ih]
theorem N.py_eqvL:∀{xs ys:List N},(∀x∈xs,∀y:N,PyData.eqv x.py y.py=decide (x=y))->PyData.eqvAll (N.pyL xs) (N.pyL ys)=decide (xs=ys)
 |[],[],_=>by simp[N.pyL,PyData.eqvAll]
 |[],_::_,_=>by simp[N.pyL,PyData.eqvAll]
 |_::_,[],_=>by simp[N.pyL,PyData.eqvAll]
 |x::xs,y::ys,h=>by simp only[N.pyL,PyData.eqvAll];rw[h x mcs y,N.py_eqvL λz hz=>h z (mcm hz)];by_cases e1:x=y <;> by_cases e2:xs=ys <;> simp[e1,e2]
def N.py_eqv(k:N):∀y:N,PyData.eqv k.py y.py=decide (k=y):=by
 induction k using N.ind with
 |hi n =>
  intro y;cases y with
  |i m=>simp only[N.py,PyData.eqv];by_cases e:n=m <;> simp[e]
  |s x=>simp[N.py,PyData.eqv]
  |t xs=>simp[N.py,PyData.eqv]
 |hs x =>
  intro y;cases y with
  |i m=>simp[N.py,PyData.eqv]
  |s z=>simp only[N.py,PyData.eqv];by_cases e:x=z <;> simp[e]
  |t xs=>simp[N.py,PyData.eqv]
 |ht xs ih =>
  intro y;cases y with
  |i m=>simp[N.py,PyData.eqv]
  |s z=>simp[N.py,PyData.eqv]
  |t ys=>simp only[N.py,PyData.eqv];rw[N.py_eqvL ih];by_cases e:xs=ys <;> simp[e]
mutual
def IsN(h:Heap):N->aP0->Prop
 |.i n,v=>∃t,v=.int n t
 |.s x,v=>(∃t,v=.str x t)/\PyData.strOk x=true
 |.t xs,v=>∃a o items n,v=.ref a/\h.get? a=some o/\o.cls=.type "tuple" /\ o.data=.seq items n/\aW h xs items.toList
def aW(h:Heap):List N->List aP0->Prop
 |[],vs=>vs=[]
 |x::xs,vs=>∃v us,vs=v::us/\IsN h x v/\aW h xs us
end
theorem aW.mem:∀{h:Heap}{xs:List N}{vs:List aP0},aW h xs vs->∀v∈vs,∃x∈xs,IsN h x v
 |h,[],vs,q,v,hv=>by rw[aW]at q;subst q;cases hv
 |h,x::xs,vs,q,v,hv=>by
  rw[aW]at q;obtain⟨u,us,rfl,q1,q2⟩:=q;rcases aLU.mp hv with rfl|hv
  . exact⟨x,mcs,q1⟩
  . obtain⟨y,hy,e⟩:=q2.mem v hv;exact⟨y,mcm hy,e⟩
theorem aW.map:∀{h h':Heap}{xs:List N}{vs:List aP0},aW h xs vs->(∀x∈xs,∀v,IsN h x v->IsN h' x v)->aW h' xs vs
 |h,h',[],vs,q,k=>by rw[aW]at q ⊢;exact q
 |h,h',x::xs,vs,q,k=>by rw[aW]at q ⊢;obtain⟨u,us,e,q1,q2⟩:=q;exact⟨u,us,e,k x mcs u q1,q2.map λy hy=>k y (mcm hy)⟩
def IsN.keeps{d:Addr}{o:Obj}{es ep:_}(ho:h.get? d=some o)(hd:o.data=.dict es ep)(hs:Heap.SameBut d h h')(k:N):∀v,IsN h k v->IsN h' k v:=by
 induction k using N.ind with
 |hi n=>intro v q;rw[IsN]at q ⊢;exact q
 |hs x=>intro v q;rw[IsN]at q ⊢;exact q
 |ht xs ih =>
  intro v q;rw[IsN]at q ⊢;obtain⟨a,o',items,n,e,ha,hc,hd',hi⟩:=q;have hne:a≠d:=by rintro rfl;obtain rfl:o'=o:=aL0 (ha.symm.trans ho);rw[hd]at hd';exact nomatch hd'
  exact⟨a,o',items,n,e,(hs.2 a hne).trans ha,hc,hd',hi.map ih⟩
theorem aW.readsL:∀{h:Heap}{xs:List N}{vs:List aP0},aW h xs vs->(∀x∈xs,∀v,IsN h x v->(∃as,Reads h v x.py as)/\x.py.canLay0=true)->(∃as,ReadsAll h vs (N.pyL xs) as)/\PyData.canLayAll0 (N.pyL xs)=true
 |h,[],vs,q,k=>by rw[aW]at q;subst q;exact⟨⟨_,.nil⟩,by simp[N.pyL,PyData.canLayAll0]⟩
 |h,x::xs,vs,q,k=>by rw[aW]at q;obtain⟨u,us,rfl,q1,q2⟩:=q;obtain⟨⟨as,ra⟩,ca⟩:=k x mcs u q1;obtain⟨⟨bs,rb⟩,cb⟩:=q2.readsL λy hy=>k y (mcm hy);exact⟨⟨_,.cons ra rb⟩,by simp only[N.pyL,PyData.canLayAll0,ca,cb,Bool.and_self]⟩
def IsN.reads(k:N):∀v,IsN h k v->(∃as,Reads h v k.py as)/\k.py.canLay0=true:=by
 induction k using N.ind with
 |hi n=>intro v q;rw[IsN]at q;obtain⟨t,rfl⟩:=q;exact⟨⟨_,.int n t⟩,rfl⟩
 |hs x=>intro v q;rw[IsN]at q;obtain⟨⟨t,rfl⟩,hk⟩:=q;exact⟨⟨_,.str x t⟩,by simpa only [N.py,PyData.canLay0]using hk⟩
 |ht xs ih=>intro v q;rw[IsN]at q;obtain⟨a,o',items,n,rfl,ha,hc,hd',hi⟩:=q;obtain⟨⟨as,ra⟩,ca⟩:=hi.readsL ih;exact⟨⟨_,.tuple ha hc hd' ra⟩,by simpa only [N.py,PyData.canLay0]using ca⟩
theorem aW.inj:∀{h:Heap}{xs ys:List N}{vs:List aP0},(∀x∈xs,∀y v,IsN h x v->IsN h y v->x=y)->aW h xs vs->aW h ys vs->xs=ys
 |h,[],[],vs,_,_,_=>rfl
 |h,[],y::ys,vs,_,p,q=>by rw[aW]at p;subst p;rw[aW]at q;obtain⟨_,_,e,_⟩:=q;cases e
 |h,x::xs,[],vs,_,p,q=>by rw[aW]at q;subst q;rw[aW]at p;obtain⟨_,_,e,_⟩:=p;cases e
 |h,x::xs,y::ys,vs,k,p,q=>by rw[aW]at p q;obtain⟨u,us,rfl,p1,p2⟩:=p;obtain⟨_,_,e,q1,q2⟩:=q;cases e;rw[k x mcs y _ p1 q1,aW.inj (λz hz=>k z (mcm hz)) p2 q2]
theorem IsN.inj(k:N):∀y v,IsN h k v->IsN h y v->k=y:=by
 induction k using N.ind with
 |hi n =>
  intro y v p q;rw[IsN]at p;obtain⟨t,rfl⟩:=p;cases y with
  |i m=>rw[IsN]at q;obtain⟨u,e⟩:=q;cases e;rfl
  |s x=>rw[IsN]at q;obtain⟨⟨u,e⟩,_⟩:=q;cases e
  |t xs=>rw[IsN]at q;obtain⟨_,_,_,_,e,_⟩:=q;cases e
 |hs x =>
  intro y v p q;rw[IsN]at p;obtain⟨⟨t,rfl⟩,_⟩:=p;cases y with
  |i m=>rw[IsN]at q;obtain⟨u,e⟩:=q;cases e
  |s x=>rw[IsN]at q;obtain⟨⟨u,e⟩,_⟩:=q;cases e;rfl
  |t xs=>rw[IsN]at q;obtain⟨_,_,_,_,e,_⟩:=q;cases e
 |ht xs ih =>
  intro y v p q;rw[IsN]at p;obtain⟨a,o,items,n,rfl,ha,hc,hd,hi⟩:=p;cases y with
  |i m=>rw[IsN]at q;obtain⟨u,e⟩:=q;cases e
  |s x=>rw[IsN]at q;obtain⟨⟨u,e⟩,_⟩:=q;cases e
  |t ys =>
   rw[IsN]at q;obtain⟨a',o',items',n',e,ha',_,hd',hi'⟩:=q;cases e;obtain rfl:o=o':=aL0 (ha.symm.trans ha');rw[hd]at hd';injection hd' with h1 _
   subst h1;rw[aW.inj ih hi hi']
mutual
def N.dr:N->Nat
 |.i _=>1
 |.s _=>1
 |.t xs=>N.drL xs+1
def N.drL:List N->Nat
 |[]=>0
 |x::xs=>N.dr x+N.drL xs
end
section
variable {A:aP2}{E:VSP}
theorem rB:∀(xs:List N) (y:N),N.drL (xs++[y])=N.drL xs+N.dr y
 |[],y=>by simp[N.drL]
 |x::xs,y=>by rw[aNQ,N.drL,rB xs y,N.drL,aNR]
theorem rC:∀(xs:List N) (y:N),c7 w (xs++[y])=c7 w xs++[dO w y]
 |[],y=>by simp[c7]
 |x::xs,y=>by rw[aNQ,c7,rC xs y,c7,aNQ]
theorem aBC(k:N):∀{A:aP2}{E:VSP}{s:aP1}{v:aP0}{Q:Int->aP1->Prop},A.units+k.dp<cLine->IsN s.heap k v->Q (dO w k) {s with toks:=s.toks+k.dr} -> wpAny (model prog w) A (pyHash v) Q E s:=by
 induction k using N.ind with
 |hi n=>intro A E s v Q hu hk h;rw[IsN]at hk;obtain⟨t,rfl⟩:=hk;rw[dO,N.dr]at h;exact wpAny_pyHash_int h
 |hs x=>intro A E s v Q hu hk h;rw[IsN]at hk;obtain⟨⟨t,rfl⟩,_⟩:=hk;rw[dO,N.dr]at h;exact wpAny_pyHash_str h
 |ht xs ih =>
  intro A E s v Q hu hk h;rw[IsN]at hk;obtain⟨a,o,items,n,rfl,ho,hc,hd,hi⟩:=hk;rw[N.dp]at hu;have hT:s.TypeIs (.ref a) "tuple" := ⟨o,ho,hc⟩;unfold pyHash
  first|unfold pyHashByItsType|skip
  first|refine aL6 (wpAny_cRoomFor_or (.inr (by lia)) ?_)|skip
  refine aL6 (aNS hT F.slot_tuple_hash.lookup ?_);show wpAny _ _ (if(some (Value.builtin "tuple.__hash__")==some Value.none)=true then _ else _) Q E s;rw[if_neg (by rw[beq_builtin_none];exact aMF)]
  refine aL6 (aNS hT F.slot_tuple_hash.lookup ?_);show wpAny _ _ (callSpecialIfBoundUnlessNone? (.ref a) "__hash__" _>>=_) Q E s;refine aL6 (wpAny_callSpecialIfBoundUnlessNone?_slot hT F.slot_tuple_hash (aNG F.slot_tuple_hash hT F.entry_tuple_hash ?_ (F.args_tuple_hash_1 _)));show wpAny _ _ (Builtin.Tuple.tupleItemsOf (.ref a)>>=_) _ _ s;refine aL6 (wpAny_tupleItemsOf ho hd ?_);refine aL6 ?_;rw[<- Array.forIn_toList];refine aNT _
   (λrest (b:Array Int) s'=>∃done left,xs=done++left/\aW s.heap left rest/\b.toList=c7 w done/\s'={s with toks:=s.toks+N.drL done})
   _ ?_ ?_ _ _ ⟨[],xs,rfl,hi,by simp[c7],by simp[N.drL]⟩
  . rintro x rest b s' ⟨done,left,e,hl,hb,rfl⟩;cases left with
    |nil=>rw[aW]at hl;cases hl
    |cons k ks =>
     rw[aW]at hl;obtain⟨_,_,e',h1,hl'⟩:=hl;cases e';have hm:k∈xs:=by rw[e];simp
     refine aL6 (ih k hm (A:=A.in1) (by have:=N.dp_mem hm;show A.units+1+_<_;lia) h1 ?_)
     have fin:∃done' left',xs=done'++left'/\aW s.heap left' rest/\(b.push (dO w k)).toList=c7 w done'/\({s with toks:=s.toks+N.drL done+k.dr}:aP1)={s with toks:=s.toks+N.drL done'} :=
      ⟨done++[k],ks,by rw[e];simp,hl',by rw[rC,Array.toList_push,hb],by rw[rB,aNR]⟩
     first
      |exact aL5 fin
      |exact aL6 (aL5 (aL5 fin))
  . rintro b s' ⟨done,left,e,hl,hb,rfl⟩;cases left with
    |cons k ks=>rw[aW]at hl;obtain⟨_,_,e',_⟩:=hl;cases e'
    |nil =>
    rw[aMO]at e;subst e;show wpAny _ _ (retInt (Builtin.Tuple.tupleHashOf b.toList)) _ _ _;rw[hb];refine wpAny_ret_mkInt ?_;show wpAny _ _ (if(decide (-(2:Int) ^ 63<=Builtin.Tuple.tupleHashOf (c7 w xs))&&decide (Builtin.Tuple.tupleHashOf (c7 w xs)<2 ^ 63))=true then _ else _) Q E _;rw[dO,N.dr]at h;unfold reduceHash at h;by_cases hr:(decide (-(2:Int) ^ 63<=Builtin.Tuple.tupleHashOf (c7 w xs))&&decide (Builtin.Tuple.tupleHashOf (c7 w xs)<2 ^ 63))=true
    . rw[if_pos hr];rw[if_pos hr]at h;exact aL5 (by simpa[aNR]using h)
    . rw[if_neg hr];rw[if_neg hr]at h;exact aL6 (wpAny_rule (aL5 (by simpa[aNR]using h)))
theorem n_eq{x y:N}{v:aP0}{Q:Bool->aP1->Prop}(hu:A.units+x.dp<cLine)(hx:IsN s.heap x u)(hy:IsN s.heap y v)(h:Q (decide (x=y)) s):wpAny (model prog w) A (eqBool u v) Q E s:=by
 obtain⟨⟨as,ra⟩,ca⟩:=IsN.reads x u hx;obtain⟨⟨bs,rb⟩,cb⟩:=IsN.reads y v hy;refine SeqAt.eqAt_reads x.py y.py A s u v as bs ra rb ca cb (by rw[N.py_depth];have:=aNU x.dp y.py.depth;lia) prog w E Q ?_
 rw[N.py_eqv];exact h
theorem aBD(k:N):∀{n:Nat}{v:aP0}{Q:Bool->aP1->Prop},k.dp<=n->IsN s.heap k v->Q true s->wpAny (model prog w) A (eqIsQuiet n v) Q E s:=by
 induction k using N.ind with
 |hi m=>intro n v Q hn hk h;rw[IsN]at hk;obtain⟨t,rfl⟩:=hk;rw[eqIsQuiet_byValue n rfl];exact aL5 h
 |hs x=>intro n v Q hn hk h;rw[IsN]at hk;obtain⟨⟨t,rfl⟩,_⟩:=hk;rw[eqIsQuiet_byValue n rfl];exact aL5 h
 |ht xs ih =>
  intro n v Q hn hk h;rw[IsN]at hk;obtain⟨a,o,items,c,rfl,ho,hc,hd,hi⟩:=hk;rw[N.dp]at hn;cases n with
  |zero=>lia
  |succ n =>
   have hT:s.TypeIs (.ref a) "tuple" := ⟨o,ho,hc⟩;unfold eqIsQuiet;refine aL6 (aNS hT F.slot_tuple_eq.lookup ?_);show wpAny _ _ (isInstance (.ref a) (.type "tuple")>>=_) _ _ s;refine aL6 (wpAny_isInstance hT isSubtype_tuple_tuple ?_);simp only[Bool.not_true,aNV,aM9];refine aL6 (wpAny_seqItems ho hd ?_);refine aL6 ?_;show wpAny _ _ (forIn items _ _) _ _ s;rw[<- Array.forIn_toList];refine aNT _ (λrest r s'=>r.1=none/\s'=s/\∀v∈rest,∃x∈xs,IsN s.heap x v) _ ?_ ?_ _ _ ⟨rfl,rfl,hi.mem⟩
   . rintro v rest r s' ⟨hr,rfl,hall⟩;obtain⟨x,hx,hv⟩:=hall v mcs;refine aL6 (ih x hx (n:=n) (by have:=N.dp_mem hx;lia) hv ?_)
     simp only[Bool.not_true,aNV,aM9];exact aL5 ⟨rfl,rfl,λu hu'=>hall u (mcm hu')⟩
   . rintro⟨r1,r2⟩ s' ⟨hr,rfl,_⟩;simp only at hr;subst hr;exact aL5 h
end
noncomputable def nA(prog:aP4)(w:aP3):HeapKind prog w N where
 is:=λh k a=>IsN h k (.ref a)/\k.dp<=8
 hash:=dO w
 draws:=N.dr
 room:=λA=>A.units+8<cLine
 inj:=λhx hy=>IsN.inj _ _ _ hx.1 hy.1
 keeps:=λx ho hd hs=>⟨IsN.keeps ho hd hs _ _ x.1,x.2⟩
 pyHash:=λhu hk h=>aBC _ (by have:=hk.2;omega) hk.1 h
 eqBool:=λhu hx hy h=>n_eq (by have:=hx.2;omega) hx.1 hy.1 h
 quiet:=λhk h=>aBD _ hk.2 hk.1 h
def dB(f:Addr)(o:Obj):HO:=.ext λh=>h.get? f=some o
def rD{f:Addr}{o:Obj}(e:h.get? f=some o):bW P w H h f (dB f o):=⟨e,⟨o,e⟩,λ_ _ p k=>k o p⟩
def rE{f:Addr}{o:Obj}(ok:HOk P w H h)(e:H f=some (dB f o)):h.get? f=some o:=(ok f _ e).1
def aBE{c:Addr}(ok:HOk P w H h)(e:H c=some (.crec q)):h.CodeRec (.ref c) q:=by obtain⟨oc,vs,t,e1,e2,e3⟩:=ok c _ e;exact⟨c,oc,vs,t,rfl,e1,e2,e3⟩
theorem aBF{z:Pos}{c' cv:aP0}:∀{l:List aP0},TriplesOk l->codeAmong z (l++[rawInt pos.line,rawInt pos.col,c'])=some cv->codeAmong z l=some cv\/(cv=c'/\z.line=pos.line):=by
 intro l
 fun_induction TriplesOk l with
 |case1 =>
  intro _ h;simp only[aNW,codeAmong,rawInt]at h;split at h
  . rename_i hc;rw[aNI,aMG]at hc;cases h;exact .inr ⟨rfl,by have:=hc.1;lia⟩
  . cases h
 |case2 a t b u x rest ih =>
  intro h1 h;simp only[aNQ,codeAmong]at h ⊢;split at h
  . rename_i hc;rw[if_pos hc];exact .inl h
  . rename_i hc;rw[if_neg hc];exact ih h1 h
 |case3 l h1 h2=>intro h;exact h.elim
section
variable {σ:St}{E:VSP}
end
end L2
namespace D3
inductive D where
 |non|bl (b:Bool)|int (i:Int)|str (x:Str)|tup (xs:List D)|lst (xs:List D)|dct (kvs:List (Key×D))|ty (n:String)|ob (a:Addr)|ins (c:Str) (fs:List (Str×D))|fn (x:Str)|exn (c:Str)|set (ks:List Key)|dtn (kvs:List (N×D))|dtf (kvs:List (N×D))|dcf (kvs:List (Key×D))|clo (f n:Str) (fs:List (Str×D))
inductive Md where|fz|fr|bo
 deriving DecidableEq
inductive Res where
 |ok (m:Md) (d:D)|exc (c:Str)|stuck
def dQ(c:Addr)(y:V):HO:=.ext λh=>∃u,h.IsCell c (some u)/\aH y u
end D3
variable {R:List (L2.N×D3.D)}{ds:List D3.D}{Φ:List D3.D->D3.Res}{m':D3.Md}{Kd No Cl:D3.D}{τ:Int->D3.D}
namespace D3
def fT:Stmt->Str
 |.FunctionDef n _ _ _ _ _ _ _ _ _=>n
 |_ => ""
def iH(K:Fg)(f0 n q:Str)(st:Stmt):Prop:=∃x qual st0 f fd,W.nsIn K mainGlobals f0=some (some (.ref f))/\Fun K x qual st0 f fd/\(if n="" then(cQ st0)[1]? else(cQ st0).find? λs=>fT s==n)=some st/\q=qual ++ ".<locals>." ++ fT st
def iH.one{i q':Str}{st':Stmt}(h:iH K f0 i q st)(h':iH K f0 i q' st'):q=q'/\st=st':=by obtain⟨x,qual,st0,f,fd,n,F,b,rfl⟩:=h;obtain⟨x',qual',st0',f',fd',n',F',b',rfl⟩:=h';rw[n]at n';cases n';obtain⟨_,_,_,_,_,_,_,_,_,rfl,lk,_⟩:=F.ex;obtain⟨_,_,_,_,_,_,_,_,_,rfl,lk',_⟩:=F'.ex;rw[lk]at lk';simp only[aNX,Obj.mk.injEq,Data.func.injEq,FuncData.mk.injEq,FuncBody.stmts.injEq]at lk';obtain⟨_,_,⟨_,e1,_,e2,_⟩,_⟩:=lk';rw[e2,b']at b;cases b;exact⟨by rw[e1],rfl⟩
def a8(as:List Addr)(H:Hp):Hp:=λb=>if b∈as then none else H b
def aBG{as:List Addr}{F:Hp}(h:aD F F'):aD (a8 as F) (a8 as F'):=λb o e=>by
 by_cases hb:b∈as
 . rw[show a8 as F b=none from if_pos hb]at e;cases e
 . rw[show a8 as F b=F b from if_neg hb]at e
   rw[show a8 as F' b=F' b from if_neg hb]
   exact h b o e
def clA(cl:List (Str×Addr)):List Addr:=cl.filterMap λz=>cl.lookup z.1
def ClOk(fs:List (Str×D))(cl:List (Str×Addr)):Prop:=(∀x c,cl.lookup x=some c->x∈fs.map (·.1))/\∀x y c,cl.lookup x=some c->cl.lookup y=some c->x=y
def xobj(a C:Addr):HO:=.ext λh=>∃o,h.get? a=some o/\o.cls=.ref C
mutual
def NAt(K:Fg)(F:Hp):N->V->Prop
 |.i n,v=>v=.int n
 |.s x,v=>v=.str x/\x.length<=sizeLine/\PyData.strOk x=true
 |.t xs,v=>∃a ys,v=.ref a/\SqT K F a ys/\bS K F xs ys
def bS(K:Fg)(F:Hp):List N->List V->Prop
 |[],ys=>ys=[]
 |x::xs,ys=>∃y zs,ys=y::zs/\NAt K F x y/\bS K F xs zs
end
def rF(S:Key->Bool)(ks:List Key):Prop:=ks.Nodup/\∀k,S k=true↔k∈ks
mutual
def aB(K:Fg)(F:Hp):D->V->Prop
 |.non,v=>v=.non
 |.bl b,v=>v=.bl b
 |.int i,v=>v=.int i
 |.str x,v=>v=.str x/\x.length<=sizeLine/\PyData.strOk x=true
 |.tup ds,v=>∃a xs,v=.ref a/\SqT K F a xs/\aC K F ds xs
 |.lst ds,v=>∃a xs,v=.ref a/\SqL K F a xs/\aC K F ds xs
 |.dct kvs,v=>∃a xs,v=.ref a/\F a=some (.dK xs)/\bE K F kvs xs
 |.ty n,v=>v=.ty n
 |.ob a,v=>v=.ref a
 |.ins c fs,v=>∃a C dx gs,v=.ref a/\W.nsIn K mainGlobals c=some (some (.ref C))/\F a=some (.ins C dx gs)/\aQ K F fs gs
 |.fn x,v=>∃a,v=.ref a/\W.nsIn K mainGlobals x=some (some (.ref a))
 |.exn c,v=>∃a C,v=.ref a/\W.nsIn K mainGlobals c=some (some (.ref C))/\F a=some (xobj a C)
 |.set ks,v=>∃a S,v=.ref a/\F a=some (.set S ks.length)/\rF S ks
 |.dtn kvs,v=>∃a xs,v=.ref a/\F a=some (.dN xs)/\aN K F kvs xs
 |.dtf kvs,v=>∃a o xs,v=.ref a/\F a=some (.frz o (.dN xs))/\aN K F kvs xs
 |.dcf kvs,v=>∃a o xs,v=.ref a/\F a=some (.frz o (.dK xs))/\bE K F kvs xs
 |.clo f0 n fs,v=>∃f c name q st doc pm ct cl,iH K f0 n q st/\v=.ref f/\F f=some (dB f (W.fnMade name q (iG st) (cQ st) (bA st) cl doc pm c ct))/\F c=some (.crec q)/\ClOk fs cl/\cK K F fs cl
def aN(K:Fg)(F:Hp):List (N×D)->List (N×Addr×V)->Prop
 |[],xs=>xs=[]
 |(k,d)::ds,xs=>∃b y ys,xs=(k,b,y)::ys/\(NAt K F k (.ref b)/\k.dp<=8)/\aB K F d y/\aN K F ds ys
def aC(K:Fg)(F:Hp):List D->List V->Prop
 |[],xs=>xs=[]
 |d::ds,xs=>∃y ys,xs=y::ys/\aB K F d y/\aC K F ds ys
def bE(K:Fg)(F:Hp):List (Key×D)->List (Key×V)->Prop
 |[],xs=>xs=[]
 |(k,d)::ds,xs=>∃y ys,xs=(k,y)::ys/\aB K F d y/\bE K F ds ys
def cK(K:Fg)(F:Hp):List (Str×D)->List (Str×Addr)->Prop
 |[],_=>True
 |(x,d)::ds,cl=>(∃a y,cl.lookup x=some a/\F a=some (dQ a y)/\aB K (a8 (clA cl) F) d y)/\cK K F ds cl
def aQ(K:Fg)(F:Hp):List (Str×D)->List (Str×V)->Prop
 |[],xs=>xs=[]
 |(k,d)::ds,xs=>∃y ys,xs=(k,y)::ys/\aB K F d y/\aQ K F ds ys
end
def aD.seqT{a:Addr}(e:aD H H')(h:SqT K H a xs):SqT K H' a xs:=by
 rcases h with(h|⟨o,h⟩)|h
 . exact .inl (.inl (e _ _ h))
 . exact .inl (.inr ⟨o,e _ _ h⟩)
 . exact .inr h
section
variable  {F:Hp}
theorem bS.map:∀{xs:List N}{ys:List V},bS K F xs ys->(∀x∈xs,∀v,NAt K F x v->NAt K F' x v)->bS K F' xs ys
 |[],_,h,_=>by simpa only [bS]using h
 |x::xs,ys,h,k=>by simp only[bS]at h ⊢;obtain⟨y,zs,e,q,r⟩:=h;exact⟨y,zs,e,k x mcs y q,r.map λz hz=>k z (mcm hz)⟩
def NAt.mono(s:aD F F')(k:N):∀v,NAt K F k v->NAt K F' k v:=by
 induction k using N.ind with
 |hi n=>intro v h;simpa only [NAt]using h
 |hs x=>intro v h;simpa only [NAt]using h
 |ht xs ih=>intro v h;simp only[NAt]at h ⊢;obtain⟨a,ys,e,q,r⟩:=h;exact⟨a,ys,e,aD.seqT s q,r.map ih⟩
mutual
theorem aB.mono{F F':Hp}(s:aD F F'):∀(d:D) (v:V),aB K F d v->aB K F' d v
 |.non,_,h=>by simpa only [aB]using h
 |.bl _,_,h=>by simpa only [aB]using h
 |.int _,_,h=>by simpa only [aB]using h
 |.str _,_,h=>by simpa only [aB]using h
 |.tup ds,v,h=>by simp only[aB]at h ⊢;obtain⟨a,xs,e,q,r⟩:=h;exact⟨a,xs,e,aD.seqT s q,aC.mono s ds xs r⟩
 |.lst ds,v,h=>by simp only[aB]at h ⊢;obtain⟨a,xs,e,q,r⟩:=h;exact⟨a,xs,e,s.seq q,aC.mono s ds xs r⟩
 |.dct ds,v,h=>by simp only[aB]at h ⊢;obtain⟨a,xs,e,q,r⟩:=h;exact⟨a,xs,e,s _ _ q,bE.mono s ds xs r⟩
 |.ty _,_,h=>by simpa only [aB]using h
 |.ob _,_,h=>by simpa only [aB]using h
 |.fn _,_,h=>by simpa only [aB]using h
 |.exn _,_,h=>by simp only[aB]at h ⊢;obtain⟨a,C,e,n,q⟩:=h;exact⟨a,C,e,n,s _ _ q⟩
 |.set _,_,h=>by simp only[aB]at h ⊢;obtain⟨a,S,e,q,r⟩:=h;exact⟨a,S,e,s _ _ q,r⟩
 |.dtn ds,v,h=>by simp only[aB]at h ⊢;obtain⟨a,xs,e,q,r⟩:=h;exact⟨a,xs,e,s _ _ q,aN.mono s ds xs r⟩
 |.dtf ds,v,h=>by simp only[aB]at h ⊢;obtain⟨a,o,xs,e,q,r⟩:=h;exact⟨a,o,xs,e,s _ _ q,aN.mono s ds xs r⟩
 |.dcf ds,v,h=>by simp only[aB]at h ⊢;obtain⟨a,o,xs,e,q,r⟩:=h;exact⟨a,o,xs,e,s _ _ q,bE.mono s ds xs r⟩
 |.clo f0 n fs,v,h=>by simp only[aB]at h ⊢;obtain⟨f,c,name,q,st,doc,pm,ct,cl,k,e,q1,q2,o,r⟩:=h;exact⟨f,c,name,q,st,doc,pm,ct,cl,k,e,s _ _ q1,s _ _ q2,o,cK.mono s fs cl r⟩
 |.ins c fs,v,h=>by simp only[aB]at h ⊢;obtain⟨a,C,dx,gs,e,n,q,r⟩:=h;exact⟨a,C,dx,gs,e,n,s _ _ q,aQ.mono s fs gs r⟩
theorem aC.mono{F F':Hp}(s:aD F F'):∀(ds:List D) (xs:List V),aC K F ds xs->aC K F' ds xs
 |[],_,h=>by simpa only [aC]using h
 |d::ds,xs,h=>by simp only[aC]at h ⊢;obtain⟨y,ys,e,q,r⟩:=h;exact⟨y,ys,e,aB.mono s d y q,aC.mono s ds ys r⟩
theorem bE.mono{F F':Hp}(s:aD F F'):∀(ds:List (Key×D)) (xs:List (Key×V)),bE K F ds xs->bE K F' ds xs
 |[],_,h=>by simpa only [bE]using h
 |(k,d)::ds,xs,h=>by simp only[bE]at h ⊢;obtain⟨y,ys,e,q,r⟩:=h;exact⟨y,ys,e,aB.mono s d y q,bE.mono s ds ys r⟩
theorem cK.mono{F F':Hp}(s:aD F F'):∀(fs:List (Str×D)) (cl:List (Str×Addr)),cK K F fs cl->cK K F' fs cl
 |[],_,h=>by simpa only [cK]using h
 |(x,d)::fs,cl,h=>by simp only[cK]at h ⊢;obtain⟨⟨a,y,e,q,r⟩,t⟩:=h;exact⟨⟨a,y,e,s _ _ q,aB.mono (aBG s) d y r⟩,cK.mono s fs cl t⟩
theorem aN.mono{F F':Hp}(s:aD F F'):∀(ds:List (N×D)) (xs:List (N×Addr×V)),aN K F ds xs->aN K F' ds xs
 |[],_,h=>by simpa only [aN]using h
 |(k,d)::ds,xs,h=>by simp only[aN]at h ⊢;obtain⟨b,y,ys,e,n,q,r⟩:=h;exact⟨b,y,ys,e,⟨NAt.mono s k _ n.1,n.2⟩,aB.mono s d y q,aN.mono s ds ys r⟩
theorem aQ.mono{F F':Hp}(s:aD F F'):∀(ds:List (Str×D)) (xs:List (Str×V)),aQ K F ds xs->aQ K F' ds xs
 |[],_,h=>by simpa only [aQ]using h
 |(k,d)::ds,xs,h=>by simp only[aQ]at h ⊢;obtain⟨y,ys,e,q,r⟩:=h;exact⟨y,ys,e,aB.mono s d y q,aQ.mono s ds ys r⟩
end
theorem aQ.look:∀{ds:List (Str×D)}{xs:List (Str×V)}{f:Str}{d:D},aQ K F ds xs->ds.lookup f=some d->∃v,xs.lookup f=some v/\aB K F d v
 |[],_,_,_,h,e=>by cases e
 |(k,d')::ds,_,f,d,h,e=>by
  simp only[aQ]at h;obtain⟨y,ys,rfl,q,r⟩:=h;rw[aNY]at e ⊢;split at e
  . cases e;exact⟨y,rfl,q⟩
  . exact aQ.look r e
theorem aQ.lookN:∀{ds:List (Str×D)}{xs:List (Str×V)}{f:Str},aQ K F ds xs->ds.lookup f=none->xs.lookup f=none
 |[],_,_,h,e=>by simp only[aQ]at h;subst h;rfl
 |(k,d')::ds,_,f,h,e=>by
  simp only[aQ]at h;obtain⟨y,ys,rfl,q,r⟩:=h;rw[aNY]at e ⊢;split at e
  . cases e
  . exact aQ.lookN r e
theorem aQ.length:∀{ds:List (Str×D)}{xs:List (Str×V)},aQ K F ds xs->xs.length=ds.length
 |[],_,h=>by simp only[aQ]at h;subst h;rfl
 |(k,d')::ds,_,h=>by simp only[aQ]at h;obtain⟨y,ys,rfl,q,r⟩:=h;rw[aMH,aMH,aQ.length r]
theorem aC.length:∀{ds:List D}{xs:List V},aC K F ds xs->xs.length=ds.length
 |[],_,h=>by simp only[aC]at h;subst h;rfl
 |d::ds,_,h=>by simp only[aC]at h;obtain⟨y,ys,rfl,_,r⟩:=h;rw[aMH,aMH,aC.length r]
theorem aC.get:∀{ds:List D}{xs:List V}{i:Nat}{x:V},aC K F ds xs->xs[i]? = some x->∃d,ds[i]? = some d/\aB K F d x
 |[],_,_,_,h,e=>by simp only[aC]at h;subst h;simp at e
 |d::ds,_,0,_,h,e=>by simp only[aC]at h;obtain⟨y,ys,rfl,r,_⟩:=h;simp at e;subst e;exact⟨d,rfl,r⟩
 |d::ds,_,i+1,_,h,e=>by
  simp only[aC]at h;obtain⟨y,ys,rfl,_,r⟩:=h;obtain⟨d',e',r'⟩:=aC.get (i:=i) r (by simpa using e)
  exact⟨d',by simpa using e',r'⟩
theorem aC.get':∀{ds:List D}{xs:List V}{i:Nat}{d:D},aC K F ds xs->ds[i]? = some d->∃x,xs[i]? = some x/\aB K F d x
 |[],_,_,_,h,e=>by simp at e
 |d::ds,_,0,_,h,e=>by simp only[aC]at h;obtain⟨y,ys,rfl,r,_⟩:=h;simp at e;subst e;exact⟨y,rfl,r⟩
 |d::ds,_,i+1,_,h,e=>by
  simp only[aC]at h;obtain⟨y,ys,rfl,_,r⟩:=h;obtain⟨d',e',r'⟩:=aC.get' (i:=i) r (by simpa using e)
  exact⟨d',by simpa using e',r'⟩
theorem aC.append:∀{ds es:List D}{xs ys:List V},aC K F ds xs->aC K F es ys->aC K F (ds++es) (xs++ys)
 |[],_,_,_,h,r=>by simp only[aC]at h;subst h;exact r
 |d::ds,_,_,_,h,r=>by simp only[aC]at h;obtain⟨y,ys,rfl,q,t⟩:=h;show aC K F (d::(ds++_)) (y::(ys++_));simp only[aC];exact⟨y,_,rfl,q,aC.append t r⟩
def aC.nil:aC K F [] []:=by simp only[aC]
def aC.cons{d:D}{ds:List D}{x:V}{xs:List V}(h:aB K F d x)(r:aC K F ds xs):aC K F (d::ds) (x::xs):=by simp only[aC];exact⟨x,xs,rfl,h,r⟩
end
def Top(K:Fg)(F H:Hp)(a:Addr):D->Prop
 |.lst ds=>∃xs,H a=some (.lst xs)/\aC K F ds xs
 |.dct ds=>∃xs,H a=some (.dK xs)/\bE K F ds xs
 |.ins c fs=>∃C dx gs,W.nsIn K mainGlobals c=some (some (.ref C))/\H a=some (.ins C dx gs)/\aQ K F fs gs
 |.set ks=>∃S,H a=some (.set S ks.length)/\rF S ks
 |.dtn ds=>∃xs,H a=some (.dN xs)/\aN K F ds xs
 |_=>False
def Rp(K:Fg)(F H:Hp)(m:Md)(d:D)(v:V):Prop :=
 match m with
 |.fz=>aB K F d v
 |_=>∃a,v=.ref a/\F a=none/\Top K F H a d
inductive dR:Option HO->Prop
 |no:dR none
 |cr {q:Str}:dR (some (.crec q))
def fU{o:Option HO}(h:o=none):dR o:=h ▸ .no
structure aE(F H F' H':Hp):Prop where
 same:aD H H'
 fsame:aD F F'
 sub:aD F' H'
 new:∀a,F a=none -> ¬ dR (H a)->F' a=none
theorem aE.refl{F:Hp}(h:aD F H):aE F H F H:=⟨aD.refl _,aD.refl _,h,λ_ h _=>h⟩
theorem aE.trans{F H1 F2 H2:Hp}(a:aE F H F1 H1)(b:aE F1 H1 F2 H2):aE F H F2 H2 :=
 ⟨a.same.trans b.same,a.fsame.trans b.fsame,b.sub,λx h1 h2=>b.new x (a.new x h1 h2) (by
  cases e:H x with
  |none=>exact absurd (fU e) h2
  |some o=>rw[a.same x o e,<- e];exact h2)⟩
def aE.laid{F:Hp}{p:Addr}(o:HO)(h:aD F H)(hp:H p=none):aE F H (upd F p o) (upd H p o):=by
 have hf:F p=none:=h.free hp;refine⟨λb u e=>?_,λb u e=>?_,λb u e=>?_,λa h1 h2=>?_⟩
 . rw[aK (bL e hp)];exact e
 . rw[aK (bL e hf)];exact e
 . by_cases hb:b=p
   . subst hb;rw[a9]at e ⊢;exact e
   . rw[aK hb]at e ⊢;exact h b u e
 . have:a≠p:=by rintro rfl;exact h2 (fU hp)
   rw[aK this];exact h1
def aE.fresh{F:Hp}{p:Addr}(o:HO)(h:aD F H)(hp:H p=none):aE F H F (upd H p o):=by
 refine⟨λb u e=>?_,aD.refl _,λb u e=>?_,λa h1 _=>h1⟩
 . rw[aK (bL e hp)];exact e
 . rw[aK (bL (h b u e) hp)];exact h b u e
def Top.step{F:Hp}{a:Addr}{d:D}(st:aE F H F' H')(h:Top K F H a d):Top K F' H' a d:=by
 cases d with
 |lst ds=>obtain⟨xs,e,r⟩:=h;exact⟨xs,st.same _ _ e,r.mono st.fsame _ _⟩
 |dct ds=>obtain⟨xs,e,r⟩:=h;exact⟨xs,st.same _ _ e,r.mono st.fsame _ _⟩
 |ins c fs=>obtain⟨C,dx,gs,n,e,r⟩:=h;exact⟨C,dx,gs,n,st.same _ _ e,r.mono st.fsame _ _⟩
 |set ks=>obtain⟨S,e,r⟩:=h;exact⟨S,st.same _ _ e,r⟩
 |dtn ds=>obtain⟨xs,e,r⟩:=h;exact⟨xs,st.same _ _ e,r.mono st.fsame _ _⟩
 |_=>exact h.elim
def Top.there{F:Hp}{a:Addr}{d:D}(h:Top K F H a d):¬ dR (H a):=by
 cases d with
 |lst ds=>obtain⟨xs,e,r⟩:=h;rw[e];exact λz=>nomatch z
 |dct ds=>obtain⟨xs,e,r⟩:=h;rw[e];exact λz=>nomatch z
 |ins c fs=>obtain⟨C,dx,gs,n,e,r⟩:=h;rw[e];exact λz=>nomatch z
 |set ks=>obtain⟨S,e,r⟩:=h;rw[e];exact λz=>nomatch z
 |dtn ds=>obtain⟨xs,e,r⟩:=h;rw[e];exact λz=>nomatch z
 |_=>exact h.elim
theorem Rp.step{F:Hp}{m:Md}{d:D}(st:aE F H F' H')(h:Rp K F H m d v):Rp K F' H' m d v:=by
 cases m with
 |fz=>exact aB.mono st.fsame d v h
 |fr=>obtain⟨a,e,n,t⟩:=h;exact⟨a,e,st.new a n t.there,t.step st⟩
 |bo=>obtain⟨a,e,n,t⟩:=h;exact⟨a,e,st.new a n t.there,t.step st⟩
def Rp.seqL{F:Hp}{m:Md}(s:aD F H)(h:Rp K F H m (.lst ds) v):∃a xs,v=.ref a/\SqL K H a xs/\aC K F ds xs:=by
 cases m with
 |fz=>have h:aB K F (.lst ds) v:=h;simp only[aB]at h;obtain⟨a,xs,e,q,r⟩:=h;exact⟨a,xs,e,s.seq q,r⟩
 |fr=>obtain⟨a,e,n,xs,q,r⟩:=h;exact⟨a,xs,e,SqL.of q,r⟩
 |bo=>obtain⟨a,e,n,xs,q,r⟩:=h;exact⟨a,xs,e,SqL.of q,r⟩
theorem Rp.seqT{F:Hp}{m:Md}(s:aD F H)(h:Rp K F H m (.tup ds) v):∃a xs,v=.ref a/\SqT K H a xs/\aC K F ds xs:=by
 cases m with
 |fz=>have h:aB K F (.tup ds) v:=h;simp only[aB]at h;obtain⟨a,xs,e,q,r⟩:=h;exact⟨a,xs,e,aD.seqT s q,r⟩
 |fr=>obtain⟨a,e,n,q⟩:=h;exact q.elim
 |bo=>obtain⟨a,e,n,q⟩:=h;exact q.elim
def Rp.dict{F:Hp}{m:Md}{ds:List (Key×D)}(s:aD F H)(h:Rp K F H m (.dct ds) v):∃a xs,v=.ref a/\H a=some (.dK xs)/\bE K F ds xs:=by
 cases m with
 |fz=>have h:aB K F (.dct ds) v:=h;simp only[aB]at h;obtain⟨a,xs,e,q,r⟩:=h;exact⟨a,xs,e,s _ _ q,r⟩
 |fr=>obtain⟨a,e,n,xs,q,r⟩:=h;exact⟨a,xs,e,q,r⟩
 |bo=>obtain⟨a,e,n,xs,q,r⟩:=h;exact⟨a,xs,e,q,r⟩
theorem Rp.ins{F:Hp}{m:Md}{c:Str}{fs:List (Str×D)}(s:aD F H)(h:Rp K F H m (.ins c fs) v):∃a C dx gs,v=.ref a/\W.nsIn K mainGlobals c=some (some (.ref C))/\H a=some (.ins C dx gs)/\aQ K F fs gs:=by
 cases m with
 |fz=>have h:aB K F (.ins c fs) v:=h;simp only[aB]at h;obtain⟨a,C,dx,gs,e,n,q,r⟩:=h;exact⟨a,C,dx,gs,e,n,s _ _ q,r⟩
 |fr=>obtain⟨a,e,n,C,dx,gs,z,q,r⟩:=h;exact⟨a,C,dx,gs,e,z,q,r⟩
 |bo=>obtain⟨a,e,n,C,dx,gs,z,q,r⟩:=h;exact⟨a,C,dx,gs,e,z,q,r⟩
theorem Rp.int{F:Hp}{m:Md}{i:Int}(h:Rp K F H m (.int i) v):v=.int i:=by
 cases m with
 |fz=>have h:aB K F (.int i) v:=h;simpa only [aB]using h
 |fr=>obtain⟨a,e,n,q⟩:=h;exact q.elim
 |bo=>obtain⟨a,e,n,q⟩:=h;exact q.elim
theorem Rp.bl{F:Hp}{m:Md}{i:Bool}(h:Rp K F H m (.bl i) v):v=.bl i:=by
 cases m with
 |fz=>have h:aB K F (.bl i) v:=h;simpa only [aB]using h
 |fr=>obtain⟨a,e,n,q⟩:=h;exact q.elim
 |bo=>obtain⟨a,e,n,q⟩:=h;exact q.elim
theorem Rp.non{F:Hp}{m:Md}(h:Rp K F H m .non v):v=.non:=by
 cases m with
 |fz=>have h:aB K F .non v:=h;simpa only [aB]using h
 |fr=>obtain⟨a,e,n,q⟩:=h;exact q.elim
 |bo=>obtain⟨a,e,n,q⟩:=h;exact q.elim
theorem Rp.str{F:Hp}{m:Md}(h:Rp K F H m (.str x) v):v=.str x/\x.length<=sizeLine/\PyData.strOk x=true:=by
 cases m with
 |fz=>have h:aB K F (.str x) v:=h;simpa only [aB]using h
 |fr=>obtain⟨a,e,n,q⟩:=h;exact q.elim
 |bo=>obtain⟨a,e,n,q⟩:=h;exact q.elim
theorem Rp.ty{F:Hp}{m:Md}{n:String}(h:Rp K F H m (.ty n) v):v=.ty n:=by
 cases m with
 |fz=>have h:aB K F (.ty n) v:=h;simpa only [aB]using h
 |fr=>obtain⟨a,e,n,q⟩:=h;exact q.elim
 |bo=>obtain⟨a,e,n,q⟩:=h;exact q.elim
theorem Rp.ob{F:Hp}{m:Md}{n:Addr}(h:Rp K F H m (.ob n) v):v=.ref n:=by
 cases m with
 |fz=>have h:aB K F (.ob n) v:=h;simpa only [aB]using h
 |fr=>obtain⟨a,e,n,q⟩:=h;exact q.elim
 |bo=>obtain⟨a,e,n,q⟩:=h;exact q.elim
def rp_ty{F:Hp}(i:String):Rp K F H .fz (.ty i) (.ty i):=by show aB K F _ _;simp only[aB]
def cR{F:Hp}(i:Int):Rp K F H .fz (.int i) (.int i):=by show aB K F _ _;simp only[aB]
def dS{F:Hp}(i:Bool):Rp K F H .fz (.bl i) (.bl i):=by show aB K F _ _;simp only[aB]
def rG{F:Hp}:Rp K F H .fz .non .non:=by show aB K F _ _;simp only[aB]
def jL{F:Hp}(h:x.length<=sizeLine/\PyData.strOk x=true):Rp K F H .fz (.str x) (.str x):=by show aB K F _ _;simp only[aB,true_and];exact h
abbrev Rho:=List (Option (Bool×D))
structure aR(K:Fg)(F0 H0 F H:Hp)(σ:L2.St)(ρ:Rho):Prop where
 st:aE F0 H0 F H
 slot:∀(i:Nat) (m:Bool) (d:D),ρ[i]? = some (some (m,d))->∃v,σ[i]? = some (some v)/\Rp K F H (if m then .bo else .fz) d v/\(m=true->∀a,v=.ref a->H0 a=none)
 apart:∀(i j:Nat) (d d':D) (a:Addr),i≠j->ρ[i]? = some (some (true,d))->ρ[j]? = some (some (true,d'))->σ[i]? = some (some (.ref a))->σ[j]? = some (some (.ref a))->False
 len:σ.length=ρ.length
theorem aR.step{F:Hp}{ρ:Rho}(r:aR K F0 H0 F H σ ρ)(st:aE F H F' H'):aR K F0 H0 F' H' σ ρ :=
 ⟨r.st.trans st,λi m d e=>by obtain⟨v,e1,e2,e3⟩:=r.slot i m d e;exact⟨v,e1,e2.step st,e3⟩,r.apart,r.len⟩
theorem aR.sub{F:Hp}{ρ:Rho}(r:aR K F0 H0 F H σ ρ):aD F H:=r.st.sub
abbrev XE:=Str->L2.St->Hp->Prop
structure Cw where
 K:Fg
 F0:Hp
 H0:Hp
 EE:XE
def tG(C:Cw)(g:Rho->Res):TE:=λσ H Q=>∃ρ F,aR C.K C.F0 C.H0 F H σ ρ/\match g ρ with
 |.ok m d=>∀v F' H',aE F H F' H'->Rp C.K F' H' m d v->(m=.fr->∀a,v=.ref a->H a=none)->Q v H'
 |.exc c=>∀F' H',aE F H F' H'->C.EE c σ H'
 |.stuck=>False
abbrev Cw.at(C:Cw)(X:Cx):Cw:={C with K:=X.K}
end D3
variable {g ga gb gi ge:D3.Rho->D3.Res}{C:D3.Cw}{ρ:D3.Rho}
namespace D3
def PV(C:Cw)(X:Cx)(e:Expr)(g:Rho->Res):Prop:=PE X e (tG (C.at X) g)
def PE.imp{e:Expr}{t t':TE}(h:PE X e t)(i:∀σ H Q,t' σ H Q->t σ H Q):PE X e t':=λaA s σ H Q I q=>h aA s σ H Q I (i σ H Q q)
noncomputable def Res.thn(r:Res)(k:Md->D->Res):Res:=match r with
 |.ok m d=>k m d
 |.exc c=>.exc c
 |.stuck=>.stuck
@[simp] theorem Res.thn_ok(m:Md)(d:D)(k:Md->D->Res):(Res.ok m d).thn k=k m d:=rfl
@[simp] theorem Res.thn_exc(c:Str)(k:Md->D->Res):(Res.exc c).thn k=.exc c:=rfl
@[simp] theorem Res.thn_stuck(k:Md->D->Res):Res.stuck.thn k=.stuck:=rfl
def Res.of:Option (Md×D)->Res
 |some (m,d)=>.ok m d
 |none=>.stuck
@[simp] theorem Res.of_some(m:Md)(d:D):Res.of (some (m,d))=.ok m d:=rfl
@[simp] theorem Res.of_none:Res.of none=.stuck:=rfl
def aT(C:Cw)(F H:Hp)(σ:L2.St)(r:Res)(Q:VK):Prop:=match r with
 |.ok m d=>∀v F' H',aE F H F' H'->Rp C.K F' H' m d v->(m=.fr->∀a,v=.ref a->H a=none)->Q v H'
 |.exc c=>∀F' H',aE F H F' H'->C.EE c σ H'
 |.stuck=>False
def aV{Q:VK}:tG C g σ H Q=∃ρ F,aR C.K C.F0 C.H0 F H σ ρ/\aT C F H σ (g ρ) Q:=by unfold tG aT;rfl
def aT.step{F H1:Hp}{r:Res}{Q:VK}(st:aE F H F1 H1)(h:aT C F H σ r Q):aT C F1 H1 σ r Q:=by
 cases r with
 |ok m d=>exact λv F' H' s2 rp hf=>h v F' H' (st.trans s2) rp λe a ea=>st.same.free (hf e a ea)
 |exc c=>exact λF' H' s2=>h F' H' (st.trans s2)
 |stuck=>exact h
section
variable {a b:Expr}
def aO(ρ:Rho)(i:Nat):Res:=match ρ[i]? with
 |some (some (false,d))=>.ok .fz d
 |some (some (true,d))=>.ok .bo d
 |_=>.stuck
def aBH(i:Nat)(h:PE X (.Name x pos) (iD i)):PV C X (.Name x pos) (λρ=>aO ρ i):=by
 refine PE.imp h λσ H Q q=>?_;rw[aV]at q;obtain⟨ρ,F,R,w⟩:=q;unfold aO at w;cases e:ρ[i]? with
 |none=>rw[e]at w;exact w.elim
 |some o =>
  cases o with
  |none=>rw[e]at w;exact w.elim
  |some p =>
   obtain⟨m,d⟩:=p;obtain⟨v,e1,r,_⟩:=R.slot i m d e;rw[e]at w;cases m with
   |false=>exact⟨v,e1,w v F H (.refl R.sub) r (by nofun)⟩
   |true=>exact⟨v,e1,w v F H (.refl R.sub) r (by nofun)⟩
def gM{e:Expr}(d:D)(h:PE X e (tC v))(r:∀F H,Rp X.K F H .fz d v):PV C X e (λ_=>.ok .fz d):=by refine PE.imp h λσ H Q q=>?_;rw[aV]at q;obtain⟨ρ,F,R,w⟩:=q;exact w v F H (.refl R.sub) (r F H) (by nofun)
def aBI{i j:_}:PV C X (.Constant (.int i) j pos) (λ_=>.ok .fz (.int i)):=gM _ yE λ_ _=>cR i
def pv_bl{i j:_}:PV C X (.Constant (.bool i) j pos) (λ_=>.ok .fz (.bl i)):=gM _ pe_bl λ_ _=>dS i
def aBJ{j:_}:PV C X (.Constant .none j pos) (λ_=>.ok .fz .non):=gM _ yF λ_ _=>rG
def aBK{j:_}(h:(decide (x.length<=sizeLine)&&PyData.strOk x)=true:=by decide +kernel):PV C X (.Constant (.str x) j pos) (λ_=>.ok .fz (.str x)) :=
 gM _ yG λ_ _=>jL (by rw[aNI,aNZ]at h;exact h)
noncomputable def op2(φ:Md->D->Md->D->Option (Md×D))(x y:Res):Res:=x.thn λm d=>y.thn λn e=>Res.of (φ m d n e)
def OpD(C:Cw)(X:Cx)(f:aP0->aP0->Sem aP0)(φ:Md->D->Md->D->Option (Md×D)):Prop :=
 ∃r:R2,OpR X f r/\∀F H m x n y v u k d Q,aD F H->Rp X.K F H m x v->Rp X.K F H n y u->φ m x n y=some (k,d) ->
  (∀v' F' H',aE F H F' H'->Rp X.K F' H' k d v'->(k=.fr->∀a,v'=.ref a->H a=none)->Q v' H')->r v u H Q
def jM{φ:Md->D->Md->D->Option (Md×D)}{r:R2}(h:∀F H m x n y v u k d Q,aD F H->Rp C.K F H m x v->Rp C.K F H n y u->φ m x n y=some (k,d)->(∀v' F' H',aE F H F' H'->Rp C.K F' H' k d v'->(k=.fr->∀a,v'=.ref a->H a=none)->Q v' H')->r v u H Q){Q:VK}(q:tG C (λρ=>op2 φ (ga ρ) (gb ρ)) σ H Q):tOp r (tG C ga) (tG C gb) σ H Q:=by
 unfold tOp;rw[aV]at q ⊢;obtain⟨ρ,F,R,w⟩:=q;refine⟨ρ,F,R,?_⟩;cases ea:ga ρ with
 |stuck=>simp only[op2,ea,Res.thn]at w;exact w
 |exc c=>simp only[op2,ea,Res.thn]at w;exact w
 |ok m d =>
  intro v F1 H1 s1 r1 _;rw[aV];refine⟨ρ,F1,R.step s1,?_⟩;have w1:=w.step s1;simp only[op2,ea,Res.thn]at w1;cases eb:gb ρ with
  |stuck=>rw[eb]at w1;exact w1
  |exc c=>rw[eb]at w1;exact w1
  |ok n e =>
   rw[eb]at w1;intro u F2 H2 s2 r2 _;have w2:aT C F2 H2 σ (Res.of (φ m d n e)) Q:=aT.step s2 w1;cases ef:φ m d n e with
   |none=>rw[ef]at w2;exact w2.elim
   |some kd=>obtain⟨k,d'⟩:=kd;rw[ef]at w2;exact h F2 H2 m d n e v u k d' Q s2.sub (r1.step s2) r2 ef w2
def rH{op:Operator}{φ}(o:OpD C X (binaryOp op) φ)(ha:PV C X a ga)(hb:PV C X b gb):PV C X (.BinOp a op b pos) (λρ=>op2 φ (ga ρ) (gb ρ)):=by obtain⟨r,h1,h2⟩:=o;exact PE.imp (pe_op h1 ha hb) λσ H Q q=>jM h2 q
def aBL{op:CmpOp}{φ}(o:OpD C X (compareOp op) φ)(ha:PV C X a ga)(hb:PV C X b gb)(hm:behindInMarks op b=false):PV C X (.Compare a [op] [b] pos) (λρ=>op2 φ (ga ρ) (gb ρ)):=by obtain⟨r,h1,h2⟩:=o;exact PE.imp (zJ h1 ha hb hm) λσ H Q q=>jM h2 q
def orO(φ ψ:Md->D->Md->D->Option (Md×D)):Md->D->Md->D->Option (Md×D):=λm x n y=>(φ m x n y).orElse λ_=>ψ m x n y
theorem OpD.or{f:aP0->aP0->Sem aP0}{φ ψ}(h:OpD C X f φ)(h':OpD C X f ψ):OpD C X f (orO φ ψ):=by
 obtain⟨r,h1,h2⟩:=h;obtain⟨r',h1',h2'⟩:=h';refine⟨_,h1.or h1',λF H m x n y v u k d Q s rx ry e w=>?_⟩;unfold orO at e;cases e1:φ m x n y with
 |none=>rw[e1]at e;exact .inr (h2' F H m x n y v u k d Q s rx ry e w)
 |some p=>rw[e1]at e;cases e;exact .inl (h2 F H m x n y v u k d Q s rx ry e1 w)
noncomputable def fI(c:Int->Int->Bool)(g:Int->Int->D):Md->D->Md->D->Option (Md×D):=λ_ x _ y=>match x,y with
 |.int i,.int j=>if c i j=true then some (.fz,g i j)else none
 |_,_=>none
def kN{f:aP0->aP0->Sem aP0}{Cc:Int->Int->Prop}{c:Int->Int->Bool}{g:Int->Int->V}{g':Int->Int->D}(o:OpR X f (rI Cc g))(hc:∀i j,c i j=true->Cc i j)(hg:∀F H i j,Rp X.K F H .fz (g' i j) (g i j)):OpD C X f (fI c g'):=by
 refine⟨_,o,λF H m x n y v u k d Q s rx ry e w=>?_⟩;unfold fI at e;split at e
 . rename_i i j;cases rx.int;cases ry.int;split at e
   . rename_i hcc;cases e;exact⟨i,j,rfl,rfl,hc i j hcc,w _ F H (.refl s) (hg F H i j) (by nofun)⟩
   . cases e
 . cases e
def iI{f:aP0->aP0->Sem aP0}{g:Int->Int->V}{g':Int->Int->D}(o:OpR X f (rI0 g))(hg:∀F H i j,Rp X.K F H .fz (g' i j) (g i j)):OpD C X f (fI (λ_ _=>true) g'):=by
 refine⟨_,o,λF H m x n y v u k d Q s rx ry e w=>?_⟩;unfold fI at e;split at e
 . rename_i i j;cases rx.int;cases ry.int;rw[if_pos rfl]at e;cases e;exact⟨i,j,rfl,rfl,w _ F H (.refl s) (hg F H i j) (by nofun)⟩
 . cases e
def bits(i:Int):Bool:=decide (i.natAbs.log2<9000)
def aBM:OpD C X (binaryOp .Add) (fI (λ_ _=>true) λi j=>.int (i+j)):=iI zC λ_ _ i j=>cR _
def aBN:OpD C X (binaryOp .Sub) (fI (λ_ _=>true) λi j=>.int (i-j)):=iI zD λ_ _ i j=>cR _
theorem aBO{i j:Int}(h:(bits i&&bits j)=true):IntMulOk i j:=by
 rw[aNI]at h;have b:∀{i:Int},bits i=true->Builtin.Int.intBits i<=2 ^ 20:=λ{i} h=>by
  unfold bits at h;have:=aN0 h;unfold Builtin.Int.intBits;split
  . exact aMN _
  . have e:(2:Nat) ^ 20=1048576:=by decide
    lia
 exact IntMulOk.of_bits (b h.1) (b h.2)
def w64(i:Int):Bool:=decide (i.natAbs<2 ^ 63)
theorem rJ{i:Int}(h:w64 i=true):Builtin.Int.intBits i<=64:=by
 have h:=aN0 h;unfold Builtin.Int.intBits;split
 . exact aMN _
 . rename_i hz;have:i.natAbs.log2<63:=(Nat.log2_lt (by simpa using hz)).mpr h
   lia
def aBP:OpD C X (binaryOp .Mult) (fI (λi j=>(bits i&&bits j)||(w64 i||w64 j)) λi j=>.int (i * j)) :=
 kN (Cc:=λi j=>IntMulOk i j) (opI λ_ _ _ _ _ _ _ hc q=>mul_int q hc) (λi j h=>by
  rcases(aN1 _ _).mp h with h|h
  . exact aBO h
  . rcases(aN1 _ _).mp h with h|h
    . exact IntMulOk.of_left (rJ h)
    . exact IntMulOk.of_right (rJ h)) λ_ _ i j=>cR _
def aBQ:OpD C X (binaryOp .Mod) (fI (λ_ j=>decide (0<j)) λi j=>.int (i % j)):=kN zE (λi j h=>aN0 h) λ_ _ i j=>cR _
theorem aBR:OpR X (binaryOp .FloorDiv) (rI (λ_ j=>0<j/\bits j=true) λi j=>.int (i / j)):=opI λi j _ _ _ _ _ hc q=>by
 obtain⟨h1,h2⟩:=hc;refine floordiv_int (by lia) ?_ (.inl (PyProof.noPylong_of_log2 (aN0 h2)))
 rw[Int.fdiv_eq_ediv_of_nonneg i (by lia)]
 exact q
def aBS:OpD C X (binaryOp .FloorDiv) (fI (λ_ j=>decide (0<j)&&bits j) λi j=>.int (i / j)):=kN aBR (λi j h=>by rw[aNI,aNZ]at h;exact h) λ_ _ i j=>cR _
def aBT:OpD C X (binaryOp .Pow) (fI (λi j=>decide (0<=j)&&decide (j<=1000000)&&decide (i.natAbs<2 ^ 64)) λi j=>.int (i ^ j.toNat)) :=
 kN zF (λi j h=>by simp only[aNI,aNZ]at h;exact⟨h.1.1,h.1.2,h.2⟩) λ_ _ i j=>cR _
def aBU:OpD C X (compareOp .Lt) (fI (λ_ _=>true) λi j=>.bl (decide (i<j))):=iI op_lt λ_ _ i j=>dS _
def aBV:OpD C X (compareOp .LtE) (fI (λ_ _=>true) λi j=>.bl (decide (i<=j))):=iI op_le λ_ _ i j=>dS _
def aBW:OpD C X (compareOp .Gt) (fI (λ_ _=>true) λi j=>.bl (decide (j<i))):=iI op_gt λ_ _ i j=>dS _
def aBX:OpD C X (compareOp .GtE) (fI (λ_ _=>true) λi j=>.bl (decide (j<=i))):=iI op_ge λ_ _ i j=>dS _
noncomputable def fS(c:Str->Str->Bool)(g:Str->Str->D):Md->D->Md->D->Option (Md×D):=λ_ x _ y=>match x,y with
 |.str i,.str j=>if c i j=true then some (.fz,g i j)else none
 |_,_=>none
def aBY(hx:PyData.strOk x=true)(hy:PyData.strOk y=true):PyData.strOk (x++y)=true:=by unfold PyData.strOk at *;show(x.cps++y.cps).all _=true;rw[Array.all_append,hx,hy];rfl
def aBZ:OpD C X (binaryOp .Add) (fS (λi j=>decide (i.length+j.length<=sizeLine)) λi j=>.str (i++j)):=by
 refine⟨_,zO,λF H m x n y v u k d Q s rx ry e w=>?_⟩;unfold fS at e;split at e
 . rename_i i j;obtain⟨rfl,h1⟩:=rx.str;obtain⟨rfl,h2⟩:=ry.str;split at e
   . rename_i hc;cases e;have hc:=aN0 hc;exact⟨i,j,rfl,rfl,hc,w _ F H (.refl s) (jL ⟨by rw[strLen_append];exact hc,aBY h1.2 h2.2⟩) (by nofun)⟩
   . cases e
 . cases e
end
section
variable  {a b e:Expr}{gc:Rho->Res}
def aG:Res->Res
 |.ok .bo _=>.stuck
 |.ok _ d=>.ok .fz d
 |r=>r
def aE.freeze{F:Hp}{x:Addr}{o:HO}(st:aE F H F' H')(hx:H x=none)(hx':F' x=none)(ho:H' x=some o):aE F H (upd F' x o) H':=by
 refine⟨st.same,λb u q=>?_,λb u q=>?_,λy h1 h2=>?_⟩
 . rw[aK (bL (st.fsame b u q) hx')];exact st.fsame b u q
 . by_cases hb:b=x
   . subst hb;rw[a9]at q;rw[<- q];exact ho
   . rw[aK hb]at q;exact st.sub b u q
 . have:y≠x:=by rintro rfl;exact h2 (fU hx)
   rw[aK this];exact st.new y h1 h2
def Top.freeze{F:Hp}{x:Addr}{d:D}(hx:F x=none)(h:Top K F H x d):∃o,H x=some o/\aB K (upd F x o) d (.ref x):=by
 have s:∀o,aD F (upd F x o):=λo b u q=>by rw[aK (bL q hx)];exact q
 cases d with
 |lst ds=>obtain⟨xs,q,r⟩:=h;refine⟨_,q,?_⟩;simp only[aB];exact⟨x,xs,rfl,SqL.of a9,r.mono (s _) _ _⟩
 |dct ds=>obtain⟨xs,q,r⟩:=h;refine⟨_,q,?_⟩;simp only[aB];exact⟨x,xs,rfl,a9,r.mono (s _) _ _⟩
 |ins c fs=>obtain⟨C,dx,gs,n,q,r⟩:=h;refine⟨_,q,?_⟩;simp only[aB];exact⟨x,C,dx,gs,rfl,n,a9,r.mono (s _) _ _⟩
 |set ks=>obtain⟨S,q,r⟩:=h;refine⟨_,q,?_⟩;simp only[aB];exact⟨x,S,rfl,a9,r⟩
 |dtn ds=>obtain⟨xs,q,r⟩:=h;refine⟨_,q,?_⟩;simp only[aB];exact⟨x,xs,rfl,a9,r.mono (s _) _ _⟩
 |_=>exact h.elim
def aT.frz{F:Hp}{r:Res}{Q:VK}(w:aT C F H σ (aG r) Q):aT C F H σ r Q:=by
 cases r with
 |exc c=>exact w
 |stuck=>exact w
 |ok m d =>
  cases m with
  |fz=>exact w
  |bo=>exact(show False from w).elim
  |fr=>intro v F' H' st rp fr;obtain⟨x,rfl,n,t⟩:=rp;obtain⟨o,ho,r⟩:=t.freeze n;exact w (.ref x) (upd F' x o) H' (st.freeze (fr rfl x rfl) n ho) r (by nofun)
def gN(h:PV C X e g):PV C X e (λρ=>aG (g ρ)):=PE.imp h λσ H Q q=>by
 rw[aV]at q ⊢;obtain⟨ρ,F,R,w⟩:=q
 try dsimp only at w
 exact⟨ρ,F,R,w.frz⟩
def gO(C:Cw)(F H:Hp)(σ:L2.St)(r:Res)(Q:Bool->Hp->Prop):Prop:=match r with
 |.ok _ (.bl b)=>∀F' H',aE F H F' H'->Q b H'
 |.exc c=>∀F' H',aE F H F' H'->C.EE c σ H'
 |_=>False
def gO.step{F H1:Hp}{r:Res}{Q:Bool->Hp->Prop}(st:aE F H F1 H1)(h:gO C F H σ r Q):gO C F1 H1 σ r Q:=by
 cases r with
 |ok m d =>
  cases d with
  |bl b=>exact λF' H' s2=>h F' H' (st.trans s2)
  |_=>exact h
 |exc c=>exact λF' H' s2=>h F' H' (st.trans s2)
 |stuck=>exact h
def tT(C:Cw)(g:Rho->Res):TT:=λσ H Q=>∃ρ F,aR C.K C.F0 C.H0 F H σ ρ/\gO C F H σ (g ρ) Q
def PTv(C:Cw)(X:Cx)(e:Expr)(g:Rho->Res):Prop:=PT X e (tT (C.at X) g)
def PWv(C:Cw)(X:Cx)(e:Expr)(g:Rho->Res):Prop:=PW X e (tT (C.at X) g)
def PT.imp{e:Expr}{t t':TT}(h:PT X e t)(i:∀σ H Q,t' σ H Q->t σ H Q):PT X e t':=λaA s σ H Q I q=>h aA s σ H Q I (i σ H Q q)
def PW.imp{e:Expr}{t t':TT}(h:PW X e t)(i:∀σ H Q,t' σ H Q->t σ H Q):PW X e t':=λcI aA s σ H Q I q=>h cI aA s σ H Q I (i σ H Q q)
def kP:D->Option Bool
 |.non=>some false
 |.bl b=>some b
 |.int i=>some (i != 0)
 |.str x=>some ((x.length:Int) != 0)
 |.tup ds=>some (!ds.isEmpty)
 |.lst ds=>some (!ds.isEmpty)
 |.dct ds=>some (!ds.isEmpty)
 |_=>none
def fV(r:Res):Res:=r.thn λ_ d=>match kP d with|some b=>.ok .fz (.bl b)|none=>.stuck
theorem aC.isEmpty{F:Hp}(h:aC K F ds xs):ds.isEmpty=xs.isEmpty:=by
 cases ds with
 |nil=>simp only[aC]at h;subst h;rfl
 |cons d ds=>simp only[aC]at h;obtain⟨y,ys,rfl,_⟩:=h;rfl
theorem bE.isEmpty{F:Hp}{ds:List (Key×D)}{xs:List (Key×V)}(h:bE K F ds xs):ds.isEmpty=xs.isEmpty:=by
 cases ds with
 |nil=>simp only[bE]at h;subst h;rfl
 |cons d ds=>obtain⟨k,d⟩:=d;simp only[bE]at h;obtain⟨y,ys,rfl,_⟩:=h;rfl
def aB0{F:Hp}{m:Md}{d:D}{k:Bool}(s:aD F H)(h:Rp K F H m d v)(e:kP d=some k):m5 K v H k:=by
 cases d with
 |non=>cases h.non;cases e;rfl
 |bl b=>cases h.bl;cases e;rfl
 |int i=>cases h.int;cases e;rfl
 |str x=>obtain⟨rfl,hl,_⟩:=h.str;cases e;exact⟨hl,rfl⟩
 |tup ds=>obtain⟨a,xs,rfl,q,r⟩:=h.seqT s;cases e;exact .inr (.inl ⟨xs,q,by rw[r.isEmpty]⟩)
 |lst ds=>obtain⟨a,xs,rfl,q,r⟩:=h.seqL s;cases e;exact .inl ⟨xs,q,by rw[r.isEmpty]⟩
 |dct ds=>obtain⟨a,xs,rfl,q,r⟩:=h.dict s;cases e;exact .inr (.inr ⟨xs,q,by rw[r.isEmpty]⟩)
 |ty n=>cases e
 |ob n=>cases e
 |ins n=>cases e
 |fn n=>cases e
 |exn n=>cases e
 |set n=>cases e
 |dtn n=>cases e
 |dtf n=>cases e
 |dcf n=>cases e
 |clo _ _=>cases e
def aB1(h:PV C X e g)(he:∀cI,isTrue e X.env cI=(do let v <- cI;standAt e.pos;holding [v] (truthy v)):=by intro _;rfl):PTv C X e (λρ=>fV (g ρ)):=by
 refine PT.imp (zN h he) λσ H Q q=>?_;obtain⟨ρ,F,R,w⟩:=q
 try dsimp only at w
 rw[aV];refine⟨ρ,F,R,?_⟩;cases er:g ρ with
 |stuck=>rw[er]at w;exact w
 |exc c=>rw[er]at w;exact w
 |ok m d =>
  rw[er]at w;intro v F' H' st rp _;have w:gO (C.at X) F H σ (match kP d with|some b=>.ok .fz (.bl b)|none=>.stuck) Q:=w
  cases ed:kP d with
  |none=>rw[ed]at w;exact w.elim
  |some k=>rw[ed]at w;exact⟨k,aB0 st.sub rp ed,w F' H' st⟩
def aB2{op:CmpOp}{φ}(o:OpD C X (compareOp op) φ)(hb':∀m x n y k d,φ m x n y=some (k,d)->∃t,k=.fz/\d=.bl t)(ha:PV C X a ga)(hb:PV C X b gb)(hm:behindInMarks op b=false):PTv C X (.Compare a [op] [b] pos) (λρ=>op2 φ (ga ρ) (gb ρ)):=by
 obtain⟨r,h1,h2⟩:=o;refine PT.imp (zK h1 ha hb hm) λσ H Q q=>?_;obtain⟨ρ,F,R,w⟩:=q
 try dsimp only at w
 unfold qI;refine jM h2 ?_;rw[aV];refine⟨ρ,F,R,?_⟩;cases er:op2 φ (ga ρ) (gb ρ)with
 |stuck=>rw[er]at w;exact w
 |exc c=>rw[er]at w;exact w
 |ok m d =>
  rw[er]at w;have:∃t,m=.fz/\d=.bl t:=by
   unfold op2 at er;cases e1:ga ρ with
   |stuck=>rw[e1]at er;cases er
   |exc c=>rw[e1]at er;cases er
   |ok m1 d1 =>
    cases e2:gb ρ with
    |stuck=>rw[e1,e2]at er;cases er
    |exc c=>rw[e1,e2]at er;cases er
    |ok m2 d2 =>
     rw[e1,e2]at er;have er:Res.of (φ m1 d1 m2 d2)=.ok m d:=er;cases e3:φ m1 d1 m2 d2 with
     |none=>rw[e3]at er;cases er
     |some kd=>rw[e3]at er;obtain⟨k,d'⟩:=kd;cases er;exact hb' _ _ _ _ _ _ e3
  obtain⟨t,rfl,rfl⟩:=this;intro v F' H' st rp _;cases rp.bl;exact⟨t,rfl,w F' H' st⟩
def dU(x:Res)(y:Res):Res:=x.thn λ_ d=>match d with|.bl true=>y|.bl false=>.ok .fz (.bl false)|_=>.stuck
def orR(x:Res)(y:Res):Res:=x.thn λ_ d=>match d with|.bl true=>.ok .fz (.bl true)|.bl false=>y|_=>.stuck
def fW(x:Res):Res:=x.thn λ_ d=>match d with|.bl b=>.ok .fz (.bl (!b))|_=>.stuck
def aB3(ha:PTv C X a ga):PTv C X (.UnaryOp .Not a pos) (λρ=>fW (ga ρ)):=by
 refine PT.imp (yL ha) λσ H Q q=>?_;obtain⟨ρ,F,R,w⟩:=q
 try dsimp only at w
 refine⟨ρ,F,R,?_⟩;cases er:ga ρ with
 |stuck=>rw[er]at w;exact w
 |exc c=>rw[er]at w;exact w
 |ok m d =>
  rw[er]at w;cases d with
  |bl b=>exact w
  |_=>exact w
def rK{op:BoolOp}(h:PTv C X a ga):PWv C X (.BoolOp op [a] pos) ga:=by
 cases op with
 |And=>exact yI h
 |Or=>exact yJ h
def rL{Q:Bool->Hp->Prop}(q:tT C (λρ=>dU (ga ρ) (gb ρ)) σ H Q):mU (tT C ga) (tT C gb) σ H Q:=by
 obtain⟨ρ,F,R,w⟩:=q
 try dsimp only at w
 refine⟨ρ,F,R,?_⟩;cases er:ga ρ with
 |stuck=>rw[er]at w;exact w
 |exc c=>rw[er]at w;exact w
 |ok m d =>
  rw[er]at w;cases d with
  |bl b =>
   intro F' H' st;cases b with
   |true=>rw[if_pos rfl];exact⟨ρ,F',R.step st,gO.step st w⟩
   |false=>rw[if_neg aMF];exact w F' H' st
  |_=>exact w
def tT_or{Q:Bool->Hp->Prop}(q:tT C (λρ=>orR (ga ρ) (gb ρ)) σ H Q):tOr (tT C ga) (tT C gb) σ H Q:=by
 obtain⟨ρ,F,R,w⟩:=q
 try dsimp only at w
 refine⟨ρ,F,R,?_⟩;cases er:ga ρ with
 |stuck=>rw[er]at w;exact w
 |exc c=>rw[er]at w;exact w
 |ok m d =>
  rw[er]at w;cases d with
  |bl b =>
   intro F' H' st;cases b with
   |true=>rw[if_pos rfl];exact w F' H' st
   |false=>rw[if_neg aMF];exact⟨ρ,F',R.step st,gO.step st w⟩
  |_=>exact w
def aB4{rest:List Expr}(ha:PTv C X a ga)(hb:PWv C X (.BoolOp .And (b::rest) pos) gb):PWv C X (.BoolOp .And (a::b::rest) pos) (λρ=>dU (ga ρ) (gb ρ)):=PW.imp (yK ha hb) λ_ _ _ q=>rL q
def aB5{rest:List Expr}(ha:PTv C X a ga)(hb:PWv C X (.BoolOp .Or (b::rest) pos) gb):PWv C X (.BoolOp .Or (a::b::rest) pos) (λρ=>orR (ga ρ) (gb ρ)):=PW.imp (pw_or ha hb) λ_ _ _ q=>tT_or q
def pt_w(h:PWv C X e g):PTv C X e g:=PW.pt h
def rM{op}(h:PV C X a ga):PV C X (.BoolOp op [a] pos) ga:=yM h
def aB6{rest:List Expr}(ha:PV C X a ga)(hb:PV C X (.BoolOp .And (b::rest) pos) gb):PV C X (.BoolOp .And (a::b::rest) pos) (λρ=>dU (ga ρ) (gb ρ)):=by
 refine PE.imp (yN ha hb) λσ H Q q=>?_;unfold qA;rw[aV]at q ⊢;obtain⟨ρ,F,R,w⟩:=q
 try dsimp only at w
 refine⟨ρ,F,R,?_⟩;cases er:ga ρ with
 |stuck=>rw[er]at w;exact w
 |exc c=>rw[er]at w;exact w
 |ok m d =>
  rw[er]at w;cases d with
  |bl k =>
   intro v F' H' st rp _;cases rp.bl;refine⟨k,rfl,?_⟩;cases k with
   |true=>rw[if_pos rfl,aV];exact⟨ρ,F',R.step st,aT.step st w⟩
   |false=>rw[if_neg aMF];exact w (.bl false) F' H' st (dS _) (by nofun)
  |_=>exact w.elim
def aB7{rest:List Expr}(ha:PV C X a ga)(hb:PV C X (.BoolOp .Or (b::rest) pos) gb):PV C X (.BoolOp .Or (a::b::rest) pos) (λρ=>orR (ga ρ) (gb ρ)):=by
 refine PE.imp (pe_or ha hb) λσ H Q q=>?_;unfold tOrV;rw[aV]at q ⊢;obtain⟨ρ,F,R,w⟩:=q
 try dsimp only at w
 refine⟨ρ,F,R,?_⟩;cases er:ga ρ with
 |stuck=>rw[er]at w;exact w
 |exc c=>rw[er]at w;exact w
 |ok m d =>
  rw[er]at w;cases d with
  |bl k =>
   intro v F' H' st rp _;cases rp.bl;refine⟨k,rfl,?_⟩;cases k with
   |true=>rw[if_pos rfl];exact w (.bl true) F' H' st (dS _) (by nofun)
   |false=>rw[if_neg aMF,aV];exact⟨ρ,F',R.step st,aT.step st w⟩
  |_=>exact w.elim
def aB8(ha:PV C X a ga):PV C X (.UnaryOp .Not a pos) (λρ=>fW (ga ρ)):=by
 refine PE.imp (yO ha) λσ H Q q=>?_;unfold qB;rw[aV]at q ⊢;obtain⟨ρ,F,R,w⟩:=q
 try dsimp only at w
 refine⟨ρ,F,R,?_⟩;cases er:ga ρ with
 |stuck=>rw[er]at w;exact w
 |exc c=>rw[er]at w;exact w
 |ok m d =>
  rw[er]at w;cases d with
  |bl k=>intro v F' H' st rp _;cases rp.bl;exact⟨k,rfl,w _ F' H' st (dS _) (by nofun)⟩
  |_=>exact w.elim
def kQ(x:Res):Res:=x.thn λ_ d=>match d with|.int i=>.ok .fz (.int (-i))|_=>.stuck
def aB9(ha:PV C X a ga):PV C X (.UnaryOp .USub a pos) (λρ=>kQ (ga ρ)):=by
 refine PE.imp (pe_un zG ha) λσ H Q q=>?_;unfold tUn;rw[aV]at q ⊢;obtain⟨ρ,F,R,w⟩:=q
 try dsimp only at w
 refine⟨ρ,F,R,?_⟩;cases er:ga ρ with
 |stuck=>rw[er]at w;exact w
 |exc c=>rw[er]at w;exact w
 |ok m d =>
  rw[er]at w;cases d with
  |int i=>intro v F' H' st rp _;cases rp.int;exact⟨i,rfl,w _ F' H' st (cR _) (by nofun)⟩
  |_=>exact w.elim
def ixD:Md->D->Md->D->Option (Md×D):=λ_ x _ y=>match x,y with
 |.lst ds,.int i=>(atI ds i).map λd=>(.fz,d)
 |.tup ds,.int i=>(atI ds i).map λd=>(.fz,d)
 |.str z,.int i=>(atI z.cps.toList i).map λc=>(.fz,.str ⟨#[c]⟩)
 |_,_=>none
theorem aC.atI{F:Hp}{i:Int}{d:D}(h:aC K F ds xs)(e:atI ds i=some d):∃x,L2.atI xs i=some x/\aB K F d x:=by
 unfold L2.atI at *;rw[h.length];cases q:ixN ds.length i with
 |none=>rw[q]at e;cases e
 |some j=>rw[q]at e;exact h.get' e
def aCA{F:Hp}{m n k:Md}{x y d:D}{u:V}{Q:VK}(s:aD F H)(rx:Rp X.K F H m x v)(ry:Rp X.K F H n y u)(e:ixD m x n y=some (k,d))(w:∀v' F' H',aE F H F' H'->Rp X.K F' H' k d v'->(k=.fr->∀a,v'=.ref a->H a=none)->Q v' H'):rIx X.K v u H Q:=by
 unfold ixD at e;split at e
 . rename_i ds i;cases ry.int;obtain⟨p,xs,rfl,hq,r⟩:=rx.seqL s;cases ei:atI ds i with
   |none=>rw[ei]at e;cases e
   |some d'=>rw[ei]at e;cases e;obtain⟨x',ex,rx'⟩:=r.atI ei;exact .inl ⟨p,xs,i,x',rfl,rfl,hq,ex,w x' F H (.refl s) rx' (by nofun)⟩
 . rename_i ds i;cases ry.int;obtain⟨p,xs,rfl,hq,r⟩:=rx.seqT s;cases ei:atI ds i with
   |none=>rw[ei]at e;cases e
   |some d'=>rw[ei]at e;cases e;obtain⟨x',ex,rx'⟩:=r.atI ei;exact .inr (.inl ⟨p,xs,i,x',rfl,rfl,hq,ex,w x' F H (.refl s) rx' (by nofun)⟩)
 . rename_i z i;cases ry.int;obtain⟨rfl,hl,hk⟩:=rx.str;cases ei:atI z.cps.toList i with
   |none=>rw[ei]at e;cases e
   |some c =>
    rw[ei]at e;cases e;refine .inr (.inr ⟨z,i,c,rfl,rfl,hl,ei,w _ F H (.refl s) (jL ⟨?_,?_⟩) (by nofun)⟩)
    . show 1<=sizeLine;decide
    . obtain⟨j,_,hj,_⟩:=kL ei;unfold PyData.strOk at hk ⊢;rw[aN2]at hk;have hc:=hk c (by rw[<- aME];exact aMZ hj)
      simpa using hc
 . cases e
def pv_ix(ha:PV C X a ga)(hb:PV C X b gb)(hs:kM b:=by intro _ _;rfl):PV C X (.Subscript a b pos) (λρ=>op2 ixD (ga ρ) (gb ρ)):=by exact PE.imp (qZ aAZ ha hb hs) λσ H Q q=>jM (λF H m x n y v u k d Q s rx ry e w=>aCA s rx ry e w) q
def aCB:SlR X (λx lo hi H Q=>∃z,x=.str z/\z.length<=sizeLine/\Q (.str (Txt.slice z lo hi)) H):=by
 intro aA s σ H x v vl vu lo hi sl Q I rx hs pl pu h;obtain⟨z,rfl,hz,q⟩:=h;obtain⟨t,rfl⟩:=rx;refine⟨"str", _,PySem.F.slot_str_getitem.lookup,typeIs_str _ _ _,?_⟩;have fin:∀t' k,EP X aA σ Q (.str (Txt.slice z lo hi) t') {s with toks:=k}:=λt' k=>⟨.str (Txt.slice z lo hi),H,I.tok _,⟨_,rfl⟩,q⟩
 cases pl with
 |none =>
  cases pu with
  |none=>exact aN3 (l:=none) (u:=none) (st:=none) hs rfl (aN4 ⟨aLS (aN5 z _ _) hz,λt' k=>fin t' k⟩)
  |int j tj=>exact aN3 (l:=none) (u:=some (j,tj)) (st:=none) hs rfl (aN4 ⟨aLS (aN5 z _ _) hz,λt' k=>fin t' k⟩)
 |int i ti =>
  cases pu with
  |none=>exact aN3 (l:=some (i,ti)) (u:=none) (st:=none) hs rfl (aN4 ⟨aLS (aN5 z _ _) hz,λt' k=>fin t' k⟩)
  |int j tj=>exact aN3 (l:=some (i,ti)) (u:=some (j,tj)) (st:=none) hs rfl (aN4 ⟨aLS (aN5 z _ _) hz,λt' k=>fin t' k⟩)
def aCC(h:PyData.strOk z=true):PyData.strOk (Txt.slice z lo hi)=true:=by
 unfold Txt.slice;split
 . exact h
 . unfold PyData.strOk at *;rw[aN2]at h ⊢;intro c hc;rw[<- aME,List.toList_toArray,aL9]at hc;obtain⟨j,_,hj⟩:=hc;exact h c (aN6 hj)
def POv(C:Cw)(X:Cx):Option Expr->Option (Rho->Res)->Prop
 |none,none=>True
 |some e,some g=>PV C X e g
 |_,_=>False
def rN(C:Cw):Option (Rho->Res)->TO
 |none=>qX
 |some g=>kK (tG C g)
def rO{e:Option Expr}{g:Option (Rho->Res)}(h:POv C X e g):PO X e (rN (C.at X) g):=by
 cases e with
 |none=>cases g with
  |none=>exact aAR
  |some g=>exact h.elim
 |some e=>cases g with
  |none=>exact h.elim
  |some g=>exact aAS h
def cS(g:Option (Rho->Res))(ρ:Rho)(k:Option Int->Res):Res:=match g with
 |none=>k none
 |some g=>(g ρ).thn λ_ d=>match d with|.int i=>k (some i)|_=>.stuck
def iJ{F:Hp}{g:Option (Rho->Res)}{k:Option Int->Res}{Q:VK}{R:Option Int->Hp->Prop}(RS:aR C.K C.F0 C.H0 F H σ ρ)(w:aT C F H σ (cS g ρ k) Q)(h:∀i F' H',aE F H F' H'->aR C.K C.F0 C.H0 F' H' σ ρ->aT C F' H' σ (k i) Q->R i H'):rN C g σ H R:=by
 cases g with
 |none=>exact h none F H (.refl RS.sub) RS w
 |some g =>
  show kK (tG C g) σ H R;unfold kK;rw[aV];refine⟨ρ,F,RS,?_⟩;have w:aT C F H σ ((g ρ).thn λ_ d=>match d with|.int i=>k (some i)|_=>.stuck) Q:=w
  cases er:g ρ with
  |stuck=>rw[er]at w;exact w
  |exc c=>rw[er]at w;exact w
  |ok m d =>
   rw[er]at w;intro v F' H' st rp _;cases d with
   |int i=>cases rp.int;exact⟨i,rfl,h (some i) F' H' st (RS.step st) (aT.step st w)⟩
   |_=>exact(show False from w).elim
end
inductive aY where
 |ok (xs:List (Md×D))|exc (c:Str)|stuck
def RpL(K:Fg)(F H:Hp):List (Md×D)->List V->Prop
 |[],vs=>vs=[]
 |(m,d)::r,vs=>∃v us,vs=v::us/\Rp K F H m d v/\RpL K F H r us
def aY.thn(r:aY)(k:List (Md×D)->Res):Res:=match r with
 |.ok xs=>k xs
 |.exc c=>.exc c
 |.stuck=>.stuck
@[simp] theorem aY.thn_ok(xs:List (Md×D))(k:List (Md×D)->Res):(aY.ok xs).thn k=k xs:=rfl
end D3
variable {gs:D3.Rho->D3.aY}
namespace D3
@[simp] theorem aY.thn_exc(c:Str)(k:List (Md×D)->Res):(aY.exc c).thn k=.exc c:=rfl
@[simp] theorem aY.thn_stuck(k:List (Md×D)->Res):aY.stuck.thn k=.stuck:=rfl
def jN(C:Cw)(F H:Hp)(σ:L2.St)(r:aY)(Q:List V->Hp->Prop):Prop:=match r with
 |.ok xs=>∀vs F' H',aE F H F' H'->RpL C.K F' H' xs vs->Q vs H'
 |.exc c=>∀F' H',aE F H F' H'->C.EE c σ H'
 |.stuck=>False
def jN.step{F H1:Hp}{r:aY}{Q:List V->Hp->Prop}(st:aE F H F1 H1)(h:jN C F H σ r Q):jN C F1 H1 σ r Q:=by
 cases r with
 |ok m=>exact λv F' H' s2 rp=>h v F' H' (st.trans s2) rp
 |exc c=>exact λF' H' s2=>h F' H' (st.trans s2)
 |stuck=>exact h
def tAv(C:Cw)(g:Rho->aY):TA:=λσ H Q=>∃ρ F,aR C.K C.F0 C.H0 F H σ ρ/\jN C F H σ (g ρ) Q
def PAv(C:Cw)(X:Cx)(es:List Expr)(g:Rho->aY):Prop:=PA X es (tAv (C.at X) g)
def PA.imp{e:List Expr}{t t':TA}(h:PA X e t)(i:∀σ H Q,t' σ H Q->t σ H Q):PA X e t':=λp aA s σ H Q I q=>h p aA s σ H Q I (i σ H Q q)
def aJ(x:Res)(y:aY):aY:=match x with
 |.ok m d=>(match y with|.ok r=>.ok ((m,d)::r)|.exc c=>.exc c|.stuck=>.stuck)
 |.exc c=>.exc c
 |.stuck=>.stuck
@[simp] theorem aCD(m:Md)(d:D)(r:List (Md×D)):aJ (.ok m d) (.ok r)=.ok ((m,d)::r):=rfl
section
variable  {a b e:Expr}{es:List Expr}{gc:Rho->Res}
def nB:PAv C X [] (λ_=>.ok []):=PA.imp m8 λσ H Q q=>by obtain⟨ρ,F,R,w⟩:=q;exact w [] F H (.refl R.sub) rfl
def nC(ha:PV C X e g)(hr:PAv C X es gs)(hs:starEach (e::es) X.env=(false,eval e X.env)::starEach es X.env:=by rfl):PAv C X (e::es) (λρ=>aJ (g ρ) (gs ρ)):=by
 refine PA.imp (m9 ha hr hs) λσ H Q q=>?_;unfold iF;obtain⟨ρ,F,R,w⟩:=q;dsimp only at w;rw[aV];refine⟨ρ,F,R,?_⟩;cases er:g ρ with
 |stuck=>rw[er]at w;exact w
 |exc c=>rw[er]at w;exact w
 |ok m d =>
  rw[er]at w;intro v F1 H1 s1 r1 _;refine⟨ρ,F1,R.step s1,?_⟩;have w1:=jN.step s1 w;cases es':gs ρ with
  |stuck=>rw[es']at w1;exact w1
  |exc c=>rw[es']at w1;exact w1
  |ok r=>rw[es']at w1;intro vs F2 H2 s2 r2;exact w1 (v::vs) F2 H2 s2 ⟨v,vs,rfl,r1.step s2,r2⟩
def bU:List (Md×D)->Option (List D)
 |[]=>some []
 |(.fz,d)::r=>(bU r).map (d :: ·)
 |_::_=>none
theorem RpL.fz{K:Fg}{F H:Hp}:∀{xs:List (Md×D)}{vs:List V}{ds:List D},RpL K F H xs vs->bU xs=some ds->aC K F ds vs
 |[],_,_,h,e=>by cases e;rw[show _=[]from h];exact aC.nil
 |(.fz,d)::r,_,_,h,e=>by
  obtain⟨v,us,rfl,r1,r2⟩:=h;unfold bU at e;cases q:bU r with
  |none=>rw[q]at e;cases e
  |some ds'=>rw[q]at e;cases e;exact aC.cons r1 (RpL.fz r2 q)
 |(.fr,d)::r,_,_,h,e=>by cases e
 |(.bo,d)::r,_,_,h,e=>by cases e
def cU(r:aY):Res:=r.thn λxs=>match bU xs with|some ds=>if ds.length<=sizeLine then .ok .fz (.tup ds)else .stuck|none=>.stuck
def dW(r:aY):Res:=r.thn λxs=>match bU xs with|some ds=>if ds.length<=sizeLine then .ok .fr (.lst ds)else .stuck|none=>.stuck
def aB.tup_of{F:Hp}{p:Addr}(hp:F p=none)(r:aC K F ds xs):aB K (upd F p (.tup xs)) (.tup ds) (.ref p):=by simp only[aB];exact⟨p,xs,rfl,SqT.of a9,r.mono (λb u q=>by rw[aK (bL q hp)];exact q) _ _⟩
def aCE{x1}(h:PAv C X es gs):PV C X (.Tuple es x1 pos) (λρ=>cU (gs ρ)):=by
 refine PE.imp (aAF h) λσ H Q q=>?_;unfold tTup;rw[aV]at q;obtain⟨ρ,F,R,w⟩:=q;refine⟨ρ,F,R,?_⟩;cases er:gs ρ with
 |stuck=>rw[er]at w;exact w
 |exc c=>rw[er]at w;exact w
 |ok xs =>
  rw[er]at w;intro vs F1 H1 s1 r1;have w1:aT (C.at X) F1 H1 σ (match bU xs with|some ds=>if ds.length<=sizeLine then .ok .fz (.tup ds)else .stuck|none=>.stuck) Q:=aT.step s1 w
  cases ef:bU xs with
  |none=>rw[ef]at w1;exact w1.elim
  |some ds =>
   rw[ef]at w1;dsimp only at w1;split at w1
   . rename_i hl;have r2:=r1.fz ef;refine⟨by rw[r2.length];exact hl,λp hp=>?_⟩
     exact w1 (.ref p) _ _ (aE.laid (.tup vs) s1.sub hp) (aB.tup_of (s1.sub.free hp) r2) (by nofun)
   . exact w1.elim
def aCF(h:PAv C X es gs):PV C X (.List es pos) (λρ=>dW (gs ρ)):=by
 refine PE.imp (aAG h) λσ H Q q=>?_;unfold tLst;rw[aV]at q;obtain⟨ρ,F,R,w⟩:=q;refine⟨ρ,F,R,?_⟩;cases er:gs ρ with
 |stuck=>rw[er]at w;exact w
 |exc c=>rw[er]at w;exact w
 |ok xs =>
  rw[er]at w;intro vs F1 H1 s1 r1;have w1:aT (C.at X) F1 H1 σ (match bU xs with|some ds=>if ds.length<=sizeLine then .ok .fr (.lst ds)else .stuck|none=>.stuck) Q:=aT.step s1 w
  cases ef:bU xs with
  |none=>rw[ef]at w1;exact w1.elim
  |some ds =>
   rw[ef]at w1;dsimp only at w1;split at w1
   . rename_i hl;have r2:=r1.fz ef;refine⟨by rw[r2.length];exact hl,λp hp=>?_⟩
     refine w1 (.ref p) F1 _ (aE.fresh (.lst vs) s1.sub hp) ⟨p,rfl,s1.sub.free hp,vs,a9,r2⟩ λ_ a ea=>by cases ea;exact hp
   . exact w1.elim
def eD(X:Cx)(f:aP0)(φ:List (Md×D)->Option (Md×D)):Prop :=
 ∃r:List V->Hp->VK->Prop,gK X f r/\∀F H xs vs k d Q,aD F H->RpL X.K F H xs vs->φ xs=some (k,d) ->
  (∀v' F' H',aE F H F' H'->Rp X.K F' H' k d v'->(k=.fr->∀a,v'=.ref a->H a=none)->Q v' H')->r vs H Q
def b0(φ:List (Md×D)->Option (Md×D))(r:aY):Res:=r.thn λxs=>Res.of (φ xs)
def rP{φ:List (Md×D)->Option (Md×D)}{r:List V->Hp->VK->Prop}(h:∀F H xs vs k d Q,aD F H->RpL C.K F H xs vs->φ xs=some (k,d)->(∀v' F' H',aE F H F' H'->Rp C.K F' H' k d v'->(k=.fr->∀a,v'=.ref a->H a=none)->Q v' H')->r vs H Q){Q:VK}(q:tG C (λρ=>b0 φ (gs ρ)) σ H Q):tCB r (tAv C gs) σ H Q:=by
 unfold tCB;rw[aV]at q;obtain⟨ρ,F,R,w⟩:=q;refine⟨ρ,F,R,?_⟩;cases er:gs ρ with
 |stuck=>rw[er]at w;exact w
 |exc c=>rw[er]at w;exact w
 |ok xs =>
  rw[er]at w;intro vs F1 H1 s1 r1;have w1:aT C F1 H1 σ (Res.of (φ xs)) Q:=aT.step s1 w;cases ef:φ xs with
  |none=>rw[ef]at w1;exact w1.elim
  |some kd=>obtain⟨k,d⟩:=kd;rw[ef]at w1;exact h F1 H1 xs vs k d Q s1.sub r1 ef w1
def aCG{id:String}{φ}(o:eD X (.builtin id) φ)(hg:Gl X x)(hm:X.mg x=none)(hv:bootBuiltins x=some (.builtin id))(ha:PAv C X (e::es) gs)(hn:x ≠ "__name__" := by decide)(hdb:(x==("__debug__":Str))=false:=by decide)(he:starEach (e::es) X.env=(false,eval e X.env)::starEach es X.env:=by rfl)(hpl:(backTo pos (starEach es X.env)).any (·.1)=false:=by rfl):PV C X (.Call (.Name x p) (e::es) [] pos) (λρ=>b0 φ (gs ρ)):=by obtain⟨r,h1,h2⟩:=o;exact PE.imp (aAJ h1 hg hm hv ha hn hdb he hpl) λσ H Q q=>rP h2 q
def eQ:List (Md×D)->Option (Md×D)
 |[(_,.str z)]=>some (.fz,.int z.length)
 |[(_,.lst ds)]=>some (.fz,.int ds.length)
 |[(_,.tup ds)]=>some (.fz,.int ds.length)
 |_=>none
def RpL.one{F:Hp}{m:Md}{d:D}(h:RpL K F H [(m,d)] vs):∃v,vs=[v]/\Rp K F H m d v:=by obtain⟨v,us,rfl,r,e⟩:=h;exact⟨v,by rw[show us=[]from e],r⟩
def RpL.two{F:Hp}{m n:Md}{d e:D}(h:RpL K F H [(m,d),(n,e)] vs):∃v u,vs=[v,u]/\Rp K F H m d v/\Rp K F H n e u:=by obtain⟨v,us,rfl,r,v',us',rfl,r',e⟩:=h;exact⟨v,v',by rw[show us'=[]from e],r,r'⟩
def aCH:eD X (.builtin "len") eQ:=by
 refine⟨_,zQ,λF H xs vs k d Q s rx e w=>?_⟩;unfold eQ at e;split at e
 . rename_i m z;cases e;obtain⟨v,rfl,r⟩:=rx.one;obtain⟨rfl,hz,_⟩:=r.str;exact⟨_,z.length,rfl,⟨hz,rfl⟩,w _ F H (.refl s) (cR _) (by nofun)⟩
 . rename_i m ds;cases e;obtain⟨v,rfl,r⟩:=rx.one;obtain⟨a,xs,rfl,q,rl⟩:=r.seqL s;exact⟨_,xs.length,rfl,.inl ⟨xs,q,rfl⟩,by rw[rl.length];exact w _ F H (.refl s) (cR _) (by nofun)⟩
 . rename_i m ds;cases e;obtain⟨v,rfl,r⟩:=rx.one;obtain⟨a,xs,rfl,q,rl⟩:=r.seqT s;exact⟨_,xs.length,rfl,.inr ⟨xs,q,rfl⟩,by rw[rl.length];exact w _ F H (.refl s) (cR _) (by nofun)⟩
 . cases e
noncomputable def tyN:D->Option String
 |.non=>some "NoneType" |.bl _=>some "bool" |.int _=>some "int" |.str _=>some "str" |.tup _=>some "tuple" |.lst _=>some "list" |.dct _=>some "dict" |_=>none
noncomputable def jO(t c:String):Option Bool:=if["int", "bool", "str", "list", "tuple", "dict"].contains c=true then some (t==c||(t == "bool" && c == "int"))else none
def bN:List (Md×D)->Option (Md×D)
 |[(_,d),(_,.ty c)]=>match tyN d with|some t=>(jO t c).map λb=>(.fz,.bl b)|none=>none
 |_=>none
def aCI{d:D}{t c:String}{b:Bool}(ht:tyN d=some t)(e:jO t c=some b):W.kitOne K (.type t) (.type c)=some b:=by
 unfold jO at e;split at e
 . rename_i hc;simp only[List.contains_cons,List.contains_nil,Bool.or_false,aN1,aMG]at hc;cases e;have ht':t="NoneType" \/ t="bool" \/ t="int" \/ t="str" \/ t="tuple" \/ t="list" \/ t="dict" := by cases d <;> cases ht <;> simp
   rcases hc with rfl|rfl|rfl|rfl|rfl|rfl <;> rcases ht' with rfl|rfl|rfl|rfl|rfl|rfl|rfl <;> rfl
 . cases e
def aCJ:eD X (.builtin "isinstance") bN:=by
 refine⟨λvs H Q=>∃(F:Hp) (m:Md) (d:D) (v:V) (t c:String) (b:Bool),aD F H/\Rp X.K F H m d v/\vs=[v,.ty c]/\tyN d=some t/\jO t c=some b/\Q (.bl b) H,?_,?_⟩
 . intro aA s σ H xs us Q I r h;obtain⟨F,m,d,v,t,c,b,sF,rp,rfl,ht,hb,q⟩:=h;obtain⟨u,u',rfl,ru,ru'⟩:=vals2 r;cases(show u'=Value.type c from ru')
   have e:=aCI (K:=X.K) ht hb;have fin:∀tk,EP X aA σ Q (.bool b) {s with toks:=tk}:=λtk=>⟨.bl b,H,I.tok _,rfl,q⟩
   cases d with
   |non=>cases rp.non;cases ht;cases(show u=Value.none from ru);exact aN7 W.kitx_none I.kIn True.intro e (λz=>nomatch z) fin
   |bl y=>cases rp.bl;cases ht;cases(show u=Value.bool y from ru);exact aN7 W.kitx_bool I.kIn True.intro e (λz=>nomatch z) fin
   |int i=>cases rp.int;cases ht;obtain⟨t,q⟩:=(show ∃t,u=Value.int i t from ru);cases q;exact aN7 W.kitx_int I.kIn True.intro e (λz=>nomatch z) fin
   |str y=>obtain⟨rfl,_⟩:=rp.str;cases ht;obtain⟨t,q⟩:=(show ∃t,u=Value.str y t from ru);cases q;exact aN7 W.kitx_str I.kIn True.intro e (λz=>nomatch z) fin
   |tup ds =>
    obtain⟨a,xs,rfl,hq,_⟩:=rp.seqT sF;cases ht;cases(show u=Value.ref a from ru)
    obtain⟨its,_,⟨o,h1,h2,_⟩,_⟩:=I.tuple hq;exact aN7 W.kitx_tuple I.kIn ⟨o,h1,h2⟩ e (λz=>nomatch z) fin
   |lst ds =>
    obtain⟨a,xs,rfl,hq,_⟩:=rp.seqL sF;cases ht;cases(show u=Value.ref a from ru)
    obtain⟨its,_,⟨o,n,h1,h2,_⟩,_⟩:=I.list hq;exact aN7 W.kitx_list I.kIn ⟨o,h1,h2⟩ e (λz=>nomatch z) fin
   |dct ds =>
    obtain⟨a,xs,rfl,hq,_⟩:=rp.dict sF;cases ht;cases(show u=Value.ref a from ru)
    obtain⟨_,_,vs,_,p⟩:=(show bW X.prog X.w H s.heap a (.dK xs)from I.hok a _ hq)
    obtain⟨o,es,ep,h1,h2,_⟩:=p;exact aN7 W.kitx_dict I.kIn ⟨o,h1,h2.1⟩ e (λz=>nomatch z) fin
   |_=>cases ht
 . intro F H xs vs k d Q s rx e w;unfold bN at e;split at e
   . rename_i m d' n c;obtain⟨v,u,rfl,r1,r2⟩:=rx.two;cases r2.ty;cases et:tyN d' with
     |none=>rw[et]at e;cases e
     |some t =>
      rw[et]at e;dsimp only at e;cases eb:jO t c with
      |none=>rw[eb]at e;cases e
      |some b=>rw[eb]at e;cases e;exact⟨F,m,d',v,t,c,b,s,r1,rfl,et,eb,w _ F H (.refl s) (dS _) (by nofun)⟩
   . cases e
def pv_ty{T:String}(hg:Gl X x)(hm:X.mg x=none)(hv:bootBuiltins x=some (.type T))(hn:x ≠ "__name__" := by decide)(hd:(x==("__debug__":Str))=false:=by decide):PV C X (.Name x pos) (λ_=>.ok .fz (.ty T)) :=
 gM _ (yH (v:=.ty T) hg hm hv rfl hn hd) λ_ _=>rp_ty T
def aCK{t:Tok}(hg:Gl X x)(hm:X.mg x=some (.str y t))(h:(decide (y.length<=sizeLine)&&PyData.strOk y)=true:=by decide +kernel)(hd:(x==("__debug__":Str))=false:=by decide):PV C X (.Name x pos) (λ_=>.ok .fz (.str y)) :=
 gM _ (mS (v:=.str y) hg hm ⟨t,rfl⟩ hd) λ_ _=>jL (by rw[aNI,aNZ]at h;exact h)
def aCL{y:Int}{t:Tok}(hg:Gl X x)(hm:X.mg x=some (.int y t))(hd:(x==("__debug__":Str))=false:=by decide):PV C X (.Name x pos) (λ_=>.ok .fz (.int y)) :=
 gM _ (mS (v:=.int y) hg hm ⟨t,rfl⟩ hd) λ_ _=>cR _
def blsD:List D->Option (List Bool)
 |[]=>some []
 |.bl b::r=>(blsD r).map (b :: ·)
 |_=>none
def allD:List (Md×D)->Option (Md×D)
 |[(_,.lst ds)]=>(blsD ds).map λbs=>(.fz,.bl (bs.all id))
 |_=>none
end
inductive aF where
 |nx (ρ:Rho)|rt (m:Md) (d:D)|bk (ρ:Rho)|ct (ρ:Rho)|exc (c:Str) (ρ:Rho)|stuck
def bX(C:Cw)(Fa:Hp)(r:aF)(E:eB):Prop:=match r with
 |.nx ρ=>∀σ F H,aD Fa F->aR C.K C.F0 C.H0 F H σ ρ->E.nx σ H
 |.bk ρ=>∀σ F H,aD Fa F->aR C.K C.F0 C.H0 F H σ ρ->E.bk σ H
 |.ct ρ=>∀σ F H,aD Fa F->aR C.K C.F0 C.H0 F H σ ρ->E.ct σ H
 |.exc c ρ=>∀σ F H,aD Fa F->aR C.K C.F0 C.H0 F H σ ρ->C.EE c σ H
 |.rt m d=>∀v F H,aE C.F0 C.H0 F H->Rp C.K F H m d v->(m=.fr->∀a,v=.ref a->C.H0 a=none)->E.rt v H
 |.stuck=>False
def bX.mono{F:Hp}{r:aF}{E:eB}(s:aD F F1)(w:bX C F r E):bX C F1 r E:=by
 cases r with
 |nx ρ=>exact λσ F' H' z R=>w σ F' H' (s.trans z) R
 |bk ρ=>exact λσ F' H' z R=>w σ F' H' (s.trans z) R
 |ct ρ=>exact λσ F' H' z R=>w σ F' H' (s.trans z) R
 |exc c ρ=>exact λσ F' H' z R=>w σ F' H' (s.trans z) R
 |rt m d=>exact w
 |stuck=>exact w
def tH(C:Cw)(g:Rho->aF):TS:=λE σ H=>∃ρ F,aR C.K C.F0 C.H0 F H σ ρ/\bX C F (g ρ) E
def PSv(C:Cw)(X:Cx)(st:Stmt)(g:Rho->aF):Prop:=PS X st (tH (C.at X) g)
def PBv(C:Cw)(X:Cx)(st:List Stmt)(g:Rho->aF):Prop:=PSs X st (tH (C.at X) g)
def PS.imp{e:Stmt}{t t':TS}(h:PS X e t)(i:∀E σ H,t' E σ H->t E σ H):PS X e t':=λaA s σ H E I q=>h aA s σ H E I (i E σ H q)
def PSs.imp{e:List Stmt}{t t':TS}(h:PSs X e t)(i:∀E σ H,t' E σ H->t E σ H):PSs X e t':=λaA s σ H E I q=>h aA s σ H E I (i E σ H q)
def aF.thn(r:aF)(k:Rho->aF):aF:=match r with
 |.nx ρ=>k ρ
 |r=>r
@[simp] theorem aF.thn_nx(ρ:Rho)(k:Rho->aF):(aF.nx ρ).thn k=k ρ:=rfl
@[simp] theorem aF.thn_rt(m:Md)(d:D)(k:Rho->aF):(aF.rt m d).thn k=.rt m d:=rfl
@[simp] theorem aF.thn_bk(ρ:Rho)(k:Rho->aF):(aF.bk ρ).thn k=.bk ρ:=rfl
@[simp] theorem aF.thn_ct(ρ:Rho)(k:Rho->aF):(aF.ct ρ).thn k=.ct ρ:=rfl
@[simp] theorem aF.thn_exc(c:Str)(ρ:Rho)(k:Rho->aF):(aF.exc c ρ).thn k=.exc c ρ:=rfl
@[simp] theorem aF.thn_stuck(k:Rho->aF):aF.stuck.thn k=.stuck:=rfl
section
variable  {a b e:Expr}{es:List Expr}{gc:Rho->Res}{h1 h2:Rho->aF}
def aCM:PBv C X [] (λρ=>.nx ρ):=PSs.imp mV λE σ H q=>by obtain⟨ρ,F,R,w⟩:=q;exact w σ F H (aD.refl _) R
def aCN{E:eB}(q:tH C (λρ=>(h1 ρ).thn h2) E σ H):tSeq (tH C h1) (tH C h2) E σ H:=by
 obtain⟨ρ,F,R,w⟩:=q;refine⟨ρ,F,R,?_⟩;dsimp only at w;cases er:h1 ρ with
 |nx ρ'=>rw[er]at w;exact λσ' F' H' z R'=>⟨ρ',F',R',bX.mono z w⟩
 |rt m d=>rw[er]at w;exact w
 |bk ρ'=>rw[er]at w;exact w
 |ct ρ'=>rw[er]at w;exact w
 |exc c ρ'=>rw[er]at w;exact w
 |stuck=>rw[er]at w;exact w
def aCO(ha:PSv C X st h1)(hb:PBv C X sts h2):PBv C X (st::sts) (λρ=>(h1 ρ).thn h2):=PSs.imp (mW ha hb) λE σ H q=>aCN q
def Res.thS(r:Res)(ρ:Rho)(k:Md->D->aF):aF:=match r with
 |.ok m d=>k m d
 |.exc c=>.exc c ρ
 |.stuck=>.stuck
@[simp] theorem Res.thS_ok(m:Md)(d:D)(ρ:Rho)(k:Md->D->aF):(Res.ok m d).thS ρ k=k m d:=rfl
@[simp] theorem Res.thS_exc(c:Str)(ρ:Rho)(k:Md->D->aF):(Res.exc c).thS ρ k=.exc c ρ:=rfl
@[simp] theorem Res.thS_stuck(ρ:Rho)(k:Md->D->aF):Res.stuck.thS ρ k=.stuck:=rfl
def iK{F:Hp}{k:Md->D->aF}{E:eB}{Q:VK}(R:aR C.K C.F0 C.H0 F H σ ρ)(w:bX C F ((g ρ).thS ρ k) E)(h:∀m d v F' H',bX C F' (k m d) E->aE F H F' H'->aR C.K C.F0 C.H0 F' H' σ ρ->Rp C.K F' H' m d v->(m=.fr->∀a,v=.ref a->H a=none)->Q v H'):tG C g σ H Q:=by
 rw[aV];refine⟨ρ,F,R,?_⟩;cases er:g ρ with
 |stuck=>rw[er]at w;exact w
 |exc c=>rw[er]at w;exact λF' H' s=>w σ F' H' s.fsame (R.step s)
 |ok m d=>rw[er]at w;exact λv F' H' s rp fr=>h m d v F' H' (bX.mono s.fsame w) s (R.step s) rp fr
noncomputable def iL(r:Res)(ρ:Rho):aF:=r.thS ρ λm d=>match m with|.bo=>.stuck|m=>.rt m d
def aCP(he:PV C X e g):PSv C X (.Return (some e) pos) (λρ=>iL (g ρ) ρ):=PS.imp (qD he) λE σ H q=>by
 obtain⟨ρ,F,R,w⟩:=q;refine iK R w λm d v F' H' w' s R' rp fr=>?_;cases m with
 |bo=>exact(show False from w').elim
 |fz=>exact w' v F' H' R'.st rp (by nofun)
 |fr=>exact w' v F' H' R'.st rp λ_ a ea=>R.st.same.free (fr rfl a ea)
def eR(ρ:Rho)(i:Nat):aF:=match ρ[i]? with
 |some (some (false,d))=>.rt .fz d
 |some (some (true,d))=>.rt .fr d
 |_=>.stuck
def aCQ(i:Nat)(h:PE X (.Name x p) (iD i)):PSv C X (.Return (some (.Name x p)) pos) (λρ=>eR ρ i):=PS.imp (qD h) λE σ H q=>by
 obtain⟨ρ,F,R,w⟩:=q;dsimp only at w;unfold eR at w;cases e:ρ[i]? with
 |none=>rw[e]at w;exact w.elim
 |some o =>
  cases o with
  |none=>rw[e]at w;exact w.elim
  |some q =>
   obtain⟨m,d⟩:=q;obtain⟨v,e1,r,hh⟩:=R.slot i m d e;rw[e]at w;cases m with
   |false=>exact⟨v,e1,w v F H R.st r (by nofun)⟩
   |true=>exact⟨v,e1,w v F H R.st r λ_=>hh rfl⟩
noncomputable def ifS(t:Res)(ρ:Rho)(x y:aF):aF:=t.thS ρ λ_ d=>match d with|.bl true=>x|.bl false=>y|_=>.stuck
def aCR{s1 s2:List Stmt}(hc:PTv C X c gc)(ha:PBv C X s1 h1)(hb:PBv C X s2 h2):PSv C X (.If c s1 s2 pos) (λρ=>ifS (gc ρ) ρ (h1 ρ) (h2 ρ)):=by
 refine PS.imp (qE hc ha hb) λE σ H q=>?_;obtain⟨ρ,F,R,w⟩:=q;dsimp only at w;refine⟨ρ,F,R,?_⟩;cases er:gc ρ with
 |stuck=>rw[er]at w;exact w
 |exc c=>rw[er]at w;exact λF' H' s=>w σ F' H' s.fsame (R.step s)
 |ok m d =>
  rw[er]at w;cases d with
  |bl k =>
   intro F' H' s;cases k with
   |true=>rw[if_pos rfl];exact⟨ρ,F',R.step s,bX.mono s.fsame w⟩
   |false=>rw[if_neg aMF];exact⟨ρ,F',R.step s,bX.mono s.fsame w⟩
  |_=>exact w.elim
noncomputable def dC(ρ:Rho)(i:Nat)(r:Res):aF:=r.thS ρ λm d=>match m with
 |.fz=>.nx (ρ.set i (some (false,d)))
 |.fr=>.nx (ρ.set i (some (true,d)))
 |.bo=>.stuck
theorem aR.set{F:Hp}{m:Bool}{d:D}(R0:aR K F0 H0 F H σ ρ)(s:aE F H F' H')(rp:Rp K F' H' (if m then .bo else .fz) d v)(fr:m=true->∀a,v=.ref a->H a=none):aR K F0 H0 F' H' (σ.set i (some v)) (ρ.set i (some (m,d))):=by
 have R:=R0.step s;refine⟨R.st,λj m' d' e=>?_,λj k d1 d2 a hjk e1 e2 q1 q2=>?_,by rw[aN8,aN8];exact R.len⟩
 . by_cases hj:j=i
   . subst hj;rw[aN9]at e;by_cases hl:j<ρ.length
     . rw[if_pos rfl,if_pos hl]at e;cases e;refine⟨v,by rw[aN9,if_pos rfl,if_pos (by rw[R.len];exact hl)],rp,λz a ea=>R0.st.same.free (fr z a ea)⟩
     . rw[if_pos rfl,if_neg hl]at e;cases e
   . rw[aLZ (λz=>hj z.symm)]at e ⊢;exact R.slot j m' d' e
 . have old:∀(l:Nat) (d:D) (b:Addr),l≠i->ρ[l]? = some (some (true,d))->σ[l]? = some (some (.ref b)) -> ¬ dR (H b):=λl d b hl e q=>by obtain⟨u,q',r,_⟩:=R0.slot l true d e;rw[q]at q';cases q';obtain⟨b',eb,_,t⟩:=r;cases eb;exact t.there
   by_cases hj:j=i
   . subst hj;rw[aLZ hjk]at e2 q2;rw[aN9]at e1 q1;by_cases hl:j<ρ.length
     . rw[if_pos rfl,if_pos hl]at e1;rw[if_pos rfl,if_pos (by rw[R.len];exact hl)]at q1
       cases e1;cases q1;exact old k d2 a (λz=>hjk z.symm) e2 q2 (fU (fr rfl a rfl))
     . rw[if_pos rfl,if_neg hl]at e1;cases e1
   . by_cases hk:k=i
     . subst hk;rw[aLZ (λz=>hjk z.symm)]at e1 q1;rw[aN9]at e2 q2;by_cases hl:k<ρ.length
       . rw[if_pos rfl,if_pos hl]at e2;rw[if_pos rfl,if_pos (by rw[R.len];exact hl)]at q2
         cases e2;cases q2;exact old j d1 a hjk e1 q1 (fU (fr rfl a rfl))
       . rw[if_pos rfl,if_neg hl]at e2;cases e2
     . rw[aLZ (λz=>hj z.symm)]at e1 q1;rw[aLZ (λz=>hk z.symm)]at e2 q2;exact R.apart j k d1 d2 a hjk e1 e2 q1 q2
def nE{E:eB}(q:tH (C.at X) (λρ=>dC ρ i (g ρ)) E σ H):jF (tG (C.at X) g) (jE i) E σ H:=by
 obtain⟨ρ,F,R,w⟩:=q;dsimp only at w;refine iK R w λm d v F' H' w' s R' rp fr=>?_;cases m with
 |bo=>exact(show False from w').elim
 |fz=>exact w' _ F' H' (aD.refl _) (R.set (m:=false) s rp (by nofun))
 |fr=>exact w' _ F' H' (aD.refl _) (R.set (m:=true) s rp λ_ a ea=>fr rfl a ea)
def aCS(hN:X.N.Nodup)(hi:X.N[i]? = some x)(hx:Loc X.env.scope x)(he:PV C X e g)(hs:swapsWith e (some (.Name x pos')) pos.line X.env=pure false:=by rfl)(hf:X.fn x=true\/X.env.scope.names.lookup x=some .local:=by first|exact .inl rfl|exact .inr rfl|assumption):PSv C X (.Assign [.Name x pos'] e pos) (λρ=>dC ρ i (g ρ)):=PS.imp (yV hN hi hx he hs hf) λE σ H q=>nE q
end
def Its(x:Str):It:=⟨λi _=>i<x.cps.size,λi H v H'=>H'=H/\∃c,x.cps[i]? = some c/\v=.str ⟨#[c]⟩,λi _=>x.cps.size<=i⟩
def rQ(it:Addr)(x:Str)(t:Tok)(ty:String)(hty:["enumerate", "zip", "dict_itemiterator", "dict_reverseitemiterator", "odict_iterator", "itertools.zip_longest", "itertools.pairwise"].contains ty=false)(W:∀A':aP2,A'.handled=none->Walks P w A' it [it] [it] x.cps.size (SignAt x) (λi h=>h.IsStrIter it ty x t i))(Sf:∀(A:aP2) (i:Nat) (s:aP1) (Q:VSP) (E:VSP),s.heap.IsStrIter it ty x t i->Q (.ref it) s->wpAny (model P w) A (pyIter (.ref it)) Q E s):jG P w K tg (Its x) [it] it (λi h=>i<=x.cps.size/\h.IsStrIter it ty x t i) where
 mem:=by simp
 obj:=λi h st b hb=>by
  have e:b=it:=by simpa using hb
  subst e;obtain⟨_,o,e,c,d⟩:=st;exact⟨o,e,λv z=>by rw[d]at z;cases z⟩
 keep:=λi h h' st k=>⟨st.1,let⟨o,e,r⟩:=st.2;⟨o,k it (by simp) o e,r⟩⟩
 item:=by
  intro X hP hw hK hc i aA s σ H E I hf st hg;subst hP hw hK;obtain⟨f0,f1,f2,f3,f4,f5⟩:=hf it (by simp)
  refine(W X.A (I.ok.hd hc)).item i s _ _ hg st.2 λv h' tk hv st' kk=>?_;obtain⟨c,u,hc',rfl⟩:=hv;have I1:Inv X aA σ H {s with heap:=h',toks:=tk}:=I.turned (λb o hb e=>kk b o (by simpa using hb) e) f0 f1 f3 f4 f5
  obtain⟨o,e,oc,d⟩:=id st';exact⟨_,rfl,kH (s:={s with heap:=h',toks:=tk}) e oc d hty ⟨.str ⟨#[c]⟩,H,I1,⟨u,rfl⟩,⟨rfl,c,hc',rfl⟩,⟨hg,st'⟩,λb hb=>(hf b hb).1⟩⟩
 done:=by
  intro X hP hw hK hc i aA s σ H E I hf st hg;subst hP hw hK;obtain⟨f0,f1,f2,f3,f4,f5⟩:=hf it (by simp)
  have e:i=x.cps.size:=Nat.le_antisymm st.1 hg;subst e;exact(W X.A (I.ok.hd hc)).done s _ _ st.2 λh' tk kk=>⟨rfl,I.turned (λb o hb e=>kk b o (by simpa using hb) e) f0 f1 f3 f4 f5⟩
 self:=λA i s Q E st h=>Sf A i s Q E st.2 h
def iStr(te:TE):TI:=λσ H R=>te σ H λx H1=>∃z,x=.str z/\R (Its z) H1
def aCT{l:Expr}(hl:PE X l tl):PI X tg l (iStr tl):=by
 intro aA s σ H R I h;refine thn (hl aA s σ H _ I h) λv s1 ⟨x,H1,I1,r1,q1⟩=>?_;obtain⟨z,e,q⟩:=q1;subst e;obtain⟨t,rfl⟩:=r1;have fin:∀(ty:String) (o:Obj),o={cls:=.type ty,data:=.fields #[.str z t,.int ((0:Nat):Int) 0]} -> (∀b:Addr,b∈[s1.heap.objs.size]->cG X aA H1 b)/\Inv X aA σ H1 {s1 with heap:=s1.heap.push o}/\(s1.heap.push o).IsStrIter s1.heap.objs.size ty z t 0:=λty o eo=>by
  refine⟨λb hb=>?_,I1.kept (t':=s1.toks) λb o e=>hps e,⟨o,aLK _ (by rw[eo];rfl),by rw[eo],by rw[eo]⟩⟩
  have e:b=s1.heap.objs.size:=by simpa using hb
  subst e;exact I1.fpOk (aL7 _) (I1.hok.fresh (aL7 _))
 cases ha:z.cps.all (· < 128)
 . refine wpAny_pyIter_wide ha ?_;obtain⟨f1,f2,f3⟩:=fin "str_iterator" _ rfl;exact⟨s1.heap.objs.size,[s1.heap.objs.size],_,Its z,H1,rfl,f2,rQ _ z t "str_iterator" (by decide) (λA' hA=>Walks.strWide hA _ z t) (λA i s Q E st h=>wpAny_pyIter_striter_wide st h),⟨aMN _,f3⟩,f1,q⟩
 . refine wpAny_pyIter_ascii ha ?_;obtain⟨f1,f2,f3⟩:=fin "str_ascii_iterator" _ rfl;exact⟨s1.heap.objs.size,[s1.heap.objs.size],_,Its z,H1,rfl,f2,rQ _ z t "str_ascii_iterator" (by decide) (λA' hA=>Walks.strAscii hA _ z t) (λA i s Q E st h=>wpAny_pyIter_striter_ascii st h),⟨aMN _,f3⟩,f1,q⟩
def PI.imp{e:Expr}{t t':TI}(h:PI X tg e t)(i:∀σ H R,t' σ H R->t σ H R):PI X tg e t':=λaA s σ H R I q=>h aA s σ H R I (i σ H R q)
def PI.or{e:Expr}{t t':TI}(h:PI X tg e t)(h':PI X tg e t'):PI X tg e (λσ H R=>t σ H R\/t' σ H R):=λaA s σ H R I q=>by
 rcases q with q|q
 . exact h aA s σ H R I q
 . exact h' aA s σ H R I q
structure kR(K:Fg)(F:Hp)(J:It)(ds:List D):Prop where
 go:∀i H,aD F H->i<ds.length->J.go i H
 stop:∀i H,aD F H->ds.length<=i->J.stop i H
 yld:∀i Fc H x H',aD F Fc->aD Fc H->i<ds.length->J.yld i H x H'->∃F' d,ds[i]? = some d/\aE Fc H F' H'/\aB K F' d x
def WantI(C:Cw)(F H:Hp)(σ:L2.St)(r:Res)(R:It->Hp->Prop):Prop:=match r with
 |.ok _ (.lst ds)=>∀J F' H',aE F H F' H'->kR C.K F' J ds->R J H'
 |.exc c=>∀F' H',aE F H F' H'->C.EE c σ H'
 |_=>False
def tIv(C:Cw)(g:Rho->Res):TI:=λσ H R=>∃ρ F,aR C.K C.F0 C.H0 F H σ ρ/\WantI C F H σ (g ρ) R
def PIv(C:Cw)(X:Cx)(tg e:Expr)(g:Rho->Res):Prop:=PI X tg e (tIv (C.at X) g)
def iM(z:Str):List D:=z.cps.toList.map λc=>.str ⟨#[c]⟩
def eT(r:Res):Res:=r.thn λ_ d=>match d with
 |.lst ds=>.ok .fz (.lst ds)
 |.tup ds=>.ok .fz (.lst ds)
 |.str z=>.ok .fz (.lst (iM z))
 |_=>.stuck
section
variable  {e:Expr}
def aCU{F:Hp}{a:Addr}(hq:SqT K F a xs)(r:aC K F ds xs):kR K F (Itt K a) ds where
 go:=λi H s hi=>by
  have hl:i<xs.length:=by rw[r.length];exact hi
  exact⟨xs,xs[i],aD.seqT s hq,by simp[hl]⟩
 stop:=λi H s hi=>⟨xs,aD.seqT s hq,by rw[r.length];exact hi⟩
 yld:=λi Fc H x H' s1 s2 hi y=>by obtain⟨rfl,y⟩:=y;have hx:=y xs (aD.seqT s2 (aD.seqT s1 hq));obtain⟨d,e,rd⟩:=r.get hx;exact⟨Fc,d,e,.refl s2,rd.mono s1 _ _⟩
def aCV{F:Hp}(hk:PyData.strOk z=true):kR K F (Its z) (iM z) where
 go:=λi H s hi=>by simpa[iM,Its]using hi
 stop:=λi H s hi=>by simpa[iM,Its]using hi
 yld:=λi Fc H x H' s1 s2 hi y=>by
  obtain⟨rfl,c,hc,rfl⟩:=y;refine⟨Fc,.str ⟨#[c]⟩,by simp[iM,hc],.refl s2,?_⟩
  simp only[aB,true_and];refine⟨by show 1<=sizeLine;decide,?_⟩
  unfold PyData.strOk at hk ⊢;rw[aN2]at hk;simpa using hk c (aN6 hc)
def aCW(h:PV C X e g):PIv C X tg e (λρ=>eT (aG (g ρ))):=by
 have h:=gN h;refine PI.imp (PI.or (yZ h) (PI.or (y0 h) (aCT h))) λσ H R q=>?_;obtain⟨ρ,F,RS,w⟩:=q;dsimp only at w;cases er:aG (g ρ)with
 |stuck=>rw[er]at w;exact w.elim
 |exc c=>refine .inl ?_;unfold mX;rw[aV];refine⟨ρ,F,RS,?_⟩;rw[er]at w ⊢;exact w
 |ok m d =>
  rw[er]at w;have hm:m=.fz:=by
   cases h:g ρ with
   |ok m' d'=>rw[h]at er;cases m' <;> cases er <;> rfl
   |exc c=>rw[h]at er;cases er
   |stuck=>rw[h]at er;cases er
  subst hm;cases d with
  |lst ds =>
   refine .inl ?_; unfold mX; rw [aV]; refine ⟨ρ, F, RS, ?_⟩; rw [er]; intro v F' H' st rp _; have rp : aB X.K F' (.lst ds) v := rp; simp only [aB] at rp; obtain ⟨a, xs, rfl, hq, r⟩ := rp; exact ⟨a, rfl, ⟨xs, st.sub.seq hq⟩, w _ F' H' st ⟨fun i H s hi => by
       have hl:i<xs.length:=by rw[r.length];exact hi
       exact⟨xs,xs[i],s.seq hq,by simp[hl]⟩,λi H s hi=>⟨xs,s.seq hq,by rw[r.length];exact hi⟩,λi Fc H x H' s1 s2 hi y=>by
       obtain⟨rfl,y⟩:=y;have hx:=y xs (s2.seq (s1.seq hq));obtain⟨d,e,rd⟩:=r.get hx;exact⟨Fc,d,e,.refl s2,rd.mono s1 _ _⟩⟩⟩
  |tup ds=>refine .inr (.inl ?_);unfold iTup;rw[aV];refine⟨ρ,F,RS,?_⟩;rw[er];intro v F' H' st rp _;have rp:aB X.K F' (.tup ds) v:=rp;simp only[aB]at rp;obtain⟨a,xs,rfl,hq,r⟩:=rp;exact⟨a,rfl,⟨xs,aD.seqT st.sub hq⟩,w _ F' H' st (aCU hq r)⟩
  |str z=>refine .inr (.inr ?_);unfold iStr;rw[aV];refine⟨ρ,F,RS,?_⟩;rw[er];intro v F' H' st rp _;obtain⟨rfl,hz,hk⟩:=Rp.str rp;exact⟨z,rfl,w _ F' H' st (aCV hk)⟩
  |_=>exact w.elim
def bD(lo hi:Int):List D:=(List.range (hi-lo).toNat).map λi=>.int (lo+(i:Nat))
def gP(r:aY):Res:=r.thn λxs=>match xs with
 |[(_,.int n)]=>if(decide (-(2 ^ 62)<=n)&&decide (n<2 ^ 62))=true then .ok .fz (.lst (bD 0 n))else .stuck
 |_=>.stuck
def aCX{F:Hp}{lo hi:Int}:kR K F (Itr lo (hi-lo).toNat) (bD lo hi) where
 go:=λi H s h=>by simpa[bD,Itr]using h
 stop:=λi H s h=>by simpa[bD,Itr]using h
 yld:=λi Fc H x H' s1 s2 h y=>by
  obtain⟨rfl,rfl⟩:=y;have h':i<(hi-lo).toNat:=by simpa[bD]using h
  refine⟨Fc,.int (lo+i),?_,.refl s2,by simp only[aB]⟩
  simp only[bD,aMY,aOA h',aOB]
def aCY{a:Expr}(hg:Gl X "range")(hm:X.mg "range" = none)(ha:PAv C X [a] gs)(hs:starEach [a] X.env=[(false,eval a X.env)]:=by rfl):PIv C X tg (.Call (.Name "range" p) [a] [] pos) (λρ=>gP (gs ρ)):=by
 refine PI.imp (y2 hg hm ha hs) λσ H R q=>?_;obtain⟨ρ,F,RS,w⟩:=q;dsimp only at w;unfold qG;refine⟨ρ,F,RS,?_⟩;cases er:gs ρ with
 |stuck=>rw[er]at w;exact w
 |exc c=>rw[er]at w;exact w
 |ok xs =>
  rw[er]at w;intro vs F' H' st rp;unfold gP at w;rw[aY.thn_ok]at w;split at w
  . rename_i m n;split at w
    . rename_i hc;rw[aNI,aNZ,aNZ]at hc;obtain⟨v,rfl,r⟩:=rp.one;cases r.int;have:=aCX (K:=X.K) (F:=F') (lo:=0) (hi:=n);rw[Int.sub_zero]at this;exact⟨n,rfl,hc.1,hc.2,w _ F' H' st this⟩
    . exact w.elim
  . exact w.elim
def PGv(C:Cw)(X:Cx)(tg:Expr)(k:D->Rho->Option Rho):Prop:=∃t:TG,PG X tg t/\∀F H σ ρ ρ' d v Q,aR X.K C.F0 C.H0 F H σ ρ->aB X.K F d v->k d ρ=some ρ' ->
 (∀σ' F' H',aD F F'->aR X.K C.F0 C.H0 F' H' σ' ρ'->Q σ' H')->t v σ H Q
noncomputable def bI(k:D->Rho->Option Rho)(body:Rho->aF):List D->Rho->aF
 |[],ρ=>.nx ρ
 |d::ds,ρ=>match k d ρ with
  |none=>.stuck
  |some ρ1=>match body ρ1 with
   |.nx ρ2=>bI k body ds ρ2
   |.ct ρ2=>bI k body ds ρ2
   |.bk ρ2=>.nx ρ2
   |r=>r
def dX(r:Res)(ρ:Rho)(k:D->Rho->Option Rho)(body:Rho->aF):aF:=r.thS ρ λ_ d=>match d with|.lst ds=>bI k body ds ρ|_=>.stuck
theorem aCZ{k:D->Rho->Option Rho}{h1:Rho->aF}(hp:PassesOwn (model X.prog X.w) X.A X.env X.xe)(hc:X.calm=true)(hi:PIv C X tg e g)(hg:PGv C X tg k)(hb:PBv C X body h1)(hs:∀x,foldedSetIterable e X.env x=pure x:=by intro _;rfl):PSv C X (.For tg e body [] pos) (λρ=>dX (g ρ) ρ k h1):=by
 obtain⟨t,ht,hk⟩:=hg;refine PS.imp (zB hp hc hi ht hb hs) λE σ H q=>?_;obtain⟨ρ,F,RS,w⟩:=q;dsimp only at w;unfold tFor;refine⟨ρ,F,RS,?_⟩;cases er:g ρ with
 |stuck=>rw[er]at w;exact w
 |exc c=>rw[er]at w;exact λF' H' s=>w σ F' H' s.fsame (RS.step s)
 |ok m d =>
  rw[er]at w;cases d with
  |lst ds =>
   intro J F1 H1 s1 hJ;have w:bX (C.at X) F1 (bI k h1 ds ρ) E:=bX.mono s1.fsame w;refine⟨λi m σ' H'=>m=ds.length-i/\i<=ds.length/\∃ρ' F',aD F1 F'/\aR X.K C.F0 C.H0 F' H' σ' ρ'/\bX (C.at X) F' (bI k h1 (ds.drop i) ρ') E,⟨ds.length,by simp,aMN _,ρ,F1,aD.refl _,RS.step s1,by simpa using w⟩,?_⟩
   rintro i m σ' H' ⟨rfl,hi,ρ',F',sF,R',w'⟩;by_cases hlt:i<ds.length
   . refine .inr ⟨hJ.go i H' (sF.trans R'.sub) hlt,λσ2 H2=>∃ρ2 F2,aD F1 F2/\aR X.K C.F0 C.H0 F2 H2 σ2 ρ2/\bX (C.at X) F2 (bI k h1 (ds.drop (i+1)) ρ2) E,λσ2 H2 ⟨ρ2,F2,a,b,c⟩=>⟨ds.length-(i+1),by lia,rfl,hlt,ρ2,F2,a,b,c⟩,λx H2 y=>?_⟩
     obtain⟨F2,d,ed,s2,rd⟩:=hJ.yld i F' H' x H2 sF R'.sub hlt y;have hd:ds.drop i=d::ds.drop (i+1):=by rw[List.drop_eq_getElem_cons hlt];rw[aOC hlt]at ed;cases ed;rfl
     rw[hd]at w';unfold bI at w';cases ek:k d ρ' with
     |none=>rw[ek]at w';exact w'.elim
     |some ρ1 =>
      rw[ek]at w';dsimp only at w';refine hk F2 H2 σ' ρ' ρ1 d x _ (R'.step s2) rd ek λσ3 F3 H3 z3 R3=>?_;have z13:aD F1 F3:=(sF.trans s2.fsame).trans z3;have w3:=bX.mono (s2.fsame.trans z3) w';refine⟨ρ1,F3,R3,?_⟩;cases eb:h1 ρ1 with
      |nx ρ2=>rw[eb]at w3;exact λσ4 F4 H4 z4 R4=>⟨ρ2,F4,z13.trans z4,R4,bX.mono z4 w3⟩
      |ct ρ2=>rw[eb]at w3;exact λσ4 F4 H4 z4 R4=>⟨ρ2,F4,z13.trans z4,R4,bX.mono z4 w3⟩
      |bk ρ2=>rw[eb]at w3;exact λσ4 F4 H4 z4 R4=>w3 σ4 F4 H4 z4 R4
      |rt m d=>rw[eb]at w3;exact w3
      |exc c ρ2=>rw[eb]at w3;exact w3
      |stuck=>rw[eb]at w3;exact w3
   . have ei:i=ds.length:=by lia
     subst ei;refine .inl ⟨hJ.stop _ H' (sF.trans R'.sub) (aL7 _),?_⟩;rw[List.drop_length]at w';exact w' σ' F' H' (aD.refl _) R'
  |_=>exact w.elim
end
end D3
namespace L2
theorem nF {env : Env} : ∀ (names : List (Str × NameKind)) (acc : List (Str × Addr)), (∀ y ∈ names, y.2 = .free → ∃ c, env.cells.lookup y.1 = some c) → (∀ y c, acc.lookup y = some c → env.cells.lookup y = some c) →
    ∃cl,(forIn names acc λ(x:Str×NameKind) (cs:List (Str×Addr))=>(if x.2 == .free then(do let c <- cellOf env x.1;pure (ForInStep.yield ((x.1,c)::cs)))else pure (ForInStep.yield cs):Sem (ForInStep (List (Str×Addr)))))=pure cl /\
     (∀y c,cl.lookup y=some c->env.cells.lookup y=some c)/\(∀y c,acc.lookup y=some c->cl.lookup y=some c)/\∀y,(y,NameKind.free)∈names->∃c,cl.lookup y=some c
 |[],acc,_,ha=>⟨acc,by rw[aOD],ha,λ_ _ h=>h,λ_ h=>by cases h⟩
 |(n,k)::r,acc,h,ha=>by
  rw[aOE];by_cases hk:k=.free
  . subst hk;obtain⟨c,ec⟩:=h (n,.free) mcs rfl;have hc:cellOf env n=pure c:=by unfold cellOf;rw[ec]
    have e:((if(NameKind.free==NameKind.free)=true then(do let c <- cellOf env n;pure (ForInStep.yield ((n,c)::acc)))else pure (ForInStep.yield acc)):Sem (ForInStep (List (Str×Addr))))=pure (ForInStep.yield ((n,c)::acc)):=by rw[if_pos (by decide),hc,aOF]
    obtain⟨cl,e1,e2,e3,e4⟩:=nF (env:=env) r ((n,c)::acc) (λy hy=>h y (mcm hy)) (λy c' q=>by
     rw[aNY]at q;cases hyn:y==n with
     |true=>rw[hyn]at q;cases q;rw[aMG.mp hyn];exact ec
     |false=>rw[hyn]at q;exact ha y c' q)
    refine⟨cl,?_,e2,λy c' q=>?_,λy hy=>?_⟩
    . dsimp only;rw[e,aOF];exact e1
    . cases hyn:y==n with
      |true=>have:=aMG.mp hyn;subst this;have q':=ha y c' q;rw[ec]at q';cases q';exact e3 y c (by rw[aNY,hyn])
      |false=>exact e3 y c' (by rw[aNY,hyn];exact q)
    . rcases aLU.mp hy with z|z
      . cases z;exact⟨c,e3 n c (by rw[aNY,aOG])⟩
      . exact e4 y z
  . have e:((if(k==NameKind.free)=true then(do let c <- cellOf env n;pure (ForInStep.yield ((n,c)::acc)))else pure (ForInStep.yield acc)):Sem (ForInStep (List (Str×Addr))))=pure (ForInStep.yield acc):=by rw[if_neg (by simpa using hk)]
    obtain⟨cl,e1,e2,e3,e4⟩:=nF (env:=env) r acc (λy hy=>h y (mcm hy)) ha;refine⟨cl,?_,e2,e3,λy hy=>?_⟩
    . dsimp only;rw[e,aOF];exact e1
    . rcases aLU.mp hy with z|z
      . cases z;exact absurd rfl hk
      . exact e4 y z
def aC0(h:∀y∈scope.names,y.2=.free->∃c,env.cells.lookup y.1=some c):∃cl,closureFor scope env=pure cl/\(∀y c,cl.lookup y=some c->env.cells.lookup y=some c)/\∀y,(y,NameKind.free)∈scope.names->∃c,cl.lookup y=some c:=by
 obtain⟨cl,e1,e2,_,e4⟩:=nF (env:=env) scope.names [] h (λy c q=>by simp at q)
 refine⟨cl,?_,e2,e4⟩;unfold closureFor;rw[bind_pure];exact e1
def aC1(bV:∀y∈scope.names,y.2 ≠ .cell)(h:(relabel scope env).names.lookup x=some .cell\/(relabel scope env).names.lookup x=some .free):(x,NameKind.free)∈scope.names:=by
 unfold relabel at h;dsimp only at h;have go:∀(l:List (Str×NameKind)),(∀y∈l,y.2 ≠ .cell)->((l.map λ(n,k)=>if(k==NameKind.free&&env.scope.kind == .function&&env.kindOf n==some .cell)then(n,NameKind.cell)else(n,k)).lookup x=some .cell\/(l.map λ(n,k)=>if(k==NameKind.free&&env.scope.kind == .function&&env.kindOf n==some .cell)then(n,NameKind.cell)else(n,k)).lookup x=some .free)->(x,NameKind.free)∈l:=by
  intro l
  induction l with
  |nil=>intro _ h;simp at h
  |cons y l ih =>
   intro hc h;obtain⟨n,k⟩:=y;rw[aMI]at h;by_cases hx:x=n
   . subst hx;have hk:k=.free:=by
       by_cases hk:k=.free
       . exact hk
       . have e:(k==NameKind.free&&env.scope.kind == .function&&env.kindOf x==some .cell)=false:=by
           have:(k==NameKind.free)=false:=by simpa using hk
           rw[this];rfl
         simp only[e,aNV,aM9,aNY,aOG]at h;rcases h with h|h
         . cases h;exact absurd rfl (hc _ mcs)
         . cases h;exact absurd rfl hk
     subst hk;exact mcs
   . have hb:(x==n)=false:=by simpa using hx
     have hh:∀(kk:NameKind) (l':List (Str×NameKind)),((n,kk)::l').lookup x=l'.lookup x:=λkk l'=>by rw[aNY,hb]
     by_cases hcond:(k==NameKind.free&&env.scope.kind == .function&&env.kindOf n==some .cell)=true
     . dsimp only at h;rw[if_pos hcond,hh]at h;exact mcm (ih (λy hy=>hc y (mcm hy)) h)
     dsimp only at h;rw[if_neg hcond,hh]at h;exact mcm (ih (λy hy=>hc y (mcm hy)) h)
 exact go scope.names bV h
noncomputable def bB(X:Cx)(scope:Scope)(N:List Str)(cl:List (Str×Addr))(C:Addr)(fp:List Addr)(s3:aP1)(H3:Hp):Cx where
 prog:=X.prog
 w:=X.w
 K:=X.K
 mg:=X.mg
 base:=X.base
 A:=X.A
 N:=N
 s₀:=s3
 H₀:=H3
 env:=compEnvC scope cl C X.env
 outer:=X.stack
 stack:=X.stack
 ex:=fp
 fn:=λ_=>false
 calm:=X.calm
 pn:=[]
 xe:=λ_ _=>False
def cV(X:Cx)(cs:List Expr)(t:TT):Prop :=
 ∀(aA:LAO) (s:aP1) (σ:St) (H:Hp) (Q:Bool->Hp->Prop),Inv X aA σ H s->t σ H Q ->
  wpAny (model X.prog X.w) X.A (forIn cs true λc r=>if r=true then do let ok <- isTrue c X.env (eval c X.env);pure (ForInStep.yield ok)else pure (ForInStep.yield r)) (TP X aA σ Q) X.xe s
def aC2:cV X [] (λ_ H Q=>Q true H):=λaA s σ H Q I h=>by rw[aOD];exact aL5 ⟨H,I,h⟩
theorem rR{X:Cx}:∀cs:List Expr,(forIn cs false λc r=>if r=true then do let ok <- isTrue c X.env (eval c X.env);pure (ForInStep.yield ok)else pure (ForInStep.yield r):Sem Bool)=pure false
 |[]=>by rw[aOD]
 |c::cs=>by rw[aOE,if_neg aMF,aOF];exact rR cs
def aC3{cs:List Expr}{t u:TT}(hc:PT X c t)(hr:cV X cs u):cV X (c::cs) (mU t u):=λaA s σ H Q I h=>by
 rw[aOE,if_pos rfl];refine aL6 (aL6 (thn (hc aA s σ H _ I h) λb s1 ⟨H1,I1,q1⟩=>aL5 ?_));cases b with
 |true=>rw[if_pos rfl]at q1;exact hr aA s1 σ H1 Q I1 q1
 |false=>rw[if_neg aMF]at q1;dsimp only;rw[rR];exact aL5 ⟨H1,I1,q1⟩
section
variable {A:aP2}{R:Result->aP1->Prop}
def aC4 {elt target aS : Expr} {ifs : List Expr} {scope : Scope} {pos : Pos} {it acc : aP0} {env : Env} (I : Nat → aP1 → Prop) (turn : ∀ n s, I n s → wpAny (model prog w) A (pyNext it) (fun r s1 => match r with
      |none=>R (.ok .next) s1
      | some v => wpAny (model prog w) A (letOwnedTupleGo target it v) (fun _ s1' => wpAny (model prog w) A (assign target env v) (fun _ s2 =>
          wpAny (model prog w) A (forIn ifs true λc r=>if r=true then do let ok <- isTrue c env (eval c env);pure (ForInStep.yield ok)else pure (ForInStep.yield r)) (λok s3 =>
           if ok=true then wpAny (model prog w) A (eval elt env) (λx s4 =>
            wpAny (model prog w) A (call (.builtin "list.append") [acc,x]) (λ_ s5=>∃m,m<n/\I m s5) (λ_ _=>False) s4) (λ_ _=>False) s3
           else ∃ m, m < n ∧ I m s3) (fun _ _ => False) s2) (fun _ _ => False) s1') (fun _ _ => False) s1) (fun _ _ => False) s)
    (n:Nat) (h:I n s) :
    codeAny (model prog w) A (.compLoop (.ListComp elt [⟨target,aS,ifs,0⟩] scope pos) 0 it acc env) R s:=by
 refine codeAny_loop rfl I (λn s hI=>?_) n h;show wpAny _ A ((compTurn (.ListComp elt [⟨target,aS,ifs,0⟩] scope pos) 0 it acc env).onRaise (λx=>do noteFrame x env;theTreesLotGoes x)) _ _ s
 refine wpAny_noted ?_;rw[compTurn_list];refine aL6 (aMP (aL6 (aL1 (turn n s hI) (λr s1 h1=>?_) λ_ _ h'=>h'.elim)));cases r with
 |none=>exact aL5 h1
 |some v =>
  refine aL6 (aL1 h1 (λ_ s1' h1'=>?_) λ_ _ h'=>h'.elim);refine aL6 (aL1 h1' (λ_ s2 h2=>aL6 (aL1 h2 (λok s3 h3=>?_) λ_ _ h'=>h'.elim)) λ_ _ h'=>h'.elim);cases ok with
  |false=>exact aL5 ⟨rfl,h3⟩
  |true=>exact aL6 (aL6 (aL1 h3 (λx s4 h4=>aL6 (aL1 h4 (λ_ s5 h5=>aL5 (aL5 ⟨rfl,h5⟩)) λ_ _ h'=>h'.elim)) λ_ _ h'=>h'.elim))
end
def c8(caps:List Nat)(σ:St):St:=caps.map λi=>(σ[i]?).getD none
def Weak(σ σ':St):Prop:=σ.length=σ'.length/\∀(j:Nat) v,σ[j]? = some (some v)->σ'[j]? = some (some v)
def jP(caps:List Nat)(k:Nat)(wi:TI)(gt:TG)(tt:TT)(te:TE):TE:=λσ H Q=>wi σ H λJ H1=>∀D,H1 D=none ->
 ∃W:Nat->Nat->List V->Hp->Prop,(∃m,W 0 m [] (upd H1 D (.lst [])))/\∀i m ys H,W i m ys H->H D=some (.lst ys) /\
  ((J.stop i H/\Q (.ref D) H)\/(J.go i H/\ys.length<sizeLine/\∀x H',J.yld i H x H'->gt x (c8 caps σ++List.replicate k none) H' λσ2 H2=>Weak (c8 caps σ++List.replicate k none) σ2/\tt σ2 H2 λb H3 =>
   if b=true then te σ2 H3 λy H4=>H4 D=some (.lst ys)/\∃m',m'<m/\W (i+1) m' (ys++[y]) (upd H4 D (.lst (ys++[y])))else ∃m',m'<m/\W (i+1) m' ys H3))
def rS{gt:TG}{use:Option (aP0->Sem Unit)}{QQ:VSP}{σ:St}{Q:VK}(hc:X.calm=true)(hi:PI X tg aS wi)(bV:∀y∈scope.names,y.2 ≠ .cell)(cJ:scope.kind=.function)(eM:∀y∈scope.names,y.2=.local->scope.names.lookup y.1=some .local)(cY:∀y∈scope.names,y.2=.free->X.env.kindOf y.1=some .cell\/X.env.kindOf y.1=some .free)(dM:aI.map some=caps.map λi=>X.N[i]?)(eO:∀y∈aI,(y,NameKind.free)∈scope.names)(eN:∀y∈aI,(relabel scope X.env).names.lookup y=some .cell\/(relabel scope X.env).names.lookup y=some .free)(hg:∀cl C fp s3 H3,PG (bB X scope (aI++tgN) cl C fp s3 H3) tg gt)(hf:∀cl C fp s3 H3,cV (bB X scope (aI++tgN) cl C fp s3 H3) ifs tt)(he:∀cl C fp s3 H3,PE (bB X scope (aI++tgN) cl C fp s3 H3) elt te)(hs:∀x,foldedSetIterable aS X.env x=pure x)(I:Inv X aA σ H s)(h:jP caps tgN.length wi gt tt te σ H Q)(hend:∀(D Z:Addr) (s6:aP1) (H5:Hp),(∃m,s6.heap.Ns Z m)->(∀h'',Heap.SameBut Z s6.heap h''->Inv X aA σ H5 {s6 with heap:=h''})->H5 Z=none->X.s₀.heap.objs.size<=Z->Z≠X.env.locals->(∀x c,X.env.cells.lookup x=some c->c≠Z)->(∀p∈X.pn++aA,p.1≠Z)->Q (.ref D) H5->compPost (model X.prog X.w) X.A X.xe use QQ (.ref D) Z (.ok .next) s6):wpAny (model X.prog X.w) X.A (comprehension (.ListComp elt [⟨tg,aS,ifs,0⟩] scope pos) scope X.env (firstIterPos [⟨tg,aS,ifs,0⟩] pos) (newList []) (firstAsync [⟨tg,aS,ifs,0⟩]) (firstIter [⟨tg,aS,ifs,0⟩] X.env) use) QQ X.xe s:=by
 obtain⟨cl,hclos,clsub,clhas⟩:=aC0 (scope:=scope) (env:=X.env) λy hy hk=>I.ok.has y.1 (cY y hy hk);refine wpAny_comprehension_free (use:=use) rfl hs hclos cJ eM (thn (hi aA s σ H _ I h) λv s1 h1=>thn h1 λitv s2 h2=>?_);obtain⟨it,fp,tn,J,H2,e,I2,T,st2,f2,q⟩:=h2;subst e;refine aNJ ?_;have hn:H2 s2.heap.objs.size=none:=I2.hok.fresh (aL7 _);obtain⟨W,⟨m0,w0⟩,turn⟩:=q s2.heap.objs.size hn;have I3:Inv X aA σ (upd H2 s2.heap.objs.size (.lst [])) { s2 with heap:=s2.heap.push { cls:=.type "list", dict:=none,data:=.seq ([]:List aP0).toArray } } :=
  I2.laid (t':=s2.toks) (λb u e=>hps e) (aL7 _) ⟨aMN _,[],0,.nil,aLK _ rfl⟩
 generalize hs3:({ s2 with heap:=s2.heap.push { cls:=.type "list", dict:=none,data:=.seq ([]:List aP0).toArray } }:aP1)=s3 at I3 ⊢
 generalize hH3:upd H2 s2.heap.objs.size (.lst [])=H3 at I3 w0;have fpl:∀b∈fp,b<s2.heap.objs.size:=λb hb=>by obtain⟨o,eo,_⟩:=T.obj 0 _ st2 b hb;exact aLL eo
 have sz3:s3.heap.objs.size=s2.heap.objs.size+1:=by rw[<- hs3];exact aMK _ _
 have keep23:∀b o,s2.heap.get? b=some o->s3.heap.get? b=some o:=λb o e=>by rw[<- hs3];exact hps e
 have hDf:s2.heap.objs.size∉fp:=λhb=>aLN _ (fpl _ hb);refine wpAny_newFunctionEnv bV (by intro y hy;simp at hy) (λh4 hns hsb=>?_) cJ
 try dsimp only at hns hsb ⊢
 have keep34:∀b o,s3.heap.get? b=some o->h4.get? b=some o:=λb o e=>hsb.extBut b o (aLO (aLL e)) (hps e);have nostk:∀b∈fp,b∉frs X.stack:=λb hb z=>by
  obtain⟨_,f1,f2',_⟩:=f2 b hb;rcases aLU.mp (I2.stkSub b z)with q|q
  . exact f1 q
  . exact f2' q
 have okc:(bB X scope (aI++tgN) cl s3.heap.objs.size fp s3 H3).Ok :=
  { mod:=I3.ok.mod
    kind:=cJ
    glob:=I3.ok.glob
    blt:=I3.ok.blt
    above:=aL7 _
    inj:=λx y c h1 h2=>I3.ok.inj x y c (clsub x c h1) (clsub y c h2)
    has:=λx hx=>clhas x (aC1 bV hx)
    cab:=λx c z=>by cases z
    hd:=I3.ok.hd
    frames:=I3.ok.frames
    stk:=.inl rfl
    exf:=λb hb=>⟨aLO (by show b<s3.heap.objs.size;rw[sz3];exact Nat.lt_succ_of_lt (fpl b hb)),λx c e=>(f2 b hb).2.2.2.2.1 x c (clsub x c e)⟩
    bs:=I3.bs
    bsz:=aLS I3.ok.bsz I3.sz
    noex:=λb o e hb=>by
     obtain⟨_,_,_,f3,_⟩:=f2 b hb;rcases f3 with z|z
     . exact I2.ok.noex b o e z
     . exact absurd (aLL (I2.ok.bs b o e).1) (Nat.not_lt.mpr z)
    exfs:=nostk
    funs:=I3.stack
    frf:=I3.stkFree
    tabs:=I3.ok.tabs.mono I3.base.tbls }
 have capLen:aI.length=caps.length:=by have:=congrArg List.length dM;simpa using this
 generalize hσ0:c8 caps σ++List.replicate tgN.length none=σ0 at turn;have Ic:Inv (bB X scope (aI++tgN) cl s3.heap.objs.size fp s3 H3) [] σ0 H3 {s3 with heap:=h4,toks:=s3.toks+([]:List (Str×aP0)).length}:=by
  refine⟨okc,rfl,I3.bare,Un.kept keep34,⟨_,hns,λi y v h1 h2 h3=>?_⟩,λx c e=>?_,I3.hok.fresh (aL7 _),λx c e=>I3.freeC x c (clsub x c e),λp hp=>absurd (show p∈([]:LAO)from hp) (by simp),I3.hok.kept keep34,?_⟩
  . by_cases hi:i<caps.length
    . have ey:aI[i]? = some y:=by have h1:(aI++tgN)[i]? = some y:=h1;rw[aMX (by rw[capLen];exact hi)]at h1;exact h1
      have hj:X.N[caps[i]]? = some y:=by
       have e1:(aI.map some)[i]? = (caps.map λi=>X.N[i]?)[i]?:=by rw[dM]
       rw[aMY,aMY,ey,aOC hi]at e1;simpa using e1.symm
      have ev:σ[caps[i]]? = some (some v):=by
       rw[<- hσ0,aMX (by simpa[c8]using hi)]at h2
       unfold c8 at h2;rw[aMY,aOC hi]at h2;simp only[aOB,aNX]at h2;cases z:σ[caps[i]]? with
       |none=>rw[z]at h2;cases h2
       |some o=>rw[z]at h2;exact congrArg some h2
      have hyf:=eO y (aMZ ey);have hkX:=cY _ hyf rfl;obtain⟨m,_,hl⟩:=I3.loc;obtain⟨u,ru,lk⟩:=hl caps[i] y v hj ev (by rcases hkX with z|z;exact .inr (.inl z);exact .inr (.inr z))
      refine⟨u,ru,.inr ⟨eN y (aMZ ey),?_⟩⟩;rcases lk with⟨hk,_⟩|⟨_,c,ec,ic⟩
      . rcases hkX with z|z
        . rw[show X.env.kindOf y=some .cell from z]at hk;cases hk
        . rw[show X.env.kindOf y=some .free from z]at hk;cases hk
      . obtain⟨c',ec'⟩:=clhas y hyf;have:=clsub y c' ec';rw[ec]at this;cases this;exact⟨c,ec',ic.keeps keep34⟩
    . rw[<- hσ0,aMV (by simpa[c8]using hi),aMW]at h2
      split at h2 <;> cases h2
  . obtain⟨v,q⟩:=I3.cell x c (clsub x c e);exact⟨v,q.keeps keep34⟩
  . rw[<- hσ0];show(c8 caps σ++List.replicate tgN.length none).length=(aI++tgN).length;simp[c8,capLen]
 have fpc:∀{H':Hp},(∀b∈fp,H' b=none)->∀b∈fp,cG (bB X scope (aI++tgN) cl s3.heap.objs.size fp s3 H3) [] H' b:=λhn b hb =>
  ⟨hn b hb,(okc.exf b hb).1,nostk b hb,.inl hb,(okc.exf b hb).2,λp hp=>absurd (show p∈([]:LAO)from hp) (by simp)⟩
 have loop:codeAny (model X.prog X.w) X.A (.compLoop (.ListComp elt [⟨tg,aS,ifs,0⟩] scope pos) 0 (.ref it) (.ref s2.heap.objs.size) (compEnvC scope cl s3.heap.objs.size X.env)) (compPost (model X.prog X.w) X.A X.xe use QQ (.ref s2.heap.objs.size) s3.heap.objs.size) {s3 with heap:=h4,toks:=s3.toks+([]:List (Str×aP0)).length}:=by
  refine aC4 (λn s'=>∃i ys H',Inv (bB X scope (aI++tgN) cl s3.heap.objs.size fp s3 H3) [] σ0 H' s'/\tn i s'.heap/\(∀b∈fp,H' b=none)/\W i n ys H') ?_ m0
   ⟨0,[],H3,Ic,T.keep _ _ _ st2 (λb hb o e=>keep34 b o (keep23 b o e)),λb hb=>by rw[<- hH3,aK (by intro z;rw[z]at hb;exact hDf hb)];exact(f2 b hb).1,w0⟩
  rintro n s5 ⟨i,ys,H5,I5,st5,fr5,w5⟩;obtain⟨hD,hw⟩:=turn i n ys H5 w5;rcases hw with⟨stop,qq⟩|⟨go,hlen,step⟩
  . refine thn (T.done (bB X scope (aI++tgN) cl s3.heap.objs.size fp s3 H3) rfl rfl rfl hc i [] s5 σ0 H5 _ I5 (fpc fr5) st5 stop) λr s6 ⟨hr,I6⟩=>?_;subst hr;obtain⟨m,hm,_⟩:=id I6.loc;refine hend s2.heap.objs.size s3.heap.objs.size s6 H5 ⟨m,hm⟩ (λh'' hsb2=>?_) I6.free I3.sz (λz=>?_) (λx c ec z=>?_) (λp hp z=>?_) qq;rotate_left
    . obtain⟨m,⟨o,es,ep,ho,_⟩,_⟩:=id I3.loc;rw[<- z]at ho;exact aLN _ (aLL ho)
    . obtain⟨v,o,ho,_⟩:=I3.cell x c ec;rw[z]at ho;exact aLN _ (aLL ho)
    . have:=(I3.pin p hp).1;rw[z]at this;exact aLN _ (aLL this)
    have u:=I6.base;have neC:∀b o,s3.heap.get? b=some o->b≠s3.heap.objs.size:=λb o e=>aLO (aLL e);have un:Un (frs X.stack) fp H3 H5 s3.heap h'':=by
     refine⟨λb o e n hb hx=>hsb2.extBut b o (neC b o e) (u.keep b o e n hb hx),λb o e n hb hx=>?_,u.free,λb o e hx=>?_,u.tups,u.frzs,u.tbls⟩
     . obtain⟨sl,q⟩:=u.slot b o e n hb hx;exact⟨sl,hsb2.extBut b _ (neC b o e) q⟩
     . obtain⟨o',q⟩:=u.there b o e hx;exact⟨o',hsb2.extBut b _ (neC b o e) q⟩
    have hok : HOk X.prog X.w H5 h'' := fun a o e => (I6.hok a o e).stay (fun b v hb q => hsb2.extBut b v (by
        intro z;have fr:=I6.free;rcases hb with hb|hb
        . rw[hb]at z;rw[z]at e;rw[show H5 s3.heap.objs.size=none from fr]at e;cases e
        . rw[z,show H5 s3.heap.objs.size=none from fr]at hb;cases hb) q) (λ_ q=>q) λ_ _ q=>q
    have os6:=I6.os;obtain⟨hh,g6,d6,t6,o6⟩:=s6;obtain rfl:o6=s3.os:=os6;have I8:=I3.call (h':=h'') (g':=g6) (d':=d6) (t':=t6) (ch:=fp) un hok I6.bare λb hb=>by obtain⟨_,f1,_,f3,f4,f5⟩:=f2 b hb;exact⟨f3,f1,f4,f5⟩
    exact I8
  . refine thn (T.item (bB X scope (aI++tgN) cl s3.heap.objs.size fp s3 H3) rfl rfl rfl hc i [] s5 σ0 H5 _ I5 (fpc fr5) st5 go) λr s6 ⟨u,hr,h6⟩=>?_;subst hr;refine thn h6 λ_ s7 ⟨x,H7,I7,r7,y7,st7,fr7⟩=>?_;have I7':=I7.pinned (fpc fr7) (T.obj _ _ st7);refine thn (hg cl s3.heap.objs.size fp s3 H3 _ s7 σ0 H7 x u _ I7' r7 (step x H7 y7)) λ_ s8 ⟨σ8,H8,I8,wk,q8⟩=>?_;have back:∀{H':Hp}{s':aP1}{m':Nat}{ys':List V},Inv (bB X scope (aI++tgN) cl s3.heap.objs.size fp s3 H3) ([]++jH fp s7.heap) σ8 H' s'->m'<n->W (i+1) m' ys' H' ->
        ∃m,m<n/\∃i ys H',Inv (bB X scope (aI++tgN) cl s3.heap.objs.size fp s3 H3) [] σ0 H' s'/\tn i s'.heap/\(∀b∈fp,H' b=none)/\W i m ys H':=λ{H' s' m' ys'} I' hm w'=>by
      have pinned:∀b∈fp,∀o,s7.heap.get? b=some o->s'.heap.get? b=some o/\H' b=none:=λb hb o e=>by have:=I'.pin (b,o) (aMA _ (aMA _ (mY hb e)));exact⟨this.1,this.2.1⟩
      refine⟨m',hm,i+1,ys',H',I'.unpinned.weak wk.1 wk.2,T.keep _ _ _ st7 λb hb o e=>(pinned b hb o e).1,λb hb=>?_,w'⟩;obtain⟨o,e,_⟩:=T.obj _ _ st7 b hb;exact(pinned b hb o e).2
    refine thn (hf cl s3.heap.objs.size fp s3 H3 _ s8 σ8 H8 _ I8 q8) λb s9 ⟨H9,I9,q9⟩=>?_;cases b with
    |false=>rw[if_neg aMF]at q9 ⊢;obtain⟨m',hm,w9⟩:=q9;exact back I9 hm w9
    |true =>
     rw[if_pos rfl]at q9 ⊢;refine thn (he cl s3.heap.objs.size fp s3 H3 _ s9 σ8 H9 _ I9 q9) λy s10 ⟨yv,H10,I10,r10,hD10,m',hm,w10⟩=>?_;refine thn (rA (X:=bB X scope (aI++tgN) cl s3.heap.objs.size fp s3 H3) _ s10 σ8 H10 (.ref s2.heap.objs.size) [yv] (.ref s2.heap.objs.size) [y] (λv H'=>v=.non/\H'=upd H10 s2.heap.objs.size (.lst (ys++[yv]))) I10 rfl (.cons r10 .nil)
      ⟨s2.heap.objs.size,ys,yv,rfl,rfl,hD10,hlen,rfl,rfl⟩) λ_ s11 ⟨v,H11,I11,_,_,e11⟩=>?_
     subst e11;exact back I11 hm w10
 exact codeAny_compStart_list loop (T.self _ 0 _ _ _ (T.keep _ _ _ st2 (λb hb o e=>keep34 b o (keep23 b o e))) loop)
def aC5{gt:TG}(hc:X.calm=true)(hi:PI X tg aS wi)(bV:∀y∈scope.names,y.2 ≠ .cell)(cJ:scope.kind=.function)(eM:∀y∈scope.names,y.2=.local->scope.names.lookup y.1=some .local)(cY:∀y∈scope.names,y.2=.free->X.env.kindOf y.1=some .cell\/X.env.kindOf y.1=some .free)(dM:aI.map some=caps.map λi=>X.N[i]?)(eO:∀y∈aI,(y,NameKind.free)∈scope.names)(eN:∀y∈aI,(relabel scope X.env).names.lookup y=some .cell\/(relabel scope X.env).names.lookup y=some .free)(hg:∀cl C fp s3 H3,PG (bB X scope (aI++tgN) cl C fp s3 H3) tg gt)(hf:∀cl C fp s3 H3,cV (bB X scope (aI++tgN) cl C fp s3 H3) ifs tt)(he:∀cl C fp s3 H3,PE (bB X scope (aI++tgN) cl C fp s3 H3) elt te)(hs:∀x,foldedSetIterable aS X.env x=pure x:=by intro _;rfl):PE X (.ListComp elt [⟨tg,aS,ifs,0⟩] scope pos) (jP caps tgN.length wi gt tt te):=by intro aA s σ H Q I h;rw[eval_ListComp];exact rS (use:=none) hc hi bV cJ eM cY dM eO eN hg hf he hs I h λD Z s6 H5 hm hI _ _ _ _ _ q=>by obtain⟨m,hm⟩:=hm;exact⟨m,hm,λh'' hs=>⟨.ref D,H5,hI h'' hs,rfl,q⟩⟩
def Inv.dropped{σ:St}{h'':Heap}{Z:Addr}(I:Inv X aA σ H s)(hs:Heap.SameBut Z s.heap h'')(hz:H Z=none)(h0:X.s₀.heap.objs.size<=Z)(h1:Z≠X.env.locals)(h2:∀x c,X.env.cells.lookup x=some c->c≠Z)(h3:∀p∈X.pn++aA,p.1≠Z):Inv X aA σ H {s with heap:=h''}:=by
 have un:Un (frs X.stack) [Z] H H s.heap h'':=by
  have k:∀b o,s.heap.get? b=some o->b∉[Z]->h''.get? b=some o:=λb o e hb=>hs.extBut b o (λz=>hb (by rw[z];exact mcs)) e
  exact⟨λb o e _ _ hx=>k b o e hx,λb o e _ _ hx=>⟨o.slots,k b o e hx⟩,λ_ _ _ n _=>n,λb o e hx=>⟨o,k b o e hx⟩,λ_ _ q=>q,λ_ _ _ q=>q,λ_ ps q=>⟨#[],by simpa using q⟩⟩
 have hok:HOk X.prog X.w H h'':=λa o e=>(I.hok a o e).stay (λb v hb q=>hs.extBut b v (by
  rintro rfl;rcases hb with hb|hb
  . rw[hb,e]at hz;cases hz
  . rw[hz]at hb;cases hb) q) (λ_ q=>q) λ_ _ q=>q
 obtain⟨hh,g,d,t,o⟩:=s;exact I.call (g':=g) (d':=d) (t':=t) (ch:=[Z]) un hok I.bare λb hb=>by
  obtain rfl:b=Z:=by simpa using hb
  exact⟨.inr h0,h1,h2,h3⟩
def aC6{spos:Pos}{gt:TG}(hc:X.calm=true)(hi:PI X tg aS wi)(bV:∀y∈scope.names,y.2 ≠ .cell)(cJ:scope.kind=.function)(eM:∀y∈scope.names,y.2=.local->scope.names.lookup y.1=some .local)(cY:∀y∈scope.names,y.2=.free->X.env.kindOf y.1=some .cell\/X.env.kindOf y.1=some .free)(dM:aI.map some=caps.map λi=>X.N[i]?)(eO:∀y∈aI,(y,NameKind.free)∈scope.names)(eN:∀y∈aI,(relabel scope X.env).names.lookup y=some .cell\/(relabel scope X.env).names.lookup y=some .free)(hg:∀cl C fp s3 H3,PG (bB X scope (aI++tgN) cl C fp s3 H3) tg gt)(hf:∀cl C fp s3 H3,cV (bB X scope (aI++tgN) cl C fp s3 H3) ifs tt)(he:∀cl C fp s3 H3,PE (bB X scope (aI++tgN) cl C fp s3 H3) elt te)(hN:X.N.Nodup)(hx:X.N[i]? = some x)(hk:X.env.scope.names.lookup x=some .local)(hsw:swapsWith (.ListComp elt [⟨tg,aS,ifs,0⟩] scope pos) (some (.Name x pos')) spos.line X.env=pure true)(hs:∀x,foldedSetIterable aS X.env x=pure x:=by intro _;rfl):PS X (.Assign [.Name x pos'] (.ListComp elt [⟨tg,aS,ifs,0⟩] scope pos) spos) (jF (jP caps tgN.length wi gt tt te) (jE i)):=by
 intro aA s σ H En I h;rw[exec_Assign_Name_used _ _ _ _ hsw];refine aL6 (aMP (aL6 ?_));show wpAny _ X.A (comprehension (.ListComp elt [⟨tg,aS,ifs,0⟩] scope pos) scope X.env (firstIterPos [⟨tg,aS,ifs,0⟩] pos) (newList []) (firstAsync [⟨tg,aS,ifs,0⟩]) (firstIter [⟨tg,aS,ifs,0⟩] X.env) (some (assign (.Name x pos') X.env))>>=_) _ _ s;refine aL6 (rS (use:=some (assign (.Name x pos') X.env)) hc hi bV cJ eM cY dM eO eN hg hf he hs I h λD Z s6 H5 hm hI hz h0 h1 h2 h3 q=>?_);obtain⟨m,hm⟩:=hm;have I6:=hI s6.heap (Heap.SameBut.refl _ _);refine wpAny_assign_Name (pZ I6 hN hx (.inl hk) (show aH (.ref D) (.ref D)from rfl) (λs' I' hch=>?_) (.inr hk))
 obtain⟨a,sb,ha⟩:=hch;have na:Z≠a:=by
  rcases ha with rfl|ha
  . exact h1
  . exact λz=>h2 x a ha z.symm
 exact⟨m,hm.sameBut sb na,λh'' hs2=>aL5 (aL5 ⟨_,H5,I'.dropped hs2 hz h0 h1 h2 h3,q⟩)⟩
end L2
namespace D3
def bT(caps:List Nat)(ρ:Rho):Rho:=caps.map λi=>match ρ[i]? with|some (some (false,d))=>some (false,d)|_=>none
def fD(k:D->Rho->Option Rho)(t e:Rho->Res)(ρ0:Rho):List D->Option (List D)
 |[]=>some []
 |d::ds=>match k d ρ0 with
  |none=>none
  |some ρ1=>match t ρ1 with
   |.ok _ (.bl true)=>(match aG (e ρ1)with|.ok _ y=>(fD k t e ρ0 ds).map (y :: ·)|_=>none)
   |.ok _ (.bl false)=>fD k t e ρ0 ds
   |_=>none
def eU(src:Res)(ρ:Rho)(caps:List Nat)(n:Nat)(k:D->Rho->Option Rho)(t e:Rho->Res):Res:=src.thn λ_ d=>match d with
 |.lst ds=>if ds.length<sizeLine then(match fD k t e (bT caps ρ++List.replicate n none) ds with|some ys=>.ok .fr (.lst ys)|none=>.stuck)else .stuck
 |_=>.stuck
abbrev Cw.nox(C:Cw):Cw:={C with EE:=λ_ _ _=>False}
theorem aE.upd{F:Hp}{x:Addr}{o:HO}(st:aE F H F' H')(hx:H x=none)(hx':F' x=none):aE F H F' (L2.upd H' x o) :=
 ⟨λb u q=>by rw[aK (bL q hx)];exact st.same b u q,st.fsame,λb u q=>by rw[aK (bL q hx')];exact st.sub b u q,st.new⟩
section
variable {e:Expr}
def aC7:cV X [] (tT (C.at X) λ_=>.ok .fz (.bl true)):=λaA s σ H Q I h=>by obtain⟨ρ,F,R,w⟩:=h;exact aC2 aA s σ H Q I (w F H (.refl R.sub))
def aC8{cs:List Expr}(hc:PTv C X c ga)(hr:cV X cs (tT (C.at X) gb)):cV X (c::cs) (tT (C.at X) λρ=>dU (ga ρ) (gb ρ)):=λaA s σ H Q I h =>
 aC3 hc hr aA s σ H Q I (rL h)
def aC9{F:Hp}(caps:List Nat)(n:Nat)(R:aR K F0 H0 F H σ ρ):aR K F0 H0 F H (c8 caps σ++List.replicate n none) (bT caps ρ++List.replicate n none):=by
 have low:∀(i:Nat) (m:Bool) (d:D),(bT caps ρ++List.replicate n none)[i]? = some (some (m,d))->m=false/\∃v,(c8 caps σ++List.replicate n none)[i]? = some (some v)/\aB K F d v:=λi m d e=>by
  by_cases hi:i<caps.length
  . rw[aMX (by simpa[bT]using hi)]at e
    rw[aMX (by simpa[c8]using hi)]
    unfold bT at e;unfold c8;rw[aMY,aOC hi]at e ⊢;simp only[aOB,aNX]at e;cases z:ρ[caps[i]]? with
    |none=>rw[z]at e;cases e
    |some o =>
     rw[z]at e;cases o with
     |none=>cases e
     |some q =>
      obtain⟨b,d'⟩:=q;cases b with
      |true=>cases e
      |false=>cases e;obtain⟨v,e1,r,_⟩:=R.slot _ _ _ z;exact⟨rfl,v,by simp[e1],r⟩
  . rw[aMV (by simpa[bT]using hi),aMW]at e
    split at e <;> cases e
 refine⟨R.st,λi m d e=>?_,λi j d d' a _ e1 _ _ _=>?_,by simp[c8,bT]⟩
 . obtain⟨rfl,v,e1,r⟩:=low i m d e;exact⟨v,e1,r,by nofun⟩
 . have:=(low i true d e1).1;cases this
end
mutual
def aU:D->Option PyData
 |.non=>some .none
 |.bl b=>some (.bool b)
 |.int i=>some (.int i)
 |.str x=>some (.str x)
 |.tup ds=>(cM ds).map .tuple
 |.lst ds=>(cM ds).map .list
 |_=>none
def cM:List D->Option (List PyData)
 |[]=>some []
 |d::ds=>match aU d,cM ds with
  |some p,some ps=>some (p::ps)
  |_,_=>none
end
section
variable  {F:Hp}
mutual
theorem rT(I:Inv X aA σ H s)(sF:aD F H):∀(d:D) (p:PyData) (v:V) (u:aP0),aB X.K F d v->aH v u->aU d=some p->(∃as,Reads s.heap u p as)/\p.canLay0=true
 |.non,p,v,u,h,r,e=>by simp only[aB]at h;subst h;cases r;simp only[aU]at e;cases e;exact⟨⟨_,.none⟩,rfl⟩
 |.bl b,p,v,u,h,r,e=>by simp only[aB]at h;subst h;cases r;simp only[aU]at e;cases e;exact⟨⟨_,.bool b⟩,rfl⟩
 |.int i,p,v,u,h,r,e=>by simp only[aB]at h;subst h;obtain⟨t,rfl⟩:=r;simp only[aU]at e;cases e;exact⟨⟨_,.int i t⟩,rfl⟩
 |.str x,p,v,u,h,r,e=>by simp only[aB]at h;obtain⟨rfl,_,hk⟩:=h;obtain⟨t,rfl⟩:=r;simp only[aU]at e;cases e;exact⟨⟨_,.str x t⟩,by simpa only [PyData.canLay0]using hk⟩
 |.tup ds,p,v,u,h,r,e=>by
  simp only[aB]at h;obtain⟨a,xs,rfl,q,rl⟩:=h;cases r;simp only[aU]at e;cases ep:cM ds with
  |none=>rw[ep]at e;cases e
  |some ps=>rw[ep]at e;cases e;obtain⟨its,rv,⟨o,h1,h2,n,h3⟩,_⟩:=I.tuple (aD.seqT sF q);obtain⟨⟨as,ra⟩,hc⟩:=kT I sF ds ps xs its rl rv ep;exact⟨⟨_,.tuple h1 h2 h3 (by simpa using ra)⟩,by simpa only [PyData.canLay0]using hc⟩
 |.lst ds,p,v,u,h,r,e=>by
  simp only[aB]at h;obtain⟨a,xs,rfl,q,rl⟩:=h;cases r;simp only[aU]at e;cases ep:cM ds with
  |none=>rw[ep]at e;cases e
  |some ps=>rw[ep]at e;cases e;obtain⟨its,rv,⟨o,n,h1,h2,_,h3⟩,_⟩:=I.list (sF.seq q);obtain⟨⟨as,ra⟩,hc⟩:=kT I sF ds ps xs its rl rv ep;exact⟨⟨_,.list h1 h2 h3 (by simpa using ra)⟩,by simpa only [PyData.canLay0]using hc⟩
 |.dct _,p,v,u,h,r,e=>by simp only[aU]at e;cases e
 |.ty _,p,v,u,h,r,e=>by simp only[aU]at e;cases e
 |.ob _,p,v,u,h,r,e=>by simp only[aU]at e;cases e
 |.ins _ _,p,v,u,h,r,e=>by simp only[aU]at e;cases e
 |.fn _,p,v,u,h,r,e=>by simp only[aU]at e;cases e
 |.exn _,p,v,u,h,r,e=>by simp only[aU]at e;cases e
 |.set _,p,v,u,h,r,e=>by simp only[aU]at e;cases e
 |.dtn _,p,v,u,h,r,e=>by simp only[aU]at e;cases e
 |.dtf _,p,v,u,h,r,e=>by simp only[aU]at e;cases e
 |.dcf _,p,v,u,h,r,e=>by simp only[aU]at e;cases e
 |.clo _ _ _,p,v,u,h,r,e=>by simp only[aU]at e;cases e
theorem kT(I:Inv X aA σ H s)(sF:aD F H):∀(ds:List D) (ps:List PyData) (xs:List V) (us:List aP0),aC X.K F ds xs->aL xs us->cM ds=some ps->(∃as,ReadsAll s.heap us ps as)/\PyData.canLayAll0 ps=true
 |[],ps,xs,us,h,r,e=>by simp only[aC]at h;subst h;cases r;simp only[cM]at e;cases e;exact⟨⟨_,.nil⟩,rfl⟩
 |d::ds,ps,xs,us,h,r,e=>by
  simp only[aC]at h;obtain⟨y,ys,rfl,hd,hl⟩:=h;cases r with
  |cons r1 r2 =>
   simp only[cM]at e;cases e1:aU d with
   |none=>rw[e1]at e;cases e
   |some p =>
    cases e2:cM ds with
    |none=>rw[e1,e2]at e;cases e
    |some ps'=>rw[e1,e2]at e;cases e;obtain⟨⟨as,ra⟩,hc⟩:=rT I sF d p y _ hd r1 e1;obtain⟨⟨bs,rb⟩,hc'⟩:=kT I sF ds ps' ys _ hl r2 e2;exact⟨⟨_,.cons ra rb⟩,by simp only[PyData.canLayAll0,hc,hc',Bool.and_self]⟩
end
def rV(I:Inv X aA σ H s)(sF:aD F H){m:Md}{d:D}{p:PyData}(h:Rp X.K F H m d v)(r:aH v u)(e:aU d=some p):(∃as,Reads s.heap u p as)/\p.canLay0=true:=by
 cases m with
 |fz=>exact rT I sF d p v u h r e
 |_ =>
  obtain⟨a,rfl,n,t⟩:=h;cases d with
  |lst ds =>
   obtain⟨xs,q,rl⟩:=t;cases r;simp only[aU]at e;cases ep:cM ds with
   |none=>rw[ep]at e;cases e
   |some ps=>rw[ep]at e;cases e;obtain⟨its,rv,⟨o,n,h1,h2,_,h3⟩,_⟩:=I.list (SqL.of q);obtain⟨⟨as,ra⟩,hc⟩:=kT I sF ds ps xs its rl rv ep;exact⟨⟨_,.list h1 h2 h3 (by simpa using ra)⟩,by simpa only [PyData.canLay0]using hc⟩
  |dct ds=>simp only[aU]at e;cases e
  |ins _ _=>simp only[aU]at e;cases e
  |set _=>simp only[aU]at e;cases e
  |dtn _=>simp only[aU]at e;cases e
  |dtf _=>simp only[aU]at e;cases e
  |dcf _=>simp only[aU]at e;cases e
  |clo _ _=>simp only[aU]at e;cases e
  |_=>exact t.elim
end
def jQ(p:PyData):Bool:=decide (p.depth<=50)
noncomputable def eqF(neg:Bool):Md->D->Md->D->Option (Md×D):=λ_ x _ y=>match aU x,aU y with
 |some p,some q=>if(jQ p&&jQ q)=true then some (.fz,.bl (if neg then !PyData.eqv p q else PyData.eqv p q))else none
 |_,_=>none
theorem rW{f:aP0->aP0->Sem aP0}(hu:X.A.units+64<cLine)(rule:∀(s:aP1) (a b:aP0) (da db:PyData) (as bs:List Addr) (Q:VSP),Reads s.heap a da as->Reads s.heap b db bs->da.canLay0=true->db.canLay0=true->X.A.units+min da.depth db.depth<cLine->Q (.bool (if neg then !PyData.eqv da db else PyData.eqv da db)) s->wpAny (model X.prog X.w) X.A (f a b) Q X.xe s):OpD C X f (eqF neg):=by
 refine⟨λx y H Q=>∃F m n d e p q,aD F H/\Rp X.K F H m d x/\Rp X.K F H n e y/\aU d=some p/\aU e=some q/\(jQ p&&jQ q)=true/\Q (.bl (if neg then !PyData.eqv p q else PyData.eqv p q)) H,?_,?_⟩
 . intro aA s σ H x y v u Q I rx ry h;obtain⟨F,m,n,d,e,p,q,sF,hd,he,ep,eq,hs,hQ⟩:=h;obtain⟨⟨as,ra⟩,ca⟩:=rV I sF hd rx ep;obtain⟨⟨bs,rb⟩,cb⟩:=rV I sF he ry eq;rw[aNI]at hs;have h1:=aN0 hs.1;refine rule s v u p q as bs _ ra rb ca cb (by have:=aNU p.depth q.depth;lia) ⟨.bl _,H,I,rfl,hQ⟩
 . intro F H m x n y v u k d Q s rx ry e w;unfold eqF at e;split at e
   . rename_i p q ep eq;split at e
     . rename_i hc;cases e;exact⟨F,m,n,x,y,p,q,s,rx,ry,ep,eq,hc,w _ F H (.refl s) (dS _) (by nofun)⟩
     . cases e
   . cases e
def aDA(hu:X.A.units+64<cLine):OpD C X (compareOp .Eq) (eqF false):=rW hu λs a b da db as bs Q ra rb ca cb hd q=>SeqAt.compareEq_reads ra rb ca cb hd q
def aDB(hu:X.A.units+64<cLine):OpD C X (compareOp .NotEq) (eqF true):=rW hu λs a b da db as bs Q ra rb ca cb hd q=>SeqAt.compareNe_reads ra rb ca cb hd q
section
variable {o e:Expr}{es:List Expr}{go:Rho->Res}{T id:String}{name:Str}
def rX:List D->Option (List Str)
 |[]=>some []
 |.str x::r=>(rX r).map (x :: ·)
 |_=>none
noncomputable def joinD:Md->D->List (Md×D)->Option (Md×D):=λ_ x xs=>match x,xs with
 |.str z,[(_,.lst ds)]=>(match rX ds with
  |some ys=>if(ys.map (·.length)).sum+ys.length * z.length<=sizeLine then some (.fz,.str (Txt.join z ys))else none
  |none=>none)
 |_,_=>none
end
def spV(K:Fg)(mg:SOV)(n:Nat)(Φ:List D->Res):Sp:=λvs H Q E=>vs.length=n/\∃F ds,aD F H/\aC K F ds vs/\match Φ ds with
 |.ok m d=>m ≠ .bo/\∀v F' H',aE F H F' H'->Rp K F' H' m d v->(m=.fr->∀a,v=.ref a->H a=none)->Q v H'
 |.exc c=>∀F' H' u,aE F H F' H'->mg c=some u->E u none H'
 |.stuck=>False
structure FnV(P:aP4)(w:aP3)(K:Fg)(mg:SOV)(base:Heap)(CX:CXT)(k:Nat)(x:Str)(n:Nat)(Φ:List D->Res):Prop where
 ex:∃f fd ps,bH P w K mg base CX k f fd ps (spV K mg n Φ)/\mg x=some (.ref f)/\W.keepIn K (.ref f)=true/\cB K fd ps []
noncomputable def aM(n:Nat)(Φ:List D->Res)(r:aY):Res:=r.thn λxs=>match bU xs with
 |some ds=>if ds.length=n then(match Φ ds with|.ok .bo _=>.stuck|r=>r)else .stuck
 |none=>.stuck
def XOk(CX:CXT)(C:Cw)(X:Cx):Prop:=∀(aA:LAO) (σ:L2.St) (H:Hp) (s:aP1) (e:aP0) (s':aP1),Inv X aA σ H s->CX X.stack H s (λu _ H'=>∃c,X.mg c=some u/\C.EE c σ H') e s'->X.xe e s'
section
variable {e:Expr}{es:List Expr}
def rY{f:Addr}{Q:VK}{E:XK}(F:bH X.prog X.w X.K X.mg X.base CX k f fd ps (spV X.K X.mg n Φ))(hr:aX k X.A)(hb:cB X.K fd ps [])(hx:∀e s',CX X.stack H s E e s'->X.xe e s')(I:Inv X aA σ H s)(r:aL vs us)(h:spV X.K X.mg n Φ vs H Q E):wpAny (model X.prog X.w) X.A (call (.ref f) us) (EP X aA σ Q) X.xe s:=by
 have hl:(us++[]).length=ps.length:=by rw[aMO,<- r.length];exact F.len _ _ _ _ h
 have hb':=hb s us I.kIn hl;rw[aMO]at hb';refine aOH (aNP (F.run X.A X.stack s H ⟨us,[]⟩ us vs Q E hr I.env0 hb' r h) λr s' hq=>?_);cases r with
 |error e=>exact hx e s' hq
 |ok fl =>
  cases fl with
  |ret u=>exact I.after hq
  |next=>exact False.elim hq
  |brk=>exact False.elim hq
  |cont=>exact False.elim hq
def aDC(F:FnV X.prog X.w X.K X.mg X.base CX k x n Φ)(hr:aX k X.A)(hx:XOk CX (C.at X) X)(hg:Gl X x)(ha:PAv C X (e::es) gs)(hdb:(x==("__debug__":Str))=false:=by decide)(he:starEach (e::es) X.env=(false,eval e X.env)::starEach es X.env:=by rfl)(hpl:(backTo pos (starEach es X.env)).any (·.1)=false:=by rfl):PV C X (.Call (.Name x p) (e::es) [] pos) (λρ=>aM n Φ (gs ρ)):=by
 obtain⟨f,fd,ps,FF,hm,hk,hb⟩:=F.ex;intro aA s σ H Q I h;rw[aV]at h;obtain⟨ρ,F,R,w⟩:=h;refine aM2 (jC I hg hm ?_ hdb);refine aOI (h₀:=X.base) I.ok.mod.kin hk (thn (ha pos aA s σ H (λvs H1=>spV X.K X.mg n Φ vs H1 Q λu _ H'=>∃c,X.mg c=some u/\C.EE c σ H') I ?_) λus s1 ⟨vs,H1,I1,r,q⟩=>⟨I1.kIn,rY FF hr hb (λe s' hc=>hx aA σ H1 s1 e s' I1 hc) I1 r q⟩) he hpl;refine⟨ρ,F,R,?_⟩;cases er:gs ρ with
 |stuck=>rw[er]at w;exact w
 |exc c=>rw[er]at w;exact w
 |ok xs =>
  rw[er]at w;intro vs F1 H1 s1 r1;have w1:aT (C.at X) F1 H1 σ (aM n Φ (.ok xs)) Q:=aT.step s1 w;unfold aM at w1;rw[aY.thn_ok]at w1;cases ef:bU xs with
  |none=>rw[ef]at w1;exact w1.elim
  |some ds =>
   rw[ef]at w1;dsimp only at w1;split at w1
   . rename_i hn;have rl:=r1.fz ef;refine⟨by rw[rl.length];exact hn,F1,ds,s1.sub,rl,?_⟩
     cases ep:Φ ds with
     |stuck=>rw[ep]at w1;exact w1
     |exc c=>rw[ep]at w1;exact λF' H' u st hu=>⟨c,hu,w1 F' H' st⟩
     |ok m d =>
      rw[ep]at w1;cases m with
      |bo=>exact w1.elim
      |fz=>exact⟨by decide,w1⟩
      |fr=>exact⟨by decide,w1⟩
   . exact w1.elim
end
def endR:aF->Res
 |.nx _=>.ok .fz .non
 |.rt m d=>.ok m d
 |.exc c _=>.exc c
 |_=>.stuck
def bC(n:Nat)(ds:List D):Rho:=ds.map (λd=>some (false,d))++List.replicate (n-ds.length) none
def nG{F:Hp}{N:List Str}(s:aD F H)(r:aC K F ds vs):aR K F H F H (bM N vs) (bC N.length ds):=by
 have low:∀(i:Nat) (m:Bool) (d:D),(bC N.length ds)[i]? = some (some (m,d))->m=false/\∃v,(bM N vs)[i]? = some (some v)/\aB K F d v:=λi m d e=>by
  unfold bC at e;unfold L2.bM;by_cases hi:i<ds.length
  . rw[aMX (by simpa using hi),aMY,aOC hi]at e
    cases e;obtain⟨v,ev,rv⟩:=r.get' (aOC hi);exact⟨rfl,v,by rw[aMX (by simpa[r.length]using hi),aMY,ev];rfl,rv⟩
  . rw[aMV (by simpa using hi),aMW]at e
    split at e <;> cases e
 refine⟨.refl s,λi m d e=>?_,λi j d d' a _ e1 _ _ _=>?_,by simp[L2.bM,bC,r.length]⟩
 . obtain⟨rfl,v,e1,rv⟩:=low i m d e;exact⟨v,e1,rv,by nofun⟩
 . have:=(low i true d e1).1;cases this
def kU(ns:List Int):List D:=[.lst (ns.map .int)]
theorem rZ{K:Fg}{F:Hp}:∀ns:List Int,aC K F (ns.map D.int) (ns.map V.int)
 |[]=>aC.nil
 |n::ns=>aC.cons (by simp only[aB]) (rZ ns)
def noK:Md->D->Md->D->Option (Md×D):=λ_ _ _ _=>none
abbrev fAdd:Md->D->Md->D->Option (Md×D):=orO (fI (λ_ _=>true) λi j=>.int (i+j)) (fS (λi j=>decide (i.length+j.length<=sizeLine)) λi j=>.str (i++j))
abbrev fSub:Md->D->Md->D->Option (Md×D):=fI (λ_ _=>true) λi j=>.int (i-j)
abbrev fMul:Md->D->Md->D->Option (Md×D):=orO (fI (λi j=>(bits i&&bits j)||(w64 i||w64 j)) λi j=>.int (i * j)) noK
abbrev fMod:Md->D->Md->D->Option (Md×D):=fI (λ_ j=>decide (0<j)) λi j=>.int (i % j)
abbrev fDiv:Md->D->Md->D->Option (Md×D):=fI (λ_ j=>decide (0<j)&&bits j) λi j=>.int (i / j)
abbrev fPow:Md->D->Md->D->Option (Md×D):=fI (λi j=>decide (0<=j)&&decide (j<=1000000)&&decide (i.natAbs<2 ^ 64)) λi j=>.int (i ^ j.toNat)
abbrev fLt:Md->D->Md->D->Option (Md×D):=fI (λ_ _=>true) λi j=>.bl (decide (i<j))
abbrev fLe:Md->D->Md->D->Option (Md×D):=fI (λ_ _=>true) λi j=>.bl (decide (i<=j))
abbrev fGt:Md->D->Md->D->Option (Md×D):=fI (λ_ _=>true) λi j=>.bl (decide (j<i))
abbrev fGe:Md->D->Md->D->Option (Md×D):=fI (λ_ _=>true) λi j=>.bl (decide (j<=i))
abbrev fEq:Md->D->Md->D->Option (Md×D):=orO (eqF false) noK
abbrev fNe:Md->D->Md->D->Option (Md×D):=orO (eqF true) noK
def IsB(φ:Md->D->Md->D->Option (Md×D)):Prop:=∀m x n y k d,φ m x n y=some (k,d)->∃t,k=.fz/\d=.bl t
def kW{c:Int->Int->Bool}{g:Int->Int->Bool}:IsB (fI c λi j=>.bl (g i j)):=λm x n y k d e=>by
 unfold fI at e;split at e
 . split at e
   . cases e;exact⟨_,rfl,rfl⟩
   . cases e
 . cases e
def nH{φ ψ}(h:IsB φ)(h':IsB ψ):IsB (orO φ ψ):=λm x n y k d e=>by
 unfold orO at e;cases e1:φ m x n y with
 |none=>rw[e1]at e;exact h' _ _ _ _ _ _ e
 |some p=>rw[e1]at e;cases e;exact h _ _ _ _ _ _ e1
def r9:IsB (eqF neg):=λm x n y k d e=>by
 unfold eqF at e;split at e
 . split at e
   . cases e;exact⟨_,rfl,rfl⟩
   . cases e
 . cases e
def jR{f:aP0->aP0->Sem aP0}:OpD C X f noK:=⟨λ_ _ _ _=>False,λ_ _ _ _ _ _ _ _ _ _ _ _ h=>h.elim,λ_ _ _ _ _ _ _ _ _ _ _ _ _ _ e _=>by cases e⟩
def o_add:OpD C X (binaryOp .Add) fAdd:=aBM.or aBZ
def o_mul:OpD C X (binaryOp .Mult) fMul:=aBP.or jR
def o_eq(hu:X.A.units+64<cLine):OpD C X (compareOp .Eq) fEq:=(aDA hu).or jR
def o_ne(hu:X.A.units+64<cLine):OpD C X (compareOp .NotEq) fNe:=(aDB hu).or jR
def phi(n N:Nat)(g:Rho->aF):List D->Res:=λds=>if ds.length=n then endR (g (bC N ds))else .stuck
def jS(scope sc:Scope):List (Str×NameKind):=scope.names.map λ(n,k)=>if(k == .free&&sc.kind == .function&&sc.names.lookup n==some .cell)then(n,.cell)else(n,k)
def aDD:bootBuiltins "len" = some (.builtin "len"):=by decide +kernel
def aDE:bootBuiltins "isinstance" = some (.builtin "isinstance"):=by decide +kernel
def aDF:bootBuiltins "int" = some (.type "int"):=by decide +kernel
def aDG:bootBuiltins "bool" = some (.type "bool"):=by decide +kernel
def aDH:bootBuiltins "str" = some (.type "str"):=by decide +kernel
def aDI:bootBuiltins "tuple" = some (.type "tuple"):=by decide +kernel
def sC:bootBuiltins "list" = some (.type "list"):=by decide +kernel
def aDJ:bootBuiltins "dict" = some (.type "dict"):=by decide +kernel
structure CI where
 name:Str
 ups:List Str
 flds:List Str
 meths:List (Str×Str×Nat)
def cC:Expr->Bool|.Starred ..=>false|_=>true
def iN:Expr->Bool|.Call (.Name x _) [] [] _=>x != "super" |_=>true
def cN{x:Expr}{es:List Expr}(h:cC x=true):starEach (x::es) env=(false,eval x env)::starEach es env:=by cases x <;> first|rfl|cases h
theorem gQ(pos:Pos)(env:Env):∀{es:List Expr},(∀x∈es,cC x=true)->(backTo pos (starEach es env)).any (·.1)=false
 |[],_=>rfl
 |x::es,h=>by rw[cN (h x mcs)];show((false||(backTo pos (starEach es env)).any (·.1))=false);rw[gQ pos env λy hy=>h y (mcm hy)];rfl
theorem nI(pos:Pos)(env:Env):∀{es:List Expr},(∀x∈es,cC x=true)->(backTo pos (starEach es env)).all (λx=>!x.1)=true
 |[],_=>rfl
 |x::es,h=>by rw[cN (h x mcs)];show((true&&(backTo pos (starEach es env)).all (λx=>!x.1))=true);rw[nI pos env λy hy=>h y (mcm hy)];rfl
def nJ{o:Expr}{n:Str}{w:Sem aP0}(h:iN o=true):attributeBase o n env w=w:=by
 cases o with
 |Call f as ks pos =>
  cases f with
  |Name x p =>
   cases as with
   |nil =>
    cases ks with
    |nil=>show(if x != "super" || n == "__class__" || env.kindOf "super" != some .globalImplicit||env.kindOf "__class__" != some .free then w else _)=w;have:(x != ("super":Str))=true:=h;rw[if_pos (by rw[this];rfl)]
    |cons _ _=>rfl
   |cons _ _=>rfl
  |_=>rfl
 |_=>rfl
theorem aDK {o : Expr} {m : Str} {apos pos : Pos} {args : List Expr} {env : Env} (hb : iN o = true) (hst : ∀ x ∈ args, cC x = true) (hn : args.length < 30) (hl : apos.endLine = pos.line) :
    eval (.Call (.Attribute o m apos) args [] pos) env=(do
     let ov <- eval o env
     standAt apos.atName
     let(f,first) <- holding [ov] (getMethod ov m (do return (<- importBound o env).getD true))
     callWith pos f first (backTo pos (starEach args env)) (backToKw pos (keywordEach [] env))):=by
 have few:methodCallForm (args.length+([]:List Keyword).length) (backTo pos (starEach args env)) (backToKw pos (keywordEach [] env))=true:=by unfold methodCallForm;rw[nI pos env hst];show(true&&true&&decide (args.length+0+0<30))=true;rw[aNO (by lia)];rfl
 show(do
  let ov <- attributeBase o m env (eval o env)
  standAt apos.atName
  methodCall o m apos pos env ov (args.length+([]:List Keyword).length) (backTo pos (starEach args env)) (backToKw pos (keywordEach [] env)))=_
 rw[nJ hb];unfold methodCall;rw[few];have hp:methodCallPos true o env apos pos=pure pos:=by unfold methodCallPos;rw[if_pos (by rw[hl];simp)]
 rw[hp];show(do
  let ov <- eval o env
  standAt apos.atName
  let(f,first) <- holding [ov] (getMethod ov m (do return (<- importBound o env).getD true))
  let callPos <- pure pos
  callWith callPos f first (backTo pos (starEach args env)) (backToKw pos (keywordEach [] env)))=_
 simp only[aOF]
structure MtV(P:aP4)(w:aP3)(K:Fg)(mg:SOV)(base:Heap)(CX:CXT)(k:Nat)(c m:Str)(n:Nat)(Φ:List D->Res):Prop where
 ex:∃C f fd ps,W.nsIn K mainGlobals c=some (some (.ref C))/\Cls K C/\jJ K C m f/\bH P w K mg base CX k f fd ps (spV K mg n Φ)/\cB K fd ps []
structure FlV(K:Fg)(c f:Str):Prop where
 ex:∃C,W.nsIn K mainGlobals c=some (some (.ref C))/\Cls K C/\fB K C f
def CI.meth(cl:List CI)(c m:Str):Option (Str×Nat):=match cl.find? (λi=>i.name==c)with
 |some i=>i.meths.lookup m
 |none=>none
def fE(cl:List CI)(f:Str)(r:Res):Res:=r.thn λ_ d=>match d with
 |.ins c fs=>(match cl.find? (λi=>i.name==c)with
  |some i=>if i.flds.contains f=true then(match fs.lookup f with|some d=>.ok .fz d|none=>.stuck)else .stuck
  |none=>.stuck)
 |_=>.stuck
def cD(cl:List CI)(Φ:Str->List D->Res)(m:Str)(o:Res)(as:aY):Res:=o.thn λmd d=>match md,d with
 |.fz,.ins c fs=>(match CI.meth cl c m with
  |some (key,n)=>if fs.lookup m=none then aM n (Φ key) (aJ (.ok .fz (.ins c fs)) as)else .stuck
  |none=>.stuck)
 |_,_=>.stuck
section
variable {o e:Expr}{es:List Expr}{go:Rho->Res}{m f:Str}{Φ:Str->List D->Res}{cl:List CI}
def aDL(hF:∀i f,i∈cl->f∈i.flds->FlV X.K i.name f)(ho:PV C X o go)(hb:iN o=true):PV C X (.Attribute o f pos) (λρ=>fE cl f (go ρ)):=by
 refine PE.imp (aAA ho (nJ hb)) λσ H Q q=>?_;unfold tFld;rw[aV]at q ⊢;obtain⟨ρ,F,R,w⟩:=q;refine⟨ρ,F,R,?_⟩;cases er:go ρ with
 |stuck=>rw[er]at w;exact w
 |exc c=>rw[er]at w;exact w
 |ok md d =>
  rw[er]at w;intro v F1 H1 s1 r1 _;have w1:aT (C.at X) F1 H1 σ (fE cl f (.ok md d)) Q:=aT.step s1 w;unfold fE at w1;rw[Res.thn_ok]at w1;cases d with
  |ins c fs =>
   dsimp only at w1;cases ef:cl.find? (λi=>i.name==c)with
   |none=>rw[ef]at w1;exact w1.elim
   |some i =>
    rw[ef]at w1;dsimp only at w1;split at w1
    . rename_i hf;cases el:fs.lookup f with
      |none=>rw[el]at w1;exact w1.elim
      |some d' =>
       rw[el]at w1;have hi:i.name=c:=by simpa using aOJ ef
       obtain⟨C',n1,cl',na⟩:=(hF i f (aOK ef) (by simpa using hf)).ex
       rw[hi]at n1;obtain⟨a,C2,dx,gs',ev,n2,ea,rf⟩:=r1.ins s1.sub;rw[n1]at n2;cases n2;obtain⟨u,lu,ru⟩:=rf.look el;exact⟨a,C',dx,gs',u,ev,ea,cl',na,lu,w1 u F1 H1 (.refl s1.sub) ru (by nofun)⟩
    . exact w1.elim
  |_=>exact w1.elim
def aDM(hM:∀c m key n,CI.meth cl c m=some (key,n)->MtV X.prog X.w X.K X.mg X.base CX k c m n (Φ key))(hr:aX k X.A)(hx:XOk CX (C.at X) X)(ho:PV C X o go)(ha:PAv C X es gs)(hb:iN o=true)(hst:∀x∈es,cC x=true)(hn:es.length<30)(hl:apos.endLine=pos.line)(hes:es=[]->gs=λ_=>.ok []):PV C X (.Call (.Attribute o m apos) es [] pos) (λρ=>cD cl Φ m (go ρ) (gs ρ)):=by
 intro aA s σ H Q I q;rw[aV]at q;obtain⟨ρ,F,R,w⟩:=q;refine aAC (pl:=(do return (<- importBound o X.env).getD true)) ho I ?_ (aDK hb hst hn hl)
 show tG (C.at X) go σ H _;rw[aV];refine⟨ρ,F,R,?_⟩;cases er:go ρ with
 |stuck=>rw[er]at w;exact w
 |exc c=>rw[er]at w;exact w
 |ok md d =>
  rw[er]at w;intro v F1 H1 s1 r1 _;have w1:aT (C.at X) F1 H1 σ (cD cl Φ m (.ok md d) (gs ρ)) Q:=aT.step s1 w;unfold cD at w1;rw[Res.thn_ok]at w1;cases md with
  |fr=>exact w1.elim
  |bo=>exact w1.elim
  |fz =>
  cases d with
  |ins c fs =>
   dsimp only at w1;cases em:CI.meth cl c m with
   |none=>rw[em]at w1;exact w1.elim
   |some kn =>
    obtain⟨key,n⟩:=kn;rw[em]at w1;dsimp only at w1;split at w1
    . rename_i hnl;obtain⟨C',f',fd,ps,n1,cl',me,FO,hbd⟩:=(hM c m key n em).ex;have r1':=r1;obtain⟨a,C2,dx,gs',ev,n2,ea,rf⟩:=r1.ins s1.sub;rw[n1]at n2;cases n2;subst ev;refine⟨a,C',dx,gs',f',rfl,ea,cl',me,rf.lookN hnl,λs1' I1=>?_⟩;have fin:∀(vs:List V) (us:List aP0) (s2:aP1) (F2 H2:Hp) (xs:List (Md×D)),aE F1 H1 F2 H2->RpL X.K F2 H2 xs vs->Inv X aA σ H2 s2->aL vs us->gs ρ=.ok xs->wpAny (model X.prog X.w) X.A (call (.ref f') (.ref a::us)) (EP X aA σ Q) X.xe s2:=by
        intro vs us s2 F2 H2 xs s2' rl I2 rv eg;rw[eg]at w1;have w2:aT (C.at X) F2 H2 σ (aM n (Φ key) (aJ (.ok .fz (.ins c fs)) (.ok xs))) Q:=aT.step s2' w1;rw[aCD]at w2;unfold aM at w2;rw[aY.thn_ok]at w2;have rl2:RpL X.K F2 H2 ((.fz,.ins c fs)::xs) (.ref a::vs):=⟨_,_,rfl,r1'.step s2',rl⟩;cases ef:bU ((.fz,.ins c fs)::xs)with
        |none=>rw[ef]at w2;exact w2.elim
        |some ds =>
         rw[ef]at w2;dsimp only at w2;split at w2
         . rename_i hnn;have rl3:=rl2.fz ef;refine rY (E:=λu _ H'=>∃c,X.mg c=some u/\C.EE c σ H') (vs:=.ref a::vs) (us:=.ref a::us) FO hr hbd (λe s' hc=>hx aA σ H2 s2 e s' I2 hc) I2 (.cons rfl rv) ⟨by rw[rl3.length];exact hnn,F2,ds,s2'.sub,rl3,?_⟩
           cases ep:Φ key ds with
           |stuck=>rw[ep]at w2;exact w2
           |exc c=>rw[ep]at w2;exact λF' H' u st hu=>⟨c,hu,w2 F' H' st⟩
           |ok m d =>
            rw[ep]at w2;cases m with
            |bo=>exact w2.elim
            |fz=>exact⟨by decide,w2⟩
            |fr=>exact⟨by decide,w2⟩
         . exact w2.elim
      cases es with
      |nil =>
       refine W.callWith_K0 (first:=[.ref a]) I1.kIn me.kp ?_
       have eg:gs ρ=.ok []:=by rw[hes rfl]
       exact fin [] [] s1' F1 H1 [] (.refl s1.sub) rfl I1 .nil eg
      |cons e es =>
       refine aOI (first:=[.ref a]) (h₀:=X.base) I.ok.mod.kin me.kp (thn (ha pos aA s1' σ H1 (λvs H2=>∃F2 xs,aE F1 H1 F2 H2/\RpL X.K F2 H2 xs vs/\gs ρ=.ok xs) I1 ?_) λus s2 ⟨vs,H2,I2,r,F2,xs,st2,rl,eg⟩=>⟨I2.kIn,?_⟩) (cN (hst e mcs)) (gQ _ _ λy hy=>hst y (mcm hy))
       . refine⟨ρ,F1,R.step s1,?_⟩;cases eg:gs ρ with
         |stuck=>rw[eg]at w1;exact w1
         |exc c=>rw[eg]at w1;exact w1
         |ok xs=>exact λvs F2 H2 s2 rl=>⟨F2,xs,s2,rl,rfl⟩
       . exact fin vs us s2 F2 H2 xs st2 rl I2 r eg
    . exact w1.elim
  |_=>exact w1.elim
end
def aR.mut{F:Hp}{d d':D}{a:Addr}{o:HO}(R:aR K F0 H0 F H σ ρ)(e:ρ[i]? = some (some (true,d)))(ev:σ[i]? = some (some (.ref a)))(t:Top K F (upd H a o) a d'):aR K F0 H0 F (upd H a o) σ (ρ.set i (some (true,d'))):=by
 obtain⟨v,ev',rp,hn⟩:=R.slot i true d e;rw[ev]at ev';cases ev';have h0:H0 a=none:=hn rfl a rfl;obtain⟨a',ea,hf,tt⟩:=rp;cases ea;have hl:i<ρ.length:=(aLX.mp e).1;have st:aE F0 H0 F (upd H a o):=⟨λb u q=>by rw[aK (bL q h0)];exact R.st.same b u q,R.st.fsame,λb u q=>by rw[aK (bL q hf)];exact R.st.sub b u q,R.st.new⟩
 refine⟨st,λj m d2 e2=>?_,λj l d1 d2 b hjl e1 e2 q1 q2=>?_,by rw[aN8];exact R.len⟩
 . by_cases hj:j=i
   . subst hj;rw[aLY hl]at e2;cases e2;exact⟨.ref a,ev,⟨a,rfl,hf,t⟩,λ_ b eb=>by cases eb;exact h0⟩
   . rw[aLZ (λz=>hj z.symm)]at e2;obtain⟨u,eu,ru,hu⟩:=R.slot j m d2 e2;refine⟨u,eu,?_,hu⟩;cases m with
     |false=>exact ru
     |true =>
      obtain⟨b,eb,hb,tb⟩:=ru;subst eb;have hba:b≠a:=λz=>by subst z;exact R.apart j i d2 d b hj e2 e eu ev
      refine⟨b,rfl,hb,?_⟩;cases d2 with
      |lst ds=>obtain⟨xs,q,r⟩:=tb;exact⟨xs,by rw[aK hba];exact q,r⟩
      |dct ds=>obtain⟨xs,q,r⟩:=tb;exact⟨xs,by rw[aK hba];exact q,r⟩
      |ins c fs=>obtain⟨C,dx,gs,n,q,r⟩:=tb;exact⟨C,dx,gs,n,by rw[aK hba];exact q,r⟩
      |set ks=>obtain⟨S,q,r⟩:=tb;exact⟨S,by rw[aK hba];exact q,r⟩
      |dtn ds=>obtain⟨xs,q,r⟩:=tb;exact⟨xs,by rw[aK hba];exact q,r⟩
      |_=>exact tb.elim
 . have back:∀(l:Nat) (d2:D),(ρ.set i (some (true,d')))[l]? = some (some (true,d2))->∃d3,ρ[l]? = some (some (true,d3)):=λl d2 q=>by
     by_cases hl':l=i
     . subst hl';exact⟨d,e⟩
     . rw[aLZ (λz=>hl' z.symm)]at q;exact⟨d2,q⟩
   obtain⟨d3,q3⟩:=back j d1 e1;obtain⟨d4,q4⟩:=back l d2 e2;exact R.apart j l d3 d4 b hjl q3 q4 q1 q2
def jT(f:Str)(v:D):List (Str×D)->List (Str×D)
 |[]=>[(f,v)]
 |(g,u)::r=>if g=f then(g,v)::r else(g,u)::jT f v r
theorem aQ.put{K:Fg}{F:Hp}{f:Str}{d:D}{v:V}(rv:aB K F d v):∀{fs:List (Str×D)}{gs:List (Str×V)},aQ K F fs gs->aQ K F (jT f d fs) (bY f v gs)
 |[],_,h=>by simp only[aQ]at h;subst h;show aQ K F [(f,d)] [(f,v)];simp only[aQ];exact⟨v,[],rfl,rv,rfl⟩
 |(g,u)::r,_,h=>by
  simp only[aQ]at h;obtain⟨y,ys,rfl,q,t⟩:=h;unfold jT bY;by_cases hg:g=f
  . rw[if_pos hg,if_pos hg];simp only[aQ];exact⟨v,ys,rfl,rv,t⟩
  . rw[if_neg hg,if_neg hg];simp only[aQ];exact⟨y,_,rfl,q,aQ.put rv t⟩
section
variable {e:Expr}{f:Str}{cl:List CI}
end
structure nK(K:Fg)(mg:SOV)(c:Str):Prop where
 ex:∃C,W.nsIn K mainGlobals c=some (some (.ref C))/\mg c=some (.ref C)/\W.makesIn K C=true/\W.findIn K (.ref C) "__init__" = some (some (.builtin "object.__init__"))/\W.keepIn K (.ref C)=true
def aDN{C:Addr}(hm:X.mg x=some (.ref C))(h1:W.makesIn X.K C=true)(h2:W.findIn X.K (.ref C) "__init__" = some (some (.builtin "object.__init__")))(h3:W.keepIn X.K (.ref C)=true)(hg:Gl X x)(hdb:(x==("__debug__":Str))=false):PE X (.Call (.Name x p) [] [] pos) (λσ H Q=>∀a dx,H a=none->H dx=none->dx≠a->Q (.ref a) (upd (upd H dx (.own a)) a (.ins C dx []))):=by
 intro aA s σ H Q I h;refine aM2 (jC I hg hm ?_ hdb);refine W.callWith_K0 I.kIn h3 (aOH (zW I.kIn h1 h2 (λself=>W.Looks.of_pure (W.oi_bind self)) ?_));have I2:=Inv.made (C:=C) I;have Y:=W.makes_of (M:=model X.prog X.w) I.kIn h1;have hh:((s.heap.push W.emptyDict).push (W.instObj C s.heap.objs.size)).get? (s.heap.objs.size+1)=some (W.instObj C s.heap.objs.size):=by
  have:=aLK (s.heap.push W.emptyDict) (o:=W.instObj C s.heap.objs.size) rfl
  rwa [aMK]at this
 have t1:W.Looks (model X.prog X.w) ((s.heap.push W.emptyDict).push (W.instObj C s.heap.objs.size)) (typeOf (.ref (s.heap.objs.size+1))) (.ref C):=(W.Looks.ld hh).andThen .now;have t2:W.Looks (model X.prog X.w) ((s.heap.push W.emptyDict).push (W.instObj C s.heap.objs.size)) (isInstance (.ref (s.heap.objs.size+1)) (.type "object")) true:=t1.andThen (Y.top.keeps λb o e=>hps (hps e));refine codeAny_call_builtin W.oi_plain W.entry_oi (@W.check_slot (model X.prog X.w) _ _ _ "object.__init__" "object" "__init__" (.ref (s.heap.objs.size+1)) [] [] _ W.oi_kind W.oi_split t2 (W.oi_args (.ref (s.heap.objs.size+1))) ?_);rw[W.oi_run];refine aL5 (And.intro rfl ⟨.ref (s.heap.objs.size+1),_,I2,rfl,?_⟩);exact h (s.heap.objs.size+1) s.heap.objs.size (I.hok.fresh (Nat.le_succ _)) (I.hok.fresh (aL7 _)) (aLO (aMM _))
def sD{F:Hp}{a C:Addr}(s:aD F H)(ha:H a=none)(hd:H dx=none)(hne:dx≠a):aE F H F (upd (upd H dx (.own a)) a (.ins C dx [])):=by have s1:=aE.fresh (.own a) s hd;refine s1.trans (aE.fresh _ s1.sub ?_);rw[aK (λz=>hne z.symm)];exact ha
def aDO{c:Str}(M:nK X.K X.mg c)(hg:Gl X c)(hdb:(c==("__debug__":Str))=false):PV C X (.Call (.Name c p) [] [] pos) (λ_=>.ok .fr (.ins c [])):=by
 obtain⟨C',n,hm,h1,h2,h3⟩:=M.ex;refine PE.imp (aDN hm h1 h2 h3 hg hdb) λσ H Q q=>?_;rw[aV]at q;obtain⟨ρ,F,R,w⟩:=q;intro a dx ha hd hne;refine w (.ref a) F _ (sD R.sub ha hd hne) ⟨a,rfl,R.sub.free ha,C',dx,[],n,a9,?_⟩ λ_ b eb=>by cases eb;exact ha
 simp only[aQ]
def spI(K:Fg)(mg:SOV)(c:Str)(n:Nat)(Φ:List D->Res):Sp:=λvs H Q E=>∃x us dx C H1 F ds,vs=.ref x::us/\us.length=n/\W.nsIn K mainGlobals c=some (some (.ref C)) /\
 H=upd (upd H1 dx (.own x)) x (.ins C dx [])/\H1 x=none/\H1 dx=none/\dx≠x/\aD F H1/\aC K F ds us/\match Φ ds with
 |.ok _ d=>∀F' H',aE F H1 F' H'->Rp K F' H' .fr d (.ref x)->Q .non H'
 |.exc c=>∀F' H' u,aE F H1 F' H'->mg c=some u->E u none H'
 |.stuck=>False
structure InV(P:aP4)(w:aP3)(K:Fg)(mg:SOV)(base:Heap)(CX:CXT)(k:Nat)(c:Str)(n:Nat)(Φ:List D->Res):Prop where
 ex:∃C f fd ps,W.nsIn K mainGlobals c=some (some (.ref C))/\mg c=some (.ref C)/\Mk K C f/\bH P w K mg base CX k f fd ps (spI K mg c n Φ)/\cB K fd ps []
noncomputable def eV(n:Nat)(Φ:List D->Res)(r:aY):Res:=r.thn λxs=>match bU xs with
 |some ds=>if ds.length=n then(match Φ ds with|.ok _ d=>.ok .fr d|r=>r)else .stuck
 |none=>.stuck
section
variable {e:Expr}{es:List Expr}{c:Str}
def aDP{C' f:Addr}{F:Hp}{Q:VK}(ns:W.nsIn X.K mainGlobals c=some (some (.ref C')))(M:Mk X.K C' f)(FO:bH X.prog X.w X.K X.mg X.base CX k f fd ps (spI X.K X.mg c n Φ))(hr:aX (k+1) X.A)(hb:cB X.K fd ps [])(hx:XOk CX (C.at X) X)(I:Inv X aA σ H s)(r:aL vs us)(sF:aD F H)(rl:aC X.K F ds vs)(hn:ds.length=n)(w:aT (C.at X) F H σ (match Φ ds with|.ok _ d=>.ok .fr d|r=>r) Q):wpAny (model X.prog X.w) X.A (call (.ref C') us) (EP X aA σ Q) X.xe s:=by
 have hfx:H (s.heap.objs.size+1)=none:=I.hok.fresh (Nat.le_succ _);have hfd:H s.heap.objs.size=none:=I.hok.fresh (aL7 _);have hne:s.heap.objs.size≠s.heap.objs.size+1:=aLO (aMM _);have I2:=Inv.made (C:=C') I;have hsp:spI X.K X.mg c n Φ (V.ref (s.heap.objs.size+1)::vs) (upd (upd H s.heap.objs.size (.own (s.heap.objs.size+1))) (s.heap.objs.size+1) (.ins C' s.heap.objs.size [])) (λv H2=>v=.non/\Q (.ref (s.heap.objs.size+1)) H2) (λu _ H'=>∃c,X.mg c=some u/\C.EE c σ H'):=by
  refine⟨_,vs,s.heap.objs.size,C',H,F,ds,rfl,by rw[rl.length];exact hn,ns,rfl,hfx,hfd,hne,sF,rl,?_⟩
  cases ep:Φ ds with
  |stuck=>rw[ep]at w;exact w
  |exc c=>rw[ep]at w;exact λF' H' u st hu=>⟨c,hu,w F' H' st⟩
  |ok m d=>rw[ep]at w;exact λF' H' st rp=>⟨rfl,w _ F' H' st rp λ_ a ea=>by cases ea;exact hfx⟩
 have r2:aL (V.ref (s.heap.objs.size+1)::vs) (Value.ref (s.heap.objs.size+1)::us):=.cons rfl r;have hl:(Value.ref (s.heap.objs.size+1)::us++[]).length=ps.length:=by have e:=r2.length;rw[FO.len _ _ _ _ hsp]at e;rw[aMO];exact e.symm
 have hb':=hb _ (Value.ref (s.heap.objs.size+1)::us) I2.kIn hl;rw[aMO]at hb';refine aOH (zV (f:=f) I.kIn M.makes M.init (aMG.mp M.fn) (aNP (FO.run _ X.stack _ _ ⟨Value.ref (s.heap.objs.size+1)::us,[]⟩ (Value.ref (s.heap.objs.size+1)::us) _ _ _ (hr.make C' us [])
  (I2.env0.make C' us []) hb' r2 hsp) λr s' hq'=>?_))
 cases r with
 |error e=>exact hx aA σ _ _ e s' I2 hq'
 |ok fl =>
  cases fl with
  |ret u=>obtain⟨v,H',I3,rv,ev,q3⟩:=I2.after hq';subst ev;exact⟨rv,⟨V.ref (s.heap.objs.size+1),H',I3,rfl,q3⟩⟩
  |next=>exact False.elim hq'
  |brk=>exact False.elim hq'
  |cont=>exact False.elim hq'
def aDQ(M:InV X.prog X.w X.K X.mg X.base CX k c n Φ)(hr:aX (k+1) X.A)(hx:XOk CX (C.at X) X)(hg:Gl X c)(ha:PAv C X (e::es) gs)(hdb:(c==("__debug__":Str))=false)(hst:∀x∈e::es,cC x=true):PV C X (.Call (.Name c p) (e::es) [] pos) (λρ=>eV n Φ (gs ρ)):=by
 obtain⟨C',f,fd,ps,ns,hm,M,FO,hb⟩:=M.ex;intro aA s σ H Q I h;rw[aV]at h;obtain⟨ρ,F,R,w⟩:=h;refine aM2 (jC I hg hm ?_ hdb);refine aOI (h₀:=X.base) I.ok.mod.kin M.kp (thn (ha pos aA s σ H (λvs H1=>∃F1 xs,aE F H F1 H1/\RpL X.K F1 H1 xs vs/\gs ρ=.ok xs) I ?_) λus s1 ⟨vs,H1,I1,r,F1,xs,st1,rl,eg⟩=>⟨I1.kIn,?_⟩) (cN (hst e mcs)) (gQ _ _ λy hy=>hst y (mcm hy))
 . refine⟨ρ,F,R,?_⟩;cases eg:gs ρ with
   |stuck=>rw[eg]at w;exact w
   |exc c=>rw[eg]at w;exact w
   |ok xs=>exact λvs F2 H2 s2 rl=>⟨F2,xs,s2,rl,rfl⟩
 . rw[eg]at w;have w1:aT (C.at X) F1 H1 σ (eV n Φ (.ok xs)) Q:=aT.step st1 w;unfold eV at w1;rw[aY.thn_ok]at w1;cases ef:bU xs with
   |none=>rw[ef]at w1;exact w1.elim
   |some ds =>
    rw[ef]at w1;dsimp only at w1;split at w1
    . rename_i hn;exact aDP ns M FO hr hb hx I1 r st1.sub (rl.fz ef) hn w1
    . exact w1.elim
end
structure IsV(K:Fg)(mg:SOV)(cl:List CI)(c:Str):Prop where
 ex:∃C,mg c=some (.ref C)/\(∀t∈["NoneType", "bool", "int", "str", "tuple", "list", "dict"],W.kitOne K (.type t) (.ref C)=some false) /\
  ∀i∈cl,∃C',W.nsIn K mainGlobals i.name=some (some (.ref C'))/\Cls K C'/\W.findIn K (.ref C') "__class__" = some (some (.builtin "object.__class__")) /\
   W.specialIn K (.builtin "object.__class__") "__get__" = some (some (.builtin "getset_descriptor.__get__"))/\W.takesIn K (.builtin "object.__class__")=some true/\W.mroIn K C' (.type "object")=some true /\
   W.kitOne K (.ref C') (.ref C)=some (i.ups.contains c)
section
variable {e:Expr}{q:Pos}{c:Str}{cl:List CI}
end
section
variable  {a b e:Expr}{gc:Rho->Res}
def dD:D->Bool|.non=>true|_=>false
def sJ{F:Hp}{m:Md}{d:D}(s:aD F H)(r:Rp K F H m d v):decide (v=.non)=dD d:=by
 cases d with
 |non=>cases r.non;rfl
 |bl _=>cases r.bl;rfl
 |int _=>cases r.int;rfl
 |str _=>cases r.str.1;rfl
 |tup _=>obtain⟨_,_,rfl,_⟩:=r.seqT s;rfl
 |lst _=>obtain⟨_,_,rfl,_⟩:=r.seqL s;rfl
 |dct _=>obtain⟨_,_,rfl,_⟩:=r.dict s;rfl
 |ty _=>cases r.ty;rfl
 |ob _=>cases r.ob;rfl
 |ins _ _=>obtain⟨_,_,_,_,rfl,_⟩:=r.ins s;rfl
 |fn _ =>
  cases m with
  |fz=>have r:aB K F _ v:=r;simp only[aB]at r;obtain⟨_,rfl,_⟩:=r;rfl
  |fr=>obtain⟨_,_,_,q⟩:=r;exact q.elim
  |bo=>obtain⟨_,_,_,q⟩:=r;exact q.elim
 |exn _ =>
  cases m with
  |fz=>have r:aB K F _ v:=r;simp only[aB]at r;obtain⟨_,_,rfl,_⟩:=r;rfl
  |fr=>obtain⟨_,_,_,q⟩:=r;exact q.elim
  |bo=>obtain⟨_,_,_,q⟩:=r;exact q.elim
 |set _ =>
  cases m with
  |fz=>have r:aB K F _ v:=r;simp only[aB]at r;obtain⟨_,_,rfl,_⟩:=r;rfl
  |fr=>obtain⟨_,rfl,_,_⟩:=r;rfl
  |bo=>obtain⟨_,rfl,_,_⟩:=r;rfl
 |dtn _ =>
  cases m with
  |fz=>have r:aB K F _ v:=r;simp only[aB]at r;obtain⟨_,_,rfl,_⟩:=r;rfl
  |fr=>obtain⟨_,rfl,_,_⟩:=r;rfl
  |bo=>obtain⟨_,rfl,_,_⟩:=r;rfl
 |dtf _ =>
  cases m with
  |fz=>have r:aB K F _ v:=r;simp only[aB]at r;obtain⟨_,_,_,rfl,_⟩:=r;rfl
  |fr=>obtain⟨_,rfl,_,_⟩:=r;rfl
  |bo=>obtain⟨_,rfl,_,_⟩:=r;rfl
 |dcf _ =>
  cases m with
  |fz=>have r:aB K F _ v:=r;simp only[aB]at r;obtain⟨_,_,_,rfl,_⟩:=r;rfl
  |fr=>obtain⟨_,rfl,_,_⟩:=r;rfl
  |bo=>obtain⟨_,rfl,_,_⟩:=r;rfl
 |clo _ _ =>
  cases m with
  |fz=>have r:aB K F _ v:=r;simp only[aB]at r;obtain⟨_,_,_,_,_,_,_,_,_,_,rfl,_⟩:=r;rfl
  |fr=>obtain⟨_,rfl,_,_⟩:=r;rfl
  |bo=>obtain⟨_,rfl,_,_⟩:=r;rfl
noncomputable def fIs(neg:Bool):Md->D->Md->D->Option (Md×D):=λ_ x _ y=>match y with
 |.non=>some (.fz,.bl (if neg then !dD x else dD x))
 |_=>none
def aDR:OpD C X (compareOp .Is) (fIs false):=by
 refine⟨_,zH,λF H m x n y v u k d Q s rx ry e w=>?_⟩;unfold fIs at e;split at e
 . cases e;cases ry.non;exact⟨rfl,by rw[sJ s rx];exact w _ F H (.refl s) (dS _) (by nofun)⟩
 . cases e
def aDS:OpD C X (compareOp .IsNot) (fIs true):=by
 refine⟨_,zI,λF H m x n y v u k d Q s rx ry e w=>?_⟩;unfold fIs at e;split at e
 . cases e;cases ry.non;exact⟨rfl,by rw[sJ s rx];exact w _ F H (.refl s) (dS _) (by nofun)⟩
 . cases e
def sK:IsB (fIs neg):=λm x n y k d e=>by
 unfold fIs at e;split at e
 . cases e;exact⟨_,rfl,rfl⟩
 . cases e
theorem aDT:OpR X (binaryOp .Add) (λx y H Q=>∃l b xs ys,x=.ref l/\y=.ref b/\SqL X.K H l xs/\SqL X.K H b ys/\xs.length+ys.length<=sizeLine/\∀p,H p=none->Q (.ref p) (upd H p (.lst (xs++ys)))):=by
 intro aA s σ H x y v u Q I rx ry h;obtain⟨l,b,xs,ys,rfl,rfl,hl,hb,hz,q⟩:=h;cases rx;cases ry;obtain⟨its,r1,p1,_⟩:=I.list hl;obtain⟨its2,r2,p2,_⟩:=I.list hb;obtain⟨⟨cls,dd,data,sl⟩,n,ho,hc,hd1,hd⟩:=p1;obtain⟨⟨cls2,dd2,data2,sl2⟩,n2,ho2,hc2,hd2',hd2⟩:=p2;simp only at hc hd hc2 hd2;subst hc hd hc2 hd2;have e:its.toArray++its2.toArray=(its++its2).toArray:=by simp
 have l1:=r1.length;have l2:=r2.length;refine aM3 ⟨_,ho,rfl⟩ ⟨_,ho2,rfl⟩ noFill_list_add seq_list_add PySem.F.slot_list_add PySem.F.entry_list_add (PySem.F.args_list_add_2 _ _) (list_addW l b its.toArray its2.toArray n n2 dd dd2 sl sl2 (by simp;lia)) ⟨ho,ho2,?_⟩
 rw[e];refine⟨.ref s.heap.objs.size,_,I.laid (t':=s.toks) (o:=.lst (xs++ys)) (λb ob q=>hps q) (aL7 _) ?_,rfl,q _ (I.hok.fresh (aL7 _))⟩;exact⟨by rw[aM0];exact hz,_,0,r1.append r2,aLK _ rfl⟩
theorem aDU:OpR X (binaryOp .Add) (λx y H Q=>∃l b xs ys,x=.ref l/\y=.ref b/\SqT X.K H l xs/\SqT X.K H b ys/\xs.length+ys.length<=sizeLine/\(xs=[]->Q (.ref b) H)/\(xs≠[]->ys=[]->Q (.ref l) H)/\(xs≠[]->ys≠[]->∀p,H p=none->Q (.ref p) (upd H p (.tup (xs++ys))))):=by
 intro aA s σ H x y v u Q I rx ry h;obtain⟨l,b,xs,ys,rfl,rfl,hl,hb,hz,q0,q1,q2⟩:=h;cases rx;cases ry;obtain⟨its,r1,p1,_⟩:=I.tuple hl;obtain⟨its2,r2,p2,_⟩:=I.tuple hb;have n1:=r1.nil_iff;have n2:=r2.nil_iff;have l1:=r1.length;have l2:=r2.length;by_cases hv:its=[]
 . obtain⟨⟨cls,dd,data,sl⟩,ho,hc,n,hd⟩:=id p1;obtain⟨⟨cls2,dd2,data2,sl2⟩,ho2,hc2,n2',hd2⟩:=id p2;simp only at hc hd hc2 hd2;subst hc hd hc2 hd2;exact aM3 ⟨_,ho,rfl⟩ ⟨_,ho2,rfl⟩ aM4 seq_tuple_add aM5 aM6 (aM7 _ _)
     (tuple_addW0 l b its.toArray its2.toArray n n2' dd dd2 sl sl2 (by simp[hv])) ⟨ho,ho2,⟨.ref b,H,I,rfl,q0 (n1.mp hv)⟩⟩
 . refine HT.aAL p1 p2 hv (λz=>⟨.ref l,H,I,rfl,q1 (λw=>hv (n1.mpr w)) (n2.mp z)⟩) (λz=>?_) (by lia)
   refine⟨.ref s.heap.objs.size,_,I.laid (t':=s.toks) (o:=.tup (xs++ys)) (λb ob q=>hps q) (aL7 _) ?_,rfl,q2 (λw=>hv (n1.mpr w)) (λw=>z (n2.mpr w)) _ (I.hok.fresh (aL7 _))⟩;exact⟨by rw[aM0];exact hz,_,r1.append r2,eP.new _ _⟩
noncomputable def kX:Md->D->Md->D->Option (Md×D):=λm x n y=>match x,y with
 |.lst xs,.lst ys=>if xs.length+ys.length<=sizeLine then some (.fr,.lst (xs++ys))else none
 |.tup xs,.tup ys=>if xs.length+ys.length<=sizeLine then some (.fz,.tup (xs++ys))else none
 |_,_=>none
def aC.nilIff{F:Hp}(h:aC K F ds xs):xs=[]↔ds=[]:=by
 have:=h.length;constructor
 . intro e;subst e;cases ds with|nil=>rfl|cons _ _=>simp at this
 . intro e;subst e;cases xs with|nil=>rfl|cons _ _=>simp at this
def aDV:OpD C X (binaryOp .Add) kX:=by
 refine⟨_,aDT.or aDU,λF H m x n y v u k d Q s rx ry e w=>?_⟩;unfold kX at e;split at e
 . rename_i xs ys;split at e
   . rename_i hz;cases e;obtain⟨a,us,rfl,q1,r1⟩:=rx.seqL s;obtain⟨b,vs,rfl,q2,r2⟩:=ry.seqL s;refine .inl ⟨a,b,us,vs,rfl,rfl,q1,q2,by rw[r1.length,r2.length];exact hz,λp hp=>?_⟩
     exact w (.ref p) F _ (aE.fresh _ s hp) ⟨p,rfl,s.free hp,_,a9,r1.append r2⟩ λ_ a ea=>by cases ea;exact hp
   . cases e
 . rename_i xs ys;split at e
   . rename_i hz;cases e;have ex:=rx;have ey:=ry;obtain⟨a,us,rfl,q1,r1⟩:=rx.seqT s;obtain⟨b,vs,rfl,q2,r2⟩:=ry.seqT s;have fz:∀{m:Md}{zs:List D}{c:Addr},Rp X.K F H m (.tup zs) (.ref c)->aB X.K F (.tup zs) (.ref c):=λ{m zs c} h=>by
       cases m with
       |fz=>exact h
       |fr=>obtain⟨_,_,_,q⟩:=h;exact q.elim
       |bo=>obtain⟨_,_,_,q⟩:=h;exact q.elim
     refine .inr ⟨a,b,us,vs,rfl,rfl,q1,q2,by rw[r1.length,r2.length];exact hz,λz=>?_,λ_ z=>?_,λ_ _ p hp=>?_⟩
     . have:xs=[]:=r1.nilIff.mp z;subst this;exact w (.ref b) F H (.refl s) (fz ey) (by nofun)
     . have:ys=[]:=r2.nilIff.mp z;subst this;rw[aMO]at w;exact w (.ref a) F H (.refl s) (fz ex) (by nofun)
     . exact w (.ref p) _ _ (aE.laid (.tup (us++vs)) s hp) (aB.tup_of (s.free hp) (r1.append r2)) (by nofun)
   . cases e
 . cases e
def iO:List (Md×D)->Option (Md×D)
 |[(_,.lst ds)]=>some (.fz,.tup ds)
 |[(.fz,.tup ds)]=>some (.fz,.tup ds)
 |_=>none
def nL:List (Md×D)->Option (Md×D)
 |[(_,.int i)]=>some (.fz,.int i)
 |[(_,.bl b)]=>some (.fz,.int (if b then 1 else 0))
 |_=>none
def small(i:Int):Bool:=decide (i.natAbs.log2<1920)
def aDW:eD X (.type "tuple") iO:=by
 refine⟨_,aA3,λF H xs vs k d Q s rx e w=>?_⟩;unfold iO at e;split at e
 . rename_i m ds;cases e;obtain⟨v,rfl,r⟩:=rx.one;obtain⟨a,xs,rfl,q,rl⟩:=r.seqL s;exact⟨a,xs,rfl,.inl ⟨q,λl hl=>w (.ref l) _ _ (aE.laid (.tup xs) s hl) (aB.tup_of (s.free hl) rl) (by nofun)⟩⟩
 . rename_i ds;cases e;obtain⟨v,rfl,r⟩:=rx.one;have r0:=r;obtain⟨a,xs,rfl,q,rl⟩:=r.seqT s;exact⟨a,xs,rfl,.inr ⟨q,w (.ref a) F H (.refl s) r0 (by nofun)⟩⟩
 . cases e
def aDX:eD X (.type "int") nL:=by
 refine⟨_,zP,λF H xs vs k d Q s rx e w=>?_⟩;unfold nL at e;split at e
 . cases e;obtain⟨v,rfl,r⟩:=rx.one;cases r.int;exact .inl ⟨_,rfl,w _ F H (.refl s) (cR _) (by nofun)⟩
 . cases e;obtain⟨v,rfl,r⟩:=rx.one;cases r.bl;exact .inr ⟨_,rfl,w _ F H (.refl s) (cR _) (by nofun)⟩
 . cases e
end
def sL{T:String}{φ}{e:Expr}{es:List Expr}(o:eD X (.type T) φ)(hg:Gl X x)(hm:X.mg x=none)(hv:bootBuiltins x=some (.type T))(ha:PAv C X (e::es) gs)(hn:x ≠ "__name__")(hdb:(x==("__debug__":Str))=false)(hst:∀x∈e::es,cC x=true):PV C X (.Call (.Name x p) (e::es) [] pos) (λρ=>b0 φ (gs ρ)):=by obtain⟨r,h1,h2⟩:=o;exact PE.imp (aAK h1 hg hm hv ha hn hdb (cN (hst e mcs)) (gQ _ _ λy hy=>hst y (mcm hy))) λσ H Q q=>rP h2 q
section
variable {A:aP2}{E:VSP}
theorem aDY{Q:List aP0->aP1->Prop}(hA:A.handled=none)(ht:s.heap.IsList l items)(h:∀h',Heap.ExtBut s.heap.objs.size s.heap h'->∀tk,Q items.toList {s with heap:=h',toks:=tk}):wpAny (model prog w) A (unpackItems (.ref l) items.size none) Q E s:=by
 unfold unpackItems notIterableAtAll;refine aL6 (aL6 (aNS ht.typeIs PySem.F.slot_list_iter.lookup ?_));refine aL5 ?_;dsimp only;rw[if_neg aMF];refine aL6 (aND (wpAny_pyIter_list ht ?_));have hlt:l<s.heap.objs.size:=by obtain⟨o,e,_⟩:=ht;exact aLL e
 have hne:l≠s.heap.objs.size:=aLO hlt;have keep:∀b o,s.heap.get? b=some o->(s.heap.push { cls:=Value.type "list_iterator", data:=Data.fields #[Value.ref l,Value.int 0 0] }).get? b=some o:=λb o q=>hps q;have ht':(s.heap.push { cls:=Value.type "list_iterator", data:=Data.fields #[Value.ref l,Value.int 0 0] }).IsList l items:=by obtain⟨o,e,c⟩:=ht;exact⟨o,keep l o e,c⟩
 have hi':(s.heap.push { cls:=Value.type "list_iterator", data:=Data.fields #[Value.ref l,Value.int 0 0] }).IsListIter s.heap.objs.size l 0:=⟨_,aLK _ rfl,rfl,rfl⟩;refine aL6 (aND (W.kun_draw hne items.size 0 _ _ hi' ht' (by lia) λh' hi hsb=>?_))
 have ei:List.take items.size (List.drop 0 items.toList)=items.toList:=by rw[List.drop_zero];exact List.take_of_length_le (by simp)
 rw[ei];rw[if_neg (by simp)]
 have hl2:h'.IsList l items:=by obtain⟨o,e,c⟩:=ht';exact⟨o,by rw[hsb.2 l hne];exact e,c⟩
 rw[aOL]at hi;refine aL6 (aND ((Walks.list hA s.heap.objs.size l hne items).done _ _ _ ⟨hi,hl2⟩ λh2 tk k2=>?_));rw[if_neg (by simp)]
 refine aL5 (h h2 (λb o hb e=>k2 b o (by simpa using hb) ?_) tk)
 show h'.get? b=some o;rw[hsb.2 b hb];exact keep b o e
def aDZ{elts:List Expr}(hA:A.handled=none)(ht:s.heap.IsList l items)(hn:(assignEach elts env).length=items.size)(hst:(assignEach elts env).findIdx? (·.1)=none)(h:∀h',Heap.ExtBut s.heap.objs.size s.heap h'->∀tk,wpAny (model prog w) A (assignInOrder ((assignEach elts env).map (·.2)) items.toList) Q E {s with heap:=h',toks:=tk}):wpAny (model prog w) A (assign (.Tuple elts k pos) env (.ref l)) Q E s:=by rw[assign_Tuple];refine aL6 (aMP ?_);unfold unpack;rw[hst,hn];exact aL6 (aND (aDY hA ht h))
def aD0{t sl:Addr}{vl vu:aP0}{Q:VSP}(ht:IsTup s.heap t items)(hs:s.heap.IsSliceOf sl vl vu .none)(pl:IsPart vl lo)(pu:IsPart vu hi)(h0:HT.sIx items.size 0 lo=0)(h1:HT.sIx items.size items.size hi=items.size)(h:Q (.ref t) s):wpAny (model prog w) A (getItem (.ref t) (.ref sl)) Q E s:=by
 obtain⟨os,hos,hcs,hds⟩:=id hs;have tS:s.TypeIs (.ref sl) "slice" := ⟨os,hos,hcs⟩;unfold getItem
 try with_reducible refine aND ?_
 first|refine aL6 (aL5 ?_)|skip
 refine aL6 (wpAny_sequenceKey ht.typeIs (by decide) (aL6 (aNE (name:=Str.ofString "__getitem__") ht.typeIs aNF (aNG aNF ht.typeIs entry_tuple_getitem ?_ (args_tuple_getitem _ _)))))
 show wpAny _ _ (Builtin.Tuple.tupleItemsOf (.ref t)>>=_) _ _ s;refine aL6 (tupleItemsOf_ ht (aL6 (aNH tS ?_)));rw[if_pos (by decide)]
 refine aL6 (HT.qW hs pl pu ?_);have yes:(((HT.sIx items.size 0 lo:Nat):Int)==0&&(1:Int)==1&&(HT.sIx items.size items.size hi-HT.sIx items.size 0 lo)==items.size)=true:=by rw[h0,h1];simp
 show wpAny _ _ (if(((HT.sIx items.size 0 lo:Nat):Int)==0&&(1:Int)==1&&(HT.sIx items.size items.size hi-HT.sIx items.size 0 lo)==items.size)=true then _ else _) _ _ s;rw[if_pos yes];unfold Builtin.Tuple.tupleIsExact;refine aL6 (aL6 (aNH ht.typeIs (aL5 ?_)));rw[if_pos (by decide)]
 refine aL6 (wpAny_rule ?_)
 first
  |exact aL5 ⟨_,rfl,aL5 h⟩
  |exact⟨_,rfl,aL5 h⟩
end
def rSlW(K:Fg):V->Option Int->Option Int->Hp->VK->Prop:=λx lo hi H Q=>∃a xs,x=.ref a/\SqT K H a xs/\(HT.sIx xs.length 0 lo=0/\HT.sIx xs.length xs.length hi=xs.length)/\Q x H
def aD1:SlR X (rSlW X.K):=by
 intro aA s σ H x v vl vu lo hi sl Q I rx hs pl pu h;obtain⟨a,xs,rfl,hx,hw,q⟩:=h;cases rx;obtain⟨its,r,ht,hz⟩:=I.tuple hx;have hlen:its.toArray.size=xs.length:=by rw[aMD];exact r.length.symm
 exact⟨"tuple", _,PyProof.Rows.slot_tuple_getitem.lookup,ht.typeIs,aD0 ht hs pl pu (by rw[hlen];exact hw.1) (by rw[hlen];exact hw.2) ⟨.ref a,H,I,rfl,q⟩⟩
def gSeq(K:Fg)(n:Nat)(t:TGs):TG:=λv σ H Q=>∃a xs,v=.ref a/\(SqT K H a xs\/SqL K H a xs)/\xs.length=n/\t xs σ H Q
def aD2{es:List Expr}{t:TGs}(hc:X.calm=true)(h:PGs X es t)(hn:(assignEach es X.env).length=n)(hst:(assignEach es X.env).findIdx? (·.1)=none):PG X (.Tuple es k pos) (gSeq X.K n t):=by
 intro aA s σ H v u Q I r hw;obtain⟨a,xs,e1,hq,hl,hw⟩:=hw;rcases hq with hq|hq
 . exact yT hc h hn hst aA s σ H v u Q I r ⟨a,xs,e1,hq,hl,hw⟩
 . subst e1;cases r;obtain⟨its,rv,ht,hz⟩:=I.list hq;refine aDZ (I.ok.hd hc) ht.isList (by simp[hn,<- hl,rv.length]) hst λh' hx tk=>?_
   have I1:Inv X aA σ H {s with heap:=h',toks:=tk}:=I.kept (t':=tk) λb o e=>hx b o (aLO (aLL e)) e
   exact h aA _ σ H xs _ Q I1 (by simpa using rv) hw
inductive Tg where
 |nm (i:Nat)|tp (ts:List Tg)
mutual
def aP:Tg->D->Rho->Option Rho
 |.nm i,d,ρ=>some (ρ.set i (some (false,d)))
 |.tp ts,d,ρ=>match d with
  |.tup ds=>cO ts ds ρ
  |.lst ds=>cO ts ds ρ
  |_=>none
def cO:List Tg->List D->Rho->Option Rho
 |[],ds,ρ=>if ds.isEmpty then some ρ else none
 |t::ts,ds,ρ=>match ds with
  |d::ds=>(match aP t d ρ with|some ρ1=>cO ts ds ρ1|none=>none)
  |[]=>none
end
mutual
def eE:Tg->List Nat
 |.nm i=>[i]
 |.tp ts=>kY ts
def kY:List Tg->List Nat
 |[]=>[]
 |t::ts=>eE t++kY ts
end
mutual
def gOf(K:Fg):Tg->TG
 |.nm i=>jE i
 |.tp ts=>gSeq K ts.length (fX K ts)
def fX(K:Fg):List Tg->TGs
 |[]=>gNil
 |t::ts=>qF (gOf K t) (fX K ts)
end
end D3
variable {t:D3.Tg}
namespace D3
def PGw(X:Cx)(tg:Expr)(t:Tg):Prop:=PG X tg (gOf X.K t)
def gR(X:Cx)(tgs:List Expr)(ts:List Tg):Prop:=PGs X tgs (fX X.K ts)
def fY:Expr->Bool|.Starred ..=>false|_=>true
def nM{e:Expr}{es:List Expr}(h:fY e=true):assignEach (e::es) env=(false,assign e env)::assignEach es env:=by cases e <;> first|rfl|cases h
theorem nN:∀{ts:List Tg}{ds:List D}{ρ ρ':Rho},cO ts ds ρ=some ρ'->ds.length=ts.length
 |[],ds,ρ,ρ',e=>by
  simp only[cO]at e;split at e
  . rename_i h;have:ds=[]:=by simpa using h
    subst this;rfl
  . cases e
 |t::ts,ds,ρ,ρ',e=>by
  simp only[cO]at e;split at e
  . split at e
    . rw[aMH,aMH,nN e]
    . cases e
  . cases e
mutual
theorem kZ{K:Fg}{F0 H0:Hp}:∀(t:Tg) {F H:Hp}{σ:L2.St}{ρ ρ':Rho}{d:D}{v:V}{Q:L2.St->Hp->Prop},aR K F0 H0 F H σ ρ->aB K F d v->aP t d ρ=some ρ'->(∀σ',aR K F0 H0 F H σ' ρ'->σ'.length=σ.length->(∀j,j∉eE t->σ'[j]? = σ[j]?)->Q σ' H)->gOf K t v σ H Q
 |.nm i,F,H,σ,ρ,ρ',d,v,Q,R,r,e,w=>by
  simp only[aP]at e;cases e;simp only[gOf];refine w _ (R.set (m:=false) (.refl R.sub) r (by nofun)) (by rw[aN8]) λj hj=>?_
  simp only[eE,aOM]at hj;rw[aLZ (λz=>hj z.symm)]
 |.tp ts,F,H,σ,ρ,ρ',d,v,Q,R,r,e,w=>by
  simp only[aP]at e;split at e
  . rename_i ds;simp only[aB]at r;obtain⟨a,xs,rfl,hq,rl⟩:=r;simp only[gOf];refine⟨a,xs,rfl,.inl (aD.seqT R.sub hq),by rw[rl.length];exact nN e,nO ts R rl e ?_⟩
    simp only[eE]at w;exact w
  . rename_i ds;simp only[aB]at r;obtain⟨a,xs,rfl,hq,rl⟩:=r;simp only[gOf];refine⟨a,xs,rfl,.inr (R.sub.seq hq),by rw[rl.length];exact nN e,nO ts R rl e ?_⟩
    simp only[eE]at w;exact w
  . cases e
theorem nO{K:Fg}{F0 H0:Hp}:∀(ts:List Tg) {F H:Hp}{σ:L2.St}{ρ ρ':Rho}{ds:List D}{vs:List V}{Q:L2.St->Hp->Prop},aR K F0 H0 F H σ ρ->aC K F ds vs->cO ts ds ρ=some ρ'->(∀σ',aR K F0 H0 F H σ' ρ'->σ'.length=σ.length->(∀j,j∉kY ts->σ'[j]? = σ[j]?)->Q σ' H)->fX K ts vs σ H Q
 |[],F,H,σ,ρ,ρ',ds,vs,Q,R,r,e,w=>by
  simp only[cO]at e;split at e
  . cases e;rename_i hd;have:ds=[]:=by simpa using hd
    subst this;simp only[aC]at r;simp only[fX];exact⟨r,w σ R rfl λ_ _=>rfl⟩
  . cases e
 |t::ts,F,H,σ,ρ,ρ',ds,vs,Q,R,r,e,w=>by
  simp only[cO]at e;split at e
  . rename_i d ds';split at e
    . rename_i ρ1 e1;simp only[aC]at r;obtain⟨y,ys,rfl,r1,r2⟩:=r;simp only[fX];refine⟨y,ys,rfl,kZ t R r1 e1 λσ1 R1 l1 k1=>nO ts R1 r2 e λσ2 R2 l2 k2=>w σ2 R2 (l2.trans l1) λj hj=>?_⟩;simp only[kY,aLV,not_or]at hj;rw[k2 j hj.2,k1 j hj.1]
    . cases e
  . cases e
end
def aD3(hN:X.N.Nodup)(hi:X.N[i]? = some x)(hx:L2.Loc X.env.scope x)(hf:X.fn x=true\/X.env.scope.names.lookup x=some .local):PGw X (.Name x pos) (.nm i):=by unfold PGw;simp only[gOf];exact yQ hN hi hx hf
def aD4:gR X [] []:=by unfold gR;simp only[fX];exact yR
def aD5{e:Expr}{es:List Expr}{ts:List Tg}(h1:PGw X e t)(h2:gR X es ts)(hs:fY e=true):gR X (e::es) (t::ts):=by unfold gR;simp only[fX];exact yS h1 h2 (by rw[nM hs];rfl)
def aD6{es:List Expr}(hs:∀e∈es,fY e=true):(assignEach es env).length=es.length/\(assignEach es env).findIdx? (·.1)=none:=by
 induction es with
 |nil=>exact⟨rfl,rfl⟩
 |cons e es ih =>
  obtain⟨h1,h2⟩:=ih λx hx=>hs x (mcm hx);rw[nM (hs e mcs)];refine⟨by rw[aMH,aMH,h1],?_⟩
  rw[List.findIdx?_cons];simp[h2]
def aD7{es:List Expr}{ts:List Tg}(hc:X.calm=true)(h:gR X es ts)(hs:∀e∈es,fY e=true)(hl:es.length=ts.length):PGw X (.Tuple es k pos) (.tp ts):=by have st:=aD6 (env:=X.env) hs;unfold PGw;simp only[gOf];exact aD2 (n:=ts.length) hc h (by rw[st.1,hl]) st.2
def aD8(h:PGw X tg t):PGv C X tg (aP t) :=
 ⟨_,h,λF H σ ρ ρ' d v Q R r e w=>kZ t R r e λσ' R' _ _=>w σ' F H (aD.refl _) R'⟩
def k6(t:Tg)(ρ:Rho)(r:Res):aF:=(aG r).thS ρ λm d=>match m with|.fz=>(match aP t d ρ with|some ρ'=>.nx ρ'|none=>.stuck)|_=>.stuck
def aD9{e:Expr}(he:PV C X e g)(hg:PGw X tg t)(hs:swapsWithSole [tg] e pos.line X.env=pure false)(hw:swappedStores [tg] e X.env=pure none)(hst:fY tg=true):PSv C X (.Assign [tg] e pos) (λρ=>k6 t ρ (g ρ)):=by
 refine PS.imp (yU (gN he) hg hs hw (by rw[nM hst];rfl)) λEn σ H qq=>?_
 obtain⟨ρ,F,R,w⟩:=qq;unfold k6 at w;refine iK R w λm d v F' H' w' s R' rp fr=>?_;cases m with
 |fr=>exact(show False from w').elim
 |bo=>exact(show False from w').elim
 |fz =>
 cases eg:aP t d ρ with
 |none=>rw[eg]at w';exact(show False from w').elim
 |some ρ'=>rw[eg]at w';have rv:aB X.K F' d v:=rp;exact kZ t R' rv eg λσ' R'' _ _=>w' σ' F' H' (aD.refl _) R''
section
variable {e:Expr}
theorem sM{gt:Rho->Res}(hsl:∀j∈eE t,caps.length<=j){Q:VK}(q:tG (C.at X) (λρ=>eU (gi ρ) ρ caps tgN.length (aP t) gt ge) σ H Q):jP caps tgN.length (tIv (C.at X) gi) (gOf X.K t) (tT (C.nox.at X) gt) (tG (C.nox.at X) λρ=>aG (ge ρ)) σ H Q:=by
 rw[aV]at q;obtain⟨ρ,F,RS,w⟩:=q;unfold jP;refine⟨ρ,F,RS,?_⟩;cases er:gi ρ with
 |stuck=>rw[er]at w;exact w
 |exc c=>rw[er]at w;exact w
 |ok m d =>
  rw[er]at w;cases d with
  |lst ds =>
   unfold eU at w;rw[Res.thn_ok]at w;dsimp only at w;split at w
   . rename_i hsz;intro J F1 H1 s1 hJ Da hDa;cases et:fD (aP t) gt ge (bT caps ρ++List.replicate tgN.length none) ds with
     |none=>rw[et]at w;exact w.elim
     |some total =>
      rw[et]at w;have hD0:H Da=none:=s1.same.free hDa;have hF1:F1 Da=none:=s1.sub.free hDa;have R0:=aC9 caps tgN.length RS;refine⟨λi m ys H'=>m=ds.length-i/\i<=ds.length/\H' Da=some (.lst ys)/\∃F' zs,aE F H F' H'/\aD F1 F'/\F' Da=none/\aC X.K F' zs ys/\zs.length<=i /\
       ∃rest,fD (aP t) gt ge (bT caps ρ++List.replicate tgN.length none) (ds.drop i)=some rest/\total=zs++rest,
       ⟨ds.length,by simp,aMN _,a9,F1,[],s1.upd hD0 hF1,aD.refl _,hF1,aC.nil,aL7 _,total,by simpa using et,rfl⟩,?_⟩
      rintro i m ys H' ⟨rfl,hile,hD,F',zs,st,sF,hFD,rz,hzl,rest,ec,etot⟩;refine⟨hD,?_⟩;by_cases hlt:i<ds.length
      . refine .inr ⟨hJ.go i H' (sF.trans st.sub) hlt,by rw[rz.length];lia,λv H2 y=>?_⟩
        obtain⟨F2,d,ed,s2,rd⟩:=hJ.yld i F' H' v H2 sF st.sub hlt y;have hd:ds.drop i=d::ds.drop (i+1):=by rw[List.drop_eq_getElem_cons hlt];rw[aOC hlt]at ed;cases ed;rfl
        rw[hd]at ec;unfold fD at ec;have hD2:H2 Da=some (.lst ys):=s2.same _ _ hD;have hF2:F2 Da=none:=s2.new _ hFD (by rw[hD];exact λz=>nomatch z)
        cases eg:aP t d (bT caps ρ++List.replicate tgN.length none)with
        |none=>rw[eg]at ec;cases ec
        |some ρ1 =>
        rw[eg]at ec;dsimp only at ec;have R2:=(R0.step st).step s2;refine kZ t R2 rd eg λσ1 R1 len1 keep1=>?_;refine⟨⟨len1.symm,λj u ej=>?_⟩,ρ1,F2,R1,?_⟩
        . by_cases hj:j∈eE t
          . have:=hsl j hj;rw[aMV (by simpa[c8]using this),aMW]at ej
            split at ej <;> cases ej
          . rw[keep1 j hj];exact ej
        cases ett:gt ρ1 with
        |stuck=>rw[ett]at ec;cases ec
        |exc c=>rw[ett]at ec;cases ec
        |ok mt dt =>
         cases dt with
         |bl b =>
          rw[ett]at ec;intro F3 H3 s3;have hD3:H3 Da=some (.lst ys):=s3.same _ _ hD2;have hF3:F3 Da=none:=s3.new _ hF2 (by rw[hD2];exact λz=>nomatch z)
          cases b with
          |false=>rw[if_neg aMF];exact⟨ds.length-(i+1),by lia,rfl,hlt,hD3,F3,zs,(st.trans s2).trans s3,(sF.trans s2.fsame).trans s3.fsame,hF3,rz.mono (s2.fsame.trans s3.fsame) _ _,Nat.le_succ_of_le hzl,rest,ec,etot⟩
          |true =>
           rw[if_pos rfl,aV];refine⟨_,F3,R1.step s3,?_⟩;dsimp only at ec;cases ee:aG (ge ρ1)with
           |stuck=>rw[ee]at ec;cases ec
           |exc c=>rw[ee]at ec;cases ec
           |ok me ye =>
            rw[ee]at ec;dsimp only at ec;have hme:me=.fz:=by
             cases h:ge ρ1 with
             |ok m' d'=>rw[h]at ee;cases m' <;> cases ee <;> rfl
             |exc c=>rw[h]at ee;cases ee
             |stuck=>rw[h]at ee;cases ee
            subst hme;cases er2:fD (aP t) gt ge (bT caps ρ++List.replicate tgN.length none) (ds.drop (i+1))with
            |none=>rw[er2]at ec;cases ec
            |some rest' =>
             rw[er2]at ec;cases ec;intro u F4 H4 s4 ru _;have hD4:H4 Da=some (.lst ys):=s4.same _ _ hD3;have hF4:F4 Da=none:=s4.new _ hF3 (by rw[hD3];exact λz=>nomatch z)
             refine⟨hD4,ds.length-(i+1),by lia,rfl,hlt,a9,F4,zs++[ye],(((st.trans s2).trans s3).trans s4).upd hD0 hF4,((sF.trans s2.fsame).trans s3.fsame).trans s4.fsame,hF4,?_,by simp;lia,rest',er2,by rw[etot];simp⟩
             exact aC.append (rz.mono ((s2.fsame.trans s3.fsame).trans s4.fsame) _ _) (aC.cons ru aC.nil)
         |_=>rw[ett]at ec;cases ec
      . have ei:i=ds.length:=by lia
        subst ei;rw[List.drop_length]at ec;cases ec;rw[aMO]at etot;subst etot;exact .inl ⟨hJ.stop _ H' (sF.trans st.sub) (aL7 _),w (.ref Da) F' H' st ⟨Da,rfl,hFD,ys,hD,rz⟩ λ_ a ea=>by cases ea;exact hD0⟩
   . exact w.elim
  |_=>exact w.elim
def aEA{gt:Rho->Res}(hc:X.calm=true)(hi:PIv C X tg aS gi)(bV:∀y∈scope.names,y.2 ≠ .cell)(cJ:scope.kind=.function)(eM:∀y∈scope.names,y.2=.local->scope.names.lookup y.1=some .local)(cY:∀y∈scope.names,y.2=.free->X.env.kindOf y.1=some .cell\/X.env.kindOf y.1=some .free)(dM:aI.map some=caps.map λi=>X.N[i]?)(eO:∀y∈aI,(y,NameKind.free)∈scope.names)(eN:∀y∈aI,(relabel scope X.env).names.lookup y=some .cell\/(relabel scope X.env).names.lookup y=some .free)(hsl:∀j∈eE t,caps.length<=j)(hg:∀cl A fp s3 H3,PGw (bB X scope (aI++tgN) cl A fp s3 H3) tg t)(hf:∀cl A fp s3 H3,cV (bB X scope (aI++tgN) cl A fp s3 H3) ifs (tT (C.nox.at X) gt))(he:∀cl A fp s3 H3,PV C.nox (bB X scope (aI++tgN) cl A fp s3 H3) elt ge)(hs:∀x,foldedSetIterable aS X.env x=pure x:=by intro _;rfl):PV C X (.ListComp elt [⟨tg,aS,ifs,0⟩] scope pos) (λρ=>eU (gi ρ) ρ caps tgN.length (aP t) gt ge):=by
 have capLen:aI.length=caps.length:=by simpa using congrArg List.length dM
 refine PE.imp (aC5 (aI:=aI) (tgN:=tgN) (gt:=gOf X.K t) (tt:=tT (C.nox.at X) gt) (te:=tG (C.nox.at X) λρ=>aG (ge ρ)) hc hi bV cJ eM cY dM eO eN
  hg hf (λcl A fp s3 H3=>gN (he cl A fp s3 H3)) hs) λσ H Q q=>sM hsl q
def aEB(fz:Bool){spos:Pos}{gt:Rho->Res}(hc:X.calm=true)(hi:PIv C X tg aS gi)(bV:∀y∈scope.names,y.2 ≠ .cell)(cJ:scope.kind=.function)(eM:∀y∈scope.names,y.2=.local->scope.names.lookup y.1=some .local)(cY:∀y∈scope.names,y.2=.free->X.env.kindOf y.1=some .cell\/X.env.kindOf y.1=some .free)(dM:aI.map some=caps.map λi=>X.N[i]?)(eO:∀y∈aI,(y,NameKind.free)∈scope.names)(eN:∀y∈aI,(relabel scope X.env).names.lookup y=some .cell\/(relabel scope X.env).names.lookup y=some .free)(hsl:∀j∈eE t,caps.length<=j)(hg:∀cl A fp s3 H3,PGw (bB X scope (aI++tgN) cl A fp s3 H3) tg t)(hf:∀cl A fp s3 H3,cV (bB X scope (aI++tgN) cl A fp s3 H3) ifs (tT (C.nox.at X) gt))(he:∀cl A fp s3 H3,PV C.nox (bB X scope (aI++tgN) cl A fp s3 H3) elt ge)(hN:X.N.Nodup)(hx:X.N[i]? = some x)(hk:X.env.scope.names.lookup x=some .local)(hsw:swapsWith (.ListComp elt [⟨tg,aS,ifs,0⟩] scope pos) (some (.Name x pos')) spos.line X.env=pure true)(hs:∀x,foldedSetIterable aS X.env x=pure x:=by intro _;rfl):PSv C X (.Assign [.Name x pos'] (.ListComp elt [⟨tg,aS,ifs,0⟩] scope pos) spos) (λρ=>dC ρ i (if fz=true then aG (eU (gi ρ) ρ caps tgN.length (aP t) gt ge)else eU (gi ρ) ρ caps tgN.length (aP t) gt ge)):=by
 refine PS.imp (aC6 (aI:=aI) (tgN:=tgN) (gt:=gOf X.K t) (tt:=tT (C.nox.at X) gt) (te:=tG (C.nox.at X) λρ=>aG (ge ρ)) hc hi bV cJ eM cY dM eO eN
  hg hf (λcl A fp s3 H3=>gN (he cl A fp s3 H3)) hN hx hk hsw hs) λE σ H q=>sM hsl ?_
 cases fz with
 |false=>exact nE q
 |true=>have q:=nE q;unfold jF at q;rw[aV]at q ⊢;obtain⟨ρ,F,R,w⟩:=q;exact⟨ρ,F,R,aT.frz w⟩
end
section
variable {e:Expr}
end
inductive PVL(C:Cw)(X:Cx):List Expr->List (Rho->Res)->Prop where
 |nil:PVL C X [] []
 |cons {e:Expr}{g:Rho->Res}{es:List Expr}{gs:List (Rho->Res)} (h:PV C X e g) (r:PVL C X es gs):PVL C X (e::es) (g::gs)
inductive LtI(A:aP2)(s:aP1):List aP0->List aP0->Bool->Prop where
 |nn:LtI A s [] [] false
 |nc {w:aP0}{ws:List aP0}:LtI A s [] (w::ws) true
 |cn {v:aP0}{vs:List aP0}:LtI A s (v::vs) [] false
 |eq {v w:aP0}{vs ws:List aP0}{b:Bool} (h:SeqAt.EqAt A s v w true) (r:LtI A s vs ws b):LtI A s (v::vs) (w::ws) b
 |ne {v w:aP0}{vs ws:List aP0}{b:Bool} (h:SeqAt.EqAt A s v w false) (l:∀(prog:aP4) (w':aP3) (E:VSP) (Q:VSP),Q (.bool b) s->wpAny (model prog w') A (richCompare .Lt v w) Q E s):LtI A s (v::vs) (w::ws) b
section
open PySem.SeqAt
open PySem.AutoSeq1 (wpAny_loadPart')
open PySem.MeetsSeq PySem.MeetsSeq2 PySem.MeetsSeq3
theorem aEC(l b:Addr)(items items2:Array aP0)(n n2:Nat)(dd dd2:Option Addr)(sl sl2:Array (Option aP0))(r:Bool):Meets (Builtin.«tuple.__lt__» ⟨[.ref l,.ref b],[]⟩) (λA R s=>s.heap.get? l=some { cls:=.type "tuple", dict:=dd,data:=.seq items n,slots:=sl }/\s.heap.get? b=some { cls:=.type "tuple", dict:=dd2,data:=.seq items2 n2,slots:=sl2 }/\LtI A.in1 s items.toList items2.toList r/\R (.ok (.ret (.bool r))) s) :=
 .of_wp λprog w A R s h=>by
  obtain⟨hp,g,d,tk,os⟩:=s;obtain⟨hl,hb,hi,h⟩:=h;have f2:=AutoSeq1.sub_tuple_tuple
  wp_walk using wpAny_loadPart' hl,wpAny_loadPart' hb,aNT _ (λrest b s'=>b.1=none/\s'=⟨hp,g,d,tk,os⟩/\∃(vs ws:List aP0),rest=vs.zip ws /\
   LtI A.in1 ⟨hp,g,d,tk,os⟩ vs ws r/\vs.length+items2.size=ws.length+items.size) _
  case turn =>
   rintro⟨y,x⟩ rest b s' ⟨hb',rfl,vs,ws,hz,hvi,hlen⟩;cases hvi with
   |nn=>rw[List.zip_nil_left]at hz;cases hz
   |nc=>rw[List.zip_nil_left]at hz;cases hz
   |cn=>rw[List.zip_nil_right]at hz;cases hz
   |eq he hr =>
    rw[aON]at hz;injection hz with hyx hrest
    injection hyx with hy hx
    subst hy hx;simp only[aMH]at hlen;refine aL6 (he prog w _ _ ?_)
    wp_walk
    exact⟨rfl,rfl,_,_,hrest,hr,by lia⟩
   |ne he hr =>
    rw[aON]at hz;injection hz with hyx hrest
    injection hyx with hy hx
    subst hy hx;refine aL6 (he prog w _ _ ?_);have hri:=hr prog w
    wp_walk using hri
    exact⟨_,rfl,by simpa using h⟩
  case fin =>
   rintro⟨b1,b2⟩ s' ⟨hb',rfl,vs,ws,hz,hvi,hlen⟩;simp only at hb';subst hb';have hv:r=decide (items.size<items2.size):=by
    cases hvi with
    |nn=>simp only[aOO]at hlen;exact(aLI (by lia)).symm
    |nc=>simp only[aOO,aMH]at hlen;exact(aNO (by lia)).symm
    |cn=>simp only[aOO,aMH]at hlen;exact(aLI (by lia)).symm
    |eq he hr=>rw[aON]at hz;cases hz
    |ne he hr=>rw[aON]at hz;cases hz
   rw[hv]at h
   wp_walk
   exact⟨_,rfl,by simpa[Builtin.Tuple.tupleCompareSizes]using h⟩
  case h=>exact⟨rfl,rfl,items.toList,items2.toList,rfl,hi,by simp[Nat.add_comm]⟩
end
section
variable {A:aP2}{E:VSP}
def aED{items2:Array aP0}{r:Bool}{Q:VSP}(hl:IsTup s.heap l items)(hb:IsTup s.heap b items2)(hi:LtI (A.in1) s items.toList items2.toList r)(hu:A.units<cLine)(h:Q (.bool r) s):wpAny (model prog w) A (compareOp .Lt (.ref l) (.ref b)) Q E s:=by
 obtain⟨⟨cls,dd,data,sl⟩,ho,hc,n,hd⟩:=id hl;obtain⟨⟨cls2,dd2,data2,sl2⟩,ho2,hc2,n2,hd2⟩:=id hb;simp only at hc hd hc2 hd2;subst hc hd hc2 hd2;exact richCompare_meets_room (op:=.Lt) ⟨_,ho,rfl⟩ ⟨_,ho2,rfl⟩ PySem.F.slot_tuple_lt PySem.F.entry_tuple_lt (PySem.F.args_tuple_lt_2 _ _) (aEC l b items items2 n n2 dd dd2 sl sl2 r)
  ⟨ho,ho2,hi,show Value.bool r≠Value.notImplemented/\Q (.bool r) s from⟨(λx=>nomatch x),h⟩⟩ hu
end
def iP:List (Md×D)->Option (Md×D):=λxs=>match xs with
 |[(_,.str z)]=>if z.length<=640 then(PySem.intText? z).map λn=>(.fz,.int n)else none
 |_=>nL xs
def aEE:eD X (.type "int") iP:=by
 obtain⟨r,h1,h2⟩:=aDX (X:=X);refine⟨λxs H Q=>r xs H Q\/∃z n,xs=[.str z]/\z.length<=640/\PySem.intText? z=some n/\Q (.int n) H,?_,λF H xs vs k d Q s rx e w=>?_⟩
 . intro aA s σ H xs us Q I rr h;rcases h with h|⟨z,n,rfl,hl,hn,q⟩
   . exact h1 aA s σ H xs us Q I rr h
   . obtain⟨u,rfl,t,rfl⟩:=fA rr;exact W.KIN.call_text hn hl ⟨.int n,H,I.tok _,⟨_,rfl⟩,q⟩
 . unfold iP at e;split at e
   . rename_i m z;split at e
     . rename_i hl;cases en:PySem.intText? z with
       |none=>rw[en]at e;cases e
       |some n=>rw[en]at e;cases e;obtain⟨v,rfl,r0⟩:=rx.one;obtain⟨rfl,_⟩:=r0.str;exact .inr ⟨z,n,rfl,hl,en,w _ F H (.refl s) (cR _) (by nofun)⟩
     . cases e
   . exact .inl (h2 F H xs vs k d Q s rx e w)
section
open PySem.SeqAt
open PySem.AutoSeq1 (wpAny_loadPart')
open PySem.MeetsSeq PySem.MeetsSeq2 PySem.MeetsSeq3
variable {A:aP2}{E:VSP}
end
def nP{its:List Addr}(I:Inv X aA σ H s)(k:∀b o,b∉its->s.heap.get? b=some o->h'.get? b=some o)(hf:∀b∈its,cG X aA H b):Inv X aA σ H {s with heap:=h',toks:=t'}:=by
 have ni:∀{b u},H b=some u->b∉its:=λe z=>by rw[(hf _ z).1]at e;cases e
 refine I.call (g':=s.gens) (d':=s.drawn) (ch:=its) ⟨λb o e _ _ hx=>k b o hx e,λb o e _ _ hx=>⟨o.slots,k b o hx e⟩,λb o e h0 _=>h0,λb o e hx=>⟨o,k b o hx e⟩,
  λb u e=>e,λb u v e=>e,λb u e=>⟨#[],by rw[e];simp⟩⟩ (λb u e=>?_) I.bare λb hb=>?_
 . refine(I.hok b u e).stay (λc v hc q=>k c v ?_ q) (λ_ q=>q) λ_ _ q=>q;rcases hc with z|z
   . rw[z];exact ni e
   . exact ni z
 . obtain⟨f0,f1,f2,f3,f4,f5⟩:=hf b hb;exact⟨f3,f1,f4,f5⟩
section
variable  {e:Expr}
end
open PySem.AutoSeq1 (wpAny_loadPart')
section
variable {A:aP2}{E:VSP}
end
section
variable {elts:List Expr}{cx:Nat}
end
section
variable  {e:Expr}
end
open PySem.Calls PySem.W
section
variable {A:aP2}{E:VSP}{x D:Addr}{ox:Obj}{od:Option Obj}
def XAt(h:Heap)(x:Addr)(ox:Obj)(D:Addr):Prop:=h.get? x=some ox/\ox.cls=.ref D
structure XCls(K:Fg)(D:Addr):Prop where
 ga:W.findIn K (.ref D) "__getattribute__" = some (some (.builtin "BaseException.__getattribute__"))
 gn:W.findIn K (.ref D) "__getattr__" = some none
 ca:W.findIn K (.ref D) "__class__" = some (some (.builtin "object.__class__"))
 bx:W.mroIn K D (.type "BaseException")=some true
 ob:W.mroIn K D (.type "object")=some true
 hn:W.specialIn K (.builtin "object.__class__") "__get__" = some (some (.builtin "getset_descriptor.__get__"))
 tk:W.takesIn K (.builtin "object.__class__")=some true
end
open PySem.Calls
structure Fly(P:aP4)(w:aP3)(outer:List Env)(H:Hp)(s:aP1)(H1:Hp)(B hp:Heap):Prop where
 un:Un (frs outer) [] H H1 s.heap hp
 ok:HOk P w H1 hp
 kb:∀b o,hp.get? b=some o->s.heap.get? b≠none->b∉frs outer->B.get? b=some o
 kh:∀b u,H1 b=some u->∃o,hp.get? b=some o/\B.get? b=some o
 fr:∀b∈frs outer,H b=none/\∃o,s.heap.get? b=some o/\∀vs,o.data ≠ .fields vs
section
variable  {H1:Hp}{B:Heap}
def fF:b∉([]:List Addr):=by simp
theorem Fly.slots(f:Fly P w outer H s H1 B hp)(up:hp.UpToSlots h')(hb:b∈frs outer):∃o sl sl',s.heap.get? b=some o/\hp.get? b=some {o with slots:=sl}/\h'.get? b=some {o with slots:=sl'}:=by obtain⟨hn,o,e,nf⟩:=f.fr b hb;obtain⟨sl,e1⟩:=f.un.slot b o e hn hb fF;obtain⟨sl',e2⟩:=up b _ e1 nf;exact⟨o,sl,sl',e,e1,e2⟩
def Fly.on(f:Fly P w outer H s H1 B hp)(st:B.StaysIn h')(up:hp.UpToSlots h'):Fly P w outer H s H1 B h' where
 un:={
  keep:=λb o e n hb _=>st b o (f.kb b o (f.un.keep b o e n hb fF) (by rw[e];exact λz=>nomatch z) hb)
  slot:=λb o e n hb _=>by obtain⟨o',sl,sl',e0,_,e2⟩:=f.slots up hb;rw[e]at e0;cases e0;exact⟨sl',e2⟩
  free:=f.un.free
  there:=λb o e _=>by
   by_cases hb:b∈frs outer
   . obtain⟨o',sl,sl',e0,_,e2⟩:=f.slots up hb;exact⟨_,e2⟩
   . obtain⟨o',e1⟩:=f.un.there b o e fF;exact⟨o',st b o' (f.kb b o' e1 (by rw[e];exact λz=>nomatch z) hb)⟩
  tups:=f.un.tups
  frzs:=f.un.frzs
  tbls:=f.un.tbls }
 ok := fun a o e => (f.ok a o e).stay (fun b u hb q => by
     have:∃u',H1 b=some u':=by
      rcases hb with rfl|hb
      . exact⟨o,e⟩
      . exact⟨_,hb⟩
     obtain⟨u',eu⟩:=this;obtain⟨o',e1,e2⟩:=f.kh b u' eu;rw[q]at e1;cases e1;exact st b u e2) (λ_ q=>q) λ_ _ q=>q
 kb:=λb o e ns hb=>by
  cases e0:s.heap.get? b with
  |none=>exact absurd e0 ns
  |some o0=>obtain⟨o',e1⟩:=f.un.there b o0 e0 fF;have e2:=f.kb b o' e1 ns hb;have e3:=st b o' e2;rw[e]at e3;cases e3;exact e2
 kh:=λb u e=>by obtain⟨o,_,e2⟩:=f.kh b u e;exact⟨o,st b o e2,e2⟩
 fr:=f.fr
end
def CX1(P:aP4)(w:aP3):CXT:=λouter H s E ev s'=>∃(e C:Addr) (a0:aP0) (H1:Hp) (B:Heap),
 ev=.ref e/\s'.os=s.os/\AllBare s'.gens/\Heap.FlyingW B outer e (.ref C) a0 s'.heap/\Fly P w outer H s H1 B s'.heap/\E (.ref C) none H1
section
variable  {H1:Hp}{B:Heap}{E:XK}
def aEF(I:Inv X aA σ H s):∀b∈frs X.stack,H b=none/\∃o,s.heap.get? b=some o/\∀vs,o.data ≠ .fields vs:=λb hb =>
 ⟨I.stkFree b hb,(I.stack.mem hb).2⟩
def Fly.inv(I:Inv X aA σ H s)(f:Fly X.prog X.w X.stack H s H1 B s'.heap)(ho:s'.os=s.os)(hg:AllBare s'.gens):Inv X aA σ H1 s' :=
 Inv.call' (ch:=[]) I ho f.un f.ok hg (λb z=>absurd z fF)
def Fly.out(I:Inv X aA σ H s)(f:Fly X.prog X.w X.stack H s H1 B s'.heap)(ho:s'.os=s.os)(hg:AllBare s'.gens)(hx:X.ex=[])(hs:X.stack=X.env::X.outer)(hf:X.env.frame=some X.env.locals)(st:B.StaysIn h')(up:s'.heap.UpToSlots h'):Fly X.prog X.w X.outer X.H₀ X.s₀ H1 B h':=by
 have I1:=f.inv I ho hg;have f1:=f.on st up;have ub:=I1.base;rw[hx]at ub;have old:∀b o,X.s₀.heap.get? b=some o->∃o',s.heap.get? b=some o':=λb o e=>I.base.there b o e (by rw[hx];exact fF)
 have nl:∀b o,X.s₀.heap.get? b=some o->b≠X.env.locals:=λb o e z=>absurd (aLL e) (by rw[z];exact Nat.not_lt.mpr I.ok.above)
 have sub:∀b,b∉frs X.outer->b≠X.env.locals->b∉frs X.stack:=λb h1 h2 z=>by
  rcases aLU.mp (I.stkSub b z)with q|q
  . exact h2 q
  . exact h1 q
 have sup:∀b,b∈frs X.outer->b∈frs X.stack:=λb hb=>by rw[hs];unfold frs;rw[aLT,hf];exact mcm hb
 refine⟨⟨λb o e n hb _=>?_,λb o e n hb _=>?_,ub.free,λb o e _=>?_,ub.tups,ub.frzs,ub.tbls⟩,f1.ok,λb o e ns hb=>?_,f1.kh,λb hb=>?_⟩
 . have e1:=ub.keep b o e n hb fF;obtain⟨o',e0⟩:=old b o e;exact st b o (f.kb b o e1 (by rw[e0];exact λz=>nomatch z) (sub b hb (nl b o e)))
 . obtain⟨sl,e1⟩:=ub.slot b o e n hb fF;obtain⟨o',sl1,sl2,e0,e1',e2⟩:=f.slots up (sup b hb);have q:=aL0 (e1.symm.trans e1');refine⟨sl2,?_⟩;rw[e2];obtain⟨c1,d1,t1,l1⟩:=o;obtain⟨c2,d2,t2,l2⟩:=o';simp only[Obj.mk.injEq]at q;obtain⟨rfl,rfl,rfl,_⟩:=q;rfl
 . obtain⟨o',e0⟩:=old b o e;exact f1.un.there b o' e0 fF
 . cases e0:X.s₀.heap.get? b with
   |none=>exact absurd e0 ns
   |some o0=>obtain⟨o',e1⟩:=old b o0 e0;exact f1.kb b o e (by rw[e1];exact λz=>nomatch z) (sub b hb (nl b o0 e0))
 . exact⟨I.ok.frf b hb,(I.ok.funs.mem hb).2⟩
def fG(h:Heap)(l:List Env):Heap:=W.hideAll h (frs l)
def Fly.raise(I:Inv X aA σ H s)(hx:X.ex=[])(hs:X.stack=X.env::X.outer)(hf:X.env.frame=some X.env.locals)(st:(fG s.heap X.stack).StaysIn h')(up:s.heap.UpToSlots h'):Fly X.prog X.w X.outer X.H₀ X.s₀ H (fG s.heap X.stack) h':=by
 have f:Fly X.prog X.w X.stack H s H (fG s.heap X.stack) s.heap :=
  ⟨Un.refl,I.hok,λb o e _ hb=>W.hideAll_get _ e hb,λb u e=>by
   have hn:b∉frs X.stack:=λz=>by rw[I.stkFree b z]at e;cases e
   have:∃o,s.heap.get? b=some o:=by
    have:=I.hok b u e;cases u with
    |lst xs=>obtain⟨_,_,_,_,e⟩:=this;exact⟨_,e⟩
    |tup xs=>obtain⟨_,_,_,o,e,_⟩:=this;exact⟨_,e⟩
    |dK kvs=>obtain⟨_,_,_,_,o,_,_,e,_⟩:=this;exact⟨_,e⟩
    |dT kvs=>obtain⟨_,_,_,_,o,_,_,e,_⟩:=this;exact⟨_,e⟩
    |dN kvs=>obtain⟨_,_,_,_,o,_,_,e,_⟩:=this;exact⟨_,e⟩
    |set S n=>obtain⟨o,_,_,_,e,_⟩:=this;exact⟨_,e⟩
    |ins C dx fs=>obtain⟨_,_,_,e,_⟩:=this;exact⟨_,e⟩
    |own y=>obtain⟨_,e⟩:=this;exact⟨_,e⟩
    |xd fs=>obtain⟨_,⟨_,_,_,e,_⟩,_⟩:=this;exact⟨_,e⟩
    |rng lo hi=>obtain⟨_,_,_,e⟩:=this;exact⟨_,e⟩
    |frz ob u=>obtain⟨e,_⟩:=this;exact⟨_,e⟩
    |tbl ps=>obtain⟨_,_,_,e,_⟩:=this;exact⟨_,e⟩
    |crec q=>obtain⟨_,_,_,e,_⟩:=this;exact⟨_,e⟩
    |met f y=>exact⟨_,this⟩
    |ext φ=>obtain⟨_,⟨_,e⟩,_⟩:=this;exact⟨_,e⟩
   obtain⟨o,eo⟩:=this;exact⟨o,eo,W.hideAll_get _ eo hn⟩,aEF I⟩
 exact f.out I rfl I.bare hx hs hf st up
end
noncomputable def vErr:List aP0:=[.type "ValueError", .type "Exception", .type "BaseException", .type "object"]
def sN(K:Fg)(C:Addr):Prop:=W.excIn K C vErr "ValueError.__new__" = true
def RzOk(C:Cw)(X:Cx):Prop:=∀(aA:LAO) (σ:L2.St) (H:Hp) (s:aP1) (c:Str) (Cc:Addr) (vs:List aP0) (h':Heap) (e:Addr),Inv X aA σ H s->X.mg c=some (.ref Cc)->C.EE c σ H ->
 Heap.MadeExcOf s.heap h' e (.ref Cc) vs->X.xe (.ref e) {s with heap:=h'}
section
variable {e:Expr}{es:List Expr}{np:Pos}
structure FnCx(X:Cx):Prop where
 hx:X.ex=[]
 hs:X.stack=X.env::X.outer
 hf:X.env.frame=some X.env.locals
end
section
variable {N:List Str}{f:Addr}{A:aP2}{E:XK}
def fnCx:FnCx (bZ (CX1 P w) P w K mg base N qual scope f cdv A outer s H E):=⟨rfl,rfl,rfl⟩
def iQ(mg:SOV)(E:XK):XE:=λc _ H'=>∀u,mg c=some u->E u none H'
def sO(hE:C.EE=iQ mg E):XOk (CX1 P w) C (bZ (CX1 P w) P w K mg base N qual scope f cdv A outer s H E):=by intro aA σ H1 s1 ev s' I h;obtain⟨e,Cc,a0,H2,B,rfl,ho,hg,fl,fy,c,hm,he⟩:=h;rw[hE]at he;have I0:=I.ok.frames;refine wpAny_leaves_onW I0 rfl fl λh' fl' up=>?_;exact⟨e,Cc,a0,H2,B,rfl,ho.trans I.os,hg,fl',fy.out I ho hg rfl rfl rfl fl'.1 up,he _ hm⟩
def sP(hE:C.EE=iQ mg E):RzOk C (bZ (CX1 P w) P w K mg base N qual scope f cdv A outer s H E):=by
 intro aA σ H1 s1 c Cc vs h1 e I hm he made;rw[hE]at he;have I0:=I.ok.frames;have hin:∀env∈(bZ (CX1 P w) P w K mg base N qual scope f cdv A outer s H E).stack,∀a,env.frame=some a->a∈frs (bZ (CX1 P w) P w K mg base N qual scope f cdv A outer s H E).stack:=λenv he a ha=>aL9.mpr ⟨env,he,ha⟩;have FF:s1.heap.FunFrames (fG s1.heap (bZ (CX1 P w) P w K mg base N qual scope f cdv A outer s H E).stack) _:=W.funFrames_hide I.stack hin;have st0:(fG s1.heap (bZ (CX1 P w) P w K mg base N qual scope f cdv A outer s H E).stack).StaysIn s1.heap:=λb o q=>W.of_hideAll _ q;refine wpAny_leaves_madeW (s:={s1 with heap:=h1}) I0 rfl st0 FF made λh' t fl _ _ up=>?_
 have up0:s1.heap.UpToSlots h':=(Heap.UpToSlots.of_keeps made.keeps).trans up;exact⟨e,Cc,.ref t,H1,_,rfl,I.os,I.bare,fl,Fly.raise I rfl rfl rfl fl.1 up0,he _ hm⟩
end
structure HX where
 cls:Str
 slot:Option Nat
 g:Rho->aF
def nQ(K:Fg)(mg:SOV)(xt:Str->Str->Option Bool):Prop:=∀c x b,xt c x=some b->∃C C2,W.nsIn K mainGlobals c=some (some (.ref C))/\mg c=some (.ref C)/\mg x=some (.ref C2) /\
 W.mroIn K C2 (.type "BaseException")=some true/\W.typeIn K (.ref C2)=some (.type "type")/\W.mroIn K C (.ref C2)=some b
section
variable {e:Addr}
end
section
variable  {H1:Hp}{s0:aP1}{e Cc:Addr}{a0:aP0}{B:Heap}
end
section
variable {D:eB}{hs:List ExceptHandler}{hx:List HX}{xt:Str->Str->Option Bool}
end
def k7(mg:SOV)(n:Str)(cv:V):Prop:=(∃C,mg n=some (.ref C)/\cv=.ref C)\/(mg n=none/\n ≠ "__name__" /\ ∃T,bootBuiltins n=some (.type T)/\cv=.ty T)
def sQ:V->aP0|.ref a=>.ref a|.ty T=>.type T|_=>.none
def nR(K:Fg)(mg:SOV)(xis:Str->Str->Option Bool):Prop:=∀c n b,xis c n=some b->∃C cv,W.nsIn K mainGlobals c=some (some (.ref C))/\XCls K C/\k7 mg n cv/\W.kitOne K (.ref C) (sQ cv)=some b
section
variable {e:Expr}{q tp:Pos}{n:Str}{xis:Str->Str->Option Bool}
end
def aEG{f:Addr}{N:List Str}{g:Rho->aF}(F:Fun K x qual st f fd)(S:jK N ps (bA st))(hbody:∀(C:Cw) (cdv:aP0),W.codeIn K cdv qual=true->∀(A:aP2) (outer:List Env) (s:aP1) (H:Hp) (E:XK),C.EE=iQ mg E->aX k (A.deeper (envOfC qual (bA st) s.heap.objs.size f cdv))->PBv C (bZ (CX1 P w) P w K mg base N qual (bA st) f cdv A outer s H E) (cQ st) g):bH P w K mg base (CX1 P w) (k+1) f fd ps (spV K mg ps.length (phi ps.length N.length g)):=by
 obtain⟨oc,od,kV,doc,pm,an,cdv,ct,osl,rfl,lk,hcd⟩:=F.ex;refine qS lk hcd S (λvs H Q E h=>h.1) λA outer s H vs Q E hr h=>?_;obtain⟨hl,F0,ds,sF,rl,h⟩:=h;have hl':ds.length=ps.length:=by rw[<- rl.length];exact hl
 let C:Cw:=⟨K,F0,H,iQ mg E⟩
 refine⟨_,hbody C cdv hcd A outer s H E rfl hr,bC N.length ds,F0,nG sF rl,?_⟩;unfold phi at h;rw[if_pos hl']at h;cases er:g (bC N.length ds)with
 |nx ρ=>rw[er]at h;exact λσ' F' H' _ R=>h.2 .non F' H' R.st rG (by nofun)
 |rt m d=>rw[er]at h;exact λv F' H' s rp fr=>h.2 v F' H' s rp fr
 |bk ρ=>rw[er]at h;exact h.elim
 |ct ρ=>rw[er]at h;exact h.elim
 |exc c ρ=>rw[er]at h;exact λσ' F' H' _ R u hu=>h F' H' u R.st hu
 |stuck=>rw[er]at h;exact h.elim
noncomputable def dY(ρ:Rho)(i:Nat)(r:Res):aF:=match ρ[i]? with
 |some (some (true,.lst ds))=>(aG r).thS ρ λm d=>match m with|.fz=>if ds.length<sizeLine then .nx (ρ.set i (some (true,.lst (ds++[d]))))else .stuck|_=>.stuck
 |_=>.stuck
section
variable {e:Expr}
def aEH(i:Nat)(hv:PE X (.Name x p) (iD i))(he:PV C X e g)(hs:cC e=true)(hline:ap.endLine=cp.line):PSv C X (.Expr (.Call (.Attribute (.Name x p) "append" ap) [e] [] cp) pos) (λρ=>dY ρ i (g ρ)):=by
 have h1 := pe_bm (X := X) (o := .Name x p) (e := e) (es := []) (apos := ap) (cpos := cp) PySem.F.plainAttrs_list PySem.F.slot_list_append PySem.F.type_list_append rA hv (m9 (gN he) m8 (cN hs)) (nJ rfl) (by
     rw[nI _ _ (λy hy=>by simp only[aLU,List.mem_nil_iff,aOP]at hy;subst hy;exact hs)];rfl) (aMG.mpr hline) (cN hs) rfl
 refine PS.imp (yP h1) λE σ H q=>?_;obtain⟨ρ,F,R,w⟩:=q;dsimp only at w;unfold qC tBM;cases e0:ρ[i]? with
 |none=>unfold dY at w;rw[e0]at w;exact w.elim
 |some o =>
  cases o with
  |none=>unfold dY at w;rw[e0]at w;exact w.elim
  |some bd =>
   obtain⟨b,d0⟩:=bd;cases b with
   |false=>unfold dY at w;rw[e0]at w;exact w.elim
   |true =>
    cases d0 with
    |lst ds =>
     unfold dY at w;rw[e0]at w;dsimp only at w;obtain⟨v0,ev0,rp0,hn0⟩:=R.slot i true _ e0;obtain⟨a,ea,hfa,xs,hh,rl⟩:=rp0;subst ea;refine⟨.ref a,ev0,.inl ⟨rfl,xs,SqL.of hh⟩,?_⟩;unfold iF;refine iK R w λm d v F' H' w' s R' rp fr=>?_;cases m with
     |fr=>exact(show False from w').elim
     |bo=>exact(show False from w').elim
     |fz =>
     dsimp only at w';split at w'
     . rename_i hl;have hh':H' a=some (.lst xs):=s.same _ _ hh;refine⟨a,xs,v,rfl,rfl,hh',by rw[rl.length];exact hl,?_⟩
       exact w' σ F' _ (aD.refl _) (R'.mut e0 ev0 ⟨_,a9,aC.append (rl.mono s.fsame _ _) (aC.cons rp aC.nil)⟩)
     . exact w'.elim
    |_=>unfold dY at w;rw[e0]at w;exact w.elim
end
def Hld(B:Heap)(l:List Env)(e:Addr)(cls a0:aP0)(h:Heap):Prop:=B.StaysIn h/\B.get? e=none/\h.FunFrames B l/\∃fl,h.TracedAtW B e cls a0 fl
section
variable {M:Model}{A:aP2}{E:VSP}{B:Heap}{L e:Addr}{cls a0:aP0}
def aEI(hfr:A.frames=some (env::outer))(hf:env.frame=some L)(hh:Hld B (env::outer) e cls a0 s.heap)(hQ:∀h',Heap.HeldW B (env::outer) e cls a0 L h'->s.heap.UpToSlots h'->Q () {s with heap:=h'}):wpAny M A (noteFrame (.ref e) env) Q E s:=by
 obtain⟨k1,k2,k3,fl,ht⟩:=hh;by_cases hl:fl=rawInt L
 . subst hl;exact wpAny_noteFrame_againW hf ht (hQ s.heap ⟨k1,k2,k3,ht⟩ (Heap.UpToSlots.refl _))
 obtain⟨oe,xs,T,oT,ys,q1,⟨q2,q3⟩,q4,q5,q6,q7,q8,q9,q10⟩:=ht;subst q2;unfold noteFrame;simp only[hf];refine aL6 (aNB q1 q4 q5 ?_);have n1:(Value.ref T != Value.none)=true:=by simp
 have n2:¬ ((fl==rawInt L)=true):=by rw[aMG];exact hl
 rw[if_pos n1];refine aL6 (aNB q8 q9 q10 ?_);rw[if_neg n2];obtain⟨lt3,_⟩:=aLR.mp q10;obtain⟨lt1,_⟩:=aLR.mp q5;refine aL6 (wpAny_setField q8 q9 lt3 ?_);generalize hg:s.heap.update T (Obj.mapFields λz=>z.setIfInBounds 3 Value.none)=g;have oth:∀b,b≠T->g.get? b=s.heap.get? b:=λb hb=>by rw[<- hg];exact Heap.get?_update_other _ _ (Ne.symm hb)
 have plain:∀b o,s.heap.get? b=some o->(∀z,o.data ≠ .fields z)->g.get? b=some o:=λb o w1 w2=>by rw[oth b (by rintro rfl;rw[q8]at w1;cases w1;exact w2 ys q9)];exact w1
 have inB:∀b o,B.get? b=some o->g.get? b=some o:=λb o w=>by rw[oth b (by rintro rfl;rw[q6]at w;cases w)];exact k1 b o w
 refine wpAny_entryW (s:={s with heap:=g}) hfr (k3.of_keeps λb o w1 w2=>⟨o,plain b o w1 w2,rfl⟩) hf (by show g.get? e=_;rw[oth e (Ne.symm q7)];exact q1) inB k2 q4 lt1 q3 λh' hn=>?_
 obtain⟨m1,m2,m3,m4⟩:=hn;exact hQ h' ⟨m1,k2,m2,m3⟩ λb o w1 w2=>m4 b o (plain b o w1 w2) w2
def aEJ(hfr:A.frames=some (env::outer))(hf:env.frame=some L)(hh:Hld B (env::outer) e cls a0 s.heap)(hQ:∀h',Heap.FlyingW B outer e cls a0 h'->s.heap.UpToSlots h'->Q () {s with heap:=h'}):wpAny M A (leaving env (.ref e)) Q E s:=by
 unfold leaving;refine aL6 (aEI hfr hf hh λh4 held up4=>?_);refine wpAny_landsW (s:={s with heap:=h4}) held λh5 fl up5=>?_
 obtain⟨w1,w2,w3,w4⟩:=fl;exact hQ h5 ⟨w1,w2,w3.2.2,w4⟩ (up4.trans up5)
end
def HX1(P:aP4)(w:aP3):CXT:=λouter H s E ev s'=>∃(e C:Addr) (a0:aP0) (H1:Hp) (B:Heap),
 ev=.ref e/\s'.os=s.os/\AllBare s'.gens/\Hld B outer e (.ref C) a0 s'.heap/\Fly P w outer H s H1 B s'.heap/\E (.ref C) none H1
section
variable {N:List Str}{f:Addr}{A:aP2}{E:XK}
def sR(hE:C.EE=iQ mg E):XOk (HX1 P w) C (bZ (CX1 P w) P w K mg base N qual scope f cdv A outer s H E):=by intro aA σ H1 s1 ev s' I h;obtain⟨e,Cc,a0,H2,B,rfl,ho,hg,fl,fy,c,hm,he⟩:=h;rw[hE]at he;refine aEJ I.ok.frames rfl fl λh' fl' up=>?_;exact⟨e,Cc,a0,H2,B,rfl,ho.trans I.os,hg,fl',fy.out I ho hg rfl rfl rfl fl'.1 up,he _ hm⟩
end
section
variable {D:eB}{hs:List ExceptHandler}{hx:List HX}{xt:Str->Str->Option Bool}
end
section
variable  {H1:Hp}{B:Heap}{Z:Addr}
end
section
variable {XE:VSP}
end
end D3
namespace L2
open D3
section
variable {A:aP2}{R:Result->aP1->Prop}
end
end L2
namespace D3
end D3
namespace PySem
open PySem.Sem (wp)
open Builtin
def aEK:fillsNumberSlot (.type "tuple") "mul" = pure false :=
 fillsNumberSlot_seq (id := "tuple.__mul__") (r:=some (.builtin "tuple.__rmul__")) F.slot_tuple_mul.lookup (by decide +kernel) F.slot_tuple_rmul.lookup (by decide +kernel)
def aEL:seqRepeat? (.type "tuple")=pure (some (.builtin "tuple.__mul__")):=by
 unfold seqRepeat?;rw[seqSlot_of (T := "tuple") (name := "__mul__") (id := "tuple.__mul__") F.slot_tuple_mul.lookup (by decide +kernel),seqSlot_of (T := "tuple") (name := "__rmul__") (id := "tuple.__rmul__") F.slot_tuple_rmul.lookup (by decide +kernel)]
 rfl
def aEM(a:Int)(t:Tok)(l:Addr)(items:Array aP0)(n:Nat)(dd:Option Addr)(sl:Array (Option aP0)):Meets (Builtin.«int.__rmul__» ⟨[.int a t,.ref l],[]⟩) (λ_ R s=>s.heap.get? l=some { cls:=.type "tuple", dict:=dd,data:=.seq items n,slots:=sl }/\R (.ok (.ret Value.notImplemented)) s) :=
 .of_wp λprog w A R s h=>by obtain⟨hp,g,d,tk,os⟩:=s;obtain⟨hl,h⟩:=h;wp_walk;exact⟨_,rfl,h⟩
def aEN(l:Addr)(items:Array aP0)(n:Nat)(dd:Option Addr)(sl:Array (Option aP0))(u:Tok):Meets (Builtin.«tuple.__mul__» ⟨[.ref l,.int 1 u],[]⟩) (λ_ R s=>s.heap.get? l=some { cls:=.type "tuple", dict:=dd,data:=.seq items n,slots:=sl }/\R (.ok (.ret (.ref l))) s) :=
 .of_wp λprog w A R s h=>by obtain⟨hp,g,d,tk,os⟩:=s;obtain⟨hl,h⟩:=h;wp_walk using wpAny_loadPart' hl;exact⟨_,rfl,h⟩
def aEO(l:Addr)(items:Array aP0)(n:Nat)(dd:Option Addr)(sl:Array (Option aP0))(u:Tok)(he:items.isEmpty=true):Meets (Builtin.«tuple.__mul__» ⟨[.ref l,.int 0 u],[]⟩) (λ_ R s=>s.heap.get? l=some { cls:=.type "tuple", dict:=dd,data:=.seq items n,slots:=sl }/\R (.ok (.ret (.ref l))) s) :=
 .of_wp λprog w A R s h=>by obtain⟨hp,g,d,tk,os⟩:=s;obtain⟨hl,h⟩:=h;wp_walk using wpAny_loadPart' hl;exact⟨_,rfl,h⟩
def aEP(l:Addr)(items:Array aP0)(n:Nat)(dd:Option Addr)(sl:Array (Option aP0))(u:Tok)(he:¬ items.isEmpty=true):Meets (Builtin.«tuple.__mul__» ⟨[.ref l,.int 0 u],[]⟩) (λ_ R s=>s.heap.get? l=some { cls:=.type "tuple", dict:=dd,data:=.seq items n,slots:=sl }/\R (.ok (.ret (.ref s.heap.objs.size))) { s with heap:=s.heap.push { cls:=.type "tuple", data:=.seq #[] } }) :=
 .of_wp λprog w A R s h=>by obtain⟨hp,g,d,tk,os⟩:=s;obtain⟨hl,h⟩:=h;wp_walk using wpAny_loadPart' hl;exact⟨_,rfl,h⟩
end PySem
namespace L2
def aEQ:OpR X (binaryOp .Mult) (λx y H Q=>∃l xs i,x=.ref l/\y=.int i/\SqT X.K H l xs/\(i=0\/i=1)/\(i=1\/xs=[]->Q (.ref l) H)/\(i=0->xs≠[]->∀p,H p=none->Q (.ref p) (upd H p (.tup [])))):=by
 intro aA s σ H x y v u Q I rx ry h;obtain⟨l,xs,i,rfl,rfl,hl,hi,q1,q0⟩:=h;cases rx;obtain⟨t,rfl⟩:=ry;obtain⟨its,r1,p1,_⟩:=I.tuple hl;have n1:=r1.nil_iff;obtain⟨⟨cls,dd,data,sl⟩,ho,hc,n,hd⟩:=id p1;simp only at hc hd;subst hc hd;refine wpAny_binaryOp_repeat_ref (T := "tuple") (U := "int") (by decide) ⟨_,ho,rfl⟩ (λs'=>typeIs_int s' _ _) aEK F.fills_int_mul F.slot_int_rmul aEL F.slot_int_index.lookup
  (aNL F.slot_int_rmul (typeIs_int s _ _) F.entry_int_rmul (F.args_int_rmul_2 _ _) (aEM _ _ l its.toArray n dd sl) ⟨ho,rfl,⟨_,ho,rfl⟩,?_⟩)
 rcases hi with rfl|rfl
 . by_cases he:its=[]
   . exact aNL aOQ ⟨_,ho,rfl⟩ aOR (aOS _ _) (aEO l its.toArray n dd sl t (by simp[he])) ⟨ho,⟨.ref l,H,I,rfl,q1 (.inr (n1.mp he))⟩⟩
   . refine aNL aOQ ⟨_,ho,rfl⟩ aOR (aOS _ _) (aEP l its.toArray n dd sl t (by simpa using he)) ⟨ho,?_⟩
     refine⟨.ref s.heap.objs.size,_,I.laid (t':=s.toks) (o:=.tup []) (λb ob q=>hps q) (aL7 _) ?_,rfl,q0 rfl (λz=>he (n1.mpr z)) _ (I.hok.fresh (aL7 _))⟩;exact⟨aMN _,[],.nil,eP.new _ _⟩
 . exact aNL aOQ ⟨_,ho,rfl⟩ aOR (aOS _ _) (aEN l its.toArray n dd sl t) ⟨ho,⟨.ref l,H,I,rfl,q1 (.inl rfl)⟩⟩
end L2
namespace D3
open PySem.Calls
def mulT:Md->D->Md->D->Option (Md×D):=λ_ x _ y=>match x,y with
 |.tup xs,.int n=>if n=1 then some (.fz,.tup xs)else if n=0 then some (.fz,.tup [])else none
 |_,_=>none
section
def aER:OpD C X (binaryOp .Mult) mulT:=by
 refine⟨_,aEQ,λF H m x n y v u k d Q s rx ry e w=>?_⟩;unfold mulT at e;split at e
 . rename_i xs i;have ex:=rx;obtain⟨a,us,rfl,q1,r1⟩:=rx.seqT s;cases ry.int;have fz:∀{m:Md}{zs:List D}{c:Addr},Rp X.K F H m (.tup zs) (.ref c)->aB X.K F (.tup zs) (.ref c):=λ{m zs c} h=>by
     cases m with
     |fz=>exact h
     |fr=>obtain⟨_,_,_,q⟩:=h;exact q.elim
     |bo=>obtain⟨_,_,_,q⟩:=h;exact q.elim
   split at e
   . rename_i hi;subst hi;cases e;exact⟨a,us,1,rfl,rfl,q1,.inr rfl,λ_=>w (.ref a) F H (.refl s) (fz ex) (by nofun),λz=>absurd z (by decide)⟩
   . split at e
     . rename_i hi;subst hi;cases e;refine⟨a,us,0,rfl,rfl,q1,.inl rfl,λz=>?_,λ_ hne p hp=>?_⟩
       . have:us=[]:=by rcases z with z|z;exact absurd z (by decide);exact z
         have:xs=[]:=r1.nilIff.mp this;subst this;exact w (.ref a) F H (.refl s) (fz ex) (by nofun)
       . exact w (.ref p) _ _ (aE.laid (.tup []) s hp) (aB.tup_of (s.free hp) aC.nil) (by nofun)
     . cases e
 . cases e
variable  {e:Expr}{gk:Rho->Res}
end
section
variable {A:aP2}{R:Result->aP1->Prop}{J:Addr}{wr:List Addr}{P:Nat->aP0->Prop}{St:Nat->Heap->Prop}{ns:List Int}{S:Addr}
end
section
variable {A:aP2}{E:VSP}
end
section
variable {e:Expr}{q kp:Pos}{j:_}
end
theorem aC.drop{K:Fg}{F:Hp}:∀(n:Nat) {ds:List D}{xs:List V},aC K F ds xs->aC K F (ds.drop n) (xs.drop n)
 |0,_,_,h=>h
 |n+1,[],xs,h=>by simp only[aC]at h;subst h;simp[aC]
 |n+1,d::ds,xs,h=>by simp only[aC]at h;obtain⟨v,vs,rfl,_,t⟩:=h;exact aC.drop n t
theorem aC.take{K:Fg}{F:Hp}:∀(n:Nat) {ds:List D}{xs:List V},aC K F ds xs->aC K F (ds.take n) (xs.take n)
 |0,_,_,_=>by simp[aC]
 |n+1,[],xs,h=>by simp only[aC]at h;subst h;simp[aC]
 |n+1,d::ds,xs,h=>by simp only[aC]at h;obtain⟨v,vs,rfl,r,t⟩:=h;simp only[List.take_succ_cons,aC];exact⟨v,_,rfl,r,aC.take n t⟩
def eG(xs:List D)(lo hi:Option Int):List D:=(xs.drop (HT.sIx xs.length 0 lo)).take (HT.sIx xs.length xs.length hi-HT.sIx xs.length 0 lo)
def aC.cut{F:Hp}(h:aC K F ds xs)(lo hi:Option Int):aC K F (eG ds lo hi) (fC xs lo hi):=by unfold eG fC;rw[h.length];exact(h.drop _).take _
def jU(n:Nat)(lo hi:Option Int):Bool:=HT.sIx n 0 lo==0&&HT.sIx n n hi==n
noncomputable def slP(x:Res)(lo hi:Option (Rho->Res))(ρ:Rho):Res:=x.thn λm d=>match d with
 |.str z=>cS lo ρ λl=>cS hi ρ λh=>.ok .fz (.str (Txt.slice z l h))
 |.lst ds=>cS lo ρ λl=>cS hi ρ λh=>.ok .fr (.lst (eG ds l h))
 |.tup ds=>cS lo ρ λl=>cS hi ρ λh=>if(jU ds.length l h&&m != .fz)=true then .stuck else .ok .fz (.tup (eG ds l h))
 |_=>.stuck
section
variable {a:Expr}
def aES{lo hi:Option Expr}{gl gh:Option (Rho->Res)}(ha:PV C X a ga)(hl:POv C X lo gl)(hh:POv C X hi gh):PV C X (.Subscript a (.Slice lo hi none p2) pos) (λρ=>slP (ga ρ) gl gh ρ):=by
 refine PE.imp (aAT (aCB.or (aA2.or (aAU.or aD1))) ha (rO hl) (rO hh)) λσ H Q q=>?_;unfold tSl;rw[aV]at q ⊢;obtain⟨ρ,F,R,w⟩:=q
 try dsimp only at w
 refine⟨ρ,F,R,?_⟩;cases er:ga ρ with
 |stuck=>rw[er]at w;exact w
 |exc c=>rw[er]at w;exact w
 |ok m d =>
  rw[er]at w;intro v F1 H1 s1 rp _;cases d with
  |str z=>obtain⟨rfl,hz,hk⟩:=rp.str;have w1:aT (C.at X) F1 H1 σ (cS gl ρ λl=>cS gh ρ λh=>.ok .fz (.str (Txt.slice z l h))) Q:=aT.step s1 w;refine iJ (R.step s1) w1 λl F2 H2 s2 R2 w2=>iJ R2 w2 λh F3 H3 s3 R3 w3=>.inl ?_;exact⟨z,rfl,hz,w3 _ F3 H3 (.refl R3.sub) (jL ⟨aLS (aN5 z _ _) hz,aCC hk⟩) (by nofun)⟩
  |lst ds=>have w1:aT (C.at X) F1 H1 σ (cS gl ρ λl=>cS gh ρ λh=>.ok .fr (.lst (eG ds l h))) Q:=aT.step s1 w;refine iJ (R.step s1) w1 λl F2 H2 s2 R2 w2=>iJ R2 w2 λh F3 H3 s3 R3 w3=>.inr (.inl ?_);obtain⟨p,xs,rfl,hq,rl⟩:=((rp.step s2).step s3).seqL R3.sub;exact⟨p,xs,rfl,hq,λp' hp'=>w3 (.ref p') F3 _ (aE.fresh _ R3.sub hp') ⟨p',rfl,R3.sub.free hp',_,a9,rl.cut l h⟩ λ_ a ea=>by cases ea;exact hp'⟩
  |tup ds =>
   have w1:aT (C.at X) F1 H1 σ (cS gl ρ λl=>cS gh ρ λh=>if(jU ds.length l h&&m != .fz)=true then .stuck else .ok .fz (.tup (eG ds l h))) Q:=aT.step s1 w;refine iJ (R.step s1) w1 λl F2 H2 s2 R2 w2=>iJ R2 w2 λh F3 H3 s3 R3 w3=>.inr (.inr ?_);obtain⟨p,xs,rfl,hq,rl⟩:=((rp.step s2).step s3).seqT R3.sub;have lw:jU ds.length l h=true↔HT.sIx xs.length 0 l=0/\HT.sIx xs.length xs.length h=xs.length:=by rw[rl.length];unfold jU;simp
   cases hw:jU ds.length l h with
   |true =>
    cases m with
    |fz =>
     rw[hw,if_neg (by decide)]at w3
     have e:=lw.mp hw;have ec:eG ds l h=ds:=by unfold eG;rw[<- rl.length,e.1,e.2,rl.length,List.drop_zero,Nat.sub_zero];exact List.take_length
     rw[ec]at w3;exact .inr ⟨p,xs,rfl,hq,e,w3 (.ref p) F3 H3 (.refl R3.sub) ((rp.step s2).step s3) (by nofun)⟩
    |fr=>rw[hw,if_pos (by decide)]at w3;exact w3.elim
    |bo=>rw[hw,if_pos (by decide)]at w3;exact w3.elim
   |false =>
    rw[hw,if_neg (by simp)]at w3
    refine .inl ⟨p,xs,rfl,hq,λz=>?_,λp' hp'=>w3 (.ref p') _ _ (aE.laid (.tup (fC xs l h)) R3.sub hp') (aB.tup_of (R3.sub.free hp') (rl.cut l h)) (by nofun)⟩
    rw[lw.mpr z]at hw;cases hw
  |_=>exact(show False from w).elim
end
section
variable {a b:Expr}
end
section
variable  {e:Expr}{gk:Rho->Res}{sp:Pos}
end
section
variable {a b:Expr}
end
open PySem.SeqAt PySem.MeetsSeq
def SqT.plain{a:Addr}(I:L2.Inv X aA σ H s)(h:SqT X.K H a xs):∃its:List aP0,aL xs its/\eP s.heap a its.toArray/\xs.length<=sizeLine:=by
 rcases h with h|⟨o,its,n,hk,hc,hd,hs,hz,r⟩
 . obtain⟨z,its,r,p⟩:=h.ok I.hok;exact⟨its,r,p,z⟩
 . exact⟨its.toList,r,⟨o,I.kIn a o hk,hc,hd,n,by simpa using hs⟩,by rw[r.length,aL3];exact hz⟩
section
variable {o e:Expr}{ty:TE}
end
section
variable {o e:Expr}{go:Rho->Res}
end
def TabE(w:aP3)(K:Fg):List (Str×Str)->List DictEntry->Prop
 |[],es=>es=[]
 |(z,f)::r,es=>∃t a es',es=⟨PyData.keyHash w.params z,.str z t,.ref a⟩::es'/\W.nsIn K mainGlobals f=some (some (.ref a))/\TabE w K r es'
structure iR(w:aP3)(K:Fg)(mg:SOV)(x:Str)(tb:List (Str×Str)):Prop where
 ex:∃a ob es ep,mg x=some (.ref a)/\K.lookup a=some ob/\ob.ExactDict/\ob.data=.dict es ep/\TabE w K tb es.toList
 nd:(tb.map (·.1)).Nodup
section
variable {e b:Expr}{es:List Expr}{tb:List (Str×Str)}
end
def aR.frz{F:Hp}(R:aR K F0 H0 F H σ ρ){d:D}(e:ρ[i]? = some (some (true,d))):∃F',aD F F'/\aR K F0 H0 F' H σ (ρ.set i (some (false,d))):=by
 obtain⟨v,ev,rp,hn⟩:=R.slot i true d e;obtain⟨x,rfl,nx,t⟩:=rp;obtain⟨o,ho,r⟩:=t.freeze nx;have sm:aD F (upd F x o):=λb u q=>by rw[aK (bL q nx)];exact q
 have hi:i<ρ.length:=(aLX.mp e).1;refine⟨upd F x o,sm,R.st.freeze (hn rfl x rfl) nx ho,λj m d' ej=>?_,λj k d1 d2 a hjk e1 e2 q1 q2=>?_,by rw[aN8];exact R.len⟩
 . by_cases hj:j=i
   . subst hj;rw[aLY hi]at ej;cases ej;exact⟨.ref x,ev,r,by nofun⟩
   . rw[aLZ (λz=>hj z.symm)]at ej;obtain⟨v',ev',rp',hn'⟩:=R.slot j m d' ej;refine⟨v',ev',?_,hn'⟩;cases m with
     |false=>exact aB.mono sm _ _ rp'
     |true =>
      obtain⟨a,rfl,na,t'⟩:=rp';have ax:a≠x:=λz=>by subst z;exact R.apart j i d' d a hj ej e ev' ev
      refine⟨a,rfl,by rw[aK ax];exact na,?_⟩
      cases d' with
      |lst ds=>obtain⟨xs,q,rr⟩:=t';exact⟨xs,q,rr.mono sm _ _⟩
      |dct ds=>obtain⟨xs,q,rr⟩:=t';exact⟨xs,q,rr.mono sm _ _⟩
      |ins c fs=>obtain⟨C,dx,gs,n,q,rr⟩:=t';exact⟨C,dx,gs,n,q,rr.mono sm _ _⟩
      |set ks=>obtain⟨S,q,rr⟩:=t';exact⟨S,q,rr⟩
      |dtn ds=>obtain⟨xs,q,rr⟩:=t';exact⟨xs,q,rr.mono sm _ _⟩
      |_=>exact t'.elim
 . have own:∀{j:Nat}{d1:D},(ρ.set i (some (false,d)))[j]? = some (some (true,d1))->ρ[j]? = some (some (true,d1)):=λ{j d1} z=>by
     by_cases hj:j=i
     . subst hj;rw[aLY hi]at z;cases z
     . rw[aLZ (λy=>hj y.symm)]at z;exact z
   exact R.apart j k d1 d2 a hjk (own e1) (own e2) q1 q2
def jV(ρ:Rho)(i:Nat):aF:=match ρ[i]? with
 |some (some (true,d))=>.nx (ρ.set i (some (false,d)))
 |_=>.stuck
def aET{g:Rho->aF}(h:PBv C X sts g):PBv C X sts (λρ=>(jV ρ i).thn g):=by
 refine PSs.imp h λE σ H q=>?_;obtain⟨ρ,F,R,w⟩:=q;dsimp only at w;unfold jV at w;split at w
 . rename_i d e;obtain⟨F',sm,R'⟩:=R.frz e;exact⟨_,F',R',bX.mono sm w⟩
 . exact w.elim
def Ent(w:aP3):List Str->List (Int×aP0)->Prop
 |[],l=>l=[]
 |x::xs,l=>∃t r,l=(hashStr w x,.str x t)::r/\Ent w xs r
def gU(w:aP3):Bool:=w.params.followText "set-order"
def SetX(w:aP3)(h:Heap)(a:Addr)(xs:List Str):Prop:=∃o es ep t,h.get? a=some o/\o.ExactSet/\o.data=.set es ep t/\Ent w xs es.toList/\xs.Nodup/\xs.length<scanBound/\t.fits es.size=true/\t.led = !gU w/\(xs=[]\/t.plain=false)
section
variable {A:aP2}{E:VSP}
end
section
variable {A:aP2}{E:VSP}
end
def sob(w:aP3):Obj:={ cls:=.type "set", dict:=none,data:=.set #[] 0 (.fresh 0 0 (!gU w)) }
section
variable {A:aP2}{E:VSP}
end
def Small(m:Nat):Prop:=m=7\/m=15\/m=31
section
variable {m:Nat}{ow:Array (Option Nat)}
end
def SetM(w:aP3)(h:Heap)(a:Addr)(xs:List Str):Prop:=∃o es ep t,h.get? a=some o/\o.ExactSet/\o.data=.set es ep t/\Ent w xs es.toList/\xs.Nodup/\xs.length<scanBound/\t.fits es.size=true/\t.led = !gU w/\(xs=[]\/t.plain=false)/\Small t.mask/\t.dummies = #[]
section
variable {A:aP2}{E:VSP}
def Wide(h:Heap)(a:Addr)(n:Nat):Prop:=∀o es ep t,h.get? a=some o->o.data=.set es ep t->n<=t.mask
end
section
variable {A:aP2}{E:VSP}
end
section
variable {A:aP2}{E:VSP}{I a:Addr}{o:Obj}{es:Array (Int×aP0)}{t:SetTable}
end
section
variable {A:aP2}{E:VSP}
variable {I a:Addr}{o:Obj}{es:Array (Int×aP0)}{t:SetTable}
end
section
variable {A:aP2}{E:VSP}{a:Addr}{xs:List Str}
end
noncomputable def lts(x y:Str):Bool:=ltCps x.cps.toList y.cps.toList
def iS:lts x y=true↔x.cps.toList<y.cps.toList:=by unfold lts;rw[ltCps_eq,aNZ]
def aEU(x:Str):lts x x=false:=by
 cases h:lts x x with
 |false=>rfl
 |true=>exact absurd (iS.mp h) (List.lt_irrefl _)
def aEV(a:lts x y=true)(b:lts y z=true):lts x z=true:=iS.mpr (List.lt_trans (iS.mp a) (iS.mp b))
def aEW(a:lts x y=false)(b:lts y x=false):x=y:=by
 have h1:¬ x.cps.toList<y.cps.toList:=λh=>by rw[iS.mpr h]at a;cases a
 have h2:¬ y.cps.toList<x.cps.toList:=λh=>by rw[iS.mpr h]at b;cases b
 have e:=List.le_antisymm (List.not_lt.mp h2) (List.not_lt.mp h1);cases x;cases y;exact congrArg Str.mk (Array.ext' e)
def sx(w:aP3)(l:Addr)(ys:List Str):HO:=.ext λh=>SetX w h l ys
def aEX:bootBuiltins "sorted" = some (.builtin "sorted"):=by decide +kernel
section
variable  {eb:Expr}
end
section
variable  {eb:Expr}{q q2:Pos}
end
section
variable {A:aP2}{E:VSP}{I:Addr}
end
section
variable {A:aP2}{R:Result->aP1->Prop}{b:Bool}{tg2 pV:Expr}{it acc:aP0}
end
def AllF(ρ:Rho):Prop:=∀(i:Nat) (m:Bool) (d:D),ρ[i]? = some (some (m,d))->m=false
def AR(K:Fg)(w:aP3)(b:Bool)(Da:Addr)(F:Hp)(zs:List D)(o:HO):Prop:=match b with
 |true=>∃ys,o=.lst ys/\aC K F zs ys
 |false=>∃(ns ys:List Str),zs=ns.map .str/\o=sx w Da ys/\ys.Nodup/\ys.length<=ns.length/\(∀x,x∈ys↔x∈ns)/\∀x∈ns,x.length<=sizeLine/\PyData.strOk x=true
def isStrD:D->Bool|.str _=>true|_=>false
def limA(b:Bool):Nat:=match b with|true=>sizeLine|false=>scanBound-1
def emK(w:aP3)(b:Bool)(Da:Addr)(y:V)(H4:Hp)(R:Hp->Prop):Prop:=match b with
 |true=>∃ys,H4 Da=some (.lst ys)/\ys.length<sizeLine/\R (upd H4 Da (.lst (ys++[y])))
 |false=>∃x ys,y=.str x/\H4 Da=some (sx w Da ys)/\ys.length+1<scanBound/\∀ys',ys'.Nodup->(∀z,z∈ys'↔z∈ys\/z=x)->ys'.length<=ys.length+1->R (upd H4 Da (sx w Da ys'))
section
variable  {pV tg2:Expr}{gt gi2:Rho->Res}
variable (hc : X.calm = true) (hi : PIv C X tg aS gi) (bV : ∀ y ∈ scope.names, y.2 ≠ .cell) (cJ : scope.kind = .function) (eM : ∀ y ∈ scope.names, y.2 = .local → scope.names.lookup y.1 = some .local)
    (cY:∀y∈scope.names,y.2=.free->X.env.kindOf y.1=some .cell\/X.env.kindOf y.1=some .free)
    (dM:aI.map some=caps.map λi=>X.N[i]?) (eO:∀y∈aI,(y,NameKind.free)∈scope.names)
    (eN:∀y∈aI,(relabel scope X.env).names.lookup y=some .cell\/(relabel scope X.env).names.lookup y=some .free)
    (hn:tgN.length=2)
    (hg:∀cl A fp s3 H3,PGw (bB X scope (aI++tgN) cl A fp s3 H3) tg (.nm caps.length)) (hf:∀cl A fp s3 H3,cV (bB X scope (aI++tgN) cl A fp s3 H3) ifs (tT (C.nox.at X) gt))
    (hi2:∀cl A fp s3 H3,PIv C.nox (bB X scope (aI++tgN) cl A fp s3 H3) tg2 pV gi2) (hg2:∀cl A fp s3 H3,PGw (bB X scope (aI++tgN) cl A fp s3 H3) tg2 (.nm (caps.length+1)))
    (he:∀cl A fp s3 H3,PV C.nox (bB X scope (aI++tgN) cl A fp s3 H3) elt ge)
    (hs:∀x,foldedSetIterable aS X.env x=pure x) (hs2:∀env x,foldedSetIterable pV env x=pure x)
include hc hi bV cJ eM cY dM eO eN hn hg hf hi2 hg2 he hs hs2
end
open PySem.W
structure PP(n:Nat)(p:Array Nat):Prop where
 size:p.size=n
 below:∀k,p.getD k 0<n
 inj:∀i j,i<n->j<n->p.getD i 0=p.getD j 0->i=j
section
variable {lt:Nat->Nat->Bool}{cmp:Nat->Nat->(Bool->aP1->Prop)->aP1->Prop}{J:aP1->Prop}
def Upto(lt:Nat->Nat->Bool)(p:Array Nat)(b:Nat):Prop:=∀i j,i<j->j<b->lt (p.getD i 0) (p.getD j 0)=true
def fH(n:Nat)(lt:Nat->Nat->Bool)(cmp:Nat->Nat->(Bool->aP1->Prop)->aP1->Prop)(J:aP1->Prop):Prop:=∀i j s C,i<n->j<n->J s->(∀s',J s'->C (lt i j) s')->cmp i j C s
end
section
variable {A:aP2}{E:VSP}
end
def aEY(d:α):∀(l:List α),(List.range l.length).map (λi=>l.getD i d)=l:=λl=>by
 apply List.ext_getElem
 . simp
 . intro i h1 h2;simp at h1;simp[h1]
section
variable {A:aP2}{E:VSP}
end
theorem sS{α:Type}{K:Fg}{F:Hp}{f:α->D}{g:α->V}:∀{q:List α},(∀i∈q,aB K F (f i) (g i))->aC K F (q.map f) (q.map g)
 |[],_=>aC.nil
 |i::q,h=>aC.cons (h i mcs) (sS λj hj=>h j (mcm hj))
open PySem.SeqAt PySem.MeetsSeq
section
variable {o e:Expr}{ty:TE}
end
section
variable {o e:Expr}{go:Rho->Res}
end
def epO(o:Obj):Nat:=match o.data with|.dict _ ep=>ep|_=>0
section
variable  {d m:Str}{p0 p3 p4 p5 p6 p7 p8 p9:Pos}{jd jm k0:Nat}
end
end D3
namespace L2
open D3
end L2
namespace D3
abbrev Rise(xs:Array Nat):Prop:=xs.toList.Pairwise (· < ·)
def PlOk(t:SetTable):Prop:=t.plain=false\/(t.dummies = #[]/\Rise t.place)
def EntI(w:aP3):List Int->List (Int×aP0)->Prop
 |[],l=>l=[]
 |x::xs,l=>∃t r,l=(hashInt x,.int x t)::r/\EntI w xs r
def SetI(w:aP3)(h:Heap)(a:Addr)(xs:List Int):Prop:=∃o es ep t,h.get? a=some o/\o.ExactSet/\o.data=.set es ep t/\EntI w xs es.toList/\xs.Nodup/\xs.length<scanBound/\t.fits es.size=true/\t.led = !gU w/\PlOk t
section
variable {A:aP2}{E:VSP}
end
section
variable {A:aP2}{E:VSP}
end
section
variable {A:aP2}{E:VSP}
end
section
variable {A:aP2}{E:VSP}
variable {I a:Addr}{o:Obj}{es:Array (Int×aP0)}{t:SetTable}
end
section
variable {A:aP2}{E:VSP}{a:Addr}{xs:List Int}
end
section
variable {e:Expr}{es:List Expr}
end
section
variable  {e:Expr}{gk:Rho->Res}{sp:Pos}
end
section
open PySem.SeqAt
open PySem.AutoSeq1 (wpAny_loadPart')
open PySem.MeetsSeq PySem.MeetsSeq2 PySem.MeetsSeq3
variable {A:aP2}{E:VSP}
end
section
variable {A:aP2}{E:VSP}
end
section
variable {K:Type}[DecidableEq K]{knd:KeyKind prog w K}{A:aP2}{E:VSP}
end
section
variable  {eb:Expr}
end
open PySem.Calls
section
variable {o e f:Expr}{go gf:Rho->Res}
end
end D3
namespace PySem
open PySem.Sem (wp)
section
variable {A:aP2}{E:VSP}
end
end PySem
namespace L2
end L2
namespace D3
open PySem.Calls
theorem bS.is:∀{xs:List N}{ys:List V}{us:List aP0},(∀x∈xs,∀v u,NAt X.K H x v->aH v u->IsN s.heap x u)->bS X.K H xs ys->aL ys us->aW s.heap xs us
 |[],ys,us,_,h,r=>by rw[bS]at h;subst h;cases r;rw[aW]
 |x::xs,ys,us,k,h,r=>by
  rw[bS]at h;obtain⟨y,zs,rfl,h1,h2⟩:=h;cases r with
  |cons r1 r2=>rw[aW];exact⟨_,_,rfl,k x mcs _ _ h1 r1,bS.is (λz hz=>k z (mcm hz)) h2 r2⟩
theorem NAt.is(I:L2.Inv X aA σ H s)(k:N):∀v u,NAt X.K H k v->aH v u->IsN s.heap k u:=by
 induction k using N.ind with
 |hi n=>intro v u h r;rw[NAt]at h;subst h;obtain⟨t,rfl⟩:=r;rw[IsN];exact⟨t,rfl⟩
 |hs x=>intro v u h r;rw[NAt]at h;obtain⟨rfl,_,hk⟩:=h;obtain⟨t,rfl⟩:=r;rw[IsN];exact⟨⟨t,rfl⟩,hk⟩
 |ht xs ih=>intro v u h r;rw[NAt]at h;obtain⟨a,ys,rfl,hq,hl⟩:=h;cases r;obtain⟨its,rv,⟨o,e,c,_,n,d⟩,_⟩:=SqT.plain I hq;rw[IsN];exact⟨a,o,its.toArray,n,rfl,e,c,d,by simpa using bS.is ih hl rv⟩
abbrev KN:=Paired (λ(p:N×Addr×V) (q:N×Addr×aP0)=>p.1=q.1/\p.2.1=q.2.1/\aH p.2.2 q.2.2)
def gW(K:Fg)(H:Hp)(kvs:List (N×Addr×V)):Prop:=∀p∈kvs,NAt K H p.1 (.ref p.2.1)/\p.1.dp<=8
noncomputable def dE(kvs:List (N×Addr×V))(k:N):Option V:=(kvs.find? λp=>decide (p.1=k)).map (·.2.2)
def fZ(kvs:List (N×Addr×V))(k:N)(b:Addr)(v:V):List (N×Addr×V):=if(dE kvs k).isSome=true then kvs.map (λp=>if p.1=k then(p.1,p.2.1,v)else p)else kvs++[(k,b,v)]
def sU{p:N×Addr×V}{r:List (N×Addr×V)}{k:N}(e:p.1=k):dE (p::r) k=some p.2.2:=by simp[dE,aOT,e]
def sV{p:N×Addr×V}{r:List (N×Addr×V)}{k:N}(e:¬ p.1=k):dE (p::r) k=dE r k:=by simp[dE,aOT,e]
def KN.val{xs:List (N×Addr×aP0)}(r:KN kvs xs)(k:N):cZ (dE kvs k) ((atKey xs k).map (·.2)):=by
 induction r with
 |nil=>exact True.intro
 | @cons p q ps qs h t ih =>
  by_cases e:p.1=k
  . have b:atKey (q::qs) k=some q.2:=by simp[atKey,aOT,h.1.symm.trans e]
    rw[sU e,b];exact h.2.2
  . have e':¬ q.1=k:=λz=>e (h.1.trans z);have b:atKey (q::qs) k=atKey qs k:=by simp[atKey,aOT,e']
    rw[sV e,b];exact ih
def KN.repl{xs:List (N×Addr×aP0)}(r:KN kvs xs)(k:N){y:V}(ry:aH y u):KN (kvs.map λp=>if p.1=k then(p.1,p.2.1,y)else p) (xs.map (putAt k u)):=by
 induction r with
 |nil=>exact .nil
 | @cons p q ps qs h t ih =>
  rw[aMI,aMI];refine .cons ?_ ih;unfold putAt;by_cases e:p.1=k
  . rw[if_pos e,if_pos (h.1.symm.trans e)];exact⟨h.1,h.2.1,ry⟩
  . rw[if_neg e,if_neg (λz=>e (h.1.trans z))];exact h
def KN.put{xs:List (N×Addr×aP0)}(r:KN kvs xs)(k:N)(b:Addr){y:V}(ry:aH y u):KN (fZ kvs k b y) (storedH xs k b u):=by
 have e:(dE kvs k).isSome=(atKey xs k).isSome:=by rw[(r.val k).isSome_eq,Option.isSome_map]
 unfold fZ storedH;rw[e];by_cases q:(atKey xs k).isSome=true
 . rw[if_pos q,if_pos q];exact r.repl k ry
 . rw[if_neg q,if_neg q];exact Paired.snoc r ⟨rfl,rfl,ry⟩
theorem aEZ(kvs:List (N×Addr×V))(k:N)(b:Addr)(v:V):(fZ kvs k b v).length<=kvs.length+1:=by
 unfold fZ;split
 . rw[aMJ];lia
 . rw[aM0];exact aL7 _
def KN.is{xs:List (N×Addr×aP0)}{P:N->Addr->Prop}(r:KN kvs xs)(h:∀p∈kvs,P p.1 p.2.1):∀x∈xs,P x.1 x.2.1:=by
 induction r with
 |nil=>intro x hx;cases hx
 | @cons p q ps qs hq t ih =>
  intro x hx;rcases aLU.mp hx with e|hx
  . subst e;have:=h p mcs;rw[hq.1,hq.2.1]at this;exact this
  . exact ih (λp hp=>h p (mcm hp)) x hx
def nS{a:Addr}(I:L2.Inv X aA σ H s)(e:Rd H a (.dN kvs))(hk:gW X.K H kvs):kvs.length<=sizeLine/\(a==sysModules)=false/\∃xs,KN kvs xs/\s.heap.DictOfH (nA X.prog X.w) a xs:=by
 obtain⟨z,y,xs,r,o,es,ep,h1,h2,h3,h4,h5⟩:=(show bW X.prog X.w H s.heap a (.dN kvs)from e.ok I.hok)
 exact⟨z,y,xs,r,o,es,ep,h1,h2,h3,h4,KN.is (P:=λk b=>(nA X.prog X.w).is s.heap k b) r λp hp=>⟨NAt.is I _ _ _ (hk p hp).1 rfl,(hk p hp).2⟩,h5⟩
def k8(K:Fg)(H:Hp)(a:Addr)(y:V)(r:Option V):Prop:=∃kvs k b,Rd H a (.dN kvs)/\gW K H kvs/\y=.ref b/\(NAt K H k (.ref b)/\k.dp<=8)/\r=dE kvs k
def NPut(K:Fg)(H:Hp)(a:Addr)(y v:V)(H':Hp):Prop:=∃kvs k b,H a=some (.dN kvs)/\gW K H kvs/\y=.ref b/\(NAt K H k (.ref b)/\k.dp<=8)/\kvs.length<sizeLine/\H'=upd H a (.dN (fZ kvs k b v))
section
variable {a:Addr}{y d:V}{r:aP0}{o:Option V}{A:aP2}{E:VSP}
theorem sW(hu:A.units+64<cLine):(nA X.prog X.w).room A.in1:=by show A.units+1+8<cLine;lia
def aE0{Q:VSP}(hu:A.units+64<cLine)(I:L2.Inv X aA σ H s)(g:k8 X.K H a y (some v))(ry:aH y u)(h:∀w' s',L2.Inv X aA σ H s'->aH v w'->Q w' s'):wpAny (model X.prog X.w) A (getItem (.ref a) u) Q E s:=by
 obtain⟨kvs,k,b,e,hk,rfl,kb,l⟩:=g;cases ry;obtain⟨z,hd,xs,rel,dd⟩:=nS I e hk;obtain⟨w',hw,rw'⟩:=cZ.some_of (v:=v) (o:=(atKey xs k).map (·.2)) (by rw[l];exact rel.val k)
 obtain⟨p,hp,hp2⟩:=aOU.mp hw;refine wpAny_getItem_heap (sW hu) (k:=k) ⟨NAt.is I _ _ _ kb.1 rfl,kb.2⟩ dd hp ?_;rw[hp2];exact h w' _ (I.tok _) rw'
theorem aE1(hu:A.units+64<cLine)(I:L2.Inv X aA σ H s)(g:NPut X.K H a y v H')(ry:aH y u)(rv:aH v r)(h:∀s',L2.Inv X aA σ H' s'->Q () s'):wpAny (model X.prog X.w) A (setItem (.ref a) u r) Q E s:=by
 obtain⟨kvs,k,b,e,hk,rfl,kb,l,rfl⟩:=g;cases ry;obtain⟨z,hd,xs,rel,dd⟩:=nS I (.inl e) hk;have hz:xs.length<=sizeLine:=by rw[<- Paired.length rel];exact z
 have hl:(fZ kvs k b v).length<=sizeLine:=by have:=aEZ kvs k b v;lia
 refine wpAny_setItem_heap (hsz:=hz) (sW hu) (k:=k) ⟨NAt.is I _ _ _ kb.1 rfl,kb.2⟩ dd λh' dd' hs=>h _ ?_;obtain⟨q,es,ep,hq,h2,h3,h4,_,h5⟩:=dd';exact aA6 I (by rw[e];exact True.intro) hs ⟨q,hq⟩ ⟨hl,hd,_,rel.put k b rv,q,es,ep,hq,h2,h3,h4,h5⟩
def aE2(I:L2.Inv X aA σ H s)(g:k8 X.K H a y o):s.TypeIs (.ref a) "dict" := by obtain⟨kvs,k,b,e,hk,_⟩:=g;obtain⟨_,_,xs,_,dd⟩:=nS I e hk;exact dd.typeIs
end
open PySem.Calls
mutual
def nD:N->D
 |.i n=>.int n
 |.s x=>.str x
 |.t xs=>.tup (nDL xs)
def nDL:List N->List D
 |[]=>[]
 |x::xs=>nD x::nDL xs
end
mutual
def bJ:D->Option N
 |.int i=>some (.i i)
 |.str x=>some (.s x)
 |.tup ds=>(cE ds).map .t
 |_=>none
def cE:List D->Option (List N)
 |[]=>some []
 |d::ds=>match bJ d,cE ds with
  |some k,some ks=>some (k::ks)
  |_,_=>none
end
def f8(d:D):Option N:=match d with
 |.tup ds=>match cE ds with
  |some ks=>if(N.t ks).dp<=8 then some (.t ks)else none
  |none=>none
 |_=>none
section
variable  {F:Hp}
mutual
theorem sX:∀{d:D}{k:N}{v:V},bJ d=some k->aB K F d v->NAt K F k v
 |.int i,k,v,e,r=>by simp only[bJ]at e;cases e;simpa only [aB,NAt]using r
 |.str x,k,v,e,r=>by simp only[bJ]at e;cases e;simpa only [aB,NAt]using r
 |.tup ds,k,v,e,r=>by simp only[bJ]at e;obtain⟨ks,ek,rfl⟩:=aOU.mp e;simp only[aB]at r;obtain⟨a,xs,rfl,hq,rl⟩:=r;rw[NAt];exact⟨a,xs,rfl,hq,k9 ek rl⟩
 |.non,_,_,e,_=>by simp only[bJ]at e;cases e
 |.bl _,_,_,e,_=>by simp only[bJ]at e;cases e
 |.lst _,_,_,e,_=>by simp only[bJ]at e;cases e
 |.dct _,_,_,e,_=>by simp only[bJ]at e;cases e
 |.ty _,_,_,e,_=>by simp only[bJ]at e;cases e
 |.ob _,_,_,e,_=>by simp only[bJ]at e;cases e
 |.ins _ _,_,_,e,_=>by simp only[bJ]at e;cases e
 |.fn _,_,_,e,_=>by simp only[bJ]at e;cases e
 |.exn _,_,_,e,_=>by simp only[bJ]at e;cases e
 |.set _,_,_,e,_=>by simp only[bJ]at e;cases e
 |.dtn _,_,_,e,_=>by simp only[bJ]at e;cases e
 |.dtf _,_,_,e,_=>by simp only[bJ]at e;cases e
 |.dcf _,_,_,e,_=>by simp only[bJ]at e;cases e
 |.clo _ _ _,_,_,e,_=>by simp only[bJ]at e;cases e
theorem k9:∀{ds:List D}{ks:List N}{xs:List V},cE ds=some ks->aC K F ds xs->bS K F ks xs
 |[],ks,xs,e,r=>by simp only[cE]at e;cases e;simpa only [aC,bS]using r
 |d::ds,ks,xs,e,r=>by
  simp only[cE]at e;simp only[aC]at r;obtain⟨y,ys,rfl,r1,r2⟩:=r;cases e1:bJ d with
  |none=>rw[e1]at e;cases e
  |some k =>
   cases e2:cE ds with
   |none=>rw[e1,e2]at e;cases e
   |some ks'=>rw[e1,e2]at e;cases e;rw[bS];exact⟨y,ys,rfl,sX e1 r1,k9 e2 r2⟩
end
def sY{d:D}{k:N}{m:Md}(e:f8 d=some k)(r:Rp K F H m d v):∃b,v=.ref b/\NAt K F k (.ref b)/\k.dp<=8:=by
 unfold f8 at e;split at e
 . rename_i ds;split at e
   . rename_i ks ek;split at e
     . rename_i hd;cases e;cases m with
       |fz =>
        have r:aB K F (.tup ds) v:=r;have h:=sX (k:=.t ks) (by simp only[bJ];rw[ek];rfl) r
        simp only[aB]at r;obtain⟨a,xs,rfl,_⟩:=r;exact⟨a,rfl,h,hd⟩
       |fr=>obtain⟨a,_,_,q⟩:=r;exact q.elim
       |bo=>obtain⟨a,_,_,q⟩:=r;exact q.elim
     . cases e
   . cases e
 . cases e
theorem sZ:∀{xs:List N}{ys:List V},(∀x∈xs,∀v,NAt K F x v->aB K F (nD x) v)->bS K F xs ys->aC K F (nDL xs) ys
 |[],ys,_,h=>by rw[bS]at h;subst h;rw[nDL];exact aC.nil
 |x::xs,ys,k,h=>by rw[bS]at h;obtain⟨y,zs,rfl,h1,h2⟩:=h;rw[nDL];exact aC.cons (k x mcs y h1) (sZ (λz hz=>k z (mcm hz)) h2)
def aE3(k:N):∀v,NAt K F k v->aB K F (nD k) v:=by
 induction k using N.ind with
 |hi n=>intro v h;rw[NAt]at h;rw[nD];simpa only [aB]using h
 |hs x=>intro v h;rw[NAt]at h;rw[nD];simpa only [aB]using h
 |ht xs ih=>intro v h;rw[NAt]at h;obtain⟨a,ys,rfl,hq,hl⟩:=h;rw[nD];simp only[aB];exact⟨a,ys,rfl,hq,sZ ih hl⟩
def bF(kvs:List (N×D))(k:N):Option D:=(kvs.find? λkv=>decide (kv.1=k)).map (·.2)
def jW(kvs:List (N×D))(k:N)(d:D):List (N×D):=if(bF kvs k).isSome=true then kvs.map (λkv=>if kv.1=k then(kv.1,d)else kv)else kvs++[(k,d)]
def lA{p:N×D}{r:List (N×D)}{k:N}(e:p.1=k):bF (p::r) k=some p.2:=by simp[bF,aOT,e]
def lB{p:N×D}{r:List (N×D)}{k:N}(e:¬ p.1=k):bF (p::r) k=bF r k:=by simp[bF,aOT,e]
theorem aN.val:∀{kvs:List (N×D)}{xs:List (N×Addr×V)} (k:N),aN K F kvs xs->match bF kvs k with|some d=>∃v,dE xs k=some v/\aB K F d v|none=>dE xs k=none
 |[],xs,k,h=>by simp only[aN]at h;subst h;rfl
 |(k',d)::kvs,xs,k,h=>by
  simp only[aN]at h;obtain⟨b,y,ys,rfl,_,r,t⟩:=h;by_cases e:k'=k
  . rw[lA (p:=(k',d)) e];exact⟨y,sU (p:=(k',b,y)) e,r⟩
  . rw[lB (p:=(k',d)) e,sV (p:=(k',b,y)) e];exact aN.val k t
def aN.hasK{kvs:List (N×D)}{xs:List (N×Addr×V)}(k:N)(h:aN K F kvs xs):(dE xs k).isSome=(bF kvs k).isSome:=by
 have:=aN.val k h;cases e:bF kvs k with
 |none=>rw[e]at this;dsimp only at this;rw[this];rfl
 |some d=>rw[e]at this;obtain⟨v,ev,_⟩:=this;rw[ev];rfl
theorem aN.keys:∀{kvs:List (N×D)}{xs:List (N×Addr×V)},aN K F kvs xs->gW K F xs
 |[],xs,h=>by simp only[aN]at h;subst h;intro p hp;cases hp
 |(k',d)::kvs,xs,h=>by
  simp only[aN]at h;obtain⟨b,y,ys,rfl,q,r,t⟩:=h;intro p hp;rcases aLU.mp hp with rfl|hp
  . exact q
  . exact t.keys p hp
theorem gW.mono{xs:List (N×Addr×V)}(s:aD F F')(h:gW K F xs):gW K F' xs:=λp hp=>⟨NAt.mono s _ _ (h p hp).1,(h p hp).2⟩
theorem aN.len:∀{kvs:List (N×D)}{xs:List (N×Addr×V)},aN K F kvs xs->xs.length=kvs.length
 |[],xs,h=>by simp only[aN]at h;subst h;rfl
 |(k',d)::kvs,xs,h=>by simp only[aN]at h;obtain⟨b,y,ys,rfl,q,r,t⟩:=h;rw[aMH,aMH,t.len]
theorem aN.repl{k:N}{d:D}(rv:aB K F d v):∀{kvs:List (N×D)}{xs:List (N×Addr×V)},aN K F kvs xs->aN K F (kvs.map λkv=>if kv.1=k then(kv.1,d)else kv) (xs.map λp=>if p.1=k then(p.1,p.2.1,v)else p)
 |[],xs,h=>by simp only[aN]at h;subst h;simp only[aN,aNN]
 |(k',d')::kvs,xs,h=>by
  simp only[aN]at h;obtain⟨b,y,ys,rfl,q,r,t⟩:=h;rw[aMI,aMI];by_cases e:k'=k
  . rw[if_pos e,if_pos e];simp only[aN];exact⟨b,v,_,rfl,q,rv,t.repl rv⟩
  . rw[if_neg e,if_neg e];simp only[aN];exact⟨b,y,_,rfl,q,r,t.repl rv⟩
theorem aN.snoc{k:N}{d:D}(hk:NAt K F k (.ref b)/\k.dp<=8)(rv:aB K F d v):∀{kvs:List (N×D)}{xs:List (N×Addr×V)},aN K F kvs xs->aN K F (kvs++[(k,d)]) (xs++[(k,b,v)])
 |[],xs,h=>by simp only[aN]at h;subst h;simp only[aN,aNW];exact⟨b,v,[],rfl,hk,rv,rfl⟩
 |(k',d')::kvs,xs,h=>by simp only[aN]at h;obtain⟨b',y,ys,rfl,q,r,t⟩:=h;rw[aNQ,aNQ];simp only[aN];exact⟨b',y,_,rfl,q,r,t.snoc hk rv⟩
def aN.put{k:N}{d:D}{kvs:List (N×D)}{xs:List (N×Addr×V)}(hk:NAt K F k (.ref b)/\k.dp<=8)(rv:aB K F d v)(h:aN K F kvs xs):aN K F (jW kvs k d) (fZ xs k b v):=by
 unfold jW fZ;rw[h.hasK k];split
 . exact h.repl rv
 . exact h.snoc hk rv
def asN:D->Option (List (N×D))
 |.dtn kvs=>some kvs
 |.dtf kvs=>some kvs
 |_=>none
theorem Rp.asN{m:Md}{d:D}{kvs:List (N×D)}(s:aD F H)(r:Rp K F H m d v)(e:asN d=some kvs):∃a xs,v=.ref a/\Rd H a (.dN xs)/\aN K F kvs xs:=by
 cases d with
 |dtn ks =>
  cases e;cases m with
  |fz=>have r:aB K F (.dtn kvs) v:=r;simp only[aB]at r;obtain⟨a,xs,rfl,q,t⟩:=r;exact⟨a,xs,rfl,.inl (s _ _ q),t⟩
  |fr=>obtain⟨a,rfl,_,xs,q,t⟩:=r;exact⟨a,xs,rfl,.inl q,t⟩
  |bo=>obtain⟨a,rfl,_,xs,q,t⟩:=r;exact⟨a,xs,rfl,.inl q,t⟩
 |dtf ks =>
  cases e;cases m with
  |fz=>have r:aB K F (.dtf kvs) v:=r;simp only[aB]at r;obtain⟨a,o,xs,rfl,q,t⟩:=r;exact⟨a,xs,rfl,.inr ⟨o,s _ _ q⟩,t⟩
  |fr=>obtain⟨a,_,_,q⟩:=r;exact q.elim
  |bo=>obtain⟨a,_,_,q⟩:=r;exact q.elim
 |_=>cases e
def aE4{m n:Md}{x y:D}{kvs:List (N×D)}{k:N}{u:V}(s:aD F H)(rx:Rp K F H m x v)(ex:D3.asN x=some kvs)(ry:Rp K F H n y u)(ey:f8 y=some k):∃a xs,v=.ref a/\Rd H a (.dN xs)/\aN K F kvs xs/\k8 K H a u (dE xs k):=by obtain⟨a,xs,rfl,hr,t⟩:=Rp.asN s rx ex;obtain⟨b,rfl,hn,hd⟩:=sY ey ry;exact⟨a,xs,rfl,hr,t,xs,k,b,hr,t.keys.mono s,rfl,⟨NAt.mono s _ _ hn,hd⟩,rfl⟩
end
def rIxN(K:Fg):R2:=λx y H Q=>∃a v,x=.ref a/\k8 K H a y (some v)/\Q v H
def ix_dn(hu:X.A.units+64<cLine):IxR X (rIxN X.K):=by
 intro value slice aA s σ H x y v u Q I rx ry h hsub;obtain⟨a,w',rfl,g,q⟩:=h;cases(show v=Value.ref a from rx)
 have hT:=aE2 I g;unfold subscriptTail;refine aL6 ?_;rw[getitemInPython_of_ne hT.not_modules];refine aL6 (aNS hT PySem.F.slot_dict_getitem.lookup ?_);have fin:wpAny (model X.prog X.w) X.A (subscripted slice false (.ref a) u) (λr s3=>wpAny (model X.prog X.w) X.A (letTemporaryGo value (.ref a) r>>=λ_=>pure r) (EP X aA σ Q) X.xe s3) X.xe s:=by rw[hsub];exact wpAny_operating (aE0 hu I g ry λz s3 I3 rz=>aL6 (wpAny_letTemporaryGo (aL5 ⟨w',H,I3,rz,q⟩)))
 first
  |exact aL5 (aL6 fin)
  |exact aL6 (aL5 (aL6 fin))
  |exact aL6 fin
noncomputable def fJ:Md->D->Md->D->Option (Md×D):=λ_ x _ y=>match asN x,f8 y with
 |some kvs,some k=>(bF kvs k).map λd=>(.fz,d)
 |_,_=>none
noncomputable def lC(ρ:Rho)(i:Nat)(rk rv:Res):aF:=match ρ[i]? with
 |some (some (true,.dtn kvs))=>(aG rv).thS ρ λm d=>match m with
  |.fz=>rk.thS ρ λ_ kd=>(match f8 kd with
   |some k=>if kvs.length<sizeLine then .nx (ρ.set i (some (true,.dtn (jW kvs k d))))else .stuck
   |none=>.stuck)
  |_=>.stuck
 |_=>.stuck
def tNNew:TE:=λ_ H Q=>∀p,H p=none->Q (.ref p) (upd H p (.dN []))
def aE5:PE X (.Dict [] [] pos) tNNew:=λaA s σ H Q I h =>
 wpAny_Dict_empty ⟨.ref s.heap.objs.size,_,I.laid (a:=s.heap.objs.size) (o:=.dN []) (t':=s.toks) (λ_ _ q=>hps q) (aL7 _)
  ⟨aMN _,aLJ.mpr (Ne.symm (aLO I.big)),[],.nil,_,#[],0,aLK _ rfl,⟨rfl,rfl,rfl⟩,rfl,rfl,List.nodup_nil⟩,rfl,h _ (I.hok.fresh (aL7 _))⟩
section
variable {a b o e f:Expr}{go gf:Rho->Res}
def aE6:PV C X (.Dict [] [] pos) (λ_=>.ok .fr (.dtn [])):=by refine PE.imp aE5 λσ H Q q=>?_;rw[aV]at q;obtain⟨ρ,F,R,w⟩:=q;intro p hp;exact w (.ref p) F _ (aE.fresh _ R.sub hp) ⟨p,rfl,R.sub.free hp,[],a9,by simp[aN]⟩ λ_ a ea=>by cases ea;exact hp
def aE7(hu:X.A.units+64<cLine)(ha:PV C X a ga)(hb:PV C X b gb)(hs:kM b):PV C X (.Subscript a b pos) (λρ=>op2 fJ (ga ρ) (gb ρ)):=by
 refine PE.imp (qZ (ix_dn hu) ha hb hs) λσ H Q q=>jM (λF H m x n y v u k d Q s rx ry e w=>?_) q;unfold fJ at e;split at e
 . rename_i kvs ky ek1 ek2;obtain⟨p,xs,rfl,hh,rk,g⟩:=aE4 s rx ek1 ry ek2;have hv:=aN.val ky rk;cases eg:bF kvs ky with
   |none=>rw[eg]at e;cases e
   |some d'=>rw[eg]at e hv;cases e;obtain⟨v',ev,rv⟩:=hv;rw[ev]at g;exact⟨p,v',rfl,g,w v' F H (.refl s) rv (by nofun)⟩
 . cases e
def tB(K:Fg)(td ty tv:TE):TS:=λD σ H=>tv σ H λv H1=>td σ H1 λx H2=>ty σ H2 λy H3=>∃a H4,x=.ref a/\NPut K H3 a y v H4/\D.nx σ H4
def aE8{i value:Expr}{ty tv:TE}(hu:X.A.units+64<cLine)(ho:PE X o td)(hi:PE X i ty)(hv:PE X value tv)(hs:swapsWith value (some (.Subscript o i pos')) pos.line X.env=pure false):PS X (.Assign [.Subscript o i pos'] value pos) (tB X.K td ty tv):=by intro aA s σ H D I h;refine wpAny_Assign_Subscript (thn (hv aA s σ H _ I h) λr s1 ⟨v,H1,I1,rv,q1⟩=>thn (ho aA s1 σ H1 _ I1 q1) λu s2 ⟨x,H2,I2,rx,q2⟩=>thn (hi aA s2 σ H2 _ I2 q2) λiv s3 ⟨y,H3,I3,ry,a,H4,ex,g,q3⟩=>?_) hs;subst ex;obtain rfl:u=Value.ref a:=rx;exact aE1 hu I3 g ry rv λs4 I4=>⟨σ,H4,I4,q3⟩
end
section
variable  {e:Expr}{gk:Rho->Res}{sp:Pos}
def aE9(i:Nat)(hu:X.A.units+64<cLine)(hv:PE X (.Name x p) (iD i))(hk:PV C X ke gk)(he:PV C X e g)(hsw:swapsWith e (some (.Subscript (.Name x p) ke sp)) pos.line X.env=pure false):PSv C X (.Assign [.Subscript (.Name x p) ke sp] e pos) (λρ=>lC ρ i (gk ρ) (g ρ)):=by
 refine PS.imp (aE8 hu hv hk (gN he) hsw) λE σ H q=>?_;obtain⟨ρ,F,R,w⟩:=q;dsimp only at w;unfold tB;unfold lC at w;split at w
 . rename_i kvs e0;obtain⟨v0,ev0,rp0,hn0⟩:=R.slot i true _ e0;obtain⟨a,ea,hfa,xs,hh,rk⟩:=rp0;subst ea;refine iK R w λm d v F' H' w' s R' rp fr=>?_;cases m with
   |fr=>exact(show False from w').elim
   |bo=>exact(show False from w').elim
   |fz =>
   dsimp only at w';refine⟨.ref a,ev0,?_⟩;refine iK R' w' λm2 kd u F2 H2 w2 s2 R2 rp2 _=>?_;cases ek:f8 kd with
   |none=>rw[ek]at w2;exact w2.elim
   |some k =>
    rw[ek]at w2;dsimp only at w2;split at w2
    . rename_i hl;have hh2:H2 a=some (.dN xs):=s2.same _ _ (s.same _ _ hh);obtain⟨b,rfl,hn,hd⟩:=sY ek rp2;have rk2:=rk.mono (s.fsame.trans s2.fsame) _ _;refine⟨a,_,rfl,⟨xs,k,b,hh2,rk2.keys.mono s2.sub,rfl,⟨NAt.mono s2.sub _ _ hn,hd⟩,by rw[rk.len];exact hl,rfl⟩,?_⟩
      exact w2 σ F2 _ (aD.refl _) (R2.mut e0 ev0 ⟨_,a9,aN.put ⟨hn,hd⟩ (aB.mono s2.fsame _ _ rp) rk2⟩)
    . exact w2.elim
 . exact w.elim
end
open PySem.W
structure WkO(lt:Nat->Nat->Bool):Prop where
 ntr:∀{i j k},lt i j=false->lt j k=false->lt i k=false
 asy:∀{i j},lt i j=true->lt j i=false
def WkO.irr{lt:Nat->Nat->Bool}(O:WkO lt)(i:Nat):lt i i=false:=by
 cases e:lt i i with
 |false=>rfl
 |true=>have:=O.asy e;rw[e]at this;cases this
structure PW(n:Nat)(p:Array Nat):Prop where
 size:p.size=n
 below:∀k,p.getD k 0<n
def PW.perm{p q:Array Nat}(h:PW n p)(e:q.Perm p):PW n q:=by
 refine⟨by rw[e.size_eq,h.size],λk=>?_⟩
 simp only[aOV];cases z:q[k]? with
 |none=>have:=h.below p.size;simp only[aOV,Array.getElem?_size]at this;exact this
 |some v =>
  have hm:v∈p.toList:=(Array.perm_iff_toList_perm.mp e).mem_iff.mp (by rw[aME];exact aN6 z)
  obtain⟨i,hi⟩:=List.getElem?_of_mem hm;have:=h.below i;rw[Array.getElem?_toList]at hi;simp only[aOV,hi]at this;exact this
section
variable {lt:Nat->Nat->Bool}{cmp:Nat->Nat->(Bool->aP1->Prop)->aP1->Prop}{J:aP1->Prop}
def Wup(lt:Nat->Nat->Bool)(p:Array Nat)(b:Nat):Prop:=∀i j,i<j->j<b->lt (p.getD j 0) (p.getD i 0)=false
def Wdn(lt:Nat->Nat->Bool)(p:Array Nat)(b:Nat):Prop:=∀i j,i<j->j<b->lt (p.getD i 0) (p.getD j 0)=false
def Weq(lt:Nat->Nat->Bool)(p:Array Nat)(a b:Nat):Prop:=∀i j,a<=i->i<b->a<=j->j<b->lt (p.getD i 0) (p.getD j 0)=false
theorem Wup.more(O:WkO lt){p:Array Nat}{m:Nat}(h:Wup lt p m)(hm:1<=m)(e:lt (p.getD m 0) (p.getD (m-1) 0)=false):Wup lt p (m+1):=λi j hij hj=>by
 by_cases hjm:j<m
 . exact h i j hij hjm
 . have:j=m:=by lia
   subst this;by_cases hi:i=j-1
   . rw[hi];exact e
   . exact O.ntr e (h i (j-1) (by lia) (by lia))
theorem Wdn.more(O:WkO lt){p:Array Nat}{m:Nat}(h:Wdn lt p m)(hm:1<=m)(e:lt (p.getD (m-1) 0) (p.getD m 0)=false):Wdn lt p (m+1):=λi j hij hj=>by
 by_cases hjm:j<m
 . exact h i j hij hjm
 . have:j=m:=by lia
   subst this;by_cases hi:i=j-1
   . rw[hi];exact e
   . exact O.ntr (h i (j-1) (by lia) (by lia)) e
def f9{p:Array Nat}(a b:Nat)(hb:b<=p.size)(k:Nat):(kas_rev p a b).getD k 0=if a<=k/\k<b then p.getD (a+b-1-k) 0 else p.getD k 0:=by simp only[aOV];unfold kas_rev;rw[getElem?_mirror_all hb];split <;> rfl
def lD{p:Array Nat}(pp:PW n p)(a b:Nat):PW n (kas_rev p a b)/\(kas_rev p a b).Perm p:=by have pe:(kas_rev p a b).Perm p:=mirror_perm _ _ _ _;exact⟨pp.perm pe,pe⟩
theorem nU(O:WkO lt)(hc:fH n lt cmp J){p:Array Nat}(pp:PW n p):∀(f m:Nat) (s:aP1) (Q:Nat->aP1->Prop),m+f=n->1<=m->Wup lt p m->J s->(∀m' s',m<=m'->m'<=n->Wup lt p m'->(m'<n->lt (p.getD m' 0) (p.getD (m'-1) 0)=true)->J s'->Q m' s')->(kas_asc p f m).kasWp cmp Q s
 |0,m,s,Q,e,h1,u,hJ,q=>q m s (aL7 _) (by lia) u (λz=>by lia) hJ
 |f+1,m,s,Q,e,h1,u,hJ,q=>by
  refine hc _ _ s _ (pp.below m) (pp.below (m-1)) hJ λs' hJ'=>?_;cases ec:lt (p.getD m 0) (p.getD (m-1) 0)with
  |true=>exact q m s' (aL7 _) (by lia) u (λ_=>ec) hJ'
  |false=>exact nU O hc pp f (m+1) s' Q (by lia) (by lia) (u.more O h1 ec) hJ' λm' s2 a b c d e=>q m' s2 (by lia) b c d e
theorem Wdn.turn{p:Array Nat}{a m:Nat}(hp:m<=p.size)(d:Wdn lt p m)(e:Weq lt p a m):Wdn lt (kas_rev p a m) m:=λi j hij hj=>by
 rw[f9 a m hp,f9 a m hp];by_cases hi:a<=i
 . rw[if_pos ⟨hi,by lia⟩,if_pos ⟨by lia,hj⟩]
   exact e _ _ (by lia) (by lia) (by lia) (by lia)
 . rw[if_neg (by lia)]
   by_cases hj2:a<=j
   . rw[if_pos ⟨hj2,hj⟩];exact d _ _ (by lia) (by lia)
   . rw[if_neg (by lia)];exact d i j hij hj
theorem lE(O:WkO lt)(hc:fH n lt cmp J)(p0:Array Nat):∀(f m q:Nat) (p:Array Nat) (s:aP1) (Q:Array Nat×Nat×Nat->aP1->Prop),PW n p->p.Perm p0->m+f=n->q+1<=m->Wdn lt p m->Weq lt p (m-(q+1)) m->J s->(∀p' m' q' s',PW n p'->p'.Perm p0->q'+1<=m'->1<=m'->m'<=n->Wdn lt p' m'->Weq lt p' (m'-(q'+1)) m'->J s'->Q (p',m',q') s')->(kas_desc f p m q).kasWp cmp Q s
 |0,m,q,p,s,Q,pp,pe,e,h1,u,we,hJ,k=>k p m q s pp pe h1 (by lia) (by lia) u we hJ
 |f+1,m,q,p,s,Q,pp,pe,e,h1,u,we,hJ,k=>by
  unfold kas_desc;refine hc _ _ s _ (pp.below m) (pp.below (m-1)) hJ λs' hJ'=>?_;have sz:=pp.size;cases ec:lt (p.getD m 0) (p.getD (m-1) 0)with
  |true =>
   have e1:=O.asy ec;have one:∀(r:Array Nat),Weq lt r (m+1-(0+1)) (m+1):=λr i j a b c d=>by
    have:i=j:=by lia
    subst this;exact O.irr _
   dsimp only;rw[if_pos rfl];by_cases hq:q > 0
   . rw[if_pos hq];obtain⟨pp2,pe2⟩:=lD pp (m-(q+1)) m;refine lE O hc p0 f (m+1) 0 _ s' Q pp2 (pe2.trans pe) (by lia) (by lia) ?_ (one _) hJ' k
     refine(u.turn (by lia) we).more O (by lia) ?_
     rw[f9 _ _ (by lia),f9 _ _ (by lia),if_pos ⟨by lia,by lia⟩,if_neg (by lia)]
     exact O.ntr (we _ (m-1) (by lia) (by lia) (by lia) (by lia)) e1
   . rw[if_neg hq];exact lE O hc p0 f (m+1) 0 p s' Q pp pe (by lia) (by lia) (u.more O (by lia) e1) (one _) hJ' k
  |false =>
   dsimp only;rw[if_neg aMF];refine hc _ _ s' _ (pp.below (m-1)) (pp.below m) hJ' λs2 hJ2=>?_;cases ed:lt (p.getD (m-1) 0) (p.getD m 0)with
   |true=>dsimp only;rw[if_pos rfl];exact k p m q s2 pp pe h1 (by lia) (by lia) u we hJ2
   |false =>
    dsimp only;rw[if_neg aMF];refine lE O hc p0 f (m+1) (q+1) p s2 Q pp pe (by lia) (by lia) (u.more O (by lia) ed) (λi j a b c d=>?_) hJ2 k
    by_cases hi:i<m
    . by_cases hj:j<m
      . exact we i j (by lia) hi (by lia) hj
      . have:j=m:=by lia
        subst this;exact O.ntr (we i (j-1) (by lia) hi (by lia) (by lia)) ed
    . have:i=m:=by lia
      subst this;by_cases hj:j<i
      . exact O.ntr ec (we (i-1) j (by lia) (by lia) (by lia) hj)
      . have:j=i:=by lia
        subst this;exact O.irr _
theorem tD(O:WkO lt)(hc:fH n lt cmp J){p:Array Nat}(pp:PW n p){m:Nat}(h1:1<=m)(hm:m<=n)(d:Wdn lt p m){Q:Nat×Array Nat->aP1->Prop}(hJ:J s)(q:∀m' p' s',1<=m'->m'<=n->PW n p'->p'.Perm p->Wup lt p' m'->J s'->Q (m',p') s'):(kas_tail3 m n p).kasWp cmp Q s:=by
 unfold kas_tail3;rw[KasT.kasWp_bind];obtain⟨pp2,pe2⟩:=lD pp 0 m;have sz:=pp.size;refine nU O hc pp2 (n-m) m s _ (by lia) h1 (λi j hij hj=>?_) hJ λm2 s3 a2 b2 u2 _ hJ3=>q m2 _ s3 (by lia) b2 pp2 pe2 u2 hJ3
 rw[f9 _ _ (by lia),f9 _ _ (by lia),if_pos ⟨by lia,by lia⟩,if_pos ⟨by lia,by lia⟩]
 exact d _ _ (by lia) (by lia)
theorem tE(O:WkO lt)(hc:fH n lt cmp J){p:Array Nat}(pp:PW n p){m:Nat}(hm:m<n)(d:Wdn lt p (m+1)){Q:Nat×Array Nat->aP1->Prop}(hJ:J s)(q:∀m' p' s',1<=m'->m'<=n->PW n p'->p'.Perm p->Wup lt p' m'->J s'->Q (m',p') s'):(kas_descPart m n p).kasWp cmp Q s:=by
 unfold kas_descPart;rw[KasT.kasWp_bind];refine lE O hc p (n-(m+1)) (m+1) 0 p s _ pp (aOW _) (by lia) (by lia) d (λi j a b c d=>?_) hJ λp' m' q' s' pp' pe' h1 h2 h3 d' e' hJ'=>?_
 . have:i=j:=by lia
   subst this;exact O.irr _
 . dsimp only;have sz:=pp'.size;by_cases hq:q' > 0
   . rw[if_pos hq];obtain⟨pp2,pe2⟩:=lD pp' (m'-(q'+1)) m';exact tD O hc pp2 h2 h3 (d'.turn (by lia) e') hJ' λm2 p2 s2 x1 x2 x3 x4 x5 x6=>q m2 p2 s2 x1 x2 x3 ((x4.trans pe2).trans pe') x5 x6
   . rw[if_neg hq];exact tD O hc pp' h2 h3 d' hJ' λm2 p2 s2 x1 x2 x3 x4 x5 x6=>q m2 p2 s2 x1 x2 x3 (x4.trans pe') x5 x6
theorem aFA(O:WkO lt)(hc:fH n lt cmp J)(hn:2<=n){p:Array Nat}(pp:PW n p){Q:Nat×Array Nat->aP1->Prop}(hJ:J s)(q:∀m' p' s',1<=m'->m'<=n->PW n p'->p'.Perm p->Wup lt p' m'->J s'->Q (m',p') s'):(kas_count n p).kasWp cmp Q s:=by
 unfold kas_count;rw[KasT.kasWp_bind];have sz:=pp.size;refine nU O hc pp (n-1) 1 s _ (by lia) (aL7 _) (λi j h1 h2=>by lia) hJ λm s1 a b u d hJ1=>?_
 by_cases em:m=n
 . rw[if_pos (by simpa using em)]
   exact q m p s1 a b pp (aOW _) u hJ1
 . rw[if_neg (by simpa using em)]
   have dm:=O.asy (d (by lia))
   by_cases h1:m > 1
   . rw[if_pos h1];refine hc _ _ s1 _ (pp.below 0) (pp.below (m-1)) hJ1 λs2 hJ2=>?_;cases ec:lt (p.getD 0 0) (p.getD (m-1) 0)with
     |true=>dsimp only;rw[if_pos rfl];exact q m p s2 a b pp (aOW _) u hJ2
     |false =>
      dsimp only;rw[if_neg aMF];obtain⟨pp2,pe2⟩:=lD pp 0 m;have ge:∀i,i<m->lt (p.getD i 0) (p.getD 0 0)=false:=λi hi=>by
       by_cases h0:i=0
       . rw[h0];exact O.irr _
       . exact u 0 i (by lia) hi
      have le:∀i,i<m->lt (p.getD (m-1) 0) (p.getD i 0)=false:=λi hi=>by
       by_cases h0:i=m-1
       . rw[h0];exact O.irr _
       . exact u i (m-1) (by lia) (by lia)
      have all:Weq lt p 0 m:=λi j _ hi _ hj=>O.ntr (O.ntr (ge i hi) ec) (le j hj);refine tE O hc pp2 (by lia) (Wdn.more O (Wdn.turn (by lia) (λi j hij hj=>all i j (by lia) (by lia) (by lia) hj) all) (by lia) ?_) hJ2 λm2 p2 s3 x1 x2 x3 x4 x5 x6=>q m2 p2 s3 x1 x2 x3 (x4.trans pe2) x5 x6
      rw[f9 _ _ (by lia),f9 _ _ (by lia),if_pos ⟨by lia,by lia⟩,if_neg (by lia)]
      exact O.ntr (all _ (m-1) (by lia) (by lia) (by lia) (by lia)) dm
   . rw[if_neg h1];have e1:m=1:=by lia
     subst e1
     exact tE O hc pp (by lia) (λi j hij hj=>by
      have:i=0/\j=1:=by lia
      rw[this.1,this.2];exact dm) hJ1 q
theorem nV(O:WkO lt)(hc:fH n lt cmp J){p:Array Nat}(pp:PW n p){k:Nat}(hk:k<n)(u:Wup lt p k):∀(f l r:Nat) (s:aP1) (Q:Nat->aP1->Prop),l<=r->r<=k->r-l<=f->J s->(∀i,i<l->lt (p.getD k 0) (p.getD i 0)=false)->(∀i,r<=i->i<k->lt (p.getD i 0) (p.getD k 0)=false)->(∀l' s',l'<=k->(∀i,i<l'->lt (p.getD k 0) (p.getD i 0)=false)->(∀i,l'<=i->i<k->lt (p.getD i 0) (p.getD k 0)=false)->J s'->Q l' s')->(kas_place p k f l r).kasWp cmp Q s
 |0,l,r,s,Q,h1,h2,h3,hJ,a,b,q=>q l s (by lia) a (λi hi=>b i (by lia)) hJ
 |f+1,l,r,s,Q,h1,h2,h3,hJ,a,b,q=>by
  unfold kas_place;by_cases hlr:l ≥ r
  . rw[if_pos hlr];exact q l s (by lia) a (λi hi=>b i (by lia)) hJ
  . rw[if_neg hlr];refine hc _ _ s _ (pp.below k) (pp.below ((l+r) / 2)) hJ λs' hJ'=>?_;cases ec:lt (p.getD k 0) (p.getD ((l+r) / 2) 0)with
    |true =>
     refine nV O hc pp hk u f l ((l+r) / 2) s' Q (by lia) (by lia) (by lia) hJ' a (λi h4 h5=>?_) q
     by_cases e:i=(l+r) / 2
     . rw[e];exact O.asy ec
     . exact O.ntr (u _ i (by lia) h5) (O.asy ec)
    |false =>
     refine nV O hc pp hk u f ((l+r) / 2+1) r s' Q (by lia) h2 (by lia) hJ' (λi h4=>?_) b q
     by_cases e:i=(l+r) / 2
     . rw[e];exact ec
     . exact O.ntr ec (u i _ (by lia) (by lia))
theorem tF(O:WkO lt)(hc:fH n lt cmp J):∀(f k:Nat) (p:Array Nat) (s:aP1) (Q:Array Nat->aP1->Prop),k+f=n->PW n p->Wup lt p k->J s->(∀p' s',PW n p'->p'.Perm p->Wup lt p' n->J s'->Q p' s')->(kas_bin f p k).kasWp cmp Q s
 |0,k,p,s,Q,e,pp,u,hJ,q=>by
  have:k=n:=by lia
  subst this;exact q p s pp (aOW _) u hJ
 |f+1,k,p,s,Q,e,pp,u,hJ,q=>by
  unfold kas_bin;rw[KasT.kasWp_bind];refine nV O hc pp (by lia) u k 0 k s _ (aMN _) (aL7 _) (by lia) hJ (λi h=>by lia) (λi h1 h2=>by lia) λl s1 hl a b hJ1=>?_
  have pe:(bubble p k (k-l)).Perm p:=bubble_perm _ _ _;have g:=getElem?_bubble (xs:=p) (src:=k) (by rw[pp.size];lia) (k-l) (by lia)
  refine tF O hc f (k+1) _ s1 Q (by lia) (pp.perm pe) (λi j hij hj=>?_) hJ1 λp' s2 x y z w=>q p' s2 x (y.trans pe) z w
  have el:k-(k-l)=l:=by lia
  rw[el]at g;have gd:∀i,(bubble p k (k-l)).getD i 0=if i=l then p.getD k 0 else if l<i/\i<=k then p.getD (i-1) 0 else p.getD i 0:=λi=>by
   simp only[aOV];rw[g i];split
   . rfl
   . split <;> rfl
  rw[gd i,gd j];by_cases h1:i<l
  . rw[if_neg (show ¬ i=l by lia),if_neg (show ¬ (l<i/\i<=k) by lia)]
    by_cases h2:j=l
    . rw[if_pos h2];exact a i h1
    . rw[if_neg h2];split
      . exact u i (j-1) (by lia) (by lia)
      . exact u i j hij (by lia)
  . by_cases h2:i=l
    . rw[if_pos h2,if_neg (show ¬ j=l by lia),if_pos (show l<j/\j<=k by lia)]
      exact b (j-1) (by lia) (by lia)
    . rw[if_neg h2,if_pos (show l<i/\i<=k by lia),if_neg (show ¬ j=l by lia),if_pos (show l<j/\j<=k by lia)]
      exact u (i-1) (j-1) (by lia) (by lia)
theorem aFB(O:WkO lt)(hc:fH n lt cmp J)(hn:2<=n){Q:Array Nat->aP1->Prop}(hJ:J s)(q:∀p s',PW n p->p.Perm (List.toArray (List.range n))->Wup lt p n->J s'->Q p s'):(kas_sort n).kasWp cmp Q s:=by
 unfold kas_sort;rw[KasT.kasWp_bind];have pp:PW n (List.toArray (List.range n)):=by
  refine⟨by simp,λk=>?_⟩
  simp only[aOV,List.getElem?_toArray,aOA];by_cases hk:k<n
  . simp[hk]
  . simp[hk];lia
 refine aFA O hc hn pp hJ λm p s1 a b pp' pe u hJ1=>?_;by_cases h:m<n
 . rw[if_pos h];have em:max m 1=m:=by lia
   rw[em];exact tF O hc (n-m) m p s1 Q (by lia) pp' u hJ1 λp' s2 x y z w=>q p' s2 x (y.trans pe) z w
 . rw[if_neg h];have em:m=n:=by lia
   subst em;exact q p s1 pp' pe u hJ1
end
def fK:Nat:=64
def tI:fK<=1000000:=by decide
def aFC:64<=fK:=aL7 _
section
variable {A:aP2}{E:VSP}{κ:SortKind}{ks vs:List aP0}{lt:Nat->Nat->Bool}
def aFD(O:WkO lt)(hl:ks.length=vs.length)(h1:2<=vs.length)(hb:vs.length<fK)(ask:∀i j (C:Bool->aP1->Prop),i<vs.length->j<vs.length->C (lt i j) s->wpAny (model prog w) A (keyLt' κ (ks.getD i .none) (ks.getD j .none)) C (λ_ _=>False) s){Q:SortSt->aP1->Prop}(q:∀p st',PW vs.length p->p.Perm (List.toArray (List.range vs.length))->Wup lt p vs.length->arrOf st'=p.map (kas_item (ks.toArray.zip vs.toArray))->failedOf st'=none->Q st' s):wpAny (model prog w) A ((sortRuns').run (SortSt.mk' κ (ks.toArray.zip vs.toArray) #[] 7 none)) (λr s'=>Q r.2 s') E s:=by
 have a:fH vs.length lt (kas_ask prog w A κ ks) (λs2=>s2=s):=λi j s2 C hi hj hJ q=>by subst hJ;unfold kas_ask;exact ask i j _ hi hj (q _ rfl)
 exact kat_run (G:=λp s2=>s2=s/\PW vs.length p/\p.Perm (List.toArray (List.range vs.length))/\Wup lt p vs.length) hl h1 hb (λp st' s2 a1 a2 a3 a4=>by
  obtain⟨rfl,b1,b2,b3⟩:=a4;exact q p st' b1 b2 b3 a2 a3) (aFB O a h1 rfl λp s2 b1 b2 b3 b4=>⟨b4,b1,b2,b3⟩)
end
mutual
def ltN:N->N->Bool
 |.i n,.i m=>decide (n<m)
 |.i _,.s _=>true
 |.i _,.t _=>true
 |.s _,.i _=>false
 |.s x,.s y=>lts x y
 |.s _,.t _=>true
 |.t _,.i _=>false
 |.t _,.s _=>false
 |.t xs,.t ys=>bG xs ys
def bG:List N->List N->Bool
 |[],[]=>false
 |[],_::_=>true
 |_::_,[]=>false
 |x::xs,y::ys=>if x=y then bG xs ys else ltN x y
end
mutual
def okN:N->N->Bool
 |.i _,.i _=>true
 |.s _,.s _=>true
 |.t xs,.t ys=>dF xs ys
 |.i _,.s _=>false
 |.i _,.t _=>false
 |.s _,.i _=>false
 |.s _,.t _=>false
 |.t _,.i _=>false
 |.t _,.s _=>false
def dF:List N->List N->Bool
 |[],_=>true
 |_::_,[]=>true
 |x::xs,y::ys=>if x=y then dF xs ys else okN x y
end
theorem tJ:∀(xs:List N),bG xs xs=false
 |[]=>by rw[bG]
 |x::xs=>by rw[bG,if_pos rfl,tJ xs]
def lG(k:N):ltN k k=false:=by
 cases k with
 |i n=>rw[ltN];simp
 |s x=>rw[ltN];exact aEU x
 |t xs=>rw[ltN];exact tJ xs
theorem tK:∀{xs ys:List N},(∀x∈xs,∀y,ltN x y=false->ltN y x=false->x=y)->bG xs ys=false->bG ys xs=false->xs=ys
 |[],[],_,_,_=>rfl
 |[],_::_,_,h,_=>by rw[bG]at h;cases h
 |_::_,[],_,_,h=>by rw[bG]at h;cases h
 |x::xs,y::ys,k,h1,h2=>by
  rw[bG]at h1 h2;by_cases e:x=y
  . subst e;rw[if_pos rfl]at h1 h2;rw[tK (λz hz=>k z (mcm hz)) h1 h2]
  . rw[if_neg e]at h1;rw[if_neg (λz=>e z.symm)]at h2;exact absurd (k x mcs y h1 h2) e
theorem tL(k:N):∀y,ltN k y=false->ltN y k=false->k=y:=by
 induction k using N.ind with
 |hi n =>
  intro y h1 h2;cases y with
  |i m =>
   rw[ltN]at h1 h2;have:n=m:=by have a1:=of_decide_eq_false h1;have a2:=of_decide_eq_false h2;lia
   rw[this]
  |s x=>rw[ltN]at h1;cases h1
  |t xs=>rw[ltN]at h1;cases h1
 |hs x =>
  intro y h1 h2;cases y with
  |i m=>rw[ltN]at h2;cases h2
  |s z=>rw[ltN]at h1 h2;rw[aEW h1 h2]
  |t xs=>rw[ltN]at h1;cases h1
 |ht xs ih =>
  intro y h1 h2;cases y with
  |i m=>rw[ltN]at h2;cases h2
  |s z=>rw[ltN]at h2;cases h2
  |t ys=>rw[ltN]at h1 h2;rw[tK ih h1 h2]
theorem tM:∀{xs ys zs:List N},(∀x∈xs,∀y z,ltN x y=true->ltN y z=true->ltN x z=true)->bG xs ys=true->bG ys zs=true->bG xs zs=true
 |[],[],_,_,h,_=>by rw[bG]at h;cases h
 |[],_::_,[],_,_,h=>by rw[bG]at h;cases h
 |[],_::_,_::_,_,_,_=>by rw[bG]
 |_::_,[],_,_,h,_=>by rw[bG]at h;cases h
 |_::_,_::_,[],_,_,h=>by rw[bG]at h;cases h
 |x::xs,y::ys,z::zs,k,h1,h2=>by
  rw[bG]at h1 h2 ⊢;by_cases e1:x=y
  . subst e1;rw[if_pos rfl]at h1;by_cases e2:x=z
    . rw[if_pos e2]at h2 ⊢;exact tM (λz hz=>k z (mcm hz)) h1 h2
    . rw[if_neg e2]at h2 ⊢;exact h2
  . rw[if_neg e1]at h1;by_cases e2:y=z
    . subst e2;rw[if_neg e1];exact h1
    . rw[if_neg e2]at h2;have h3:=k x mcs y z h1 h2;by_cases e3:x=z
      . rw[<- e3]at h2;have:=k x mcs y x h1 h2;rw[lG]at this;cases this
      . rw[if_neg e3];exact h3
theorem tN(k:N):∀y z,ltN k y=true->ltN y z=true->ltN k z=true:=by
 induction k using N.ind with
 |hi n =>
  intro y z h1 h2;cases z with
  |i l =>
   cases y with
   |i m=>rw[ltN]at h1 h2 ⊢;have a1:=aN0 h1;have a2:=aN0 h2;exact aNO (by lia)
   |s x=>rw[ltN]at h2;cases h2
   |t xs=>rw[ltN]at h2;cases h2
  |s x=>rw[ltN]
  |t xs=>rw[ltN]
 |hs x =>
  intro y z h1 h2;cases y with
  |i m=>rw[ltN]at h1;cases h1
  |s x2 =>
   cases z with
   |i l=>rw[ltN]at h2;cases h2
   |s x3=>rw[ltN]at h1 h2 ⊢;exact aEV h1 h2
   |t xs=>rw[ltN]
  |t xs =>
   cases z with
   |i l=>rw[ltN]at h2;cases h2
   |s x3=>rw[ltN]at h2;cases h2
   |t xs=>rw[ltN]
 |ht xs ih =>
  intro y z h1 h2;cases y with
  |i m=>rw[ltN]at h1;cases h1
  |s x2=>rw[ltN]at h1;cases h1
  |t ys =>
   cases z with
   |i l=>rw[ltN]at h2;cases h2
   |s x3=>rw[ltN]at h2;cases h2
   |t zs=>rw[ltN]at h1 h2 ⊢;exact tM ih h1 h2
def tO{a b:N}(h:ltN a b=true):ltN b a=false:=by
 cases e:ltN b a with
 |false=>rfl
 |true=>have:=tN a b a h e;rw[lG]at this;cases this
def tP{a b c:N}(h1:ltN a b=false)(h2:ltN b c=false):ltN a c=false:=by
 cases e:ltN a c with
 |false=>rfl
 |true =>
  cases e1:ltN b a with
  |true=>have:=tN b a c e1 e;rw[h2]at this;cases this
  |false=>have:=tL a b h1 e1;subst this;rw[e]at h2;cases h2
theorem aFE{A:aP2}{x y:N}{v:aP0}(hu:A.units+x.dp<cLine)(hx:IsN s.heap x u)(hy:IsN s.heap y v):SeqAt.EqAt A s u v (decide (x=y)):=by
 obtain⟨⟨as,ra⟩,ca⟩:=IsN.reads x u hx;obtain⟨⟨bs,rb⟩,cb⟩:=IsN.reads y v hy;have:=SeqAt.eqAt_reads x.py y.py A s u v as bs ra rb ca cb (by rw[N.py_depth];have:=aNU x.dp y.py.depth;lia)
 rw[N.py_eqv]at this;exact this
theorem nW{A:aP2}:∀{xs ys:List N}{us vs:List aP0},(∀x∈xs,∀(y:N) (u v:aP0),IsN s.heap x u->IsN s.heap y v->okN x y=true->∀(prog:aP4) (w':aP3) (E:VSP) (Q:VSP),Q (.bool (ltN x y)) s->wpAny (model prog w') A (compareOp .Lt u v) Q E s)->A.units+N.dpL xs<cLine->aW s.heap xs us->aW s.heap ys vs->dF xs ys=true->LtI A s us vs (bG xs ys)
 |[],[],us,vs,_,_,h1,h2,_=>by rw[aW]at h1 h2;subst h1;subst h2;rw[bG];exact .nn
 |[],y::ys,us,vs,_,_,h1,h2,_=>by rw[aW]at h1;rw[aW]at h2;subst h1;obtain⟨v,ws,rfl,_⟩:=h2;rw[bG];exact .nc
 |x::xs,[],us,vs,_,_,h1,h2,_=>by rw[aW]at h1;rw[aW]at h2;subst h2;obtain⟨v,ws,rfl,_⟩:=h1;rw[bG];exact .cn
 |x::xs,y::ys,us,vs,k,hu,h1,h2,ok=>by
  rw[aW]at h1 h2;obtain⟨u,us,rfl,p1,p2⟩:=h1;obtain⟨v,vs,rfl,q1,q2⟩:=h2;rw[N.dpL]at hu;rw[dF]at ok;have e:=aFE (A:=A) (by lia) p1 q1
  rw[bG];by_cases exy:x=y
  . rw[aNO exy]at e;rw[if_pos exy]at ok ⊢;exact .eq e (nW (λz hz=>k z (mcm hz)) (by lia) p2 q2 ok)
  . rw[aLI exy]at e;rw[if_neg exy]at ok ⊢;exact .ne e λprog w' E Q q=>k x mcs y u v p1 q1 ok prog w' E Q q
theorem n_lt(k:N):∀{A:aP2}{E:VSP}{y:N}{u v:aP0}{Q:VSP}{prog:aP4}{w:aP3},A.units+k.dp+1<cLine->IsN s.heap k u->IsN s.heap y v->okN k y=true->Q (.bool (ltN k y)) s->wpAny (model prog w) A (compareOp .Lt u v) Q E s:=by
 induction k using N.ind with
 |hi n =>
  intro A E y u v Q prog w hu h1 h2 ok q;cases y with
  |i m=>rw[IsN]at h1 h2;obtain⟨t,rfl⟩:=h1;obtain⟨t',rfl⟩:=h2;rw[ltN]at q;exact lt_int q
  |s x=>rw[okN]at ok;cases ok
  |t xs=>rw[okN]at ok;cases ok
 |hs x =>
  intro A E y u v Q prog w hu h1 h2 ok q;cases y with
  |s z=>rw[IsN]at h1 h2;obtain⟨⟨t,rfl⟩,_⟩:=h1;obtain⟨⟨t',rfl⟩,_⟩:=h2;rw[ltN]at q;unfold lts at q;rw[ltCps_eq]at q;exact lt_str q
  |i m=>rw[okN]at ok;cases ok
  |t xs=>rw[okN]at ok;cases ok
 |ht xs ih =>
  intro A E y u v Q prog w hu h1 h2 ok q;cases y with
  |i m=>rw[okN]at ok;cases ok
  |s x=>rw[okN]at ok;cases ok
  |t ys=>rw[IsN]at h1 h2;obtain⟨a,o,its,n,rfl,g1,c1,d1,l1⟩:=h1;obtain⟨b,o',its',n',rfl,g2,c2,d2,l2⟩:=h2;rw[ltN]at q;rw[okN]at ok;rw[N.dp]at hu;exact aED ⟨o,g1,c1,n,d1⟩ ⟨o',g2,c2,n',d2⟩ (nW (A:=A.in1) (λx hx y u v p1 p2 ok prog w' E Q q=>ih x hx (by have:=N.dp_mem hx;show A.units+1+_+1<_;lia) p1 p2 ok q) (by show A.units+1+_<_;lia) l1 l2 ok) (by lia) q
section
variable {A:aP2}{E:VSP}
theorem aFF{vs:List aP0}{Q:List aP0->aP1->Prop}(hl:IsTup s.heap l vs.toArray)(hz:vs.length<=sizeLine)(h:Q vs { s with heap:=(s.heap.push (seqObj "list" #[] 0)).update s.heap.objs.size (Obj.mapSeq (·++vs.toArray)) }):wpAny (model prog w) A (collect (.ref l)) Q E s:=by
 obtain⟨o,ho,hc,n,hd⟩:=id hl;have g0:=Heap.get?_push_of_some (seqObj "list" #[] 0) ho;have g1:(s.heap.push (seqObj "list" #[] 0)).get? s.heap.objs.size=some (seqObj "list" #[] 0):=aLK _ rfl;unfold collect;refine aL6 (wpAny_runValue (aOX entry_proto_collect' ?_));show wpAny _ _ (do let l' <- newList [];again (.builtin "list.__iadd__" ⟨[l',.ref l],[]⟩)) _ _ s
 refine aL6 (wpAny_newList (aL5 ⟨Code.quiet_builtin _ (by decide +kernel),aOX entry_list_iadd' ?_⟩))
 show wpAny (model prog w) _ (Builtin.List.listExtendWith (.ref s.heap.objs.size) (.ref l) (.ref s.heap.objs.size)) _ _ _;unfold Builtin.List.listExtendWith;refine aL6 (aNH (T := "tuple") (s:={ s with heap:=s.heap.push (seqObj "list" #[] 0) }) ⟨o,g0,hc⟩ ?_)
 rw[if_pos (by rw[show(Value.type "tuple" == Value.type "tuple")=true from rfl,Bool.or_true])]
 refine aL6 (listItems_at (s:={ s with heap:=s.heap.push (seqObj "list" #[] 0) }) g0 hd (aL6 (listItems_at (xs:=#[]) (n:=0) g1 rfl ?_)))
 rw[if_neg (by simp)]
 refine aL6 (aOY (xs:=#[]) (n:=0) g1 rfl (aL5 ?_) (aMN _) (by show(#[]++vs.toArray).size<=sizeLine+1;simp only[Array.size_append,aMD,aOO];lia))
 show wpAny (model prog w) A (do match(<- load s.heap.objs.size).data with|.seq xs _=>pure xs.toList|_=>unsupported "internal:collect") Q E _
 refine aL6 (wpAny_load (aOZ g1 _) ?_);show wpAny _ A (pure ((#[]:Array aP0)++vs.toArray).toList) Q E _;rw[show((#[]:Array aP0)++vs.toArray).toList=vs by simp]
 exact aL5 h
end
theorem iT:∀(ks:List N),nDL ks=ks.map nD
 |[]=>by rw[nDL];rfl
 |k::ks=>by rw[nDL,iT ks];rfl
section
variable {A:aP2}{E:VSP}
end
def aFG{p:Addr}(I:L2.Inv X aA σ H s)(h:SqL X.K H p vs\/SqT X.K H p vs):∃its:List aP0,aL vs its/\(s.heap.IsList p its.toArray\/IsTup s.heap p its.toArray):=by
 rcases h with h|h
 . obtain⟨its,rv,pl,_⟩:=I.list h;exact⟨its,rv,.inl pl.isList⟩
 . obtain⟨its,rv,pl,_⟩:=SqT.plain I h;exact⟨its,rv,.inr pl.isTup⟩
def seqD:D->Option (List D)
 |.lst ds=>some ds
 |.tup ds=>some ds
 |_=>none
theorem Rp.seqD{F:Hp}{m:Md}{d:D}(s:aD F H)(e:D3.seqD d=some ds)(r:Rp K F H m d v):∃a xs,v=.ref a/\(SqL K H a xs\/SqT K H a xs)/\aC K F ds xs:=by
 cases d with
 |lst es=>cases e;obtain⟨a,xs,rfl,q,rl⟩:=r.seqL s;exact⟨a,xs,rfl,.inl q,rl⟩
 |tup es=>cases e;obtain⟨a,xs,rfl,q,rl⟩:=r.seqT s;exact⟨a,xs,rfl,.inr q,rl⟩
 |_=>cases e
section
variable {A:aP2}{E:VSP}{d:Addr}{o:Obj}{es:Array DictEntry}
def aFH{Q:VSP}(hm:(d==sysModules)=false)(ho:s.heap.get? d=some o)(hc:o.ExactDict)(hd:o.data=.dict es ep)(q:Q (.ref s.heap.objs.size) { s with heap:=s.heap.push { cls:=.type "dict_keyiterator", data:=.fields #[.ref d,.int 0 0,.int es.size 0,.int ep 0] } }):wpAny (model prog w) A (pyIter (.ref d)) Q E s:=by
 have hT:s.TypeIs (.ref d) "dict" := ⟨o,ho,hc.1⟩;refine wpAny_pyIter_slot hT F.slot_dict_iter (aNG F.slot_dict_iter hT F.entry_dict_iter ?_ (F.args_dict_iter_1 (.ref d)));unfold Builtin.«dict.__iter__» Builtin.Dict.dictSlotNone;refine aL6 (aL6 (wpAny_notOrdered_dict hT (aL5 ?_)));show wpAny (model prog w) _ (Builtin.Dict.showsAll d>>=_) _ _ s;unfold Builtin.Dict.showsAll;rw[if_neg (λz=>by rw[hm]at z;cases z)]
 refine aL6 (aL5 (aL6 (aO0 ho hd (aL6 (aO1 ho hd ?_)))));refine aL6 (aNJ (aL5 ⟨.ref s.heap.objs.size,rfl,"dict_keyiterator", _,⟨_,aLK _ rfl,rfl⟩,F.slot_dict_keyiterator_next.lookup,?_⟩));simpa[rawInt]using q
theorem aFI{e:DictEntry}{Q:Option aP0->aP1->Prop}(hit:s.heap.IsKeyIter it d i es.size ep)(ho:s.heap.get? d=some o)(hd:o.data=.dict es ep)(he:es[i]? = some e)(q:∀h',h'.IsKeyIter it d (i+1) es.size ep->Heap.SameBut it s.heap h'->Q (some e.key) {s with heap:=h'}):wpAny (model prog w) A (pyNext (.ref it)) Q E s:=by
 obtain⟨io,hio,hic,hid⟩:=id hit;obtain⟨hlt,rfl⟩:=aLR.mp he;unfold pyNext;refine aL6 (wpAny_attempt (aNE (name:=Str.ofString "__next__") hit.typeIs aO2 (aNG aO2 hit.typeIs aO3 ?_ (aO4 (.ref it)))));refine aL6 (aL5 (aL6 (aL6 ?_)))
 first|refine aL6 (aO5 hit.typeIs (aL5 (aL6 (aO6 hio hid ?_))))|refine aL6 (aO7 hit.typeIs (aL5 (aL6 (aO6 hio hid ?_))))
 simp only[show Builtin.Dict_items.ownsTuple "dict_keyiterator" = false by decide,aNV,aM9]
 show wpAny _ _ (if(Value.ref d==Value.none)=true then _ else _) _ _ s;rw[if_neg (λ(z:(Value.ref d==Value.none)=true)=>aMF z)];refine aL6 (aL5 (aL6 (aO0 ho hd ?_)));rw[if_neg (by simp)]
 refine aL6 (aL5 (aL6 (aO1 ho hd ?_)));rw[if_neg (by simp)]
 refine aL5 ?_;simp only[show ¬ ((i:Int)<0)from by lia,aM9,aM8,Array.getElem?_eq_getElem hlt]
 refine aL6 ?_
 first|refine aL6 (aO5 hit.typeIs (aL5 (aL6 (aO8 hit.typeIs ?_))))|refine aL6 (aO7 hit.typeIs (aL5 (aL6 (aO8 hit.typeIs ?_))))
 show wpAny _ _ (setField (.ref it) 1 (rawInt ((i:Int)+1))>>=_) _ _ s;refine aL6 (wpAny_setField hio hid (by simp) ?_)
 have hit2:(s.heap.update it (Obj.mapFields (·.setIfInBounds 1 (rawInt ((i:Int)+1))))).IsKeyIter it d (i+1) es.size ep :=
  ⟨_,Heap.get?_update_self _ hio (Obj.isFreed_of_fields (Obj.data_mapFields hid _)),(Obj.cls_mapFields ..).trans hic,by rw[Obj.data_mapFields hid];simp[rawInt]⟩
 refine aL6 (aND (aL6 (aO8 (s:={s with heap:=s.heap.update it (Obj.mapFields (·.setIfInBounds 1 (rawInt ((i:Int)+1))))}) hit2.typeIs ?_)))
 show wpAny _ _ (pure es[i].key) _ _ _;exact aL5 (aL5 ⟨_,rfl,aL5 (q _ hit2 (aO9 ..))⟩)
end
theorem aFJ{A:aP2}{E:VSP}{d:Addr}{o:Obj}{es:Array DictEntry}{Q:Option aP0->aP1->Prop}(hh:A.handled=none)(hit:s.heap.IsKeyIter it d i es.size ep)(ho:s.heap.get? d=some o)(hd:o.data=.dict es ep)(hi:es.size<=i)(q:∀h',Heap.ExtBut it s.heap h'->Q none {s with heap:=h'}):wpAny (model prog w) A (pyNext (.ref it)) Q E s:=by
 obtain⟨io,hio,hic,hid⟩:=id hit;unfold pyNext;refine aL6 (wpAny_attempt (aNE (name:=Str.ofString "__next__") hit.typeIs aO2 (aNG aO2 hit.typeIs aO3 ?_ (aO4 (.ref it)))));refine aL6 (aL5 (aL6 (aL6 ?_)))
 first|refine aL6 (aO5 hit.typeIs (aL5 (aL6 (aO6 hio hid ?_))))|refine aL6 (aO7 hit.typeIs (aL5 (aL6 (aO6 hio hid ?_))))
 simp only[show Builtin.Dict_items.ownsTuple "dict_keyiterator" = false by decide,aNV,aM9]
 show wpAny _ _ (if(Value.ref d==Value.none)=true then _ else _) _ _ s;rw[if_neg (λ(z:(Value.ref d==Value.none)=true)=>aMF z)];refine aL6 (aL5 (aL6 (aO0 ho hd ?_)));rw[if_neg (by simp)]
 refine aL6 (aL5 (aL6 (aO1 ho hd ?_)));rw[if_neg (by simp)]
 refine aL5 ?_;simp only[show ¬ ((i:Int)<0)from by lia,aM9,aM8,Array.getElem?_eq_none hi]
 refine aL6 ?_
 first|refine aL6 (aO5 hit.typeIs (aL5 ?_))|refine aL6 (aO7 hit.typeIs (aL5 ?_))
 show wpAny (model prog w) _ (setField (.ref it) 0 .none>>=_) _ _ s;refine aL6 (wpAny_setField hio hid (by simp) ?_)
 show wpAny (model prog w) _ (newExc (.type "StopIteration") []>>=_) _ _ _;refine aL6 ?_;simp only[newExc,newTuple];refine aL6 (aNJ (aL6 (m:=firstArgMember _ _) (wpAny_of_eq (a:=Value.none) (by first|rfl|(simp only[firstArgMember];rfl)) (aNJ ?_ (by size_fits)))) (by size_fits))
 simp only[raiseNew];refine aL6 (wpAny_handled ?_);rw[show A.in1.handled=none from hh]
 refine aL6 (aL5 (wpAny_throw ?_));refine aL6 (wpAny_isInstance (b:=true) (T := "StopIteration") ⟨_,aLK _ rfl,rfl⟩ isSubtype_stop ?_);exact aL5 (q _ (((aO9 ..).extBut.push _).push _))
def KN.nth{xs:List (N×Addr×aP0)}(r:KN kvs xs):xs.length=kvs.length/\∀(i:Nat) (p:N×Addr×V),kvs[i]? = some p->∃u,xs[i]? = some (p.1,p.2.1,u):=by
 induction r with
 |nil=>exact⟨rfl,λi p h=>by simp at h⟩
 | @cons a b as bs h t ih =>
  refine⟨by simp[ih.1],λi p hp=>?_⟩
  cases i with
  |zero =>
   have hp:a=p:=by simpa using hp
   subst hp;refine⟨b.2.2,?_⟩;rw[h.1,h.2.1];rfl
  |succ i=>have:=ih.2 i p (by simpa using hp);simpa using this
def aFK{d:Addr}{o:Obj}{xs:List (N×Addr×V)}(ok:HOk P w H h)(hd:H d=some (.frz o (.dN xs))):(d==sysModules)=false/\∃es,h.get? d=some o/\o.ExactDict/\o.data=.dict es (epO o)/\es.size=xs.length/\∀(i:Nat) (p:N×Addr×V),xs[i]? = some p->∃e,es[i]? = some e/\e.key=.ref p.2.1:=by
 obtain⟨g,z,y,vs,r,o',es,ep,h1,h2,h3,h4,h5⟩:=ok d _ hd;rw[g]at h1;cases h1;obtain⟨l,n⟩:=KN.nth r;refine⟨y,es,g,h2,by unfold epO;rw[h3],by rw[<- aL3,h4,aMJ,l],λi p hp=>?_⟩
 obtain⟨u,hu⟩:=n i p hp;refine⟨pX w (p.1,p.2.1,u),?_,rfl⟩;rw[<- Array.getElem?_toList,h4,aMY,hu];rfl
def jX(ρ:Rho)(i:Nat):aF:=match ρ[i]? with
 |some (some (true,.dtn kvs))=>.nx (ρ.set i (some (false,.dtf kvs)))
 |some (some (true,.dct kvs))=>.nx (ρ.set i (some (false,.dcf kvs)))
 |_=>.stuck
def aR.nfrz{F:Hp}{d0 d1:D}{a:Addr}{v:HO}(R:aR K F0 H0 F H σ ρ)(e:ρ[i]? = some (some (true,d0)))(ev:σ[i]? = some (some (.ref a)))(hF:F a=none)(h0:H0 a=none)(r:aD F (upd F a v)->aB K (upd F a v) d1 (.ref a)):aD F (upd F a v)/\aR K F0 H0 (upd F a v) (upd H a v) σ (ρ.set i (some (false,d1))):=by
 have sm:aD F (upd F a v):=λb u q=>by rw[aK (bL q hF)];exact q
 have hi:i<ρ.length:=(aLX.mp e).1;have own:∀{j:Nat}{d':D},(ρ.set i (some (false,d1)))[j]? = some (some (true,d'))->j≠i/\ρ[j]? = some (some (true,d')):=λ{j d'} z=>by
  by_cases hj:j=i
  . subst hj;rw[aLY hi]at z;cases z
  . rw[aLZ (λy=>hj y.symm)]at z;exact⟨hj,z⟩
 refine⟨sm,⟨λb u q=>?_,λb u q=>?_,λb u q=>?_,λb q1 q2=>?_⟩,λj m d' ej=>?_,λj k d1 d2 b hjk e1 e2 q1 q2=>R.apart j k d1 d2 b hjk (own e1).2 (own e2).2 q1 q2,by rw[aN8];exact R.len⟩
 . rw[aK (bL q h0)];exact R.st.same b u q
 . rw[aK (bL (R.st.fsame b u q) hF)];exact R.st.fsame b u q
 . by_cases hb:b=a
   . subst hb;rw[a9]at q ⊢;exact q
   . rw[aK hb]at q ⊢;exact R.sub b u q
 . have:b≠a:=λz=>q2 (fU (by rw[z];exact h0))
   rw[aK this];exact R.st.new b q1 q2
 . by_cases hj:j=i
   . subst hj;rw[aLY hi]at ej;cases ej;exact⟨.ref a,ev,r sm,by nofun⟩
   . rw[aLZ (λz=>hj z.symm)]at ej;obtain⟨v',ev',rp',hn'⟩:=R.slot j m d' ej;refine⟨v',ev',?_,hn'⟩;cases m with
     |false=>exact aB.mono sm _ _ rp'
     |true =>
      obtain⟨b,rfl,nb,t'⟩:=rp';have ab:b≠a:=λz=>by subst z;exact R.apart j i d' _ b hj ej e ev' ev
      refine⟨b,rfl,by rw[aK ab];exact nb,?_⟩
      cases d' with
      |lst ds=>obtain⟨ys,q,rr⟩:=t';exact⟨ys,by rw[aK ab];exact q,rr.mono sm _ _⟩
      |dct ds=>obtain⟨ys,q,rr⟩:=t';exact⟨ys,by rw[aK ab];exact q,rr.mono sm _ _⟩
      |ins c fs=>obtain⟨C,dx,gs,n,q,rr⟩:=t';exact⟨C,dx,gs,n,by rw[aK ab];exact q,rr.mono sm _ _⟩
      |set ks=>obtain⟨S,q,rr⟩:=t';exact⟨S,by rw[aK ab];exact q,rr⟩
      |dtn ds=>obtain⟨ys,q,rr⟩:=t';exact⟨ys,by rw[aK ab];exact q,rr.mono sm _ _⟩
      |_=>exact t'.elim
def aFL{g:Rho->aF}(h:PBv C X sts g):PBv C X sts (λρ=>(jX ρ i).thn g):=by
 intro aA s σ H E I q;obtain⟨ρ,F,R,w⟩:=q;dsimp only at w;unfold jX at w;split at w
 . rename_i kvs e;obtain⟨v,ev,rp,hn⟩:=R.slot i true _ e;obtain⟨a,rfl,hF,xs,hH,r⟩:=rp;have ok:=I.hok a _ hH;obtain⟨_,_,_,_,o,_,_,g1,_⟩:=id ok;have I2:=I.write (x:=a) (e:=a) (o:=.frz o (.dN xs)) (t':=s.toks) (h':=s.heap) (by rw[hH];exact trivial) (.inl rfl) (λ_ _ _ q=>q) ⟨_,g1⟩ ⟨g1,ok.stay (λ_ _ _ q=>q) (λc q=>by rw[aK (λz=>by rw[z,hH]at q;cases q)];exact q) λc ys q=>by rw[aK (λz=>by rw[z,hH]at q;cases ys <;> cases q)];exact q⟩
   obtain⟨sm,R2⟩:=aR.nfrz (v:=.frz o (.dN xs)) (d1:=.dtf kvs) R e ev hF (hn rfl a rfl) λsm=>by simp only[aB];exact⟨a,o,xs,rfl,a9,r.mono sm _ _⟩
   exact h aA s σ _ E I2 ⟨_,_,R2,bX.mono sm w⟩
 . rename_i kvs e;obtain⟨v,ev,rp,hn⟩:=R.slot i true _ e;obtain⟨a,rfl,hF,xs,hH,r⟩:=rp;have ok:=I.hok a _ hH;obtain⟨_,_,_,_,o,_,_,g1,_⟩:=id ok;have I2:=I.write (x:=a) (e:=a) (o:=.frz o (.dK xs)) (t':=s.toks) (h':=s.heap) (by rw[hH];exact trivial) (.inl rfl) (λ_ _ _ q=>q) ⟨_,g1⟩ ⟨g1,ok.stay (λ_ _ _ q=>q) (λc q=>by rw[aK (λz=>by rw[z,hH]at q;cases q)];exact q) λc ys q=>by rw[aK (λz=>by rw[z,hH]at q;cases ys <;> cases q)];exact q⟩
   obtain⟨sm,R2⟩:=aR.nfrz (v:=.frz o (.dK xs)) (d1:=.dcf kvs) R e ev hF (hn rfl a rfl) λsm=>by simp only[aB];exact⟨a,o,xs,rfl,a9,r.mono sm _ _⟩
   exact h aA s σ _ E I2 ⟨_,_,R2,bX.mono sm w⟩
 . exact w.elim
section
variable {A:aP2}{E:VSP}
end
def nX(w:aP3)(p:N×Addr):Int×aP0:=(dO w p.1,.ref p.2)
def SetN(w:aP3)(h:Heap)(a:Addr)(ps:List (N×Addr)):Prop:=∃o es ep t,h.get? a=some o/\o.ExactSet/\o.data=.set es ep t/\es.toList=ps.map (nX w)/\ps.length<=4/\t.fits es.size=true/\t.led = !gU w/\PlOk t
def Set1(w:aP3)(h:Heap)(a:Addr)(p:N×Addr):Prop:=∃o ep t,h.get? a=some o/\o.ExactSet/\o.data=.set #[nX w p] ep t/\t.mask=7/\t.dummies = #[]/\t.place = #[SetTable.bits (dO w p.1) % 8]/\t.led = !gU w
section
variable {A:aP2}{E:VSP}{a c:Addr}{x y:N}
end
section
variable {A:aP2}{E:VSP}{k1 k2:N}{b1 b2:Addr}
end
section
variable {A:aP2}{E:VSP}
variable {I a:Addr}{o:Obj}{es:Array (Int×aP0)}{t:SetTable}
end
section
variable {A:aP2}{E:VSP}{a:Addr}{xs:List (N×Addr)}
end
open PySem.W
section
variable {A:aP2}{E:VSP}{a:Addr}{xs:List (N×Addr)}
end
def sn(w:aP3)(l:Addr)(ps:List (N×Addr)):HO:=.ext λh=>SetN w h l ps
def pat(t:SetTable)(h:Int):Nat->SetTable.Probe
 |0=>t.probeStart h
 |n+1=>t.advance (pat t h n)
def Rch(t:SetTable)(h:Int)(j:Nat):Prop:=∃n,(pat t h n).j=j/\∀m<n,(pat t h m).j∈t.place.toList
structure SlN(w:aP3)(t:SetTable)(es:Array (Int×aP0))(qs:List (Nat×N×Addr)):Prop where
 mask:t.mask=7
 dum:t.dummies = #[]
 rise:Rise t.place
 place:t.place.toList=qs.map (·.1)
 ents:es.toList=qs.map λq=>nX w q.2
 few:qs.length<=4
 led:t.led = !gU w
 rch:∀q∈qs,Rch t (dO w q.2.1) q.1
section
variable {A:aP2}{E:VSP}{a c:Addr}{x y:N}
end
def SetG(w:aP3)(h:Heap)(a:Addr)(qs:List (Nat×N×Addr)):Prop:=∃o es ep t,h.get? a=some o/\o.ExactSet/\o.data=.set es ep t/\SlN w t es qs
section
variable {A:aP2}{E:VSP}{a:Addr}{x:N}
end
structure Uq(ks ps:List (N×Addr)):Prop where
 sub:∀p∈ps,p∈ks
 nd:(ps.map (·.1)).Nodup
 all:∀p∈ks,p.1∈ps.map (·.1)
section
variable {A:aP2}{E:VSP}
end
section
variable {A:aP2}{E:VSP}
end
section
variable  {F:Hp}
end
open PySem.W
end D3
namespace L2
end L2
namespace D3
section
open PySem.SeqAt
open PySem.AutoSeq1 (wpAny_loadPart')
open PySem.MeetsSeq PySem.MeetsSeq2 PySem.MeetsSeq3
theorem aFM(l b:Addr)(items items2:Array aP0)(n n2:Nat)(dd dd2:Option Addr)(sl sl2:Array (Option aP0))(r:Bool):∀(us vs:List aP0) (i:Nat),items.toList.drop i=us->items2.toList.drop i=vs->i<=items.size->i<=items2.size->Meets (Builtin.«list.__eq__.loop» ⟨[.ref l,.ref b,rawInt i,rawInt 0],[]⟩) (λA R s=>s.heap.get? l=some { cls:=.type "list", dict:=dd,data:=.seq items n,slots:=sl }/\s.heap.get? b=some { cls:=.type "list", dict:=dd2,data:=.seq items2 n2,slots:=sl2 }/\LtI A.in1 s us vs r/\R (.ok (.ret (.bool r))) s):=by
 intro us
 induction us with
 |nil =>
  intro vs i h1 h2 l1 l2 prog w A R s h;obtain⟨hp,g,d,tk,os⟩:=s;obtain⟨hl,hb,he,h⟩:=h;have z1:items.size=i:=by have:=congrArg List.length h1;simp at this;lia
  wp_walk using wpAny_loadPart' hl,wpAny_loadPart' hb
  have hi1:items[((i:Nat):Int).toNat]? = none:=by simp;lia
  rw[hi1];have hv:r=decide (items.size<items2.size):=by
   cases he with
   |nn=>have:=congrArg List.length h2;simp at this;exact(aLI (by lia)).symm
   |nc=>have:=congrArg List.length h2;simp at this;exact(aNO (by lia)).symm
  rw[hv]at h
  wp_walk using wpAny_loadPart' hl,wpAny_loadPart' hb
  exact h
 |cons u us ih =>
  intro vs i h1 h2 l1 l2 prog w A R s h;obtain⟨hp,g,d,tk,os⟩:=s;obtain⟨hl,hb,he,h⟩:=h;have lt1:i<items.size:=by have:=congrArg List.length h1;simp at this;lia
  have hi1:items[((i:Nat):Int).toNat]? = some u:=by
   have:items.toList[i]? = some u:=by have:=congrArg (λl=>l[0]?) h1;simpa using this
   simpa using this
  have h1':items.toList.drop (i+1)=us:=by have:=congrArg List.tail h1;simpa using this
  wp_walk using wpAny_loadPart' hl,wpAny_loadPart' hb
  cases vs with
  |nil =>
   have z2:items2.size=i:=by have:=congrArg List.length h2;simp at this;lia
   have hi2:items2[((i:Nat):Int).toNat]? = none:=by simp;lia
   rw[hi1,hi2];have hv:r=decide (items.size<items2.size):=by
    cases he with
    |cn=>exact(aLI (by lia)).symm
   rw[hv]at h
   wp_walk using wpAny_loadPart' hl,wpAny_loadPart' hb
   exact h
  |cons v vs =>
   have lt2:i<items2.size:=by have:=congrArg List.length h2;simp at this;lia
   have hi2:items2[((i:Nat):Int).toNat]? = some v:=by
    have:items2.toList[i]? = some v:=by have:=congrArg (λl=>l[0]?) h2;simpa using this
    simpa using this
   have h2':items2.toList.drop (i+1)=vs:=by have:=congrArg List.tail h2;simpa using this
   have hc:((i:Int)+1)=((i+1:Nat):Int):=by push_cast;rfl
   rw[hi1,hi2];cases he with
   |eq he hr =>
    refine aL6 (he prog w _ _ ?_)
    wp_walk
    rw[hc];exact⟨plainId_quiet plain_eq_loop _,aOX entry_eq_loop (by
     rw[Around.under_plainId plain_eq_loop _];exact ih vs (i+1) h1' h2' lt1 lt2 prog w A R _ ⟨hl,hb,hr,h⟩)⟩
   |ne he hr =>
    refine aL6 (he prog w _ _ ?_);have hri:=hr prog w
    wp_walk using wpAny_loadPart' hl,wpAny_loadPart' hb
    rw[hi1,hi2]
    wp_walk using hri
    exact h
def aFN(l b:Addr)(items items2:Array aP0)(n n2:Nat)(dd dd2:Option Addr)(sl sl2:Array (Option aP0))(r:Bool):Meets (Builtin.«list.__lt__» ⟨[.ref l,.ref b],[]⟩) (λA R s=>s.heap.get? l=some { cls:=.type "list", dict:=dd,data:=.seq items n,slots:=sl }/\s.heap.get? b=some { cls:=.type "list", dict:=dd2,data:=.seq items2 n2,slots:=sl2 }/\LtI A.in1 s items.toList items2.toList r/\R (.ok (.ret (.bool r))) s):=by
 intro prog w A R s h;obtain⟨hp,g,d,tk,os⟩:=s;obtain⟨hl,hb,he,h⟩:=h;have f3:=AutoSeq1.sub_list_list
 wp_walk using wpAny_loadPart' hl,wpAny_loadPart' hb
 exact⟨plainId_quiet plain_eq_loop _,aOX entry_eq_loop (by
  rw[Around.under_plainId plain_eq_loop _];exact aFM l b items items2 n n2 dd dd2 sl sl2 r _ _ 0 rfl rfl (aMN _) (aMN _) prog w A R _ ⟨hl,hb,by simpa using he,h⟩)⟩
end
section
variable {A:aP2}{E:VSP}
theorem aFO{a:Addr}{xs ys:List N}{its its':Array aP0}{Q:Bool->aP1->Prop}(hu:A.units+N.dpL xs+4<cLine)(ha:s.heap.IsList a its)(hb:s.heap.IsList b its')(hx:aW s.heap xs its.toList)(hy:aW s.heap ys its'.toList)(ok:dF xs ys=true)(q:Q (bG xs ys) s):wpAny (model prog w) A (keyLt' oneType' (.ref a) (.ref b)) Q E s:=by
 obtain⟨⟨cls,dd,data,sl⟩,ga,hc,n,hd⟩:=ha;obtain⟨⟨cls2,dd2,data2,sl2⟩,gb,hc2,n2,hd2⟩:=hb;simp only at hc hd hc2 hd2;subst hc hd hc2 hd2;rw[keyLt'_oneType,oneLt'_eq];simp only[aNA];refine aL6 (wpAny_cRoomFor (by lia) ?_)
 refine aL6 (wpAny_callSpecialIfBound?_slot ⟨_,ga,rfl⟩ PySem.F.slot_list_lt ?_);have hi:LtI A.in1 s its.toList its'.toList (bG xs ys):=nW (A:=A.in1) (λx hx y u v p1 p2 ok prog w' E Q q=>n_lt x (by have:=N.dp_mem hx;show A.units+1+_+1<_;lia) p1 p2 ok q) (by show A.units+1+_<_;lia) hx hy ok
 refine aNL PySem.F.slot_list_lt ⟨_,ga,rfl⟩ PySem.F.entry_list_lt (PySem.F.args_list_lt_2 _ _) (aFN a b its its' n n2 dd dd2 sl sl2 (bG xs ys)) ⟨ga,gb,hi,?_⟩;exact aL2 q
end
open PySem.W
structure nY(prog:aP4)(w:aP3)(A:aP2)(n:Nat)(lt:Nat->Nat->Bool)(ks:List aP0)(s:aP1):Prop where
 ex:2<=n->∃κ,(∀(Q:SortKind->aP1->Prop) (E:VSP),Q κ s->wpAny (model prog w) A (keyKind' ks.toArray) Q E s) /\
  ∀i j (Q:Bool->aP1->Prop),i<n->j<n->Q (lt i j) s->wpAny (model prog w) A (keyLt' κ (ks.getD i .none) (ks.getD j .none)) Q (λ_ _=>False) s
section
variable {E:VSP}
def lH{a:Addr}{o:Obj}(I:Inv X aA σ H s)(hf:cG X aA H a)(e:s.heap.get? a=some o)(hd:∀v,o.data ≠ .cell v):Inv X ((a,o)::aA) σ H s:=by
 refine I.pins_of λp hp=>?_;rcases aLU.mp hp with rfl|hp
 . exact⟨e,hf.1,hf.2.1,hf.2.2.1,hd⟩
 . exact I.pin p (aMA _ hp)
def gB{p:Addr×Obj}(I:Inv X (p::aA) σ H s):Inv X aA σ H s:=I.pins_of λq hq=>I.pin q (aMA _ (mcm hq))
def lI{p:Addr×Obj}(I:Inv X (p::aA) σ H s):H p.1=none:=(I.pin p (aMA _ mcs)).2.1
def lJ{p:Addr×Obj}(I:Inv X (p::aA) σ H s):s.heap.get? p.1=some p.2:=(I.pin p (aMA _ mcs)).1
def lK{a:Addr}(hf:cG X aA H a)(hn:H' a=none):cG X aA H' a:=⟨hn,hf.2⟩
def Inv.track{a:Addr}{o:HO}(I:Inv X aA σ H s)(hf:cG X aA H a)(new:bW X.prog X.w (upd H a o) s.heap a o):Inv X aA σ (upd H a o) s:=by
 obtain⟨f0,f1,f2,f3,f4,f5⟩:=hf;have up:∀{b:Addr}{u:HO},H b=some u->upd H a o b=some u:=λ{b u} e=>by rw[aK (bL e f0)];exact e
 refine I.call (g':=s.gens) (d':=s.drawn) (t':=s.toks) (ch:=[a]) ⟨λb o e _ _ _=>e,λb o e _ _ _=>⟨o.slots,e⟩,λb o e n hb=>by rw[aK (by simpa using hb)];exact n,λb o e _=>⟨o,e⟩,λb xs e=>up e,λb o u e=>up e,λb ps e=>⟨#[],by rw[up e];simp⟩⟩ (λb u e=>?_) I.bare λb hb=>by
  obtain rfl:b=a:=by simpa using hb
  exact⟨f3,f1,f4,f5⟩
 by_cases hb:b=a
 . subst hb;rw[a9]at e;cases e;exact new
 . rw[aK hb]at e;exact(I.hok b u e).stay (λ_ _ _ q=>q) (λc q=>up q) λc v q=>up q
theorem aFP{f:aP0}{a kS:Addr}{vs:List aP0}{e1:Nat}{lt:Nat->Nat->Bool}{A:aP2}{P:Nat->List V->Hp->Prop}{R:PySem.Fin->aP1->Prop}(O:WkO lt)(hv:aL xs vs)(hb64:xs.length<fK)(ne:a≠kS)(fa:cG X aA H a)(fk:cG X aA H kS)(I:Inv X ((kS,seqObj "list" #[] 0)::(a,seqObj "list" #[] e1)::aA) σ H s)(P0:P 0 [] H)(cl:∀i v u kvs H' pins' s',xs[i]? = some v->aH v u->Inv X pins' σ H' s'->P i kvs H'->wpAny (model X.prog X.w) A (call f [u]) (λku s''=>∃kv H'',Inv X pins' σ H'' s''/\aH kv ku/\P (i+1) (kvs++[kv]) H'') (λ_ _=>False) s')(kd:∀kvs ks H' pins' s',Inv X pins' σ H' s'->P xs.length kvs H'->aL kvs ks->ks.length=xs.length->nY X.prog X.w A xs.length lt ks s')(fin:∀(p:List Nat) H' s' kvs,p.Perm (List.range xs.length)->(p.Pairwise λi j=>lt j i=false)->P xs.length kvs H'->H' a=none->Inv X aA σ (upd H' a (.lst (p.map λi=>xs.getD i .non))) s'->R (.done (.ret .none)) s'):wpAny (model X.prog X.w) A (ksk_rest a f false vs.toArray e1 (.ref kS)) R E s:=by
 have h64:xs.length<1000000:=aLM hb64 tI;have lv:xs.length=vs.length:=hv.length;unfold ksk_rest;refine aL6 (wpAny_rule ?_);rw[List.forIn_toArray]
 let J:Nat->aP1->Prop:=λi s'=>∃ks kvs e H',Inv X ((kS,seqObj "list" (List.toArray ks) e)::(a,seqObj "list" #[] e1)::aA) σ H' s'/\P i kvs H'/\aL kvs ks/\ks.length=i
 refine aL6 (ksk_fold J vs 0 s ⟨[],[],0,H,I,P0,.nil,rfl⟩ (λj x s' hx hJ=>?_) λs' hJ=>?_)
 . rw[aOL]at hJ ⊢;obtain⟨ks,kvs,e,H',I',p,r,hl⟩:=hJ;have hjl:j<vs.length:=(aLX.mp hx).1;obtain⟨v,ev⟩:∃v,xs[j]? = some v:=⟨_,aOC (by lia)⟩
   obtain⟨u,eu,rv⟩:=hv.get ev;rw[hx]at eu;cases eu;refine aL6 (wpAny_attempt (aL1 (cl j v x kvs H' _ s' ev rv I' p) (λku s2 hk=>?_) λ_ _ hF=>hF.elim));obtain⟨kv,H2,I2,rk,p2⟩:=hk;have gk:=lJ I2;dsimp only at gk ⊢;have sm:=aO9 s2.heap kS (Obj.mapSeq (·.push ku));have ea:(List.toArray ks).push ku=List.toArray (ks++[ku]):=by simp
   obtain⟨c2,hc2⟩:∃c2,(s2.heap.update kS (Obj.mapSeq (·.push ku))).get? kS=some (seqObj "list" (List.toArray (ks++[ku])) c2):=⟨_,by rw[<- ea];exact aOZ gk (·.push ku)⟩
   refine aL6 (aOY gk rfl ?_ (by rw[aMD,aMC];lia) (aLS (aML (Array.size_push ..)) (by rw[aMD,aMC];lia)))
   have ga:=lJ (gB I2);have fk2:=lK fk (lI I2);have fa2:=lK fa (lI (gB I2))
   have I3:=nP (t':=s2.toks) (its:=[kS]) (gB (gB I2)) (h':=s2.heap.update kS (Obj.mapSeq (·.push ku))) (λb o hb q=>(sm.2 b (by simpa using hb)).trans q) (λb hb=>by
    obtain rfl:b=kS:=by simpa using hb
    exact fk2)
   have I4:=lH I3 fa2 ((sm.2 a ne).trans ga) (by intro v z;cases z)
   have I5:=lH I4 ⟨fk2.1,fk2.2.1,fk2.2.2.1,fk2.2.2.2.1,fk2.2.2.2.2.1,λp hp=>by
    rcases aLV.mp hp with hp|hp
    . exact fk2.2.2.2.2.2 p (aLW _ hp)
    . rcases aLU.mp hp with rfl|hp
      . exact ne
      . exact fk2.2.2.2.2.2 p (aMA _ hp)⟩ hc2 (by intro v z;cases z)
   exact aL5 ⟨rfl,ks++[ku],kvs++[kv],c2,H2,I5,p2,aL.append r (.cons rk .nil),by simp[hl]⟩
 . rw[aOL]at hJ;obtain⟨ks,kvs,e,H',I',p,r,hl⟩:=hJ;have gk:=lJ I';dsimp only at gk ⊢;refine aL6 (listItems_at gk rfl ?_);rw[<- lv]at p hl;have KO:=kd kvs ks H' _ s' I' p r hl;have tail:∀(st:SortSt) (q:List Nat),q.Perm (List.range xs.length)->(q.Pairwise λi j=>lt j i=false)->(arrOf st).map (·.2)=(q.map λi=>vs.getD i Value.none).toArray->failedOf st=none->wpAny (model X.prog X.w) A (ksk_tail a false e1 (.ref kS) st) R E s':=by
     intro st q qp qs hout hf;have ql:q.length=xs.length:=by rw[qp.length_eq,aPA]
     unfold ksk_tail;dsimp only;rw[hout,if_neg aMF];have s1:=aO9 s'.heap kS (Obj.mapSeq λ_=>(#[]:Array aP0));refine aL6 (aOY gk rfl ?_ (by rw[aMD,aMC];lia) (aMN _))
     refine aL6 (wpAny_letGo ?_);have ga:=lJ (gB I');dsimp only at ga;have ga1:(s'.heap.update kS (Obj.mapSeq λ_=>(#[]:Array aP0))).get? a=some (seqObj "list" #[] e1):=(s1.2 a ne).trans ga;refine aL6 (seqEpoch_at ga1 rfl ?_);have hsz:((q.map λi=>vs.getD i Value.none).toArray).size=xs.length:=by rw[aMD,aMJ,ql]
     refine aL6 (aOY ga1 rfl ?_ (aMN _) (aLS (aML hsz) (by rw[aMC];lia)))
     rw[hf];simp only[bne_self_eq_false,aNV,aM9];have s2:=aO9 (s'.heap.update kS (Obj.mapSeq λ_=>(#[]:Array aP0))) a (Obj.mapSeq λ_=>(q.map λi=>vs.getD i Value.none).toArray);obtain⟨c2,hc2⟩:∃c2,((s'.heap.update kS (Obj.mapSeq λ_=>(#[]:Array aP0))).update a (Obj.mapSeq λ_=>(q.map λi=>vs.getD i Value.none).toArray)).get? a=some (seqObj "list" ((q.map λi=>vs.getD i Value.none).toArray) c2):=⟨_,aOZ ga1 λ_=>(q.map λi=>vs.getD i Value.none).toArray⟩;have fk2:=lK fk (lI I');have fa2:=lK fa (lI (gB I'));have I3:=nP (t':=s'.toks) (its:=[kS,a]) (gB (gB I')) (h':=(s'.heap.update kS (Obj.mapSeq λ_=>(#[]:Array aP0))).update a (Obj.mapSeq λ_=>(q.map λi=>vs.getD i Value.none).toArray))
      (λb o hb z=>by
       simp only[aLU,aPB,aOP,not_or]at hb;exact(s2.2 b hb.2).trans ((s1.2 b hb.1).trans z)) (λb hb=>by
       simp only[aLU,aPB,aOP]at hb;rcases hb with rfl|rfl
       . exact fk2
       . exact fa2)
     have n0:H' a=none:=fa2.1;have vo:aL (q.map λi=>xs.getD i .non) (q.map λi=>vs.getD i Value.none):=by
      have:∀q:List Nat,(∀i∈q,i<xs.length)->aL (q.map λi=>xs.getD i .non) (q.map λi=>vs.getD i Value.none):=by
       intro q
       induction q with
       |nil=>intro _;exact .nil
       |cons i q ih =>
        intro hq;have hi:=hq i mcs;obtain⟨u,eu,ru⟩:=hv.get (aOC hi);refine .cons ?_ (ih λj hj=>hq j (mcm hj));have e1:xs.getD i .non=xs[i]:=by simp[hi]
        have e2:vs.getD i Value.none=u:=by simp[eu]
        show aH (xs.getD i .non) (vs.getD i Value.none);rw[e1,e2];exact ru
      exact this q λi hi=>by simpa using qp.mem_iff.mp hi
     have I4:=Inv.track I3 (o:=.lst (q.map λi=>xs.getD i .non)) fa2 ⟨by rw[aMJ,ql,aMC];lia,_,c2,vo,hc2⟩
     exact aL5 (fin q H' _ kvs qp qs p n0 I4)
   unfold ksk_end;dsimp only;rw[if_neg aMF];simp only[aNV,aM9];by_cases h2:vs.toArray.size<2
   . rw[if_pos h2,if_pos h2];rw[aMD]at h2;refine aL6 (aL5 ?_);rw[StateT.run_pure];refine aL6 (aL5 ?_);refine tail _ (List.range xs.length) (aPC _) ?_ ?_ rfl
     . have hx:xs.length=0\/xs.length=1:=by lia
       rcases hx with hx|hx <;> rw[hx] <;> simp[List.range_succ]
     . rw[lv,aEY];show(((List.toArray ks).zip vs.toArray).map (·.2))=vs.toArray;apply Array.ext
       . simp;lia
       . intro i h1 h2;simp
   . rw[if_neg h2,if_neg h2];rw[aMD]at h2;obtain⟨κ,hk1,hk2⟩:=KO.ex (by lia)
     refine aL6 (hk1 _ _ ?_);have hkl:ks.length=vs.length:=by lia
     refine aL6 (aL1 (aFD (ks:=ks) (vs:=vs) (κ:=κ) O hkl (by lia) (by lia) (λi j C hi hj hq=>hk2 i j C (by lia) (by lia) hq)
      (Q:=λst' s2=>s2=s'/\∃p:Array Nat,PW vs.length p/\p.Perm (List.toArray (List.range vs.length))/\Wup lt p vs.length/\arrOf st'=p.map (kas_item ((List.toArray ks).zip vs.toArray))/\failedOf st'=none)
      λp st' a1 a2 a3 a4 a5=>⟨rfl,p,a1,a2,a3,a4,a5⟩) ?_ λ_ _ e=>e)
     rintro⟨⟨⟩,st'⟩ s2 ⟨rfl,p,pp,pe,u,ea,ef⟩;dsimp only;refine tail st' p.toList (by rw[lv];simpa using Array.perm_iff_toList_perm.mp pe) ?_ (kat_snds hkl ea) ef
     refine List.pairwise_iff_getElem.mpr λi j hi hj hij=>?_;rw[aL3]at hi hj;have:=u i j hij (by rw[<- pp.size];exact hj)
     simpa[Array.getD,hi,hj]using this
end
def fL(κ:α->Int)(x:α):List α->List α
 |[]=>[x]
 |y::l=>if κ y<κ x then y::fL κ x l else x::y::l
section
variable {A:aP2}{E:VSP}
end
section
variable {E:VSP}
theorem aFQ{f:aP0}{q:Addr}{lt:Nat->Nat->Bool}{P:Nat->List V->Hp->Prop}{Q:VK}(hf:f=.ref q)(O:WkO lt)(hb64:xs.length<fK)(I:Inv X aA σ H s)(hl:SqL X.K H l xs\/SqT X.K H l xs)(P0:P 0 [] H)(cl:∀i v u kvs H' pins' s',xs[i]? = some v->aH v u->Inv X pins' σ H' s'->P i kvs H'->wpAny (model X.prog X.w) X.A.in1.in1 (call f [u]) (λku s''=>∃kv H'',Inv X pins' σ H'' s''/\aH kv ku/\P (i+1) (kvs++[kv]) H'') (λ_ _=>False) s')(kd:∀kvs ks H' pins' s',Inv X pins' σ H' s'->P xs.length kvs H'->aL kvs ks->ks.length=xs.length->nY X.prog X.w X.A.in1.in1 xs.length lt ks s')(fin:∀(p:List Nat) H' kvs l',p.Perm (List.range xs.length)->(p.Pairwise λi j=>lt j i=false)->P xs.length kvs H'->H' l'=none->H l'=none->Q (.ref l') (upd H' l' (.lst (p.map λi=>xs.getD i .non)))):wpAny (model X.prog X.w) X.A (call (.builtin "sorted") [.ref l] [(Str.ofString "key", f)]) (EP X aA σ Q) E s:=by
 subst hf;have h64:xs.length<1000000:=aLM hb64 tI;obtain⟨vs,rv,pl⟩:=aFG I hl;have lv:xs.length=vs.length:=rv.length;refine call_function_entry_kw kind_sorted plain_sorted entry_sorted (ksk_s1 _ _) ?_;unfold Builtin.«sorted»;have col:∀{R:List aP0->aP1->Prop}{E':VSP},R vs { s with heap:=(s.heap.push (seqObj "list" #[] 0)).update s.heap.objs.size (Obj.mapSeq (·++vs.toArray)) } -> wpAny (model X.prog X.w) X.A.in1 (collect (.ref l)) R E' s:=λ{R E'} r=>by
  rcases pl with hl|hl
  . exact collect_list hl r (by rw[aMC];lia)
  . exact aFF hl (by rw[aMC];lia) r
 refine aL6 (m:=checkCount "sorted" 1 1 [Value.ref l].length) (aL5 (aL6 (col (aL6 (wpAny_newList ?_ (by rw[aMC];lia))))))
 have z1:((s.heap.push (seqObj "list" #[] 0)).update s.heap.objs.size (Obj.mapSeq (·++vs.toArray))).objs.size=s.heap.objs.size+1:=(Heap.size_update ..).trans (size_push' ..);have keep1:∀b o,s.heap.get? b=some o->(((s.heap.push (seqObj "list" #[] 0)).update s.heap.objs.size (Obj.mapSeq (·++vs.toArray))).push (seqObj "list" vs.toArray 0)).get? b=some o:=λb o e =>
  hps ((Heap.get?_update_ne _ _ _ _ (aLO (aLL e))).trans (hps e))
 have g1:(((s.heap.push (seqObj "list" #[] 0)).update s.heap.objs.size (Obj.mapSeq (·++vs.toArray))).push (seqObj "list" vs.toArray 0)).get? (s.heap.objs.size+1)=some (seqObj "list" vs.toArray 0):=z1 ▸ aLK _ rfl;show wpAny _ _ _ _ _ { s with heap:=((s.heap.push (seqObj "list" #[] 0)).update s.heap.objs.size (Obj.mapSeq (·++vs.toArray))).push (seqObj "list" vs.toArray 0) }
 rw[z1];have z2:(((s.heap.push (seqObj "list" #[] 0)).update s.heap.objs.size (Obj.mapSeq (·++vs.toArray))).push (seqObj "list" vs.toArray 0)).objs.size=s.heap.objs.size+2:=by rw[size_push',z1]
 generalize ((s.heap.push (seqObj "list" #[] 0)).update s.heap.objs.size (Obj.mapSeq (·++vs.toArray))).push (seqObj "list" vs.toArray 0)=h1 at keep1 g1 z2;have I1:Inv X aA σ H {s with heap:=h1}:=I.kept (t':=s.toks) keep1
 have ha0:s.heap.objs.size<=s.heap.objs.size+1:=Nat.le_succ _;generalize hA:s.heap.objs.size+1=a at g1 ha0;have fa:cG X aA H a:=I.fpOk ha0 (I.hok.fresh ha0);refine aL6 (aND (wpAny_call_entry_kw slot_list_sort ⟨_,g1,rfl⟩ entry_list_sort ?body (ksk_l1 _ _)));show wpAny (model X.prog X.w) X.A.in1.in1 (Builtin.«list.sort» ⟨[.ref a],[(Str.ofString "key", .ref q)]⟩) _ _ _;rw[ksk_t1];unfold ksk_tree;refine aL6 (listItems_at g1 rfl (aL6 (aOY g1 rfl ?_ (by rw[aMD,aMC];lia) (aMN _))))
 have s1:=aO9 h1 a (Obj.mapSeq λ_=>(#[]:Array aP0));obtain⟨e1,ho1⟩:∃c,(h1.update a (Obj.mapSeq λ_=>(#[]:Array aP0))).get? a=some (seqObj "list" #[] c):=⟨_,aOZ g1 λ_=>#[]⟩;refine aL6 (seqEpoch_at ho1 rfl (aL6 (wpAny_newTuple (aL6 (wpAny_newList (aND ?_) (aMN _))) (by show vs.length<=_;rw[aMC];lia))))
 have keep2:∀b o,b∉[a]->h1.get? b=some o->(((h1.update a (Obj.mapSeq λ_=>(#[]:Array aP0))).push (seqObj "tuple" vs.toArray 0)).push (seqObj "list" #[] 0)).get? b=some o:=λb o hb e =>
  hps (hps ((s1.2 b (by simpa using hb)).trans e))
 have ho2:(((h1.update a (Obj.mapSeq λ_=>(#[]:Array Value))).push (seqObj "tuple" vs.toArray 0)).push (seqObj "list" #[] 0)).get? a=some (seqObj "list" #[] e1):=hps (hps ho1);have gk:(((h1.update a (Obj.mapSeq λ_=>(#[]:Array Value))).push (seqObj "tuple" vs.toArray 0)).push (seqObj "list" #[] 0)).get? ((h1.update a (Obj.mapSeq λ_=>(#[]:Array Value))).push (seqObj "tuple" vs.toArray 0)).objs.size=some (seqObj "list" #[] 0):=aLK _ rfl;have z3:((h1.update a (Obj.mapSeq λ_=>(#[]:Array Value))).push (seqObj "tuple" vs.toArray 0)).objs.size=s.heap.objs.size+3:=by rw[size_push',Heap.size_update,z2]
 rw[z3]at gk;rw[z3];show wpAny (model X.prog X.w) X.A.in1.in1 (ksk_rest a (.ref q) false vs.toArray e1 (.ref (s.heap.objs.size+3))) _ _ { s with heap:=((h1.update a (Obj.mapSeq λ_=>(#[]:Array aP0))).push (seqObj "tuple" vs.toArray 0)).push (seqObj "list" #[] 0) }
 have I2:Inv X aA σ H { s with heap:=((h1.update a (Obj.mapSeq λ_=>(#[]:Array aP0))).push (seqObj "tuple" vs.toArray 0)).push (seqObj "list" #[] 0) }:=nP (s:={s with heap:=h1}) (t':=s.toks) (its:=[a]) I1 keep2 λb hb=>by
  obtain rfl:b=a:=by simpa using hb
  exact fa
 have hk0:s.heap.objs.size<=s.heap.objs.size+3:=by lia
 have fk:cG X aA H (s.heap.objs.size+3):=I.fpOk hk0 (I.hok.fresh hk0);have ne:a≠s.heap.objs.size+3:=by rw[<- hA];exact aLO (by lia)
 have I3:=lH I2 fa ho2 (by intro v z;cases z)
 have I4 := lH I3 ⟨fk.1, fk.2.1, fk.2.2.1, fk.2.2.2.1, fk.2.2.2.2.1, fun p hp => by
     rcases aLV.mp hp with hp|hp
     . exact fk.2.2.2.2.2 p (aLW _ hp)
     . rcases aLU.mp hp with rfl|hp
       . exact ne
       . exact fk.2.2.2.2.2 p (aMA _ hp)⟩ gk (by intro v z;cases z)
 refine aFP O rv hb64 ne fa fk I4 P0 cl kd λp H' s' kvs pp ps hP hn I5=>?_;exact⟨_,rfl,aL5 ⟨_,rfl,.ref a,_,I5,rfl,fin p H' kvs a pp ps hP hn fa.1⟩⟩
end
def dG:D->Option (Bool×N)
 |.int i=>some (true,.i i)
 |.lst ds=>(cE ds).map λks=>(false,.t ks)
 |_=>none
noncomputable def dZ(b:Bool):List D->Option (List N)
 |[]=>some []
 |d::ds=>match dG d,dZ b ds with
  |some (c,k),some ks=>if c=b then some (k::ks)else none
  |_,_=>none
def okK(ks:List N):Bool:=ks.all (λk=>decide (k.dp<=8))&&ks.all (λx=>ks.all λy=>okN x y)&&decide ks.Nodup
def fM(x:N×D):List (N×D)->List (N×D)
 |[]=>[x]
 |y::l=>if ltN y.1 x.1=true then y::fM x l else x::y::l
def eW(l:List (N×D)):List (N×D):=l.foldr fM []
def gX(l:List (N×D)):Prop:=l.Pairwise λx y=>ltN y.1 x.1=false
theorem nZ(x:N×D):∀(l:List (N×D)),(fM x l).Perm (x::l)
 |[]=>aPC _
 |y::l=>by
  unfold fM;split
  . exact((nZ x l).cons y).trans (List.Perm.swap x y l)
  . exact aPC _
theorem n6:∀(l:List (N×D)),(eW l).Perm l
 |[]=>aPC _
 |x::l=>(nZ x (eW l)).trans ((n6 l).cons x)
theorem tQ{x:N×D}:∀{l:List (N×D)},gX l->gX (fM x l)
 |[],_=>List.pairwise_singleton _ _
 |y::l,h=>by
  unfold fM;split
  . rename_i e;refine aPD.mpr ⟨λz hz=>?_,tQ (aPD.mp h).2⟩;rcases aLU.mp ((nZ x l).mem_iff.mp hz)with rfl|hz
    . exact tO e
    . exact(aPD.mp h).1 z hz
  . rename_i e;have e:ltN y.1 x.1=false:=by simpa using e
    refine aPD.mpr ⟨λz hz=>?_,h⟩;rcases aLU.mp hz with rfl|hz
    . exact e
    . exact tP ((aPD.mp h).1 z hz) e
theorem tR:∀(l:List (N×D)),gX (eW l)
 |[]=>List.Pairwise.nil
 |x::l=>tQ (tR l)
theorem tU:∀{l:List (N×D)},(l.map (·.1)).Nodup->∀{x y:N×D},x∈l->y∈l->x.1=y.1->x=y
 |z::l,nd,x,y,hx,hy,e=>by
  rw[aMI,aMQ]at nd;rcases aLU.mp hx with ex|mx
  . rcases aLU.mp hy with ey|my
    . rw[ex,ey]
    . exact absurd (aPE.mpr ⟨y,my,by rw[<- e,ex]⟩) nd.1
  . rcases aLU.mp hy with ey|my
    . exact absurd (aPE.mpr ⟨x,mx,by rw[e,ey]⟩) nd.1
    . exact tU nd.2 mx my e
theorem tV:∀{l l':List (N×D)},gX l->gX l'->l.Perm l'->(l.map (·.1)).Nodup->l=l'
 |[],l',_,_,p,_=>p.symm.eq_nil.symm
 |x::l,[],_,_,p,_=>p.eq_nil
 |x::l,y::l',h,h',p,nd=>by
  have h1:=aPD.mp h;have h2:=aPD.mp h';have my:y∈x::l:=p.mem_iff.mpr mcs;have mx:x∈y::l':=p.mem_iff.mp mcs;have exy:x.1=y.1:=by
   have a:ltN y.1 x.1=false:=by
    rcases aLU.mp my with e|e
    . rw[e];exact lG _
    . exact h1.1 y e
   have b:ltN x.1 y.1=false:=by
    rcases aLU.mp mx with e|e
    . rw[e];exact lG _
    . exact h2.1 x e
   exact tL x.1 y.1 b a
  have exy:x=y:=tU nd mcs my exy;subst exy;rw[aMI,aMQ]at nd;rw[tV h1.2 h2.2 p.cons_inv nd.2]
def aFR{l l':List (N×D)}(h:gX l')(p:l'.Perm l)(nd:(l.map (·.1)).Nodup):l'=eW l:=(tV (tR l) h ((n6 l).trans p.symm) (((n6 l).map _).nodup_iff.mpr nd)).symm
theorem aFS{p:List Nat}(hl:ks.length=ds.length)(nd:ks.Nodup)(pp:p.Perm (List.range ds.length))(ps:p.Pairwise λi j=>ltN (ks.getD j (.i 0)) (ks.getD i (.i 0))=false):(p.map λi=>ds.getD i .non)=(eW (ks.zip ds)).map (·.2):=by
 have ez:((List.range ds.length).map λi=>(ks.getD i (.i 0),ds.getD i .non))=ks.zip ds:=by
  apply List.ext_getElem
  . simp[hl]
  . intro i h1 h2;simp at h1 h2 ⊢;have h3:i<ks.length:=by lia
    simp[h1,h3]
 have key:=aFR (l:=ks.zip ds) (l':=p.map λi=>(ks.getD i (.i 0),ds.getD i .non)) (by unfold gX;rw[List.pairwise_map];exact ps) (by rw[<- ez];exact pp.map _) (by
  rw[List.map_fst_zip (by lia)];exact nd)
 rw[<- key,aPF];rfl
section
variable {A:aP2}{E:VSP}
theorem tW:∀(vs:List aP0) {Q:List (Option aP0)->aP1->Prop},(∀v∈vs,Looks (model prog w) s.heap (typeOf v) (.type "list"))->Q (vs.map λ_=>none) s->wpAny (model prog w) A (vs.mapM firstOfTuple') Q E s
 |[],_,_,h=>by rw[List.mapM_nil];exact aL5 h
 |v::vs,Q,t,h=>by
  rw[List.mapM_cons];refine aL6 ?_;rw[kas_first_eq];refine aL6 (Looks.here (t v mcs) ?_);rw[if_pos (by first|decide|simp)]
  refine aL5 ?_;exact aL6 (tW vs (Q:=λbs s'=>wpAny (model prog w) A (pure (none::bs)) Q E s') (λv hv=>t v (mcm hv)) (aL5 h))
def aFT{vs:List aP0}{Q:SortKind->aP1->Prop}(t:∀v∈vs,Looks (model prog w) s.heap (typeOf v) (.type "list"))(hne:2<=vs.length)(h:Q oneType' s):wpAny (model prog w) A (keyKind' vs.toArray) Q E s:=by
 obtain⟨f₁,fr,rfl⟩:∃f₁ fr,vs=f₁::fr:=by
  match vs,hne with
  |f₁::fr,_=>exact⟨f₁,fr,rfl⟩
 rw[kat_kind_eq,List.mapM_toArray,map_eq_pure_bind];refine aL6 (aL6 (tW _ t (aL5 ?_)));rw[if_neg (by simp),if_neg (by simp)]
 rw[oneTypeOnly'_eq,List.mapM_toArray,map_eq_pure_bind];refine aL6 (aL6 (aL6 (kas_mapM (r:=Value.type "list") _ (λv hv Q' hq=>(t v hv).here hq) (aL5 ?_))));have hall2:((List.map (λ_=>Value.type "list") (f₁::fr)).toArray.all λx=>x==Value.type "list")=true:=by simp only[List.all_toArray,List.all_map,aPG];intro _ _;rfl
 have h0:(List.map (λ_=>Value.type "list") (f₁::fr)).toArray[0]? = some (Value.type "list"):=by simp
 rw[h0];simp only[hall2,aNA];exact aL5 (aL5 h)
end
def gC(kds:List D):Option (List N):=match dZ true kds with|some ks=>some ks|none=>dZ false kds
theorem n8{b:Bool}:∀{kds:List D}{ks:List N},dZ b kds=some ks->ks.length=kds.length/\∀(i:Nat) d,kds[i]? = some d->∃k,ks[i]? = some k/\dG d=some (b,k)
 |[],ks,e=>by cases e;exact⟨rfl,λi d h=>by simp at h⟩
 |d::ds,ks,e=>by
  unfold dZ at e;split at e
  . rename_i c k ks' h1 h2;split at e
    . rename_i hc;cases e;subst hc;obtain⟨l,r⟩:=n8 h2;refine⟨by simp[l],λi d' h=>?_⟩
      cases i with
      |zero=>simp at h;subst h;exact⟨k,rfl,h1⟩
      |succ i=>exact r i d' (by simpa using h)
    . cases e
  . cases e
def wkO_K(ks:List N):WkO λi j=>ltN (ks.getD i (.i 0)) (ks.getD j (.i 0)):=⟨λa b=>tP a b,λa=>tO a⟩
section
variable  {F:Hp}
theorem aFU{A:aP2}{b:Bool}{kds:List D}{kvs:List V}(hu:A.units+40<cLine)(e:dZ b kds=some ks)(ok:okK ks=true)(I:Inv X aA σ H s)(sF:aD F H)(rl:aC X.K F kds kvs)(rv:aL kvs us):nY X.prog X.w A kds.length (λi j=>ltN (ks.getD i (.i 0)) (ks.getD j (.i 0))) us s:=by
 obtain⟨kl,kg⟩:=n8 e;unfold okK at ok;simp only[aNI,aPG,aNZ]at ok;obtain⟨⟨d8,ao⟩,nd⟩:=ok;have lk:kvs.length=kds.length:=rl.length;have lu:us.length=kds.length:=by rw[<- rv.length,lk]
 have at_:∀i,i<kds.length->∃d k v u,kds[i]? = some d/\ks.getD i (.i 0)=k/\k∈ks/\dG d=some (b,k)/\aB X.K F d v/\aH v u/\us.getD i .none=u:=λi hi=>by obtain⟨k,ek,hk⟩:=kg i _ (aOC hi);obtain⟨v,ev,rd⟩:=rl.get' (aOC hi);obtain⟨u,eu,ru⟩:=rv.get ev;exact⟨_,k,v,u,aOC hi,by simp[ek],aMZ ek,hk,rd,ru,by simp[eu]⟩
 refine⟨λh2=>⟨oneType',λQ E q=>?_,λi j Q hi hj q=>?_⟩⟩
 . cases b with
   |true =>
    have ia:∃ns,IntsAre us ns:=by
     have:∀{kds:List D}{kvs:List V}{us:List aP0},(∀(i:Nat) d,kds[i]? = some d->∃k,dG d=some (true,k))->aC X.K F kds kvs->aL kvs us->∃ns,IntsAre us ns:=by
      intro kds
      induction kds with
      |nil=>intro kvs us _ r v;simp only[aC]at r;subst r;cases v;exact⟨[],.nil⟩
      |cons d ds ih =>
       intro kvs us hk r v;simp only[aC]at r;obtain⟨y,ys,rfl,q1,q2⟩:=r;cases v with
       |cons r1 r2 =>
        obtain⟨ns,hn⟩:=ih (λi d h=>hk (i+1) d (by simpa using h)) q2 r2
        obtain⟨k,ek⟩:=hk 0 d rfl;cases d with
        |int n=>simp only[aB]at q1;subst q1;obtain⟨t,rfl⟩:=r1;exact⟨n::ns,.cons n t hn⟩
        |lst es =>
         unfold dG at ek;dsimp only at ek;cases z:cE es with
         |none=>rw[z]at ek;cases ek
         |some zs=>rw[z]at ek;cases ek
        |_=>cases ek
     exact this (λi d h=>let⟨k,_,z⟩:=kg i d h;⟨k,z⟩) rl rv
    obtain⟨ns,hn⟩:=ia
    match us,lu with
    |v1::v2::vs,_=>rw[keyKind_ints hn];exact aL5 q
    |[],z=>simp at z;lia
    |[_],z=>simp at z;lia
   |false =>
    refine aFT (λu hu=>?_) (by lia) q
    obtain⟨i,hi,rfl⟩:=List.mem_iff_getElem.mp hu;obtain⟨d,k,v,u,e1,e2,e3,e4,e5,e6,e7⟩:=at_ i (by lia)
    have e7:us[i]=u:=by rw[<- e7];simp[hi]
    rw[e7];cases d with
    |int n=>cases e4
    |lst es=>simp only[aB]at e5;obtain⟨a,xs,rfl,hq,r⟩:=e5;cases e6;obtain⟨its,_,pl,_⟩:=I.list (sF.seq hq);obtain⟨o,ho,hc,_⟩:=pl.isList;have L:Looks (model X.prog X.w) s.heap (typeOf (.ref a)) o.cls:=(Looks.ld ho).andThen .now;rw[hc]at L;exact L
    |_=>cases e4
 . obtain⟨d,k,v,u,e1,e2,e3,e4,e5,e6,e7⟩:=at_ i hi;obtain⟨d',k',v',u',f1,f2,f3,f4,f5,f6,f7⟩:=at_ j hj;rw[e7,f7];rw[e2,f2]at q;have okk:=ao k e3 k' f3;cases b with
   |true =>
    cases d with
    |int n =>
     cases d' with
     |int n'=>cases e4;cases f4;simp only[aB]at e5 f5;subst e5;subst f5;obtain⟨t,rfl⟩:=e6;obtain⟨t',rfl⟩:=f6;rw[ltN]at q;exact kat_lt_int q
     |lst es =>
      unfold dG at f4;dsimp only at f4;cases z:cE es with
      |none=>rw[z]at f4;cases f4
      |some zs=>rw[z]at f4;cases f4
     |_=>cases f4
    |lst es =>
     unfold dG at e4;dsimp only at e4;cases z:cE es with
     |none=>rw[z]at e4;cases e4
     |some zs=>rw[z]at e4;cases e4
    |_=>cases e4
   |false =>
    cases d with
    |int n=>cases e4
    |lst es =>
     cases d' with
     |int n=>cases f4
     |lst es' =>
      unfold dG at e4 f4;dsimp only at e4 f4;cases z:cE es with
      |none=>rw[z]at e4;cases e4
      |some zs =>
       rw[z]at e4;cases e4;cases z':cE es' with
       |none=>rw[z']at f4;cases f4
       |some zs'=>rw[z']at f4;cases f4;simp only[aB]at e5 f5;obtain⟨a,xs,rfl,hq,r⟩:=e5;obtain⟨a',xs',rfl,hq',r'⟩:=f5;cases e6;cases f6;obtain⟨its,rv1,pl,_⟩:=I.list (sF.seq hq);obtain⟨its',rv1',pl',_⟩:=I.list (sF.seq hq');have n1:bS X.K H zs xs:=(k9 z r).map λx _ v y=>NAt.mono sF x v y;have n2:bS X.K H zs' xs':=(k9 z' r').map λx _ v y=>NAt.mono sF x v y;rw[okN]at okk;rw[ltN]at q;have dd:=d8 _ e3;rw[N.dp]at dd;exact aFO (by lia) pl.isList pl'.isList (by simpa using bS.is (λx _ v u a b=>NAt.is I x v u a b) n1 rv1) (by simpa using bS.is (λx _ v u a b=>NAt.is I x v u a b) n2 rv1') okk q
     |_=>cases f4
    |_=>cases e4
end
def fN(Φ:D->Res):List D->Option (List D)
 |[]=>some []
 |d::ds=>match aG (Φ d),fN Φ ds with
  |.ok .fz kd,some kds=>some (kd::kds)
  |_,_=>none
def dH(Φ:D->Res)(r:Res):Res:=r.thn λ_ d=>match seqD d with
 |some ds=>(match fN Φ ds with
  |some kds=>(match gC kds with
   |some ks=>if(okK ks&&decide (ds.length<fK))=true then .ok .fr (.lst ((eW (ks.zip ds)).map (·.2)))else .stuck
   |none=>.stuck)
  |none=>.stuck)
 |none=>.stuck
theorem tX{Φ:D->Res}:∀{ds kds:List D},fN Φ ds=some kds->kds.length=ds.length/\∀(i:Nat) d,ds[i]? = some d->∃kd,kds[i]? = some kd/\aG (Φ d)=.ok .fz kd
 |[],kds,e=>by cases e;exact⟨rfl,λi d h=>by simp at h⟩
 |d::ds,kds,e=>by
  unfold fN at e;split at e
  . rename_i kd kds' h1 h2;cases e;obtain⟨l,r⟩:=tX h2;refine⟨by simp[l],λi d' h=>?_⟩
    cases i with
    |zero=>simp at h;subst h;exact⟨kd,rfl,h1⟩
    |succ i=>exact r i d' (by simpa using h)
  . cases e
def aFV{kds:List D}(h:gC kds=some ks):∃b,dZ b kds=some ks:=by
 unfold gC at h;split at h
 . rename_i z;cases h;exact⟨true,z⟩
 . exact⟨false,h⟩
section
variable  {F:Hp}{E:VSP}
theorem aFW{Φ:D->Res}{f:Addr}{m:Md}{d:D}{Q:VK}(hu:X.A.units+64<cLine)(I:Inv X aA σ H s)(sF:aD F H)(rp:Rp X.K F H m d v)(ru:aH v u)(cl:∀pins' H' F' s' v u d kd,Inv X pins' σ H' s'->aE F H F' H'->aB X.K F' d v->aH v u->aG (Φ d)=.ok .fz kd->wpAny (model X.prog X.w) X.A.in1.in1 (call (.ref f) [u]) (λku s''=>∃kv F'' H'',Inv X pins' σ H'' s''/\aH kv ku/\aE F' H' F'' H''/\aB X.K F'' kd kv) (λ_ _=>False) s')(w:aT (C.at X) F H σ (dH Φ (.ok m d)) Q):wpAny (model X.prog X.w) X.A (call (.builtin "sorted") [u] [(Str.ofString "key", .ref f)]) (EP X aA σ Q) E s:=by
 have w:aT (C.at X) F H σ (match seqD d with
  |some ds=>(match fN Φ ds with
   |some kds=>(match gC kds with
    |some ks=>if(okK ks&&decide (ds.length<fK))=true then .ok .fr (.lst ((eW (ks.zip ds)).map (·.2)))else .stuck
    |none=>.stuck)
   |none=>.stuck)
  |none=>.stuck) Q:=w
 cases e1:seqD d with
 |none=>rw[e1]at w;exact w.elim
 |some ds =>
  rw[e1]at w;dsimp only at w;cases e2:fN Φ ds with
  |none=>rw[e2]at w;exact w.elim
  |some kds =>
   rw[e2]at w;dsimp only at w;cases e3:gC kds with
   |none=>rw[e3]at w;exact w.elim
   |some ks =>
    rw[e3]at w;dsimp only at w;split at w
    . rename_i hc;rw[aNI,aNZ]at hc;obtain⟨ok,h64⟩:=hc;obtain⟨b,eb⟩:=aFV e3;obtain⟨l,xs,rfl,hq,rl⟩:=Rp.seqD sF e1 rp;cases ru;have lx:xs.length=ds.length:=rl.length;obtain⟨kl,kg⟩:=tX e2;have kl2:=(n8 eb).1;refine aFQ rfl (wkO_K ks) (by lia) I hq (P:=λi kvs H'=>∃F',aE F H F' H'/\aC X.K F' (kds.take i) kvs) ⟨F,.refl sF,aC.nil⟩ ?_ ?_ ?_
      . rintro i v u kvs H' pins' s' ex ru I' ⟨F',st,rk⟩;obtain⟨d',ed,rd⟩:=rl.get ex;obtain⟨kd,ek,er⟩:=kg i d' ed;refine aL1 (cl pins' H' F' s' v u d' kd I' st (rd.mono st.fsame _ _) ru er) (λku s'' hk=>?_) λ_ _ x=>x;obtain⟨kv,F2,H2,I2,r2,st2,rv2⟩:=hk;refine⟨kv,H2,I2,r2,F2,st.trans st2,?_⟩;have:kds.take (i+1)=kds.take i++[kd]:=by rw[List.take_succ,ek];rfl
        rw[this];exact aC.append (rk.mono st2.fsame _ _) (aC.cons rv2 aC.nil)
      . rintro kvs us H' pins' s' I' ⟨F',st,rk⟩ rv hl;rw[List.take_of_length_le (by lia)]at rk
        have:=aFU (A:=X.A.in1.in1) (by show X.A.units+1+1+40<_;lia) eb ok I' st.sub rk rv
        rw[kl,<- lx]at this;exact this
      . rintro p H' kvs l' pp ps ⟨F',st,_⟩ hn hn0;have nd:ks.Nodup:=by unfold okK at ok;simp only[aNI,aNZ]at ok;exact ok.2
        rw[lx]at pp;have hz:ks.length=ds.length:=by lia
        refine w (.ref l') F' _ (st.trans (aE.fresh _ st.sub hn)) ⟨l',rfl,st.sub.free hn,_,a9,?_⟩ λ_ a ea=>by cases ea;exact hn0
        rw[<- aFS hz nd pp ps];exact sS λi hi=>by
         have hi':i<ds.length:=by simpa using pp.mem_iff.mp hi
         obtain⟨x,ex,rx⟩:=rl.get' (aOC hi');have a1:ds.getD i .non=ds[i]:=by simp[hi']
         have a2:xs.getD i .non=x:=by simp[ex]
         rw[a1,a2];exact rx.mono st.fsame _ _
    . exact w.elim
end
theorem tY:∀{ps:List Str}{us:List aP0},ps.Nodup->us.length=ps.length->ps.filterMap (λn=>((ps.zip us).lookup n).map (n,·))=ps.zip us/\∀n∈ps,((ps.zip us).lookup n).isNone=false
 |[],us,_,_=>⟨rfl,λ_ h=>by cases h⟩
 |p::ps,[],_,h=>by cases h
 |p::ps,u::us,nd,h=>by
  obtain⟨h1,h2⟩:=aMQ.mp nd;obtain⟨i1,i2⟩:=tY (us:=us) h2 (Nat.succ.inj h);have e:∀n∈ps,((p,u)::ps.zip us).lookup n=(ps.zip us).lookup n:=λn hn=>by rw[aNY];have:(n==p)=false:=aLJ.mpr λz=>h1 (z ▸ hn);rw[this]
  refine⟨?_,λn hn=>?_⟩
  . rw[aON,aLT,aNY,aOG];dsimp only[Option.map];refine congrArg _ (Eq.trans ?_ i1);have c:∀l:List Str,(∀n∈l,n∈ps)->l.filterMap (λn=>(((p,u)::ps.zip us).lookup n).map (n,·))=l.filterMap (λn=>((ps.zip us).lookup n).map (n,·)):=by
      intro l hl
      induction l with
      |nil=>rfl
      |cons a l ih=>rw[aLT,aLT,e a (hl a mcs),ih λn hn=>hl n (mcm hn)]
    exact c ps λ_ h=>h
  . rw[aON];rcases aLU.mp hn with rfl|hn
    . rw[aNY,aOG];rfl
    . rw[e n hn];exact i2 n hn
def tZ(h1:fd.params.posonlyargs=[])(h2:fd.params.args.map (·.arg)=ps)(h3:fd.params.vararg=none)(h4:fd.params.kwonlyargs=[])(h5:fd.params.kwarg=none)(hd:fd.defaults=.none)(h6:ps.Nodup)(us:List aP0)(hl:us.length=ps.length):bindArgs fd ⟨us,[]⟩=pure (ps.zip us):=by
 obtain⟨z1,z2⟩:=tY h6 hl;have z3:(ps.take (ps.length-0)).filter (λn=>((ps.zip us).lookup n).isNone)=[]:=by rw[Nat.sub_zero,List.take_length,List.filter_eq_nil_iff];intro n hn;rw[z2 n hn];decide
 unfold bindArgs;simp only[h1,h2,h3,h4,h5,hd,aNN,aNW,aMO,aOD,aOF,hl,aLN,seqItems?];have q:(do notAStandIn Value.none;pure none:Sem (Option (Array aP0)))=pure none:=rfl
 rw[q];simp only[aOF,aNK,aOO,Nat.zero_sub,List.drop_zero,z3,decide_false,Bool.false_and,aNV,aM9,List.isEmpty_nil,Bool.not_true,List.zip_nil_right,aOD,z1,Array.toList_empty,List.drop_nil]
section
variable  {e:Expr}{q kp:Pos}{Φ:D->Res}
def aFX(T:Addr->Hp->Prop)(hu:X.A.units+64<cLine)(hg:Gl X "sorted")(hm:X.mg "sorted" = none)(he:PV C X e g)(hs:cC e=true)(hk:PE X ke (λσ H Q=>∀f H',aD H H'->T f H'->Q (.ref f) H'))(cl:∀f pins' σ H F H' F' s' v u d kd,T f H->Inv X pins' σ H' s'->aE F H F' H'->aB X.K F' d v->aH v u->aG (Φ d)=.ok .fz kd->wpAny (model X.prog X.w) X.A.in1.in1 (call (.ref f) [u]) (λku s''=>∃kv F'' H'',Inv X pins' σ H'' s''/\aH kv ku/\aE F' H' F'' H''/\aB X.K F'' kd kv) (λ_ _=>False) s'):PV C X (.Call (.Name "sorted" p) [e] [⟨some "key", ke,kp⟩] pos) (λρ=>dH Φ (g ρ)):=by
 intro aA s σ H Q I h;rw[aV]at h;obtain⟨ρ,F,R,w⟩:=h;have st:starEach [e] X.env=[(false,eval e X.env)]:=cN hs;refine aM2 (jD I hg hm aEX ?_ (by decide) (by decide))
 refine callWith_kw (e:=e) (rest:=[]) ?_ (by rw[st];rfl) (by rw[st];rfl) rfl rfl
 have PA1:PA X [e] (iF (tG (C.at X) g) kJ):=m9 he m8 st;refine thn (PA1 pos aA s σ H (λvs H1=>∃v,vs=[v]/\∃F1,aE F H F1 H1/\∃m d,g ρ=.ok m d/\Rp X.K F1 H1 m d v) I ?_) λus s1 hz=>?_
 . show tG (C.at X) g σ H _;rw[aV];refine⟨ρ,F,R,?_⟩;cases er:g ρ with
   |stuck=>rw[show dH Φ (g ρ)=.stuck by rw[er];rfl]at w;exact w
   |exc c=>rw[show dH Φ (g ρ)=.exc c by rw[er];rfl]at w;exact w
   |ok m d=>exact λv F1 H1 s1 rp _=>⟨v,rfl,F1,s1,m,d,rfl,rp⟩
 . obtain⟨vs,H1,I1,rv,v,rfl,F1,st1,m,d,er,rp⟩:=hz;obtain⟨u,rfl,ru⟩:=fA rv;have PK1:PK X [⟨some "key", ke,kp⟩] (iF (λσ H Q=>∀f H',aD H H'->T f H'->Q (.ref f) H') kJ):=aAI hk aAH;refine thn (PK1 pos aA s1 σ H1 (λws H2=>∃f,ws=[.ref f]/\aD H1 H2/\T f H2) I1 (λf H' sm t=>⟨f,rfl,sm,t⟩)) λws s2 hz2=>?_;obtain⟨zs,H2,I2,rz,f,rfl,sm,t⟩:=hz2;obtain⟨wv,rfl,rw2⟩:=fA rz;cases(show wv=Value.ref f from rw2)
   have st2:aE F1 H1 F1 H2:=⟨sm,aD.refl _,st1.sub.trans sm,λ_ h _=>h⟩;have w1:=aT.step (st1.trans st2) w;rw[show dH Φ (g ρ)=dH Φ (.ok m d) by rw[er]]at w1
   exact aFW (C:=C) hu I2 st2.sub (rp.step st2) ru (λpins' H' F' s' v u d kd a b c d' e'=>cl f pins' σ H2 F1 H' F' s' v u d kd t a b c d' e') w1
def aFY{F:Hp}{K:Frag}{m:Md}{d kd:D}(er:aG (.ok m d)=.ok .fz kd)(st:aE F H F' H')(rp:Rp K F' H' m d v)(fr:m=.fr->∀a,v=.ref a->H a=none):∃F'',aE F H F'' H'/\aB K F'' kd v:=by
 cases m with
 |fz=>cases er;exact⟨F',st,rp⟩
 |bo=>cases er
 |fr=>cases er;obtain⟨x,rfl,n,t⟩:=rp;obtain⟨o,ho,r⟩:=t.freeze n;exact⟨upd F' x o,st.freeze (fr rfl x rfl) n ho,r⟩
def cl_fn{n:Nat}{Ψ:List D->Res}(FV:FnV X.prog X.w X.K X.mg X.base (CX1 X.prog X.w) k x 1 Ψ)(hr:aX k X.A.in1.in1){f:Addr}(hf:X.mg x=some (.ref f)){d kd:D}(I:Inv X pins' σ H' s')(sF:aD F' H')(rd:aB X.K F' d v)(ru:aH v u)(er:aG (Ψ [d])=.ok .fz kd):wpAny (model X.prog X.w) X.A.in1.in1 (call (.ref f) [u]) (λku s''=>∃kv F'' H'',Inv X pins' σ H'' s''/\aH kv ku/\aE F' H' F'' H''/\aB X.K F'' kd kv) (λ_ _=>False) s':=by
 obtain⟨f',fd,ps,FF,hm,hk,hb⟩:=FV.ex;rw[hf]at hm;cases hm;have sp:spV X.K X.mg 1 Ψ [v] H' (λkv H''=>∃F'',aE F' H' F'' H''/\aB X.K F'' kd kv) (λ_ _ _=>False):=by
  refine⟨rfl,F',[d],sF,aC.cons rd aC.nil,?_⟩;cases ep:Ψ [d]with
  |stuck=>rw[ep]at er;cases er
  |exc c=>rw[ep]at er;cases er
  |ok m d'=>rw[ep]at er;exact⟨(by intro z;rw[z]at er;cases er),λv F2 H2 st rp fr=>aFY er st rp fr⟩
 have hl:([u]++[]).length=ps.length:=by rw[<- FF.len _ _ _ _ sp];rfl
 have hb':=hb s' [u] I.kIn hl;rw[aMO]at hb';refine aOH (aNP (FF.run X.A.in1.in1 X.stack s' H' ⟨[u],[]⟩ [u] [v] _ _ hr I.env0.in1.in1 hb' (.cons ru .nil) sp) λr s2 hq=>?_);cases r with
 |error e=>obtain⟨_,_,_,_,_,_,_,_,_,_,z⟩:=hq;exact z
 |ok fl =>
  cases fl with
  |ret w=>obtain⟨kv,H2,I2,rk,F2,st2,rv2⟩:=I.after hq;exact⟨kv,F2,H2,I2,rk,st2,rv2⟩
  |next=>exact False.elim hq
  |brk=>exact False.elim hq
  |cont=>exact False.elim hq
theorem aX.in2{A:aP2}(r:aX (k+1) A):aX k A.in1.in1 :=
 ⟨r.hd,by have:=r.dp;show A.depth+3 * k+5<_;lia,by have:=r.un;show A.units+1+1+16 * k+200<_;lia⟩
def aFZ{Ψ:List D->Res}(hu:X.A.units+64<cLine)(hg:Gl X "sorted")(hm:X.mg "sorted" = none)(he:PV C X e g)(hs:cC e=true)(hgx:Gl X x)(hdb:(x==("__debug__":Str))=false)(FV:FnV X.prog X.w X.K X.mg X.base (CX1 X.prog X.w) k x 1 Ψ)(hr:aX (k+1) X.A):PV C X (.Call (.Name "sorted" p) [e] [⟨some "key", .Name x q,kp⟩] pos) (λρ=>dH (λd=>Ψ [d]) (g ρ)):=by obtain⟨f,fd,ps,FF,hmx,hk,hb⟩:=id FV.ex;refine aFX (λf' _=>f'=f) hu hg hm he hs (PE.imp (mS hgx hmx (v:=.ref f) rfl hdb) λσ H Q h=>h f H (aD.refl _) rfl) ?_;intro f' pins' σ H F H' F' s' v u d kd t I st rd ru er;subst t;exact cl_fn (n:=1) FV (aX.in2 hr) hmx I st.sub rd ru er
end
section
variable {K:Type}[DecidableEq K]{knd:HeapKind prog w K}{A:aP2}{E:VSP}
end
section
variable {a:Addr}{A:aP2}{E:VSP}
end
section
variable {o e f:Expr}
end
abbrev GD:=List (N×List D)
def noOwn(ρ:Rho):Prop:=∀(j:Nat) d,ρ[j]?≠some (some (true,d))
abbrev GM:=Rho->GD->Option (Rho×GD)
section
variable  {ve:Expr}{gk gv:Rho->Res}{ap1 cp1 ap2 cp2 lp:Pos}
end
section
variable  {e:Expr}{g:GM}
end
section
variable {g:GM}{sp:Pos}{rest:List Stmt}{h:Rho->aF}
end
section
variable {a:Addr}{A:aP2}{E:VSP}
end
section
variable {o e f:Expr}
end
abbrev JD:=List (Key×List D)
abbrev HM:=Rho->JD->Option (Rho×JD)
section
variable  {ve:Expr}{gk gv:Rho->Res}{ap1 cp1 ap2 cp2 lp:Pos}
end
section
variable  {e:Expr}{g:HM}
end
section
variable {g:HM}{sp:Pos}{rest:List Stmt}{h:Rho->aF}
end
section
variable {A:aP2}{E:VSP}
end
section
variable {o e:Expr}
end
abbrev FZ:=List D×List Str
abbrev FMz(Z:Type):=Rho->Z->Option (Rho×Z)
abbrev FM:=FMz FZ
section
variable {g h:FM}
end
section
variable  {e:Expr}{g:FM}
end
section
variable  {q sp:Pos}
end
section
variable  {q sp:Pos}
end
section
variable  {r:Str}{g:FM}{p3 p4 p5 p6 p7 q2 q3 q4 q5:Pos}
end
abbrev KD:=List (Key×D)
def TxK(kvs:KD):Prop:=∀kv∈kvs,∀x,kv.1=.inr x->x.length<=sizeLine/\PyData.strOk x=true
section
variable {g h:FMz KD}
end
section
variable  {e:Expr}{g:FMz KD}
end
def hideH(H:Hp)(a:Addr):Hp:=λc=>if c=a then none else H c
def spM(K:Fg)(Ψ:D->KD->Option KD)(vs:List V)(H:Hp)(Q:VK):Prop:=∃F d v a kvs xs kvs',vs=[v,.ref a]/\aD F H/\aB K F d v/\H a=some (.dK xs)/\F a=none/\bE K F kvs xs/\TxK kvs/\Ψ d kvs=some kvs' /\
 ∀F' H' xs',aE F (hideH H a) F' H'->F' a=none->H' a=some (.dK xs')->bE K F' kvs' xs'->TxK kvs'->Q (.ref a) H'
def lL(K:Fg)(Ψ:D->KD->Option KD):Sp:=λvs H Q _=>spM K Ψ vs H Q
section
variable  {f:Str}{q r sp:Pos}
def run_S{f:Addr}{Q:VK}{E:XK}{sp:Sp}(F:bH X.prog X.w X.K X.mg X.base CX k f fd ps sp)(hr:aX k X.A)(hb:cB X.K fd ps [])(hx:∀e s',CX X.stack H s E e s'->X.xe e s')(I:Inv X aA σ H s)(r:aL vs us)(h:sp vs H Q E):wpAny (model X.prog X.w) X.A (call (.ref f) us) (EP X aA σ Q) X.xe s:=by
 have hl:(us++[]).length=ps.length:=by rw[aMO,<- r.length];exact F.len _ _ _ _ h
 have hb':=hb s us I.kIn hl;rw[aMO]at hb';refine aOH (aNP (F.run X.A X.stack s H ⟨us,[]⟩ us vs Q E hr I.env0 hb' r h) λr s' hq=>?_);cases r with
 |error e=>exact hx e s' hq
 |ok fl =>
  cases fl with
  |ret u=>exact I.after hq
  |next=>exact False.elim hq
  |brk=>exact False.elim hq
  |cont=>exact False.elim hq
structure FnM(P:aP4)(w:aP3)(K:Fg)(mg:SOV)(base:Heap)(CX:CXT)(k:Nat)(x:Str)(Ψ:D->KD->Option KD):Prop where
 ex:∃f fd ps,bH P w K mg base CX k f fd ps (lL K Ψ)/\mg x=some (.ref f)/\W.keepIn K (.ref f)=true/\cB K fd ps []
end
section
variable {f:Str}{e:Expr}{p3:Pos}
end
end D3
namespace L2
section
variable {σ:St}{E:VSP}
theorem aF0(I:Inv X aA σ H s)(hcd:W.codeIn X.K X.env.code q=true)(hq:X.env.qual=q ++ ".<locals>."){name:Str}{params:Arguments}(hin:jB (q ++ ".<locals>.") pos.line=name){clos:List (Str×Addr)}(hcl:closureFor scope X.env=pure clos){Q:VSP}(h:∀f c doc pm ct s' H',Inv X aA σ H' s'->(∀b o,H b=some o->H' b=some o)->H f=none->H' c=some (.crec (X.env.qual++name))->H' f=some (dB f (W.fnMade name (X.env.qual++name) params body scope clos doc pm c ct))->Q (.ref f) s'):wpAny (model X.prog X.w) X.A (makeFunction name (X.env.qual++name) params (.stmts body) scope X.env [] [] [] pos pos.line) Q E s:=by
 obtain⟨c,T,ps,e1,hd,hT0,htag⟩:=I.ok.tabs _ _ hcd;obtain⟨more,hT⟩:=I.base.tbls T ps hT0;obtain⟨q',m,g1,g2,g3,g4⟩:=I.hok T _ hT;obtain rfl:q'=X.env.qual:=by rw[Array.getElem?_append_left (aLR.mp htag).1,htag,<- hq]at g1;cases g1;rfl
 rw[<- hq]at hin;have hbk:=I.bk;obtain⟨bm,ob,b1,b2,b3,b4,b5,b6⟩:=I.mod.bmod;have gT:X.base.get? T=none:=by
  cases z:X.base.get? T with
  |none=>rfl
  |some o=>have:=(I.bs T o z).2;rw[hT]at this;cases this
 have hbT:bm≠T:=λz=>by rw[z,gT]at b3;cases b3
 have hns:=I.mod.glob;have hgT:mainGlobals≠T:=λz=>by obtain⟨o,es,ep,e,_⟩:=hns;rw[z,gT]at e;cases e
 have hbG:bm≠mainGlobals:=λz=>by obtain⟨o,es,ep,e,hd,_⟩:=hns;rw[z,e]at b3;cases b3;rw[hd]at b6;cases b6
 have hB:s.heap.BuiltinsAt X.mg T:=⟨bm,ob,b1,b2,hbG,hbT,hbk _ _ b3,b4,b5,b6⟩;have nT:∀{b:Addr}{o:HO},H b=some o->(∀ps,o ≠ .tbl ps)->b≠T:=λ{b o} e n z=>by rw[z,hT]at e;cases e;exact n _ rfl
 cases hm:codeAmong pos m.toList with
 |none =>
  refine W.makeFunction_K (mg:=X.mg) hcl I.ok.glob (hns.keeps hbk) e1 (hd.keeps hbk) g2 g3 hm hgT hB λc' ctv doc h' tk hx hge hlt hrec htb=>?_;obtain⟨c₂,oc,vs,t,e2,hoc,hd2,hv⟩:=hrec;cases e2;have cT:c'≠T:=Nat.ne_of_gt (aLM (aLL g2) hge);have sz:s.heap.objs.size<=h'.objs.size:=by lia
  let H1:Hp:=upd H c' (.crec (X.env.qual++name))
  let fo:Obj:=W.fnMade name (X.env.qual++name) params body scope clos doc ((X.mg "__name__").getD .none) c' ctv
  let H2:Hp:=upd H1 h'.objs.size (dB h'.objs.size fo)
  have f0:H h'.objs.size=none:=I.hok.fresh sz;have c0:H c'=none:=I.hok.fresh hge;have s1:∀b o,H b=some o->H1 b=some o:=λb o e=>by show upd H c' _ b=_;rw[aK (bL e c0)];exact e
  have fc:h'.objs.size≠c':=λz=>by rw[z]at hlt;exact absurd hlt (aLN _)
  have s2:∀b o,H1 b=some o->H2 b=some o:=λb o e=>by
   have hb:b≠h'.objs.size:=λz=>by subst z;have e:upd H c' _ h'.objs.size=some o:=e;rw[aK fc,f0]at e;cases e
   show upd H1 _ _ b=_;rw[aK hb];exact e
  have keep:∀b o,b≠T->s.heap.get? b=some o->(h'.push fo).get? b=some o:=λb o hb e=>hps (hx b o hb e);have gT':(h'.push fo).get? T=some (W.tabObj (m++#[rawInt pos.line,rawInt pos.col,.ref c'])):=hps htb;have un:Un (frs X.stack) [] H H2 s.heap (h'.push fo):=by
   refine⟨λb o e n _ _=>keep b o (λz=>by rw[z,hT]at n;cases n) e,λb o e n _ _=>⟨o.slots,keep b o (λz=>by rw[z,hT]at n;cases n) e⟩,λb o e n _=>?_,λb o e _=>?_,λb xs e=>s2 _ _ (s1 _ _ e),λb o u e=>s2 _ _ (s1 _ _ e),λb ps e=>⟨#[],by rw[s2 _ _ (s1 _ _ e)];simp⟩⟩
   . have hb:=aLL e;show upd (upd H c' _) h'.objs.size _ b=none;rw[aK (aLO (aLM hb sz)),aK (aLO (aLM hb hge))];exact n
   . by_cases hb:b=T
     . exact⟨_,hb ▸ gT'⟩
     . exact⟨o,keep b o hb e⟩
  have hok:HOk X.prog X.w H2 (h'.push fo):=λb u e=>by
   by_cases hb:b=h'.objs.size
   . subst hb;have e:upd H1 h'.objs.size (dB h'.objs.size fo) h'.objs.size=some u:=e;rw[a9]at e;cases e;exact rD (aLK _ rfl)
   have e:upd H1 h'.objs.size (dB h'.objs.size fo) b=some u:=e;rw[aK hb]at e;by_cases hc:b=c'
   . subst hc;have e:upd H b _ b=some u:=e;rw[a9]at e;cases e;exact⟨oc,vs,t,hps hoc,hd2,hv⟩
   have e:upd H c' _ b=some u:=e;rw[aK hc]at e;by_cases hbT2:b=T
   . subst hbT2;rw[hT]at e;cases e;refine⟨_,_,g1,gT',?_,λz cv f=>?_⟩
     . rw[Array.toList_append];exact TriplesOk_snoc _ _ _ _ g3
     . rw[Array.toList_append]at f;rcases aBF g3 f with f|f
       . obtain⟨c3,z1,z2⟩:=g4 z cv f;exact⟨c3,z1,s2 _ _ (s1 _ _ z2)⟩
       . exact⟨c',f.1,by rw[f.2,hin];exact s2 _ _ a9⟩
   . refine(I.hok b u e).stay (λd v hd q=>keep d v ?_ q) (λd q=>s2 _ _ (s1 _ _ q)) λd v q=>s2 _ _ (s1 _ _ q);rcases hd with rfl|hd
     . exact hbT2
     . exact nT hd λps z=>by cases z
  exact h _ c' doc _ ctv _ H2 (I.call (g':=s.gens) (d':=s.drawn) (t':=tk) (ch:=[]) un hok I.bare (λb z=>absurd z (by simp))) (λb o e=>s2 _ _ (s1 _ _ e)) f0 (s2 _ _ a9) a9
 |some cv =>
  obtain⟨c',rfl,hc'⟩:=g4 pos cv hm;rw[hin]at hc';refine W.makeFunction_hit (mg:=X.mg) hcl I.ok.glob (hns.keeps hbk) e1 (hd.keeps hbk) g2 g3 hm hB λctv doc h' tk hx hge=>?_
  let fo:Obj:=W.fnMade name (X.env.qual++name) params body scope clos doc ((X.mg "__name__").getD .none) c' ctv
  have f0:H h'.objs.size=none:=I.hok.fresh hge;exact h _ c' doc _ ctv _ _ (I.laid (a:=h'.objs.size) (o:=dB h'.objs.size fo) (h':=h'.push fo) (t':=tk) (λb u e=>hps (hx b u e)) hge (rD (aLK _ rfl))) (λb o e=>by rw[aK (bL e f0)];exact e) f0 (by rw[aK (bL hc' f0)];exact hc') a9
end
end L2
namespace D3
def aF1{name:Str}{params:Arguments}{clos:List (Str×Addr)}(hN:X.N.Nodup)(hi:X.N[i]? = some name)(hx:Loc X.env.scope name)(hf:X.fn name=true\/X.env.scope.names.lookup name=some .local)(hcd:W.codeIn X.K X.env.code q=true)(hq:X.env.qual=q ++ ".<locals>.")(hin:jB (q ++ ".<locals>.") pos.line=name)(hcl:closureFor scope X.env=pure clos)(hd0:params.defaults=[])(hk0:params.kw_defaults=[])(ha:PySem.annTrees params none X.env=[])(hg:(X.env.kindOf name==some .globalExplicit)=false):PS X (.FunctionDef name params body [] none [] scope none name pos) (λD σ H=>∀f c doc pm ct H',aD H H'->H f=none->H' c=some (.crec (X.env.qual++name))->H' f=some (dB f (W.fnMade name (X.env.qual++name) params body scope clos doc pm c ct))->D.nx (σ.set i (some (.ref f))) H'):=by
 intro aA s σ H D I h;refine W.nestDef_K hd0 hk0 ha ?_;have hqn:qualnameIn X.env name name=X.env.qual++name:=by unfold qualnameIn;rw[hg];rfl
 rw[hqn];refine aF0 I hcd hq hin hcl λf c doc pm ct s' H' I' hs hf0 hc hfo=>?_;exact mR I' hN hi hx (v:=.ref f) rfl (λs2 I2=>⟨_,H',I2,h f c doc pm ct H' hs hf0 hc hfo⟩) hf
def t0{c:Addr}{y:V}(e:h.IsCell c (some u))(r:aH y u):bW P w H h c (dQ c y):=by obtain⟨o,e1,e2⟩:=e;refine⟨⟨u,⟨o,e1,e2⟩,r⟩,⟨o,e1⟩,λh1 h2 p k=>?_⟩;obtain⟨u',⟨o',q1,q2⟩,q3⟩:=p;exact⟨u',⟨o',k o' q1,q2⟩,q3⟩
def spC(K:Fg)(f0 a b:Str):Sp:=λvs H Q _=>∃F kd v1 p0 xs kvs,vs=[v1,.ref p0]/\aD F H/\aB K F kd v1/\Rd H p0 (.dK xs)/\bE K F kvs xs/\∀F' H' v,aE F H F' H'->aB K F' (.clo f0 "" [(a,kd),(b,.dct kvs)]) v->Q v H'
mutual
def plD:D->Bool
 |.tup xs=>plL xs
 |.lst xs=>plL xs
 |.dct kvs=>plK kvs
 |.ins _ fs=>plF fs
 |.exn _=>false|.clo _ _ _=>false|.dtn _=>false|.dtf _=>false|.dcf _=>false
 |_=>true
def plL:List D->Bool
 |[]=>true
 |d::ds=>plD d&&plL ds
def plK:List (Key×D)->Bool
 |[]=>true
 |(_,d)::ds=>plD d&&plK ds
def plF:List (Str×D)->Bool
 |[]=>true
 |(_,d)::ds=>plD d&&plF ds
end
def But(H H':Hp):Prop:=∀b o,H b=some o->(∀p,o ≠ .ext p)->H' b=some o
section
variable  {F:Hp}
def But.seqT{a:Addr}(e:But F F')(h:SqT K F a xs):SqT K F' a xs:=by
 rcases h with(h|⟨o,h⟩)|h
 . exact .inl (.inl (e _ _ h nofun))
 . exact .inl (.inr ⟨o,e _ _ h nofun⟩)
 . exact .inr h
def But.seq{a:Addr}(e:But F F')(h:SqL K F a xs):SqL K F' a xs:=by
 rcases h with(h|⟨o,h⟩)|h
 . exact .inl (.inl (e _ _ h nofun))
 . exact .inl (.inr ⟨o,e _ _ h nofun⟩)
 . exact .inr h
mutual
theorem aB.but(s:But F F'):∀(d:D) (v:V),plD d=true->aB K F d v->aB K F' d v
 |.non,_,_,h=>by simpa only [aB]using h
 |.bl _,_,_,h=>by simpa only [aB]using h
 |.int _,_,_,h=>by simpa only [aB]using h
 |.str _,_,_,h=>by simpa only [aB]using h
 |.ty _,_,_,h=>by simpa only [aB]using h
 |.ob _,_,_,h=>by simpa only [aB]using h
 |.fn _,_,_,h=>by simpa only [aB]using h
 |.tup ds,v,p,h=>by simp only[plD]at p;simp only[aB]at h ⊢;obtain⟨a,xs,e,q,r⟩:=h;exact⟨a,xs,e,s.seqT q,aC.but s ds xs p r⟩
 |.lst ds,v,p,h=>by simp only[plD]at p;simp only[aB]at h ⊢;obtain⟨a,xs,e,q,r⟩:=h;exact⟨a,xs,e,s.seq q,aC.but s ds xs p r⟩
 |.dct ds,v,p,h=>by simp only[plD]at p;simp only[aB]at h ⊢;obtain⟨a,xs,e,q,r⟩:=h;exact⟨a,xs,e,s _ _ q nofun,bE.but s ds xs p r⟩
 |.set _,_,_,h=>by simp only[aB]at h ⊢;obtain⟨a,S,e,q,r⟩:=h;exact⟨a,S,e,s _ _ q nofun,r⟩
 |.ins c fs,v,p,h=>by simp only[plD]at p;simp only[aB]at h ⊢;obtain⟨a,C,dx,gs,e,n,q,r⟩:=h;exact⟨a,C,dx,gs,e,n,s _ _ q nofun,aQ.but s fs gs p r⟩
 |.exn _,_,p,_=>by simp only[plD]at p;cases p
 |.clo _ _ _,_,p,_=>by simp only[plD]at p;cases p
 |.dtn _,_,p,_=>by simp only[plD]at p;cases p
 |.dtf _,_,p,_=>by simp only[plD]at p;cases p
 |.dcf _,_,p,_=>by simp only[plD]at p;cases p
theorem aC.but(s:But F F'):∀(ds:List D) (xs:List V),plL ds=true->aC K F ds xs->aC K F' ds xs
 |[],_,_,h=>by simpa only [aC]using h
 |d::ds,xs,p,h=>by simp only[plL,aNI]at p;simp only[aC]at h ⊢;obtain⟨y,ys,e,q,r⟩:=h;exact⟨y,ys,e,aB.but s d y p.1 q,aC.but s ds ys p.2 r⟩
theorem bE.but(s:But F F'):∀(ds:List (Key×D)) (xs:List (Key×V)),plK ds=true->bE K F ds xs->bE K F' ds xs
 |[],_,_,h=>by simpa only [bE]using h
 |(k,d)::ds,xs,p,h=>by simp only[plK,aNI]at p;simp only[bE]at h ⊢;obtain⟨y,ys,e,q,r⟩:=h;exact⟨y,ys,e,aB.but s d y p.1 q,bE.but s ds ys p.2 r⟩
theorem aQ.but(s:But F F'):∀(ds:List (Str×D)) (xs:List (Str×V)),plF ds=true->aQ K F ds xs->aQ K F' ds xs
 |[],_,_,h=>by simpa only [aQ]using h
 |(k,d)::ds,xs,p,h=>by simp only[plF,aNI]at p;simp only[aQ]at h ⊢;obtain⟨y,ys,e,q,r⟩:=h;exact⟨y,ys,e,aB.but s d y p.1 q,aQ.but s ds ys p.2 r⟩
end
end
def gD(P:aP4)(w:aP3)(K:Fg)(mg:SOV)(base:Heap)(N:List Str)(q:Str)(scope:Scope)(cl:List (Str×Addr))(f:Addr)(cd:aP0)(A:aP2)(outer:List Env)(s:aP1)(H:Hp):Cx where
 prog:=P
 w:=w
 K:=K
 mg:=mg
 base:=base
 A:=A.deeper (W.envX q scope s.heap.objs.size f cd cl)
 N:=N
 s₀:=s
 H₀:=H
 env:=W.envX q scope s.heap.objs.size f cd cl
 outer:=outer
 stack:=W.envX q scope s.heap.objs.size f cd cl::outer
 ex:=[]
 calm:=true
 fn:=λ_=>false
 pn:=[]
 xe:=λ_ _=>False
structure FnC(P:aP4)(w:aP3)(K:Fg)(mg:SOV)(base:Heap)(CX:CXT)(k:Nat)(x a b:Str):Prop where
 ex:∃f fd ps,bH P w K mg base CX k f fd ps (spC K x a b)/\mg x=some (.ref f)/\W.keepIn K (.ref f)=true/\cB K fd ps []
section
variable {e:Expr}{es:List Expr}{a b:Str}
end
structure CloG(K:Fg)(f kn pn g:Str):Prop where
 ex:∃q rn vn params scope p1 p2 p3 p4 p5 p6 pos,iH K f "" q (.FunctionDef vn params [.Return (some (.Call (.Name g p1) [.Name kn p2,.Name pn p3,.Name rn p4] [] p5)) p6] [] none [] scope none vn pos) /\
  scope.kind=.function/\scope.isCoroutine=false/\scope.isGenerator=false/\[kn,pn,rn].Nodup/\(∀y∈scope.names,y.2 ≠ .cell)/\(∀y∈scope.names,y.2=.free->y.1=kn\/y.1=pn) /\
  scope.names.lookup kn=some .free/\scope.names.lookup pn=some .free/\scope.names.lookup rn=some .local/\scope.names.lookup g=some .globalImplicit/\(∀y∈[kn,pn,rn,g],(y==("__debug__":Str))=false/\(y==("__classdict__":Str))=false) /\
  ∀name q body cl doc pm c ct u,bindArgs (W.fnX name q params body scope cl .none .none doc pm none (.ref c) ct) ⟨[u],[]⟩=pure [(rn,u)]
section
variable {e:Expr}{f kn pn g:Str}
end
def t4:Stmt->Option Expr
 |.Return e _=>e
 |_=>none
def aF2{s:Stmt}{e:Expr}(h:t4 s=some e):∃p,s=.Return (some e) p:=by
 cases s with
 |Return o p=>have h:o=some e:=h;exact⟨p,by rw[h]⟩
 |_=>cases h
def lM(a:Arguments):Option Str:=match a.args with
 |[x]=>if a.posonlyargs.isEmpty&&a.vararg.isNone&&a.kwonlyargs.isEmpty&&a.kw_defaults.isEmpty&&a.kwarg.isNone&&a.defaults.isEmpty&&x.annotation.isNone then some x.arg else none
 |_=>none
def t7{a:Arguments}(h:lM a=some z):∃p,a=⟨[],[⟨z,none,p⟩],none,[],[],none,[]⟩:=by
 obtain⟨a1,a2,a3,a4,a5,a6,a7⟩:=a;unfold lM at h;dsimp only at h;cases a2 with
 |nil=>cases h
 |cons x r =>
  cases r with
  |cons _ _=>cases h
  |nil =>
   dsimp only at h;split at h
   . rename_i q;cases h;simp only[aNI,aPH,aPI]at q;obtain⟨⟨⟨⟨⟨⟨rfl,rfl⟩,rfl⟩,rfl⟩,rfl⟩,rfl⟩,q⟩:=q;obtain⟨x1,x2,x3⟩:=x;cases q;exact⟨x3,rfl⟩
   . cases h
def lN:Stmt->Option (Str×Arguments×List Stmt×Scope)
 |.FunctionDef n a b ds r ts sc ty n' _=>if ds.isEmpty&&r.isNone&&ts.isEmpty&&ty.isNone&&n'==n then some (n,a,b,sc)else none
 |_=>none
def t8{s:Stmt}{n:Str}{a:Arguments}{b:List Stmt}(h:lN s=some (n,a,b,sc)):∃p,s=.FunctionDef n a b [] none [] sc none n p:=by
 cases s with
 |FunctionDef n1 a1 b1 ds r ts sc1 ty n' p =>
  unfold lN at h;dsimp only at h;split at h
  . rename_i q;cases h;simp only[aNI,aPH,aPI,aMG]at q;obtain⟨⟨⟨⟨rfl,rfl⟩,rfl⟩,rfl⟩,rfl⟩:=q;exact⟨p,rfl⟩
  . cases h
 |_=>cases h
def aF3{name rn:Str}{doc pm c ct:aP0}:bindArgs (W.fnX name q ⟨[],[⟨rn,none,ap⟩],none,[],[],none,[]⟩ body sc cl .none .none doc pm none c ct) ⟨[u],[]⟩=pure [(rn,u)] :=
 tZ (ps:=[rn]) rfl rfl rfl rfl rfl rfl (aMQ.mpr ⟨aPB,List.nodup_nil⟩) [u] rfl
theorem aF4{f c:Addr}{params:Arguments}{name rn:Str}{doc pm ct:aP0}{A:aP2}{F:Hp}{ys:List V}{Q:VK}{E:XK}{as:List Addr}{caps ls:List Str}{g:Rho->aF}{dc:List D}{dv d:D}(kd:scope.kind=.function)(co:scope.isCoroutine=false)(gen:scope.isGenerator=false)(bV:∀y∈scope.names,y.2 ≠ .cell)(hfr:∀y∈scope.names,y.2=.free->y.1∈caps)(ec:∀y∈caps,scope.names.lookup y=some .free)(er:scope.names.lookup rn=some .local)(hb:bindArgs (W.fnX name q params body scope cl .none .none doc pm none (.ref c) ct) ⟨[u],[]⟩=pure [(rn,u)])(hr:aX (k+1) A)(e0:dP P w K mg base A outer s H)(hf:H f=some (dB f (W.fnMade name q params body scope cl doc pm c ct)))(hc:H c=some (.crec q))(hcap:∀(i:Nat) x y,caps[i]? = some x->ys[i]? = some y->∃a,cl.lookup x=some a/\H a=some (dQ a y))(hlen:caps.length=ys.length)(only:∀x b,cl.lookup x=some b->b∈as)(has:∀b∈as,∃x y,cl.lookup x=some b/\H b=some (dQ b y))(inj:∀x y c,cl.lookup x=some c->cl.lookup y=some c->x=y)(r:aH v u)(sF:aD F H)(rc:aC K (a8 as F) dc ys)(rv:aB K (a8 as F) dv v)(hbody:PBv ⟨K,a8 as F,a8 as H,λ_ _ _=>False⟩ (gD P w K mg base (caps++rn::ls) q scope cl f (.ref c) A outer s (a8 as H)) body g)(hg:g (bC (caps++rn::ls).length (dc++[dv]))=.rt .fz d)(hq:∀v' F' H',aE F H F' H'->aB K F' d v'->Q v' H'):codeAny (model P w) A (.call (.ref f) ⟨[u],[]⟩) (CR CX outer P w H s Q E) s:=by
 have KX:K.In s.heap:=e0.mod.kin.keeps λb o e=>(e0.bs b o e).1;have lim:s.heap.NoLimit:=e0.mod.nolimit.keeps λb o e=>(e0.bs b o e).1;have hin:∀{G:Hp}{b},b∈as->a8 as G b=none:=λh=>if_pos h;have hout:∀{G:Hp}{b},¬ b∈as->a8 as G b=G b:=λh=>if_neg h;have hcl:∀b,b∈as->∃y,H b=some (dQ b y):=λb hb=>by obtain⟨_,y,_,e⟩:=has b hb;exact⟨y,e⟩
 have but:But H (a8 as H):=λb o e n=>by rw[hout];exact e;intro hb;obtain⟨y,z⟩:=hcl b hb;rw[e]at z;cases z;exact n _ rfl
 have none0:∀b,H b=none->a8 as H b=none:=λb e=>by
  by_cases hb:b∈as
  . exact hin hb
  . rw[hout hb];exact e
 refine aM1 (fd:=W.fnX name q params _ scope cl .none .none doc pm none (.ref c) ct) hr.depth (rE e0.hok hf) rfl co gen rfl (aBE e0.hok hc) ?_;rw[hb];refine aL5 (wpAny_newFunctionEnv bV (λy hy=>by rw[aOM.mp hy];exact er) (λh4 hns hsb=>?_) kd)
 have keep:∀b o,s.heap.get? b=some o->h4.get? b=some o:=λb o e=>hsb.extBut b o (aLO (aLL e)) (hps e);refine⟨lim.keeps keep,codeAny_func ?_⟩
 let N:=caps++rn::ls
 let X:=gD P w K mg base N q scope cl f (.ref c) A outer s (a8 as H)
 have ok:X.Ok :=
  { mod:=e0.mod
    kind:=kd
    glob:=rfl
    blt:=rfl
    above:=aL7 _
    inj:=inj
    has:=λx hx=>by
     have hx:scope.names.lookup x=some .cell\/scope.names.lookup x=some .free:=hx;rcases hx with hx|hx
     . exact absurd rfl (bV _ (aMU hx))
     . have hm:=hfr _ (aMU hx) rfl;obtain⟨i,hi,e⟩:=aPJ hm;obtain⟨a,e1,_⟩:=hcap i x (ys[i]'(hlen ▸ hi)) (by rw[aOC hi,e]) (aOC _)
       exact⟨a,e1⟩
    cab:=λx c z=>by cases z
    hd:=λ_=>hr.hd
    frames:=Around.frames_deeper e0.frames
    stk:=.inr ⟨rfl,rfl⟩
    exf:=λb hb=>nomatch hb
    bs:=λb o e=>⟨(e0.bs b o e).1,none0 b (e0.bs b o e).2⟩
    bsz:=e0.bsz
    noex:=λb o e hb=>nomatch hb
    exfs:=λb hb=>nomatch hb
    funs:=e0.funs
    frf:=λb hb=>none0 b (e0.frf b hb)
    tabs:=e0.tabs.mono λb ps e=>⟨#[],by rw[Array.append_empty];exact but b _ e nofun⟩ }
 have cellAt:∀{b:Addr}{y:V},H b=some (dQ b y)->∃u,s.heap.IsCell b (some u)/\aH y u:=λe=>(e0.hok _ _ e).1;have I:Inv X [] (bM N (ys++[v])) (a8 as H) {s with heap:=h4,toks:=s.toks+[(rn,u)].length}:=by
  refine⟨ok,rfl,e0.bare,Un.kept keep,⟨_,hns,λi y v' q1 q2 q3=>?_⟩,λx c' e=>?_,none0 _ (e0.hok.fresh (aL7 _)),λx c' e=>hin (only _ _ e),λp hp=>absurd (show p∈([]:LAO)from hp) (by simp),λb o e=>?_,by simp[L2.bM,X,gD,N];lia⟩
  . have q1:(caps++rn::ls)[i]? = some y:=q1;have q2:(((ys++[v]).map some)++List.replicate ((caps++rn::ls).length-(ys++[v]).length) none)[i]? = some (some v'):=q2;by_cases hi:i<caps.length
    . rw[aMX hi]at q1;have hy:i<ys.length:=hlen ▸ hi;rw[aMX (by simp;lia),aMY,aMX hy]at q2
      have q2:ys[i]? = some v':=by rw[aOC hy]at q2 ⊢;cases q2;rfl
      obtain⟨a,e1,e2⟩:=hcap i y v' q1 q2;obtain⟨u1,i1,r1⟩:=cellAt e2;exact⟨u1,r1,.inr ⟨.inr (ec y (aMZ q1)),a,e1,i1.keeps keep⟩⟩
    . by_cases hj:i=caps.length
      . subst hj;rw[aMV (aL7 _),Nat.sub_self]at q1;cases q1;rw[aMX (by simp;lia),aMY,aMV (by lia),hlen,Nat.sub_self]at q2
        cases q2;exact⟨u,r,.inl ⟨er,by simp⟩⟩
      . rw[aMV (by simp;lia),aMW]at q2
        split at q2 <;> cases q2
  . obtain⟨y,z⟩:=hcl c' (only _ _ e);obtain⟨u',iu,_⟩:=cellAt z;exact⟨_,iu.keeps keep⟩
  . have hb:¬ b∈as:=λhb=>by rw[hin hb]at e;cases e
    rw[hout hb]at e;exact(e0.hok b o e).stay (λb' u' _ q'=>keep b' u' q') (λd' q'=>but _ _ q' nofun) λd' t' q'=>but _ _ q' (by cases t' <;> nofun)
 let C:Cw:=⟨K,a8 as F,a8 as H,λ_ _ _=>False⟩
 have sh:aD (a8 as F) (a8 as H):=λb o e=>by
  by_cases hb:b∈as
  . rw[hin hb]at e;cases e
  . rw[hout hb]at e ⊢;exact sF b o e
 have RS:aR K (a8 as F) (a8 as H) (a8 as F) (a8 as H) (bM N (ys++[v])) (bC N.length (dc++[dv])):=nG (N:=N) sh (rc.append (aC.cons rv aC.nil));refine aL1 (hbody [] _ _ _ {nx:=λ_ _=>False,rt:=λv' H'=>∃F',aE (a8 as F) (a8 as H) F' H'/\aB K F' d v'} I ⟨_,_,RS,?_⟩) (λfl s' hs=>?_) λe s' hs=>hs.elim
 . show bX _ _ (g (bC N.length (dc++[dv]))) _;rw[hg];exact λv' F' H' st rp _=>⟨F',st,rp⟩
 . cases fl with
   |next=>obtain⟨_,_,_,q⟩:=hs;exact q.elim
   |brk=>obtain⟨_,_,_,q⟩:=hs;exact q.elim
   |cont=>obtain⟨_,_,_,q⟩:=hs;exact q.elim
   |ret u' =>
    obtain⟨v',_,H',J,rv',F',st,rd⟩:=hs;have sH:aD (a8 as H) H':=st.same
    let H5:Hp:=λb=>if b∈as then H b else H' b
    let F5:Hp:=λb=>if b∈as then F b else F' b
    have h5i:∀{b},b∈as->H5 b=H b:=λh=>if_pos h;have h5o:∀{b},¬ b∈as->H5 b=H' b:=λh=>if_neg h;have f5i:∀{b},b∈as->F5 b=F b:=λh=>if_pos h;have f5o:∀{b},¬ b∈as->F5 b=F' b:=λh=>if_neg h;have gone:∀b,b∈as->H' b=none:=λb hb=>by obtain⟨x,_,e,_⟩:=has b hb;exact J.freeC x b e
    have up:aD H' H5:=λb o e=>by rw[h5o];exact e;intro hb;rw[gone b hb]at e;cases e
    have upF:aD F' F5:=λb o e=>by rw[f5o];exact e;intro hb;have:=st.sub b o e;rw[gone b hb]at this;cases this
    have same:aD H H5:=λb o e=>by
     by_cases hb:b∈as
     . rw[h5i hb];exact e
     . rw[h5o hb];exact sH b o (by rw[hout hb];exact e)
    have st5:aE F H F5 H5:=⟨same,λb o e=>by
     by_cases hb:b∈as
     . rw[f5i hb];exact e
     . rw[f5o hb];exact st.fsame b o (by rw[hout hb];exact e),λb o e=>by
     by_cases hb:b∈as
     . rw[f5i hb]at e;rw[h5i hb];exact sF b o e
     . rw[f5o hb]at e;rw[h5o hb];exact st.sub b o e,λb q1 q2=>by
     by_cases hb:b∈as
     . rw[f5i hb];exact q1
     . rw[f5o hb];exact st.new b (by rw[hout hb];exact q1) (by rw[hout hb];exact q2)⟩
    have un:=J.base;refine⟨v',H5,J.os,J.bare,⟨λb o e n hb hx=>un.keep b o e (none0 b n) hb hx,λb o e n hb hx=>un.slot b o e (none0 b n) hb hx,λb o e n hx=>?_,un.there,λb xs e=>same _ _ e,λb o u e=>same _ _ e,λb ps e=>?_⟩,λb o e=>?_,rv',hq v' F5 H5 st5 (aB.mono upF _ _ rd)⟩
    . rw[h5o];exact un.free b o e (none0 b n) hx;intro hb;obtain⟨y,z⟩:=hcl b hb;rw[n]at z;cases z
    . obtain⟨more,q⟩:=un.tbls b ps (but b _ e nofun);exact⟨more,up _ _ q⟩
    . by_cases hb:b∈as
      . rw[h5i hb]at e;obtain⟨y,z⟩:=hcl b hb;rw[e]at z;cases z;obtain⟨u',⟨o',q1,q2⟩,q3⟩:=cellAt e;refine t0 ⟨o',un.keep b o' q1 (hin hb) (λz=>?_) (λz=>nomatch z),q2⟩ q3;have:=e0.frf b z;rw[e]at this;cases this
      . rw[h5o hb]at e;exact(J.hok b o e).stay (λ_ _ _ q=>q) (λd' q'=>up _ _ q') λd' t' q'=>up _ _ q'
def gY(P:aP4)(w:aP3)(K:Fg)(mg:SOV)(base:Heap)(k:Nat)(f0 n:Str)(Θ:List (Str×D)->D->Res):Prop :=
 ∀(A:aP2) (outer:List Env) (s:aP1) (F H:Hp) (u:aP0) (v:V) (fs:List (Str×D)) (dv d:D) (fa:Addr) (Q:VK),aX k A->dP P w K mg base A outer s H->aD F H->aB K F (.clo f0 n fs) (.ref fa)->aH v u->aB K F dv v->plD dv=true->Θ fs dv=.ok .fz d ->
  (∀v' F' H',aE F H F' H'->aB K F' d v'->Q v' H')->codeAny (model P w) A (.call (.ref fa) ⟨[u],[]⟩) (CR CX0 outer P w H s Q λ_ _ _=>False) s
theorem cK.all{K:Fg}{F:Hp}{cl:List (Str×Addr)}:∀{fs:List (Str×D)},cK K F fs cl->∃ys,aC K (a8 (clA cl) F) (fs.map (·.2)) ys/\∀(i:Nat) x y,(fs.map (·.1))[i]? = some x->ys[i]? = some y->∃a,cl.lookup x=some a/\F a=some (dQ a y)
 |[],_=>⟨[],aC.nil,λi x y e=>by simp at e⟩
 |(x,d)::fs,h=>by
  simp only[cK]at h;obtain⟨⟨a,y,e1,e2,r⟩,t⟩:=h;obtain⟨ys,rl,q⟩:=cK.all t;refine⟨y::ys,aC.cons r rl,λi x' y' h1 h2=>?_⟩;cases i with
  |zero=>cases h1;cases h2;exact⟨a,e1,e2⟩
  |succ i=>exact q i x' y' h1 h2
def d5(caps:List Str)(n:Nat)(g:Rho->aF):List (Str×D)->D->Res:=λfs dv=>if fs.map (·.1)=caps then(match g (bC n (fs.map (·.2)++[dv]))with|.rt .fz d=>.ok .fz d|_=>.stuck)else .stuck
def aF5{n rn:Str}{caps ls:List Str}{g:Rho->aF}(ck:iH K f0 n q (.FunctionDef n ⟨[],[⟨rn,none,ap⟩],none,[],[],none,[]⟩ body [] none [] scope none n pos))(kd:scope.kind=.function)(co:scope.isCoroutine=false)(gen:scope.isGenerator=false)(bV:∀y∈scope.names,y.2 ≠ .cell)(hfr:∀y∈scope.names,y.2=.free->y.1∈caps)(ec:∀y∈caps,scope.names.lookup y=some .free)(er:scope.names.lookup rn=some .local)(hbody:∀(F H:Hp) (A:aP2) (outer:List Env) (s:aP1) (cl:List (Str×Addr)) (f c:Addr),aX (k+1) A->PBv ⟨K,F,H,λ_ _ _=>False⟩ (gD P w K mg base (caps++rn::ls) q scope cl f (.ref c) A outer s H) body g):gY P w K mg base (k+1) f0 n (d5 caps (caps++rn::ls).length g):=by
 intro A outer s F H u v fs dv d fa Q hr e0 sF rep r rv hpl hΘ hq;simp only[aB]at rep;obtain⟨fa',c,name,q',st',doc,pm,ct,cl,ck',e,hf,hc,co',rc⟩:=rep;cases e;obtain⟨rfl,rfl⟩:=ck.one ck';have hf:F fa=some (dB fa (W.fnMade name q ⟨[],[⟨rn,none,ap⟩],none,[],[],none,[]⟩ body scope cl doc pm c ct)):=hf;unfold d5 at hΘ;split at hΘ;rotate_left
 . cases hΘ
 rename_i hcaps;obtain⟨ys,rl,hcap⟩:=rc.all;have hlen:caps.length=ys.length:=by rw[rl.length,<- hcaps];simp
 have only:∀x b,cl.lookup x=some b->b∈clA cl:=λx b e=>aL9.mpr ⟨(x,b),aMU e,e⟩;have has0:∀b∈clA cl,∃x y,cl.lookup x=some b/\F b=some (dQ b y):=λb hb=>by
  obtain⟨z,_,e⟩:=aL9.mp hb;obtain⟨i,hi,ei⟩:=aPJ (co'.1 _ _ e);have hi':i<ys.length:=by rw[<- hlen,<- hcaps];exact hi
  obtain⟨a,e1,e2⟩:=hcap i z.1 (ys[i]'hi') (by rw[aOC hi,ei]) (aOC _)
  rw[e]at e1;cases e1;exact⟨z.1,_,e,e2⟩
 have but:But F (a8 (clA cl) F):=λb o e n=>by
  rw[show a8 (clA cl) F b=F b from if_neg λhb=>(by
   obtain⟨x,y,_,z⟩:=has0 b hb;rw[e]at z;cases z;exact n _ rfl)]
  exact e
 cases er':g (bC (caps++rn::ls).length (fs.map (·.2)++[dv]))with
 |rt m d' =>
  rw[er']at hΘ;cases m with
  |fz =>
   cases hΘ;exact aF4 (E:=λ_ _ _=>False) kd co gen bV hfr ec er aF3 hr e0 (sF _ _ hf) (sF _ _ hc) (λi x y h1 h2=>by
    obtain⟨a,e1,e2⟩:=hcap i x y (by rw[hcaps];exact h1) h2
    exact⟨a,e1,sF _ _ e2⟩) hlen only (λb hb=>by
    obtain⟨x,y,e1,e2⟩:=has0 b hb;exact⟨x,y,e1,sF _ _ e2⟩) co'.2 r sF rl (aB.but but _ _ hpl rv) (hbody _ _ _ _ _ _ _ _ hr) er' hq
  |_=>cases hΘ
 |_=>rw[er']at hΘ;cases hΘ
def eX(Θ:Str->Str->List (Str×D)->D->Res)(r:Res)(a:aY):Res:=match r with
 |.ok .fz (.clo f n fs)=>a.thn λxs=>(match xs with
  |[(.fz,d)]=>if plD d=true then(match Θ f n fs d with|.ok .fz d'=>.ok .fz d'|_=>.stuck)else .stuck
  |_=>.stuck)
 |_=>.stuck
section
variable {e:Expr}{Θ:Str->Str->List (Str×D)->D->Res}
def aF6(CP:∀f n,gY X.prog X.w X.K X.mg X.base k f n (Θ f n))(hr:aX k X.A)(hv:PE X (.Name x p) (iD i))(ha:PAv C X [e] gs)(he:starEach [e] X.env=(false,eval e X.env)::starEach [] X.env):PV C X (.Call (.Name x p) [e] [] pos) (λρ=>eX Θ (aO ρ i) (gs ρ)):=by
 intro aA s σ H Q I h;rw[aV]at h;obtain⟨ρ,F,R,w⟩:=h;unfold eX at w;split at w;rotate_left
 . exact w.elim
 rename_i f n fs eg;have sl:ρ[i]? = some (some (false,.clo f n fs)):=by
  unfold aO at eg;split at eg
  . rename_i d q;cases eg;exact q
  . cases eg
  . cases eg
 obtain⟨v,ev,rv,_⟩:=R.slot i false _ sl;have rv:aB X.K F (.clo f n fs) v:=rv;have rv0:=rv;simp only[aB]at rv;obtain⟨fa,c,name,q,st,doc,pm,ct,cl,ck,rfl,hf,hc,co,rc⟩:=rv;have at':∀{s:aP1}{H:Hp},HOk X.prog X.w H s.heap->aD F H->W.FnAt fa s.heap:=λok sm=>⟨_,_,_,_,rE ok (sm _ _ hf)⟩;refine aM2 (thn (hv aA s σ H (λv' H'=>v'=.ref fa/\H'=H) I ⟨.ref fa,ev,rfl,rfl⟩) λu s0 ⟨v',H0,I0,ru,e1,e2⟩=>?_);subst e1 e2;obtain rfl:u=Value.ref fa:=ru;refine W.callWith_F (at' I0.hok R.sub) (thn (ha pos aA s0 σ H0 (λvs H1=>∃F1 v3 d3 d,aD F F1/\aD F1 H1/\vs=[v3]/\aB X.K F1 d3 v3/\plD d3=true/\Θ f n fs d3=.ok .fz d/\∀v' F' H',aE F1 H1 F' H'->aB X.K F' d v'->Q v' H') I0 ?_) λus s1 ⟨vs,H1,I1,r,F1,v3,d3,d,sF,s1F,ev3,t3,pl,hΘ,hq⟩=>⟨at' I1.hok (sF.trans s1F),?_⟩) he rfl
 . refine⟨ρ,F,R,?_⟩;cases er:gs ρ with
   |stuck=>rw[er]at w;exact w
   |exc c=>rw[er]at w;exact w
   |ok xs =>
    rw[er]at w;intro vs F1 H1 s1 r1;have w1:=aT.step s1 w;rw[aY.thn_ok]at w1;split at w1
    . rename_i d3;obtain⟨v3,_,rfl,q1,rfl⟩:=r1;split at w1
      . rename_i hpl;cases ep:Θ f n fs d3 with
        |stuck=>rw[ep]at w1;exact w1.elim
        |exc c=>rw[ep]at w1;exact w1.elim
        |ok m' d =>
         rw[ep]at w1;cases m' with
         |fz=>exact⟨F1,v3,d3,d,s1.fsame,s1.sub,rfl,q1,hpl,ep,λv' F' H' st rd=>w1 v' F' H' st rd (by nofun)⟩
         |_=>exact w1.elim
      . exact w1.elim
    . exact w1.elim
 . subst ev3;obtain⟨u3,rfl,r3⟩:=fA r;refine aOH (aNP (CP f n _ _ _ _ _ _ _ _ _ _ _ _ hr I1.env0 s1F (aB.mono sF _ _ rv0) r3 t3 pl hΘ hq) λr s' hq=>?_);cases r with
   |error e=>exact hq.elim
   |ok fl =>
    cases fl with
    |ret u=>exact I1.after hq
    |next=>exact False.elim hq
    |brk=>exact False.elim hq
    |cont=>exact False.elim hq
end
theorem n9 {env : Env} : ∀ (names : List (Str × NameKind)) (acc : List (Str × Addr)), (∀ y ∈ names, y.2 = .free → ∃ c, env.cells.lookup y.1 = some c) → (∀ y c, acc.lookup y = some c → env.cells.lookup y = some c) →
    ∃cl,(forIn names acc λ(x:Str×NameKind) (cs:List (Str×Addr))=>(if x.2 == .free then(do let c <- cellOf env x.1;pure (ForInStep.yield ((x.1,c)::cs)))else pure (ForInStep.yield cs):Sem (ForInStep (List (Str×Addr)))))=pure cl /\
     (∀y c,cl.lookup y=some c->env.cells.lookup y=some c/\((y,NameKind.free)∈names\/∃c,acc.lookup y=some c))/\(∀y c,acc.lookup y=some c->cl.lookup y=some c)/\∀y,(y,NameKind.free)∈names->∃c,cl.lookup y=some c
 |[],acc,_,ha=>⟨acc,by rw[aOD],λy c h=>⟨ha y c h,.inr ⟨c,h⟩⟩,λ_ _ h=>h,λ_ h=>by cases h⟩
 |(n,k)::r,acc,h,ha=>by
  rw[aOE];by_cases hk:k=.free
  . subst hk;obtain⟨c,ec⟩:=h (n,.free) mcs rfl;have hc:cellOf env n=pure c:=by unfold cellOf;rw[ec]
    have e:((if(NameKind.free==NameKind.free)=true then(do let c <- cellOf env n;pure (ForInStep.yield ((n,c)::acc)))else pure (ForInStep.yield acc)):Sem (ForInStep (List (Str×Addr))))=pure (ForInStep.yield ((n,c)::acc)):=by rw[if_pos (by decide),hc,aOF]
    obtain⟨cl,e1,e2,e3,e4⟩:=n9 (env:=env) r ((n,c)::acc) (λy hy=>h y (mcm hy)) (λy c' q=>by
     rw[aNY]at q;cases hyn:y==n with
     |true=>rw[hyn]at q;cases q;rw[aMG.mp hyn];exact ec
     |false=>rw[hyn]at q;exact ha y c' q)
    refine⟨cl,?_,λy c' q=>⟨(e2 y c' q).1,?_⟩,λy c' q=>?_,λy hy=>?_⟩
    . dsimp only;rw[e,aOF];exact e1
    . rcases(e2 y c' q).2 with z|⟨c2,z⟩
      . exact .inl (mcm z)
      . rw[aNY]at z;cases hyn:y==n with
        |true=>rw[aMG.mp hyn];exact .inl mcs
        |false=>rw[hyn]at z;exact .inr ⟨c2,z⟩
    . cases hyn:y==n with
      |true=>have:=aMG.mp hyn;subst this;have q':=ha y c' q;rw[ec]at q';cases q';exact e3 y c (by rw[aNY,hyn])
      |false=>exact e3 y c' (by rw[aNY,hyn];exact q)
    . rcases aLU.mp hy with z|z
      . cases z;exact⟨c,e3 n c (by rw[aNY,aOG])⟩
      . exact e4 y z
  . have e:((if(k==NameKind.free)=true then(do let c <- cellOf env n;pure (ForInStep.yield ((n,c)::acc)))else pure (ForInStep.yield acc)):Sem (ForInStep (List (Str×Addr))))=pure (ForInStep.yield acc):=by rw[if_neg (by simpa using hk)]
    obtain⟨cl,e1,e2,e3,e4⟩:=n9 (env:=env) r acc (λy hy=>h y (mcm hy)) ha;refine⟨cl,?_,λy c q=>⟨(e2 y c q).1,(e2 y c q).2.imp_left (aLH _)⟩,e3,λy hy=>?_⟩
    . dsimp only;rw[e,aOF];exact e1
    . rcases aLU.mp hy with z|z
      . cases z;exact absurd rfl hk
      . exact e4 y z
def ClF(env:Env)(scope:Scope)(cl:List (Str×Addr)):Prop:=(∀y c,cl.lookup y=some c->env.cells.lookup y=some c/\(y,NameKind.free)∈scope.names)/\∀y,(y,NameKind.free)∈scope.names->∃c,cl.lookup y=some c
def aF7(h:∀y∈scope.names,y.2=.free->∃c,env.cells.lookup y.1=some c):∃cl,closureFor scope env=pure cl/\ClF env scope cl:=by
 obtain⟨cl,e1,e2,_,e4⟩:=n9 (env:=env) scope.names [] h (λy c q=>by simp at q)
 refine⟨cl,?_,λy c q=>⟨(e2 y c q).1,(e2 y c q).2.resolve_right λ⟨_,z⟩=>by simp at z⟩,e4⟩
 unfold closureFor;rw[bind_pure];exact e1
inductive WRet where|nm (i:Nat)|ix (j:Nat)
structure bO where
 ps:List Str
 ws:List (Str×List Str)
 r:WRet
def bO.pick(I:bO)(ds:List D):Option Nat:=match I.r with
 |.nm i=>some i
 |.ix j=>match ds[j]? with|some (.int z)=>L2.ixN I.ws.length z|_=>none
def gE(ps:List Str)(ds:List D)(x:Str):Option D:=(ps.zip ds).lookup x
end D3
variable {I:D3.bO}
namespace D3
def bO.dat(I:bO)(f0:Str)(ps:List Str)(ds:List D)(x:Str):D:=match gE ps ds x with
 |some d=>d
 |none=>match I.ws.lookup x with
  |some caps=>.clo f0 x (caps.map λz=>(z,(gE ps ds z).getD .non))
  |none=>.non
def bO.out(I:bO)(f0:Str)(ps:List Str)(ds:List D):Option D:=(I.pick ds).bind λi=>(I.ws[i]?).map λz=>.clo f0 z.1 (z.2.map λx=>(x,I.dat f0 ps ds x))
def bO.ok(I:bO)(ps:List Str):Bool:=I.ws.all λz=>z.2.all λx=>ps.contains x||(match I.ws.lookup x with|some c'=>c'.all λy=>ps.contains y&&!z.2.contains y|none=>false)
def W1(sc:Scope)(q:Str)(z:Str×List Str)(st:Stmt):Prop:=∃rn ap body scope pos,st=.FunctionDef z.1 ⟨[],[⟨rn,none,ap⟩],none,[],[],none,[]⟩ body [] none [] scope none z.1 pos/\jB (q ++ ".<locals>.") pos.line=z.1/\z.1 ≠ "" /\
 (sc.names.lookup z.1=some .local\/sc.names.lookup z.1=some .cell)/\(∀y,(y,NameKind.free)∈scope.names->y∈z.2)/\∀y∈z.2,(y,NameKind.free)∈scope.names/\sc.names.lookup y=some .cell
def WsP(sc:Scope)(q:Str):List (Str×List Str)->List Stmt->Prop
 |[],l=>l=[]
 |z::zs,l=>∃st r,l=st::r/\W1 sc q z st/\WsP sc q zs r
theorem WsP.len:∀{zs:List (Str×List Str)}{l:List Stmt},WsP sc q zs l->l.length=zs.length
 |[],l,h=>congrArg List.length (show l=[]from h)
 |z::zs,_,⟨st,r,e,_,t⟩=>by rw[e,aMH,aMH,t.len]
theorem WsP.at:∀{zs:List (Str×List Str)}{l:List Stmt}{i:Nat}{z:Str×List Str},WsP sc q zs l->zs[i]? = some z->∃st,l[i]? = some st/\W1 sc q z st
 |[],_,_,_,_,e=>by simp at e
 |z::zs,_,0,_,⟨st,r,e,w,t⟩,h=>by cases h;exact⟨st,by rw[e];rfl,w⟩
 |z::zs,_,i+1,_,⟨st,r,e,w,t⟩,h=>by obtain⟨st',e',w'⟩:=t.at (i:=i) h;exact⟨st',by rw[e];exact e',w'⟩
theorem WsP.find{l':List Stmt}:∀{zs:List (Str×List Str)}{l:List Stmt}{i:Nat}{z:Str×List Str}{st:Stmt},WsP sc q zs l->(zs.map (·.1)).Nodup->zs[i]? = some z->l[i]? = some st->(l++l').find? (λs=>fT s==z.1)=some st
 |[],_,_,_,_,_,_,e,_=>by simp at e
 |z::zs,_,0,_,_,⟨st,r,e,w,t⟩,nd,h,h2=>by subst e;cases h;cases h2;obtain⟨_,_,_,_,_,rfl,_⟩:=w;exact List.find?_cons_of_pos (aOG _)
 |z::zs,_,i+1,z',_,⟨st,r,e,w,t⟩,nd,h,h2=>by
  subst e;obtain⟨_,_,_,_,_,rfl,_⟩:=w;rw[aMI,aMQ]at nd;have hne:z.1≠z'.1:=λx=>nd.1 (by rw[x];exact aPE.mpr ⟨z',aMZ h,rfl⟩)
  rw[aNQ,List.find?_cons_of_neg (by show ¬ (z.1==z'.1)=true;simpa using hne)]
  exact t.find nd.2 h h2
structure t9(X:Cx)(H':Hp)(st:Stmt)(g:Addr):Prop where
 ex:∃c doc pm ct clos,ClF X.env (bA st) clos/\H' c=some (.crec (X.env.qual++fT st))/\H' g=some (dB g (W.fnMade (fT st) (X.env.qual++fT st) (iG st) (cQ st) (bA st) clos doc pm c ct))
def iU(X:Cx)(H0 H':Hp):List Stmt->List Addr->Prop
 |[],gs=>gs=[]
 |st::r,gs=>∃g gs',gs=g::gs'/\H0 g=none/\t9 X H' st g/\iU X H0 H' r gs'
theorem iU.at:∀{l:List Stmt}{gs:List Addr}{i:Nat}{st:Stmt},iU X H0 H' l gs->l[i]? = some st->∃g,gs[i]? = some g/\H0 g=none/\t9 X H' st g
 |[],_,_,_,_,e=>by simp at e
 |z::zs,_,0,_,⟨g,r,e,n,w,t⟩,h=>by cases h;exact⟨g,by rw[e];rfl,n,w⟩
 |z::zs,_,i+1,_,⟨g,r,e,n,w,t⟩,h=>by obtain⟨st',e',w'⟩:=t.at (i:=i) h;exact⟨st',by rw[e];exact e',w'⟩
theorem iU.len:∀{l:List Stmt}{gs:List Addr},iU X H0 H' l gs->gs.length=l.length
 |[],l,h=>congrArg List.length (show l=[]from h)
 |z::zs,_,⟨st,r,e,_,_,t⟩=>by rw[e,aMH,aMH,t.len]
theorem uA{X:Cx}{q:Str}{H0:Hp}(hN:X.N.Nodup)(hcd:W.codeIn X.K X.env.code q=true)(hq:X.env.qual=q ++ ".<locals>.")(hf:∀x,X.fn x=true)(hh:∀y,X.env.scope.names.lookup y=some .cell->∃c,X.env.cells.lookup y=some c){rest:List Stmt}{Q:Flow->aP1->Prop}:∀(zs:List (Str×List Str)) (ws:List Stmt) (pre:List V) (m:Nat) (s:aP1) (H:Hp),WsP X.env.scope q zs ws->(∀(i:Nat) z,zs[i]? = some z->X.N[pre.length+i]? = some z.1)->Inv X [] (pre.map some++List.replicate (ws.length+m) none) H s->aD H0 H->(∀gs H' s',Inv X [] ((pre++gs.map V.ref).map some++List.replicate m none) H' s'->aD H H'->iU X H0 H' ws gs->wpAny (model X.prog X.w) X.A (execs rest X.env) Q X.xe s')->wpAny (model X.prog X.w) X.A (execs (ws++rest) X.env) Q X.xe s
 |[],ws,pre,m,s,H,hw,hn,I,s0,k=>by obtain rfl:ws=[]:=hw;exact k [] H s (by simpa using I) (aD.refl _) rfl
 |z::zs,ws,pre,m,s,H,hw,hn,I,s0,k=>by
  obtain⟨st,r,rfl,w,t⟩:=hw;obtain⟨rn,ap,body,scope,pos,rfl,hin,hne,hk,h1,h2⟩:=w;obtain⟨clos,hcl,cf⟩:=aF7 (scope:=scope) (env:=X.env) λy hy e=>hh _ (h2 y.1 (h1 y.1 (by rw[<- e];exact hy))).2
  have hg:(X.env.kindOf z.1==some .globalExplicit)=false:=by have hk':X.env.kindOf z.1=some .local\/X.env.kindOf z.1=some .cell:=hk;rcases hk' with e|e <;> rw[e] <;> rfl
  have nx:X.N[pre.length]? = some z.1:=hn 0 z rfl;have e2:PS X (.FunctionDef z.1 ⟨[],[⟨rn,none,ap⟩],none,[],[],none,[]⟩ body [] none [] scope none z.1 pos) _:=aF1 hN nx hk (.inl (hf z.1)) hcd hq hin hcl rfl rfl rfl hg;refine aL4 (thn (e2 [] s _ H {nx:=λσ' H'=>∃f c doc pm ct,aD H H'/\H f=none/\H' c=some (.crec (X.env.qual++z.1))/\H' f=some (dB f (W.fnMade z.1 (X.env.qual++z.1) ⟨[],[⟨rn,none,ap⟩],none,[],[],none,[]⟩ body scope clos doc pm c ct))/\σ'=(pre++[V.ref f]).map some++List.replicate (r.length+m) none,rt:=λ_ _=>False} I λf c doc pm ct H' a1 a2 a3 a4=>⟨f,c,doc,pm,ct,a1,a2,a3,a4,?_⟩) λfl s2 q=>?_)
  . rw[aMH,show r.length+1+m=(r.length+m)+1 by lia,List.replicate_succ,List.set_append_right _ _ (by simp)]
    simp
  . cases fl with
    |ret u=>obtain⟨_,_,_,_,_,q⟩:=q;exact q.elim
    |brk=>obtain⟨_,_,_,q⟩:=q;exact q.elim
    |cont=>obtain⟨_,_,_,q⟩:=q;exact q.elim
    |next =>
     obtain⟨σ2,H2,I2,f,c,doc,pm,ct,a1,a2,a3,a4,rfl⟩:=q;refine uA hN hcd hq hf hh zs r (pre++[V.ref f]) m s2 H2 t (λi z' e=>?_) I2 (s0.trans a1) λgs H' s' I' b1 b2=>k (f::gs) H' s' (by simpa using I') (a1.trans b1) ⟨f,gs,rfl,s0.free a2,⟨c,doc,pm,ct,clos,cf,b1 _ _ a3,b1 _ _ a4⟩,b2⟩
     rw[aM0,aNM,aNR,Nat.add_comm 1];exact hn (i+1) z' e
def spW(K:Fg)(f0:Str)(ps:List Str)(I:bO):Sp:=λvs H Q _=>vs.length=ps.length/\∃F ds d,aD F H/\aC K F ds vs/\I.out f0 ps ds=some d/\∀F' H' v,aE F H F' H'->aB K F' d v->Q v H'
theorem uB{K:Fg}{G:Hp}{cl:List (Str×Addr)}{φ:Str->D}:∀{l:List Str},(∀x∈l,∃a y,cl.lookup x=some a/\G a=some (dQ a y)/\aB K (a8 (clA cl) G) (φ x) y)->cK K G (l.map λx=>(x,φ x)) cl
 |[],_=>by simp only[aNN,cK]
 |x::l,h=>by simp only[aMI,cK];exact⟨h x mcs,uB λy hy=>h y (mcm hy)⟩
theorem uC{K:Fg}{F:Hp}:∀(gs:List Addr),aC K F (gs.map D.ob) (gs.map V.ref)
 |[]=>aC.nil
 |g::gs=>aC.cons (by simp only[aB]) (uC gs)
def aF8(nd:ps.Nodup)(hl:ds.length=ps.length)(h:ps[i]? = some x):∃d,ds[i]? = some d/\gE ps ds x=some d:=by
 induction ps generalizing ds i with
 |nil=>simp at h
 |cons p ps ih =>
  cases ds with
  |nil=>simp at hl
  |cons d ds =>
   unfold gE at *;rw[aON,aNY];cases i with
   |zero=>cases h;exact⟨d,rfl,by rw[aOG]⟩
   |succ i =>
    have h:ps[i]? = some x:=h;rw[aMQ]at nd;have hx:(x==p)=false:=by rw[aLJ];intro z;exact nd.1 (z ▸ aMZ h)
    rw[hx];obtain⟨d',e1,e2⟩:=ih nd.2 (by simpa using hl) h
    exact⟨d',e1,e2⟩
def aF9(h:x∉ps):gE ps ds x=none:=by
 unfold gE
 induction ps generalizing ds with
 |nil=>rfl
 |cons p ps ih =>
  cases ds with
  |nil=>rfl
  |cons d ds=>rw[aON,aNY];rw[aLU,not_or]at h;rw[aLJ.mpr h.1];exact ih h.2
open Classical in
def aGA{f:Addr}{N:List Str}{ws:List Stmt}{e:Expr}{b2:Pos}(ns:W.nsIn K mainGlobals f0=some (some (.ref f)))(F:Fun K x qual st f fd)(S:jK N ps (bA st))(hb0:cQ st=ws++[.Return (some e) b2])(hN:N=ps++I.ws.map (·.1))(hw:WsP (bA st) qual I.ws ws)(hok:I.ok ps=true)(hret:∀(cdv:aP0) (A:aP2) (outer:List Env) (s:aP1) (H:Hp) (E:XK) (C:Cw),aX k (A.deeper (envOfC qual (bA st) s.heap.objs.size f cdv))->PV C (bZ (CX1 P w) P w K mg base N qual (bA st) f cdv A outer s H E) e g)(hg:∀(ds:List D) (gs:List Addr) i g0,ds.length=ps.length->gs.length=I.ws.length->I.pick ds=some i->gs[i]? = some g0->g (bC N.length (ds++gs.map D.ob))=.ok .fz (.ob g0)):bH P w K mg base (CX1 P w) (k+1) f fd ps (spW K f0 ps I):=by
 obtain⟨ocl,od,kV,doc0,pm0,an,cdv,ct0,osl,rfl,lk,hcd⟩:=F.ex;refine⟨λvs H Q E h=>h.1,λA outer s H args us vs Q E hr e0 hb r hsp=>?_⟩;obtain⟨hvl,F0,ds,d0,sF,rl,hout,w0⟩:=hsp;have hdl:ds.length=ps.length:=by rw[<- rl.length];exact hvl
 obtain⟨i0,hpick,hout⟩:=Option.bind_eq_some_iff.mp hout;obtain⟨z0,hz0,hout⟩:=aOU.mp hout;have KX:K.In s.heap:=e0.mod.kin.keeps λb o e=>(e0.bs b o e).1;have lim:s.heap.NoLimit:=e0.mod.nolimit.keeps λb o e=>(e0.bs b o e).1;have cJ:∀y∈ps.zip us,(bA st).names.lookup y.1=some .local\/((bA st).names.lookup y.1=some .cell/\((cellsFrom (s.heap.objs.size+1) (bA st).names []).lookup y.1).isSome=true):=λ⟨n,v⟩ hy=>by
  rcases S.par n (aMR hy).1 with q|q
  . exact .inl q
  . exact .inr ⟨q,aMS _ _ _ (.inl q)⟩
 refine aM1 hr.depth (KX _ _ lk) rfl S.co S.gen rfl (W.codeRec_of KX hcd) (hb _ _ _ _ ?_);refine wpAny_newFunctionEnv_cells S.kind cJ λenv he s1 x1=>?_;subst he;refine⟨lim.keeps x1.toInCall.keep,codeAny_func ?_⟩;have I1:Inv (bZ (CX1 P w) P w K mg base N qual (bA st) f cdv A outer s H E) [] (bM N vs) H s1:=qR S hr.hd e0 hvl r x1
 let X:=bZ (CX1 P w) P w K mg base N qual (bA st) f cdv A outer s H E
 have nd:X.N.Nodup:=S.nd;have hNl:N.length=ps.length+ws.length:=by rw[hN,hw.len];simp
 have ndp:ps.Nodup:=by have:=S.nd;rw[hN]at this;exact(aPK.mp this).1
 have ndw:(I.ws.map (·.1)).Nodup:=by have:=S.nd;rw[hN]at this;exact(aPK.mp this).2.1
 have hqual:X.env.qual=qual ++ ".<locals>." := rfl;have st0:bM N vs=vs.map some++List.replicate (ws.length+0) none:=by unfold L2.bM;rw[hNl,hvl];simp
 have main:wpAny (model P w) X.A (execs (cQ st) X.env) (λfl s'=>∃u,fl=.ret u/\L2.CE outer P w H s Q u s') X.xe s1:=by
  rw[hb0];refine uA (q:=qual) (H0:=H) (Q:=λfl s'=>∃u,fl=.ret u/\L2.CE outer P w H s Q u s') nd hcd rfl (λ_=>rfl) (λy hy=>I1.ok.has y (.inl hy)) I.ws ws vs 0 s1 H hw (λi z e=>?_) (by rw[<- st0];exact I1) (aD.refl _) λgs H' s2 I2 sH hd=>?_
  . show N[vs.length+i]? = some z.1;rw[hN,hvl,aMV (aPL _ _),aPM,aMY,e];rfl
  have hgl:gs.length=I.ws.length:=by rw[hd.len,hw.len]
  obtain⟨g0,hg0⟩:∃g0,gs[i0]? = some g0:=by
   have:i0<gs.length:=by rw[hgl];exact(aLX.mp hz0).1
   exact⟨_,aOC this⟩
  have vl:(vs++gs.map V.ref).length=N.length:=by rw[hN];simp[hvl,hgl]
  have est:bM N (vs++gs.map V.ref)=(vs++gs.map V.ref).map some++List.replicate 0 none:=by unfold L2.bM;rw[vl,Nat.sub_self]
  have RS:aR K H' H' H' H' (bM N (vs++gs.map V.ref)) (bC N.length (ds++gs.map D.ob)):=nG (aD.refl _) ((rl.mono (sF.trans sH) _ _).append (uC gs));rw[est]at RS;refine aL4 (wpAny_Return_some (thn (hret cdv A outer s H E ⟨K,H',H',λ_ _ _=>False⟩ (hr.deeper _) [] s2 _ H' (λv H4=>v=.ref g0/\aD H' H4) I2 ?_) λu s4 ⟨v,H4,I4,rv,ev,sH4⟩=>?_))
  . rw[aV];refine⟨_,H',RS,?_⟩;rw[hg ds gs i0 g0 hdl hgl hpick hg0];intro v F2 H2 s2' rp _;have rp:aB K F2 (.ob g0) v:=rp;simp only[aB]at rp;exact⟨rp,s2'.same⟩
  subst ev;refine⟨u,rfl,?_⟩
  let vals:=vs++gs.map V.ref
  let PP:Addr->V->Prop:=λb v=>∃(i:Nat) (y:Str),N[i]? = some y/\vals[i]? = some v/\(bA st).names.lookup y=some .cell/\X.env.cells.lookup y=some b
  have uniq:∀{b v v'},PP b v->PP b v'->v=v':=λ{b v v'} ⟨i,y,h1,h2,_,h4⟩ ⟨i',y',h1',h2',_,h4'⟩=>by have:=I4.ok.inj y y' b h4 h4';subst this;have hi:i<N.length:=(aLX.mp h1).1;have:=(aPN hi S.nd).mp (h1.trans h1'.symm);subst this;rw[h2]at h2';cases h2';rfl
  let H5:Hp:=λb=>if h:∃v,PP b v then some (dQ b h.choose)else H4 b
  have h5P:∀{b v},PP b v->H5 b=some (dQ b v):=λ{b v} h=>by have hx:∃v,PP b v:=⟨v,h⟩;show(if h:∃v,PP b v then some (dQ b h.choose)else H4 b)=_;rw[dif_pos hx,uniq hx.choose_spec h]
  have h5n:∀{b},¬ (∃v,PP b v)->H5 b=H4 b:=λh=>dif_neg h;have cell4:∀{b v},PP b v->H4 b=none:=λ⟨_,y,_,_,_,h4⟩=>I4.freeC y _ h4;have cellge:∀{b v},PP b v->s.heap.objs.size<=b:=λ⟨_,y,_,_,_,h4⟩=>I4.ok.cab y _ rfl h4;have cell0:∀{b v},PP b v->H b=none:=λh=>e0.hok.fresh (cellge h);have s45:aD H4 H5:=λb o e=>by
   rw[h5n λ⟨v,h⟩=>by rw[cell4 h]at e;cases e]
   exact e
  have hH4:aD H H4:=sH.trans sH4;have H05:aD H H5:=hH4.trans s45;have hok5:HOk P w H5 s4.heap:=λb o e=>by
   by_cases hp:∃v,PP b v
   . obtain⟨v,h⟩:=hp;rw[h5P h]at e;cases e;obtain⟨i,y,h1,h2,h3,h4⟩:=h;obtain⟨m,_,hl⟩:=id I4.loc;have h1:X.N[i]? = some y:=h1;obtain⟨u',ru,lu⟩:=hl i y v h1 (by rw[aMX (by rw[aMJ,vl];exact(aLX.mp h1).1),aMY,h2];rfl) (.inr (.inl h3))
     rcases lu with⟨k1,_⟩|⟨_,c,k1,k2⟩
     . have k1:(bA st).names.lookup y=some .local:=k1;rw[h3]at k1;cases k1
     . rw[h4]at k1;cases k1;exact t0 k2 ru
   . rw[h5n hp]at e;exact(I4.hok b o e).stay (λ_ _ _ q=>q) (λd q=>s45 _ _ q) λd y q=>s45 _ _ q
  have un:=I4.base;refine⟨.ref g0,H5,I4.os,I4.bare,⟨un.keep,un.slot,λb o q1 q2 q3=>?_,un.there,λb xs q=>s45 _ _ (un.tups b xs q),λb o u q=>s45 _ _ (un.frzs b o u q),λb ps q=>?_⟩,hok5,rv,?_⟩
  . rw[h5n λ⟨v,h⟩=>absurd (aLL q1) (Nat.not_lt.mpr (cellge h))];exact un.free b o q1 q2 q3
  . obtain⟨more,e⟩:=un.tbls b ps q;exact⟨more,s45 _ _ e⟩
  let F5:Hp:=λb=>match F0 b with|some o=>some o|none=>if dR (H b)then H5 b else none
  have f5s:∀{b o},F0 b=some o->F5 b=some o:=λ{b o} e=>by
   show(match F0 b with|some o=>some o|none=>_)=_
   rw[e]
  have f5n:∀{b},F0 b=none->F5 b=if dR (H b)then H5 b else none:=λ{b} e=>by
   show(match F0 b with|some o=>some o|none=>_)=_
   rw[e]
  have inF:∀{b},dR (H b)->F5 b=H5 b:=λ{b} h=>by
   cases e:F0 b with
   |some o=>rw[f5s e,H05 b o (sF b o e)]
   |none=>rw[f5n e,if_pos h]
  have sub5:aD F5 H5:=λb o e=>by
   cases e0:F0 b with
   |some o'=>rw[f5s e0]at e;cases e;exact H05 _ _ (sF _ _ e0)
   |none =>
    rw[f5n e0]at e;split at e
    . exact e
    . cases e
  have st5:aE F0 H F5 H5:=⟨H05,λb o e=>f5s e,sub5,λb q1 q2=>by rw[f5n q1,if_neg q2]⟩
  have mM : ∀ (m : Nat) (z : Str × List Str) (gm : Addr) (G : Hp) (φ : Str → D), I.ws[m]? = some z → gs[m]? = some gm → (∀ b, dR (H b) → (∀ v, ¬ PP b v) → G b = F5 b) → (∀ x ∈ z.2, ∀ b, X.env.cells.lookup x = some b → G b = F5 b) →
      (∀cl,ClF X.env (bA ((ws[m]?).getD default)) cl->∀x∈z.2,∀i v,N[i]? = some x->vals[i]? = some v->aB K (a8 (clA cl) G) (φ x) v)->aB K G (.clo f0 z.1 (z.2.map λx=>(x,φ x))) (.ref gm):=λm z gm G φ hz hgm hG hGc hφ=>by
   obtain⟨stm,hstm,w1⟩:=hw.at hz;obtain⟨g',hg',hn,⟨c,doc,pm,ct,cl,cf,hc,hf'⟩⟩:=hd.at hstm;rw[hgm]at hg';cases hg';have hfind:(cQ st).find? (λs=>fT s==z.1)=some stm:=by rw[hb0];exact hw.find ndw hz hstm
   obtain⟨rn,ap,body,scope,pos,rfl,hin,hne,hk,h1,h2⟩:=w1;rw[hstm]at hφ;have nc:∀{b o},H' b=some o->∀v,¬ PP b v:=λ{b o} e v h=>by have:=sH4 b o e;rw[cell4 h]at this;cases this
   have sc:dR (H c):=by
    cases e:H c with
    |none=>exact .no
    |some o=>rw[sH c o e]at hc;cases hc;exact .cr
   have toF:∀{b o},dR (H b)->H' b=some o->G b=some o:=λ{b o} hs e=>by rw[hG b hs (nc e),inF hs];exact s45 _ _ (sH4 _ _ e)
   simp only[aB];refine⟨gm,c,z.1,qual ++ ".<locals>." ++ z.1,_,doc,pm,ct,cl,⟨x,qual,st,f,_,ns,F,by rw[if_neg hne];exact hfind,rfl⟩,rfl,toF (fU hn) hf',toF sc hc,⟨λy c hy=>?_,λy y' c hy hz=>I4.ok.inj y y' c (cf.1 y c hy).1 (cf.1 y' c hz).1⟩,uB λy hy=>?_⟩
   . rw[aPF];exact aPE.mpr ⟨y,h1 y (cf.1 y c hy).2,rfl⟩
   . obtain⟨a,ea⟩:=cf.2 y (h2 y hy).1;have ec:=(cf.1 y a ea).1;have hyN:y∈N:=by
       have:=aPG.mp (aPG.mp hok z (aMZ hz)) y hy;rw[aN1,aPO]at this;rw[hN];rcases this with q|q
       . exact aLW _ q
       . refine aMA _ ?_;split at q
         . rename_i c' e';exact aPE.mpr ⟨_,aMU e',rfl⟩
         . cases q
     obtain⟨i,hi,ei⟩:=aPJ hyN;have e1:N[i]? = some y:=by rw[aOC hi,ei]
     have e2:vals[i]? = some (vals[i]'(by show i<(vs++gs.map V.ref).length;rw[vl];exact hi)):=aOC _
     have hp:PP a _:=⟨i,y,e1,e2,(h2 y hy).2,ec⟩;exact⟨a,_,ea,by rw[hGc y hy a ec,inF (fU (cell0 hp))];exact h5P hp,hφ cl cf y hy i _ e1 e2⟩
  have par:∀{x:Str}{i:Nat}{v:V},x∈ps->N[i]? = some x->vals[i]? = some v->∃d,gE ps ds x=some d/\aB K F0 d v:=λ{x i v} hx h1 h2=>by
   obtain⟨j,hj,ej⟩:=aPJ hx;have e1:ps[j]? = some x:=by rw[aOC hj,ej]
   have e2:N[j]? = some x:=by rw[hN,aMX hj];exact e1
   have:=(aPN (aLX.mp h1).1 S.nd).mp (h1.trans e2.symm);subst this;obtain⟨d,e3,e4⟩:=aF8 ndp hdl e1;refine⟨d,e4,?_⟩;have e5:vs[i]? = some v:=by rw[<- h2];exact(aMX (by rw[hvl];exact hj)).symm
   obtain⟨v',e6,rv'⟩:=rl.get' e3;rw[e5]at e6;cases e6;exact rv'
  have fG:∀{cl sc G},ClF X.env sc cl->(∀y,(y,NameKind.free)∈sc.names->(bA st).names.lookup y=some .cell/\y∈N)->aD F0 G->aD F0 (a8 (clA cl) G):=λ{cl sc G} cf hc hs b o e=>by
   rw[show a8 (clA cl) G b=G b from if_neg λhb=>(by
    obtain⟨z,_,ez⟩:=aL9.mp hb;obtain⟨q1,q2⟩:=cf.1 _ _ ez;obtain⟨i,hi,ei⟩:=aPJ (hc _ q2).2;have hp:PP b _:=⟨i,z.1,by rw[aOC hi,ei],aOC (by show i<(vs++gs.map V.ref).length;rw[vl];exact hi),(hc _ q2).1,q1⟩
    have:=cell0 hp;rw[sF b o e]at this;cases this)]
   exact hs b o e
  have frees:∀{m:Nat}{z:Str×List Str},I.ws[m]? = some z->∀y,(y,NameKind.free)∈(bA ((ws[m]?).getD default)).names->((bA st).names.lookup y=some .cell/\y∈N)/\y∈z.2:=λ{m z} hz y hy=>by
   obtain⟨stm,hstm,w1⟩:=hw.at hz;rw[hstm]at hy;obtain⟨rn,ap,body,scope,pos,rfl,hin,hne,hk,h1,h2⟩:=w1;have hy2:=h1 y hy;refine⟨⟨(h2 y hy2).2,?_⟩,hy2⟩;have:=aPG.mp (aPG.mp hok z (aMZ hz)) y hy2;rw[aN1,aPO]at this;rw[hN];rcases this with q|q
   . exact aLW _ q
   . refine aMA _ ?_;split at q
     . rename_i c' e';exact aPE.mpr ⟨_,aMU e',rfl⟩
     . cases q
  refine w0 F5 H5 (.ref g0) st5 ?_;rw[<- hout];refine mM i0 z0 g0 F5 _ hz0 hg0 (λ_ _ _=>rfl) (λ_ _ _ _=>rfl) λcl cf y hy i v h1 h2=>?_;have ho:=aPG.mp (aPG.mp hok z0 (aMZ hz0)) y hy;by_cases hyp:y∈ps
  . obtain⟨d,e1,e2⟩:=par hyp h1 h2;have:I.dat f0 ps ds y=d:=by unfold bO.dat;rw[e1]
    rw[this];exact aB.mono (fG cf (λy hy=>(frees hz0 y hy).1) st5.fsame) _ _ e2
  . rw[aN1,aPO]at ho;have ho:=ho.resolve_left hyp;split at ho;rotate_left
    . cases ho
    rename_i c' e';have:I.dat f0 ps ds y=.clo f0 y (c'.map λz=>(z,(gE ps ds z).getD .non)):=by unfold bO.dat;rw[aF9 hyp];dsimp only;rw[e']
    rw[this];obtain⟨m,hm,em⟩:=aPJ (aMU e');have hzm:I.ws[m]? = some (y,c'):=by rw[aOC hm,em]
    have hNm:N[ps.length+m]? = some y:=by rw[hN,aMV (aPL _ _),aPM,aMY,hzm];rfl
    have:=(aPN (aLX.mp h1).1 S.nd).mp (h1.trans hNm.symm);subst this;obtain⟨gm,hgm⟩:∃gm,gs[m]? = some gm:=⟨_,aOC (by rw[hgl];exact hm)⟩
    obtain rfl:v=.ref gm:=by
     have h2:(vs++gs.map V.ref)[ps.length+m]? = some v:=h2;rw[aMV (by rw[hvl];exact aPL _ _),hvl,aPM,aMY,hgm]at h2
     cases h2;rfl
    have mem:∀{b},b∈clA cl->∃v,PP b v:=λ{b} hb=>by obtain⟨z,_,ez⟩:=aL9.mp hb;obtain⟨q1,q2⟩:=cf.1 _ _ ez;obtain⟨⟨q3,q4⟩,_⟩:=frees hz0 _ q2;obtain⟨i,hi,ei⟩:=aPJ q4;exact⟨_,i,z.1,by rw[aOC hi,ei],aOC (by show i<(vs++gs.map V.ref).length;rw[vl];exact hi),q3,q1⟩
    refine mM m (y,c') gm _ _ hzm hgm (λb _ hb=>if_neg λz=>?_) (λx' hx' b hb=>if_neg λz=>?_) λcl' cf' x' hx' i' v' h1' h2'=>?_
    . obtain⟨v,h⟩:=mem z;exact hb v h
    . obtain⟨z',_,ez⟩:=aL9.mp z;obtain⟨q1,q2⟩:=cf.1 _ _ ez;have:=I4.ok.inj _ _ b q1 hb;have hq:=(frees hz0 _ q2).2;rw[this]at hq;have h3:=aPG.mp ho x' hx';rw[aNI,aPP]at h3;rw[aPO.mpr hq]at h3;cases h3.2
    . have h3:=aPG.mp ho x' hx';rw[aNI,aPO]at h3;obtain⟨d,e1,e2⟩:=par h3.1 h1' h2';rw[e1];exact aB.mono (fG cf' (λy hy=>(frees hzm y hy).1) (fG cf (λy hy=>(frees hz0 y hy).1) st5.fsame)) _ _ e2
 exact aL1 main (λfl s' ⟨u,e,c⟩=>by subst e;exact c) λe s' hs=>hs
def oA{n:Str}:gY P w K mg base k f0 n λ_ _=>.stuck:=λ_ _ _ _ _ _ _ _ _ _ _ _ _ _ _ _ _ _ _ h=>by cases h
structure FnW(P:aP4)(w:aP3)(K:Fg)(mg:SOV)(base:Heap)(CX:CXT)(k:Nat)(x:Str)(I:bO):Prop where
 ex:∃f fd,bH P w K mg base CX k f fd I.ps (spW K x I.ps I)/\mg x=some (.ref f)/\W.keepIn K (.ref f)=true/\cB K fd I.ps []
def gZ(f:Str)(I:Option bO)(r:aY):Res:=match I with
 |some I=>r.thn λxs=>(match bU xs with
  |some ds=>if ds.length=I.ps.length then(match I.out f I.ps ds with|some d=>.ok .fz d|none=>.stuck)else .stuck
  |none=>.stuck)
 |none=>.stuck
section
variable {e:Expr}{es:List Expr}
def aGB(F:FnW X.prog X.w X.K X.mg X.base CX k x I)(hr:aX k X.A)(hx:XOk CX (C.at X) X)(hg:Gl X x)(ha:PAv C X (e::es) gs)(hdb:(x==("__debug__":Str))=false)(he:starEach (e::es) X.env=(false,eval e X.env)::starEach es X.env)(hpl:(backTo pos (starEach es X.env)).any (·.1)=false):PV C X (.Call (.Name x p) (e::es) [] pos) (λρ=>gZ x (some I) (gs ρ)):=by
 obtain⟨f,fd,FF,hm,hk,hb⟩:=F.ex;intro aA s σ H Q I0 h;rw[aV]at h;obtain⟨ρ,F,R,w⟩:=h;refine aM2 (jC I0 hg hm ?_ hdb);refine aOI (h₀:=X.base) I0.ok.mod.kin hk (thn (ha pos aA s σ H (λvs H1=>spW X.K x I.ps I vs H1 Q λu _ H'=>∃c,X.mg c=some u/\C.EE c σ H') I0 ?_) λus s1 ⟨vs,H1,I1,r,q⟩=>⟨I1.kIn,run_S FF hr hb (λe s' hc=>hx aA σ H1 s1 e s' I1 hc) I1 r q⟩) he hpl;refine⟨ρ,F,R,?_⟩;cases er:gs ρ with
 |stuck=>rw[er]at w;exact w
 |exc c=>rw[er]at w;exact w
 |ok xs =>
  rw[er]at w;intro vs F1 H1 s1 r1;have w1:aT (C.at X) F1 H1 σ (gZ x (some I) (.ok xs)) Q:=aT.step s1 w;unfold gZ at w1;dsimp only at w1;rw[aY.thn_ok]at w1;split at w1
  . rename_i ds eds;split at w1
    . rename_i hl;cases eo:I.out x I.ps ds with
      |none=>rw[eo]at w1;exact w1.elim
      |some d=>rw[eo]at w1;have rl:aC X.K F1 ds vs:=r1.fz eds;exact⟨by rw[rl.length];exact hl,F1,ds,d,s1.sub,rl,eo,λF' H' v st rv=>w1 v F' H' st rv (by nofun)⟩
    . exact w1.elim
  . exact w1.elim
end
def posL:Stmt->Nat
 |.FunctionDef _ _ _ _ _ _ _ _ _ p=>p.line
 |_=>0
def w1B(sc:Scope)(q:Str)(z:Str×List Str)(st:Stmt):Bool:=match lN st with
 |some (n,a,_,s)=>n==z.1&&(lM a).isSome&&n != "" && (sc.names.lookup n==some .local||sc.names.lookup n==some .cell)&&s.names.all (λy=>y.2 != .free||z.2.contains y.1)&&z.2.all (λy=>s.names.contains (y,.free)&&sc.names.lookup y==some .cell)&&jB (q ++ ".<locals>.") (posL st)==n
 |none=>false
def w1_of{z:Str×List Str}(h:w1B sc q z st=true):W1 sc q z st:=by
 unfold w1B at h;split at h
 . rename_i n a b s e1;simp only[aNI,aN1,aMG,aPQ,aPG,aPO]at h;obtain⟨⟨⟨⟨⟨⟨rfl,h2⟩,h3⟩,h4⟩,h5⟩,h6⟩,h7⟩:=h;obtain⟨pos,rfl⟩:=t8 e1;obtain⟨rn,h2⟩:=Option.isSome_iff_exists.mp h2;obtain⟨ap,rfl⟩:=t7 h2;exact⟨rn,ap,b,s,pos,rfl,h7,h3,h4,λy hy=>(h5 _ hy).resolve_left λz=>z rfl,h6⟩
 . cases h
def wsR(sc:Scope)(q:Str):List (Str×List Str)->List Stmt->Option Expr
 |[],l=>match l with|[s]=>t4 s|_=>none
 |z::zs,l=>match l with|st::r=>if w1B sc q z st=true then wsR sc q zs r else none|[]=>none
theorem uD{sc:Scope}{q:Str}{e:Expr}:∀{zs:List (Str×List Str)}{l:List Stmt},wsR sc q zs l=some e->∃ws b2,l=ws++[.Return (some e) b2]/\WsP sc q zs ws
 |[],[s],h=>by obtain⟨p,rfl⟩:=aF2 h;exact⟨[],p,rfl,rfl⟩
 |z::zs,[],h=>by cases h
 |z::zs,st::r,h=>by
  unfold wsR at h;dsimp only at h;split at h
  . rename_i hw;obtain⟨ws,b2,rfl,t⟩:=uD h;exact⟨st::ws,b2,rfl,st,ws,rfl,w1_of hw,t⟩
  . cases h
def oB(caps:List Str)(rn n:Str)(st0:Stmt):Option (Scope×List Stmt):=match(cQ st0).find? λs=>fT s==n with
 |some s=>(match lN s with
  |some (n',a,b,sc)=>if(n'==n&&lM a==some rn&&n != "" && sc.kind == .function&&!sc.isCoroutine&&!sc.isGenerator&&sc.names.all (λy=>y.2 != .cell&&(y.2 != .free||caps.contains y.1))&&caps.all (λy=>sc.names.lookup y==some .free)&&sc.names.lookup rn==some .local)=true then some (sc,b)else none
  |none=>none)
 |none=>none
def aGC{n rn:Str}{st0:Stmt}{f:Addr}{caps ls:List Str}{g:Rho->aF}{b:List Stmt}(h:oB caps rn n st0=some (sc,b))(ns:W.nsIn K mainGlobals f0=some (some (.ref f)))(F:Fun K x qual st0 f fd)(hbody:∀(F H:Hp) (A:aP2) (outer:List Env) (s:aP1) (cl:List (Str×Addr)) (f c:Addr) (q:Str),aX (k+1) A->PBv ⟨K,F,H,λ_ _ _=>False⟩ (gD P w K mg base (caps++rn::ls) q sc cl f (.ref c) A outer s H) b g):gY P w K mg base (k+1) f0 n (d5 caps (caps++rn::ls).length g):=by
 unfold oB at h;split at h;rotate_left
 . cases h
 rename_i s e0;split at h;rotate_left
 . cases h
 rename_i n' a b' sc' e1;split at h;rotate_left
 . cases h
 rename_i h';cases h;simp only[aNI,aN1,aMG,aPQ,aPG,aPO,aPP]at h';obtain⟨⟨⟨⟨⟨⟨⟨⟨rfl,h2⟩,h3⟩,h4⟩,h5⟩,h6⟩,h7⟩,h8⟩,h9⟩:=h';obtain⟨pos,rfl⟩:=t8 e1;obtain⟨ap,rfl⟩:=t7 h2;exact aF5 ⟨x,qual,st0,f,fd,ns,F,by rw[if_neg h3];exact e0,rfl⟩ h4 h5 h6 (λy hy=>(h7 y hy).1) (λy hy e=>(h7 y hy).2.resolve_left λz=>z e) h8 h9 λF H A outer s cl f c=>hbody F H A outer s cl f c _
open PySem.W
section
variable {A:aP2}{E:VSP}
end
def aGD{ns:List Int}(h:IntsAre us ns):aL (ns.map V.int) us:=by
 induction h with
 |nil=>exact .nil
 |cons n t h ih=>exact .cons ⟨t,rfl⟩ ih
def aGE{d:Addr}{o:Obj}{es:Array DictEntry}(hm:(d==sysModules)=false)(hc:o.ExactDict)(hd:o.data=.dict es ep):W.KdlSrc P w "dict" d d es.size (λi v=>∃e,es[i]? = some e/\e.key=v) (λh=>h.get? d=some o) where
 type:=λ_ e=>⟨o,e,hc.1⟩
 there:=λ_ e=>⟨aLL e,aLL e⟩
 keep:=λ_ _ e hk=>hk d (.inl rfl) o e
 notList:=by decide
 notTuple:=by decide
 hint:=λ_ _ _ _ e hq=>W.kdl_hint_dict ⟨o,e,hc.1⟩ hq
 iter:=λA s hh e=>⟨_,λi h=>h.IsKeyIter s.heap.objs.size d i es.size ep/\h.get? d=some o,(λ_ _ hq=>aFH hm e hc hd hq),
  { sub:=λb hb=>by simp at hb;simp[hb]
    frame:=λ_ _ _ st hk=>⟨st.1.at λo e=>hk _ (by simp) o e,hk d (by simp) o st.2⟩
    item:=λi s1 Q E hi st hQ=>by have he:es[i]? = some es[i]:=Array.getElem?_eq_getElem hi;refine aFI st.1 st.2 hd he λh' hit' hs'=>hQ _ h' s1.toks ⟨_,he,rfl⟩ ⟨hit',hs'.extBut d o (aLO (aLL e)) st.2⟩ λb o hb e=>hs'.extBut b o (λh=>hb (by simp[h])) e
    done:=λs1 Q E st hQ=>aFJ hh st.1 st.2 hd (aL7 _) λh' he'=>hQ h' s1.toks λb o hb e=>he' b o (λh=>hb (by simp[h])) e
    self:=λ_ _ _ _ st hQ=>wpAny_pyIter_keyiter st.1 hQ },⟨_,aLK _ rfl,rfl,rfl⟩,hps e⟩
theorem uE:∀{xs:List (N×Addr×V)}{us:List aP0},us.length=xs.length->(∀(j:Nat) v,us[j]? = some v->∃p:N×Addr×V,xs[j]? = some p/\v=.ref p.2.1)->aL (xs.map λp=>V.ref p.2.1) us
 |[],[],_,_=>.nil
 |[],_::_,h,_=>by simp at h
 |_::_,[],h,_=>by simp at h
 |x::xs,u::us,h,q=>by obtain⟨p,e1,e2⟩:=q 0 u rfl;cases e1;exact .cons e2 (uE (by simpa using h) λj v hv=>q (j+1) v hv)
def aGF(hc:X.calm=true):gK X (.type "list") (λxs H Q=>∃p o kvs,xs=[.ref p]/\H p=some (.frz o (.dN kvs))/\kvs.length<=sizeLine/\∀l,H l=none->Q (.ref l) (upd H l (.lst (kvs.map λp=>V.ref p.2.1)))):=by
 intro aA s σ H xs us Q I r h;obtain⟨p,o,kvs,rfl,hp,hz,q⟩:=h;obtain⟨u,rfl,rx⟩:=fA r;cases rx;obtain⟨hm,es,g,hx,dt,sz,n⟩:=aFK I.hok hp;refine W.kdl_call (aGE hm hx dt) (I.ok.hd hc) g (by rw[sz];exact hz) λh' tk acc c' kp hg it=>?_
 have rv:aL (kvs.map λp=>V.ref p.2.1) acc.toList:=uE (by rw[aL3];exact it.1.trans sz) λj v hv=>by
  obtain⟨e,he,hk⟩:=it.2 j v (by simpa using hv)
  have hj:j<kvs.length:=by rw[<- sz];exact(aLR.mp he).1
  obtain⟨e',he',hk'⟩:=n j kvs[j] (aOC hj);rw[he]at he';cases he';exact⟨kvs[j],aOC hj,by rw[<- hk,hk']⟩
 exact⟨.ref s.heap.objs.size,_,I.laid (t':=tk) kp (aL7 _) (show bW X.prog X.w _ h' _ (.lst (kvs.map λp=>V.ref p.2.1))from⟨by rw[aMJ];exact hz,acc.toList,c',rv,by simpa using hg⟩),rfl,q _ (I.hok.fresh (aL7 _))⟩
def jY:List (Md×D)->Option (Md×D)
 |[(.fz,.dtf kvs)]=>if kvs.length<=sizeLine then some (.fr,.lst (kvs.map λkv=>nD kv.1))else none
 |_=>none
theorem uF{K:Fg}{F:Hp}:∀{kvs:List (N×D)}{xs:List (N×Addr×V)},aN K F kvs xs->aC K F (kvs.map λkv=>nD kv.1) (xs.map λp=>V.ref p.2.1)
 |[],xs,h=>by simp only[aN]at h;subst h;simp[aC]
 |(k,d)::kvs,xs,h=>by simp only[aN]at h;obtain⟨b,y,ys,rfl,q,_,t⟩:=h;simp only[aMI,aC];exact⟨_,_,rfl,aE3 _ _ q.1,uF t⟩
def aGG(hc:X.calm=true):eD X (.type "list") jY:=by
 refine⟨_,aGF hc,λF H xs vs k d Q s rx e w=>?_⟩;unfold jY at e;split at e
 . rename_i kvs;split at e
   . rename_i ha;cases e;obtain⟨v,rfl,r⟩:=rx.one;have r:aB X.K F (.dtf kvs) v:=r;simp only[aB]at r;obtain⟨a,o,xs,rfl,hh,rk⟩:=r;exact⟨a,o,xs,rfl,s _ _ hh,by rw[rk.len];exact ha,λl hl=>w (.ref l) F _ (aE.fresh _ s hl) ⟨l,rfl,s.free hl,_,a9,uF rk⟩ λ_ a ea=>by cases ea;exact hl⟩
   . cases e
 . cases e
end D3
set_option genSizeOfSpec false
set_option genInjectivity false
namespace D3
inductive KC where|s (y:Str)|i (n:Int)|t (tb:List (Str×Str))
 deriving DecidableEq
def KC.d:KC->D|.s y=>.str y|.i n=>.int n|.t _=>.non
inductive GV where|con (c:KC)|fn (n:Nat)|no|cls
 deriving DecidableEq
inductive Bn where|len|isinstance
 deriving DecidableEq
noncomputable def Bn.name:Bn->Str
 |.len => "len" |.isinstance => "isinstance"
def Bn.f:Bn->List (Md×D)->Option (Md×D)
 |.len=>eQ|.isinstance=>bN
def Bn.id:Bn->String
 |.len => "len" |.isinstance => "isinstance"
inductive Ty where|int|bool|str|tuple|list|dict
 deriving DecidableEq
def Ty.f:Ty->List (Md×D)->Option (Md×D)
 |.tuple=>iO|.int=>iP|_=>λ_=>none
def Ty.id:Ty->String
 |.int => "int" |.bool => "bool" |.str => "str" |.tuple => "tuple" |.list => "list" |.dict => "dict"
structure WD where
 Φ:Str->List D->Res
 Ψ:Str->List D->Res
 I:Str->Option (List D->Res)
 cl:List CI
 xt:List ((Str×Str)×Bool)
 xi:List ((Str×Str)×Bool)
 dp:Bool
 Ms:Str->D->KD->Option KD
 Cl:Str->Str->List (Str×D)->D->Res
 Wy:Str->Option bO
def WD.xf(W:WD):Str->Str->Option Bool:=λc x=>W.xt.lookup (c,x)
def WD.xg(W:WD):Str->Str->Option Bool:=λc x=>W.xi.lookup (c,x)
inductive E where
 |var (i:Nat)|non|bl (b:Bool)|int (i:Int)|str (x:Str)
 |glob (x:Str) (c:KC)|ty (t:Ty)
 |bin (op:Operator) (a b:E)|cmp (op:CmpOp) (a b:E)
 |andL (es:List E)|orL (es:List E)|not (a:E)|neg (a:E)|tru (a:E)|frz (a:E)
 |ix (a b:E)|slice (a:E) (lo hi:Option E)
 |tup (es:List E)|lst (es:List E)
 |call (f:Str) (n:Nat) (es:List E)|bcall (b:Bn) (es:List E)
 |items (a:E)|rng1 (a:E)
 |comp (elt it:E) (ts:List E) (caps:List Nat) (t:Tg) (n:Nat)
 |tcall (t:Ty) (es:List E)
 |fld (a:E) (f:Str)|meth (o:E) (m:Str) (es:List E)|mk0 (c:Str)|make (c key:Str) (n:Nat) (es:List E)
 |mulT (a b:E)|never
 |nnew|nix (a b:E)|srtf (f:Str) (a:E)|ccv (i:Nat) (es:List E)|mkw (f:Str) (n:Nat) (es:List E)|ndl (a:E)
def noF:Md->D->Md->D->Option (Md×D):=λ_ _ _ _=>none
def bK:Operator->Md->D->Md->D->Option (Md×D)
 |.Add=>orO fAdd kX|.Sub=>fSub|.Mult=>orO fMul noK|.Mod=>fMod|.FloorDiv=>fDiv|.Pow=>fPow|_=>noF
def bP:CmpOp->Md->D->Md->D->Option (Md×D)
 |.Lt=>orO fLt noK|.LtE=>fLe|.Gt=>fGt|.GtE=>fGe|.Eq=>fEq|.NotEq=>fNe|.In=>noF|.NotIn=>noF|.Is=>fIs false|.IsNot=>fIs true
mutual
def evE(W:WD):E->Rho->Res
 |.var i,ρ=>aO ρ i
 |.non,_=>.ok .fz .non
 |.bl b,_=>.ok .fz (.bl b)
 |.int i,_=>.ok .fz (.int i)
 |.str x,_=>.ok .fz (.str x)
 |.glob _ c,_=>.ok .fz c.d
 |.ty t,_=>.ok .fz (.ty t.id)
 |.bin op a b,ρ=>op2 (bK op) (evE W a ρ) (evE W b ρ)
 |.cmp op a b,ρ=>op2 (bP op) (evE W a ρ) (evE W b ρ)
 |.andL es,ρ=>evA W es ρ
 |.orL es,ρ=>cP W es ρ
 |.not a,ρ=>fW (evE W a ρ)
 |.neg a,ρ=>kQ (evE W a ρ)
 |.tru a,ρ=>fV (evE W a ρ)
 |.frz a,ρ=>aG (evE W a ρ)
 |.ix a b,ρ=>op2 ixD (evE W a ρ) (evE W b ρ)
 |.slice a lo hi,ρ=>slP (evE W a ρ) (evO W lo) (evO W hi) ρ
 |.tup es,ρ=>cU (aZ W es ρ)
 |.lst es,ρ=>dW (aZ W es ρ)
 |.call f n es,ρ=>aM n (W.Φ f) (aZ W es ρ)
 |.bcall b es,ρ=>b0 b.f (aZ W es ρ)
 |.items a,ρ=>eT (aG (evE W a ρ))
 |.rng1 a,ρ=>gP (aJ (evE W a ρ) (.ok []))
 |.comp elt it ts caps t n,ρ=>eU (evE W it ρ) ρ caps n (aP t) (λρ=>evF W ts ρ) (λρ=>evE W elt ρ)
 |.tcall t es,ρ=>b0 t.f (aZ W es ρ)
 |.mulT a b,ρ=>op2 mulT (evE W a ρ) (evE W b ρ)
 |.fld a f,ρ=>fE W.cl f (evE W a ρ)
 |.meth o m es,ρ=>cD W.cl W.Φ m (evE W o ρ) (aZ W es ρ)
 |.mk0 c,_=>.ok .fr (.ins c [])
 |.make c key n es,ρ=>match W.I key with|some Φ=>eV n Φ (aZ W es ρ)|none=>.stuck
 |.never,_=>.stuck
 |.nnew,_=>.ok .fr (.dtn [])
 |.nix a b,ρ=>op2 fJ (evE W a ρ) (evE W b ρ)
 |.ndl a,ρ=>b0 jY (aJ (evE W a ρ) (.ok []))
 |.ccv i es,ρ=>eX W.Cl (aO ρ i) (aZ W es ρ)
 |.mkw f _ es,ρ=>if W.dp=true then gZ f (W.Wy f) (aZ W es ρ)else .stuck
 |.srtf f a,ρ=>if W.dp=true then dH (λd=>W.Ψ f [d]) (evE W a ρ)else .stuck
def aZ(W:WD):List E->Rho->aY
 |[],_=>.ok []
 |e::es,ρ=>aJ (evE W e ρ) (aZ W es ρ)
def evA(W:WD):List E->Rho->Res
 |[],_=>.stuck
 |[e],ρ=>evE W e ρ
 |e::es,ρ=>dU (evE W e ρ) (evA W es ρ)
def cP(W:WD):List E->Rho->Res
 |[],_=>.stuck
 |[e],ρ=>evE W e ρ
 |e::es,ρ=>orR (evE W e ρ) (cP W es ρ)
def evF(W:WD):List E->Rho->Res
 |[],_=>.ok .fz (.bl true)
 |e::es,ρ=>dU (evE W e ρ) (evF W es ρ)
def evL(W:WD):List E->List (Rho->Res)
 |[]=>[]
 |e::es=>evE W e::evL W es
def evO(W:WD):Option E->Option (Rho->Res)
 |none=>none
 |some e=>some (evE W e)
end
structure MG where
 G:List (Str×GV)
 mk0:List Str
 mki:List (Str×Str×Nat)
 iso:List Str
 xcs:List Str
 xns:List Str
 sn:List Str
 cl:List (Str×Str×Str×Str)
structure MC where
 N:List Str
 sc:Scope
 g:MG
 fn:Bool
 calm:Bool
 rz:Bool
 q:Str
noncomputable def MC.kind(m:MC)(x:Str):Option NameKind:=m.sc.names.lookup x
end D3
variable {m:D3.MC}
namespace D3
def MC.vis(m:MC)(x:Str):Bool:=(m.kind x==some .local||m.kind x==some .cell||m.kind x==some .free)&&x != "__debug__" && x != "__classdict__"
def MC.glob(m:MC)(x:Str)(v:GV):Bool:=m.kind x==some .globalImplicit&&m.g.G.lookup x==some v&&x != "__debug__" && x != "__name__"
def MC.gk(m:MC)(x:Str):Bool:=m.kind x==some .globalImplicit&&x != "__debug__"
def strK(x:Str):Bool:=decide (x.length<=sizeLine)&&PyData.strOk x
def oC:Expr->Bool|.Slice ..=>false|_=>true
def g9:Expr->Bool|.Set ..=>false|_=>true
def uG:Expr->Bool|.UnaryOp .Not _ _=>false|.BoolOp ..=>false|.IfExp ..=>false|.Compare ..=>false|_=>true
def MC.sub(m:MC)(scope:Scope)(aI tgN:List Str):MC:={ m with N:=aI++tgN,sc:={scope with names:=jS scope m.sc},fn:=false,rz:=false,q := "" }
def MC.loc(m:MC)(i:Nat)(x:Str):Bool:=m.N[i]?==some x&&(m.kind x==some .local||(m.fn&&m.kind x==some .cell))
mutual
def mG(m:MC):Tg->Expr->Bool
 |.nm i,e=>match e with|.Name x _=>m.loc i x|_=>false
 |.tp ts,e=>match e with|.Tuple es _ _=>m.calm&&es.all fY&&mGs m ts es|_=>false
def mGs(m:MC):List Tg->List Expr->Bool
 |[],es=>es.isEmpty
 |t::ts,l=>match l with|e::es=>mG m t e&&mGs m ts es|_=>false
end
def eH:Nat->Expr->List Str
 |_,.Name x _=>[x]
 |n+1,.Tuple es _ _=>es.flatMap (eH n)
 |_,_=>[]
def lO(scope sc:Scope)(N:List Str)(caps:List Nat)(aI tgN:List Str):Bool :=
 scope.names.all (λy=>y.2 != .cell)&&scope.kind == .function&&scope.names.all (λy=>y.2 != .local||scope.names.lookup y.1==some .local) &&
 scope.names.all (λy=>y.2 != .free||sc.names.lookup y.1==some .cell||sc.names.lookup y.1==some .free)&&(aI.map some==caps.map λi=>N[i]?)&&aI.all (λy=>scope.names.contains (y,.free)) &&
 aI.all (λy=>(jS scope sc).lookup y==some .cell||(jS scope sc).lookup y==some .free)&&decide (aI++tgN).Nodup
def strK':KC->Bool|.s y=>strK y|.i _=>true|.t _=>false
structure SX(k:Nat)(W:WD)(m:MC)(C:Cw)(X:Cx):Prop where
 hN:X.N=m.N
 hs:X.env.scope=m.sc
 cm:m.calm=true->X.calm=true
 rm:m.calm=true->aX k X.A
 un:X.A.units+64<cLine
 xo:m.calm=true->XOk (CX1 X.prog X.w) (C.at X) X
 xt:nQ X.K X.mg W.xf
 xi:nR X.K X.mg W.xg
 xc:∀c,c∈m.g.xcs->∃Cc,X.mg c=some (.ref Cc)/\sN X.K Cc
 xn:∀n,n∈m.g.xns->∃cv,k7 X.mg n cv
 con:∀x c,m.g.G.lookup x=some (.con c)->match c with|.s y=>∃t,X.mg x=some (.str y t)|.i n=>∃t,X.mg x=some (.int n t)|.t tb=>iR X.w X.K X.mg x tb
 no:∀x,m.g.G.lookup x=some .no->X.mg x=none
 mk0:∀c,c∈m.g.mk0->nK X.K X.mg c
 mki:∀c key n,(c,key,n)∈m.g.mki->∀Φ,W.I key=some Φ->∃j,j+1<=k/\InV X.prog X.w X.K X.mg X.base (CX1 X.prog X.w) j c n Φ
 iso:∀c,c∈m.g.iso->IsV X.K X.mg W.cl c
 fl:∀i f,i∈W.cl->f∈i.flds->FlV X.K i.name f
 mt:∀c m key n,CI.meth W.cl c m=some (key,n)->MtV X.prog X.w X.K X.mg X.base (CX1 X.prog X.w) k c m n (W.Φ key)
 fn:∀x n,m.g.G.lookup x=some (.fn n)->FnV X.prog X.w X.K X.mg X.base (CX1 X.prog X.w) k x n (W.Φ x)
 fnn:m.fn=true->∀x,X.fn x=true
 fp:W.dp=true->∃j,j+1=k/\∀x n,m.g.G.lookup x=some (.fn n)->FnV X.prog X.w X.K X.mg X.base (CX1 X.prog X.w) j x n (W.Ψ x)
 sm:∀x,x∈m.g.sn->FnM X.prog X.w X.K X.mg X.base (CX1 X.prog X.w) k x (W.Ms x)
 sc:W.dp=true->∀f a b g,(f,a,b,g)∈m.g.cl->FnC X.prog X.w X.K X.mg X.base (CX1 X.prog X.w) k f a b/\CloG X.K f a b g
 cv:∀f n,gY X.prog X.w X.K X.mg X.base k f n (W.Cl f n)
 sw:W.dp=true->∀f I,W.Wy f=some I->FnW X.prog X.w X.K X.mg X.base (CX1 X.prog X.w) k f I
 cd:m.q="" \/ (PySem.W.codeIn X.K X.env.code m.q=true/\X.env.qual=m.q ++ ".<locals>.")
section
variable {W:WD}{x y:Expr}
def SX.gl(S:SX k W m C X){v:GV}(h:m.glob z v=true):Gl X z/\m.g.G.lookup z=some v/\(z==("__debug__":Str))=false/\z ≠ "__name__" := by
 unfold MC.glob MC.kind at h;simp only[aNI,aMG,aPQ]at h;obtain⟨⟨⟨h1,h2⟩,h3⟩,h4⟩:=h;refine⟨?_,h2,by simpa using h3,h4⟩
 show X.env.scope.names.lookup z=_;rw[S.hs];exact h1
theorem SX.vis(S:SX k W m C X)(h:m.vis z=true):Vis X.env.scope z/\(z==("__debug__":Str))=false/\(z==("__classdict__":Str))=false:=by
 unfold MC.vis MC.kind at h;simp only[aNI,aN1,aMG,aPQ]at h;obtain⟨⟨h1,h2⟩,h3⟩:=h;refine⟨?_,by simpa using h2,by simpa using h3⟩
 unfold Vis;rw[S.hs];rcases h1 with(h1|h1)|h1
 . exact .inl h1
 . exact .inr (.inl h1)
 . exact .inr (.inr h1)
def aGH(b:Bn):bootBuiltins b.name=some (.builtin b.id):=by
 cases b
 . exact aDD
 . exact aDE
def aGI(b:Bn){c:Bool}(hc:c=true->X.calm=true)(h:(c||b == .len||b == .isinstance)=true):eD X (.builtin b.id) b.f:=by
 have hc:(b == .len||b == .isinstance)=false->X.calm=true:=λz=>hc (by cases c with|true=>rfl|false=>rw[Bool.false_or]at h;rw[h]at z;cases z)
 cases b
 . exact aCH
 . exact aCJ
def lP{f:aP0}:eD X f (λ_=>none):=⟨λ_ _ _=>False,λ_ _ _ _ _ _ _ _ _ h=>h.elim,λ_ _ _ _ _ _ _ _ _ e _=>by cases e⟩
def aGJ(t:Ty):eD X (.type t.id) t.f:=by
 cases t
 . exact aEE
 . exact lP
 . exact lP
 . exact aDW
 . exact lP
 . exact lP
def uH(t:Ty):bootBuiltins (t.id:Str)=some (.type t.id):=by
 cases t
 . exact aDF
 . exact aDG
 . exact aDH
 . exact aDI
 . exact sC
 . exact aDJ
def aGK(op:Operator):(∃φ,bK op=φ/\OpD C X (binaryOp op) φ)\/bK op=noF:=by
 cases op
 case Add=>exact .inl ⟨_,rfl,o_add.or aDV⟩
 case Sub=>exact .inl ⟨_,rfl,aBN⟩
 case Mult=>exact .inl ⟨_,rfl,o_mul.or jR⟩
 case Mod=>exact .inl ⟨_,rfl,aBQ⟩
 case FloorDiv=>exact .inl ⟨_,rfl,aBS⟩
 case Pow=>exact .inl ⟨_,rfl,aBT⟩
 all_goals exact .inr rfl
def oE:IsB noK:=λ_ _ _ _ _ _ z=>by cases z
def aGL(op:CmpOp)(hu:X.A.units+64<cLine):(OpD C X (compareOp op) (bP op)/\IsB (bP op))\/bP op=noF:=by
 cases op
 case Lt=>exact .inl ⟨aBU.or jR,nH kW oE⟩
 case LtE=>exact .inl ⟨aBV,kW⟩
 case Gt=>exact .inl ⟨aBW,kW⟩
 case GtE=>exact .inl ⟨aBX,kW⟩
 case Eq=>exact .inl ⟨o_eq hu,nH r9 oE⟩
 case NotEq=>exact .inl ⟨o_ne hu,nH r9 oE⟩
 case In=>exact .inr rfl
 case NotIn=>exact .inr rfl
 case Is=>exact .inl ⟨aDR,sK⟩
 case IsNot=>exact .inl ⟨aDS,sK⟩
def uI{f:aP0->aP0->Sem aP0}:OpD C X f noF:=⟨λ_ _ _ _=>False,λ_ _ _ _ _ _ _ _ _ _ _ _ h=>h.elim,λ_ _ _ _ _ _ _ _ _ _ _ _ _ _ e _=>by cases e⟩
def aGM(op:Operator):OpD C X (binaryOp op) (bK op):=by
 rcases aGK (C:=C) (X:=X) op with⟨φ,e,h⟩|e
 . rw[e];exact h
 . rw[e];exact uI
def oF(op:CmpOp)(hu:X.A.units+64<cLine):OpD C X (compareOp op) (bP op)/\IsB (bP op):=by
 rcases aGL (C:=C) op hu with h|e
 . exact h
 . rw[e];exact⟨uI,λ_ _ _ _ _ _ z=>by cases z⟩
def uJ(op:CmpOp){e:Expr}(h:g9 e=true):behindInMarks op e=false:=by cases e <;> first|rfl|cases h
def oG{e:Expr}(h:g9 e=true):∀v,foldedSetIterable e env v=pure v:=by intro v;cases e <;> first|rfl|cases h
def uK{e:Expr}(h:oC e=true):kM e:=by intro o i;cases e <;> first|rfl|cases h
def aGN{e:Expr}(h:uG e=true):∀cI,isTrue e env cI=(do let v <- cI;standAt e.pos;holding [v] (truthy v)):=by
 intro cI;cases e
 case UnaryOp op _ _=>cases op <;> first|rfl|cases h
 all_goals first|rfl|cases h
theorem SX.sub(S:SX k W m C X)(cl:List (Str×Addr))(A:Addr)(fp:List Addr)(s3:aP1)(H3:Hp):SX k W (m.sub scope aI tgN) C.nox (bB X scope (aI++tgN) cl A fp s3 H3):=by
 refine⟨rfl,?_,S.cm,S.rm,S.un,λ_ aA σ H s e s' I h=>?_,S.xt,S.xi,S.xc,S.xn,S.con,S.no,S.mk0,S.mki,S.iso,S.fl,S.mt,S.fn,(λz=>by cases z),S.fp,S.sm,S.sc,S.cv,S.sw,.inl rfl⟩
 rotate_left
 . obtain⟨_,_,_,_,_,_,_,_,_,_,_,_,z⟩:=h;exact z.elim
 show(compEnvC scope cl A X.env).scope=_;unfold MC.sub;rw[<- S.hs];rfl
theorem SX.loc(S:SX k W m C X)(h:m.loc i z=true):X.N[i]? = some z/\L2.Loc X.env.scope z/\(X.fn z=true\/X.env.scope.names.lookup z=some .local):=by
 unfold MC.loc MC.kind at h;simp only[aNI,aN1,aMG]at h;refine⟨by rw[S.hN];exact h.1,?_,?_⟩
 . unfold L2.Loc;rw[S.hs];rcases h.2 with q|q
   . exact .inl q
   . exact .inr q.2
 . rw[S.hs];rcases h.2 with q|q
   . exact .inr q
   . exact .inl (S.fnn q.1 z)
def oH{e:Expr}:PV C X e (λ_=>.stuck):=λaA s σ H Q I h=>by rw[aV]at h;obtain⟨_,_,_,w⟩:=h;exact w.elim
mutual
theorem sG(S:SX k W m C X)(hN:m.N.Nodup):∀(t:Tg) {e:Expr},mG m t e=true->PGw X e t
 |.nm i,e,h=>by
  simp only[mG]at h;split at h
  . obtain⟨a,b,c⟩:=S.loc h;exact aD3 (by rw[S.hN];exact hN) a b c
  . cases h
 |.tp ts,e,h=>by
  simp only[mG]at h;split at h
  . rw[aNI,aNI,aPG]at h;obtain⟨p,l⟩:=sGs S hN ts h.2 h.1.2;exact aD7 (S.cm h.1.1) p h.1.2 l
  . cases h
theorem sGs(S:SX k W m C X)(hN:m.N.Nodup):∀(ts:List Tg) {es:List Expr},mGs m ts es=true->(∀e∈es,fY e=true)->gR X es ts/\es.length=ts.length
 |[],[],h,_=>⟨aD4,rfl⟩
 |[],_::_,h,_=>by simp[mGs]at h
 |t::ts,[],h,_=>by simp[mGs]at h
 |t::ts,e::es,h,hs=>by simp only[mGs,aNI]at h;obtain⟨p,l⟩:=sGs S hN ts h.2 λx hx=>hs x (mcm hx);exact⟨aD5 (sG S hN t h.1) p (hs e mcs),by rw[aMH,aMH,l]⟩
end
end
def uL{e:Expr}:PV C X e (λ_=>.stuck):=λaA s σ H Q I q=>by rw[aV]at q;obtain⟨ρ,F,R,w⟩:=q;exact w.elim
abbrev PE(m:MC)(f:E)(e:Expr):Prop:=∀{k:Nat}{W:WD}{C:Cw}{X:Cx},SX k W m C X->PV C X e (evE W f)
abbrev PTE(m:MC)(f:E)(e:Expr):Prop:=∀{k:Nat}{W:WD}{C:Cw}{X:Cx},SX k W m C X->PTv C X e (evE W f)
abbrev PIE(m:MC)(tg:Expr)(f:E)(e:Expr):Prop:=∀{k:Nat}{W:WD}{C:Cw}{X:Cx},SX k W m C X->PIv C X tg e (evE W f)
inductive c9(m:MC):List E->List Expr->Prop
 |nil:c9 m [] []
 |cons {f fs x xs:_}:cC x=true->PE m f x->c9 m fs xs->c9 m (f::fs) (x::xs)
inductive d7(m:MC):List E->List Expr->Prop
 |nil:d7 m [] []
 |cons {f fs x xs:_}:PTE m f x->d7 m fs xs->d7 m (f::fs) (x::xs)
abbrev CkE(m:MC)(f:E)(e:Expr):Type:=Option (PLift (PE m f e))
abbrev CkT(m:MC)(f:E)(e:Expr):Type:=Option (PLift (PTE m f e))
abbrev CkI(m:MC)(tg:Expr)(f:E)(e:Expr):Type:=Option (PLift (PIE m tg f e))
abbrev cW(m:MC)(f:List E)(e:List Expr):Type:=Option (PLift (c9 m f e))
abbrev CkF(m:MC)(f:List E)(e:List Expr):Type:=Option (PLift (d7 m f e))
abbrev CkO(m:MC)(f:Option E)(e:Option Expr):Type:=Option (PLift (∀{k:Nat}{W:WD}{C:Cw}{X:Cx},SX k W m C X->POv C X e (evO W f)))
def got{P:Prop}:∀{o:Option (PLift P)},o.isSome=true->P
 |some p,_=>p.down
 |none,h=>nomatch h
section
variable {W:WD}
theorem c9.star:∀{fs:List E}{es:List Expr},c9 m fs es->∀x∈es,cC x=true
 |_,_,.nil=>λx hx=>by cases hx
 |_,_,.cons s _ q=>λx hx=>by
  rcases aLU.mp hx with rfl|hx
  . exact s
  . exact q.star x hx
theorem c9.es(S:SX k W m C X):∀{fs:List E}{es:List Expr},c9 m fs es->PAv C X es (aZ W fs)
 |_,_,.nil=>by simp only[aZ];exact nB
 |_,_,.cons s p q=>by simp only[aZ];exact nC (p S) (q.es S) (cN s)
theorem c9.a{pos:Pos}(S:SX k W m C X):∀{fs:List E}{es:List Expr},c9 m fs es->PV C X (.BoolOp .And es pos) (evA W fs)
 |_,_,.nil=>λaA s σ H Q I q=>by rw[aV]at q;obtain⟨ρ,F,R,w⟩:=q;exact w.elim
 |_,_,.cons s p .nil=>by simp only[evA];exact rM (p S)
 |_,_,.cons s p (.cons s' p' q)=>by simp only[evA];exact aB6 (p S) (c9.a S (.cons s' p' q))
theorem c9.o{pos:Pos}(S:SX k W m C X):∀{fs:List E}{es:List Expr},c9 m fs es->PV C X (.BoolOp .Or es pos) (cP W fs)
 |_,_,.nil=>λaA s σ H Q I q=>by rw[aV]at q;obtain⟨ρ,F,R,w⟩:=q;exact w.elim
 |_,_,.cons s p .nil=>by simp only[cP];exact rM (p S)
 |_,_,.cons s p (.cons s' p' q)=>by simp only[cP];exact aB7 (p S) (c9.o S (.cons s' p' q))
theorem d7.a{pos:Pos}(S:SX k W m C X):∀{fs:List E}{es:List Expr},d7 m fs es->PWv C X (.BoolOp .And es pos) (evA W fs)
 |_,_,.nil=>λcI aA s σ H Q I q=>by obtain⟨ρ,F,R,w⟩:=q;exact w.elim
 |_,_,.cons p .nil=>by simp only[evA];exact rK (p S)
 |_,_,.cons p (.cons p' q)=>by simp only[evA];exact aB4 (p S) (d7.a S (.cons p' q))
theorem d7.o{pos:Pos}(S:SX k W m C X):∀{fs:List E}{es:List Expr},d7 m fs es->PWv C X (.BoolOp .Or es pos) (cP W fs)
 |_,_,.nil=>λcI aA s σ H Q I q=>by obtain⟨ρ,F,R,w⟩:=q;exact w.elim
 |_,_,.cons p .nil=>by simp only[cP];exact rK (p S)
 |_,_,.cons p (.cons p' q)=>by simp only[cP];exact aB5 (p S) (d7.o S (.cons p' q))
theorem d7.f(S:SX k W m C X):∀{fs:List E}{es:List Expr},d7 m fs es->cV X es (tT (C.at X) (evF W fs))
 |_,_,.nil=>by
  have:evF W []=λ_=>.ok .fz (.bl true):=by funext ρ;simp only[evF]
  rw[this];exact aC7
 |f::fs,_,.cons p q=>by
  have:evF W (f::fs)=λρ=>dU (evE W f ρ) (evF W fs ρ):=by funext ρ;simp only[evF]
  rw[this];exact aC8 (p S) (q.f S)
section
variable {fs:List E}{es:List Expr}{r:cW m fs es}{t:CkF m fs es}
def gSt(h:r.isSome=true):∀x∈es,cC x=true:=(got h).star
def gEs(h:r.isSome=true)(S:SX k W m C X):PAv C X es (aZ W fs):=(got h).es S
def gA(h:r.isSome=true)(S:SX k W m C X):PV C X (.BoolOp .And es pos) (evA W fs):=(got h).a S
def gOr(h:r.isSome=true)(S:SX k W m C X):PV C X (.BoolOp .Or es pos) (cP W fs):=(got h).o S
def gWA(h:t.isSome=true)(S:SX k W m C X):PWv C X (.BoolOp .And es pos) (evA W fs):=(got h).a S
def gWO(h:t.isSome=true)(S:SX k W m C X):PWv C X (.BoolOp .Or es pos) (cP W fs):=(got h).o S
def gF(h:t.isSome=true)(S:SX k W m C X):cV X es (tT (C.at X) (evF W fs)):=(got h).f S
end
end
def aGO{e:Expr}:PTv C X e (λ_=>.stuck):=by intro aA s σ H Q I q;obtain⟨ρ,F,R,w⟩:=q;exact w.elim
def aGP{e:Expr}:PIv C X tg e (λ_=>.stuck):=by intro aA s σ H R I q;obtain⟨ρ,F,RS,w⟩:=q;exact w.elim
noncomputable def aGQ{a e}(r1:CkE m a e):CkE m (.frz a) e:=if h:r1.isSome=true then some ⟨λS=>gN (got h S)⟩else none
noncomputable def aGR{a e}(r1:CkE m a e):CkT m (.tru a) e:=if h:(uG e&&r1.isSome)=true then some ⟨λS=>by
 simp only[aNI]at h;exact aB1 (got h.2 S) (aGN h.1)⟩else none
noncomputable def aGS{tg a e:_}(r1:CkE m a e):CkI m tg (.items a) e:=if h:r1.isSome=true then some ⟨λS=>aCW (got h S)⟩else none
noncomputable def aGT{i:_}{x:_}{p1:_}:CkE m (.var i) (.Name x p1):=if h:(m.N[i]?==some x&&m.vis x)=true then some ⟨λS=>by
 simp only[aNI,aMG]at h;obtain⟨h1,h2,h3⟩:=S.vis h.2
 exact aBH i (iE (by rw[S.hN];exact h.1) h1 h2 h3)⟩else none
noncomputable def aGU{y:_}{c:_}{x:_}{p1:_}:CkE m (.glob y c) (.Name x p1):=if h:(x==y&&m.glob x (.con c)&&strK' c)=true then some ⟨λS=>by
 simp only[aNI,aMG]at h;obtain⟨⟨rfl,h1⟩,h2⟩:=h;obtain⟨g,l,hd,hn⟩:=S.gl h1;have:=S.con _ _ l;cases c with
 |s y=>obtain⟨t,ht⟩:=this;exact aCK g ht h2 hd
 |i n=>obtain⟨t,ht⟩:=this;exact aCL g ht hd
 |t tb=>cases h2⟩else none
noncomputable def kE_ty{t:_}{x:_}{p1:_}:CkE m (.ty t) (.Name x p1):=if h:(x==(t.id:Str)&&m.glob x .no)=true then some ⟨λS=>by
 simp only[aNI,aMG]at h;obtain⟨rfl,h1⟩:=h;obtain⟨g,l,hd,hn⟩:=S.gl h1;exact pv_ty g (S.no _ l) (uH t) hn hd⟩else none
noncomputable def aGV{p0}{p1:_}:CkE m (.non) (.Constant .none p0 p1):=if h:(true)=true then some ⟨λS=>by
 exact aBJ⟩else none
noncomputable def kE_bl{c:_}{b:_}{p1:_}{p2:_}:CkE m (.bl c) (.Constant (.bool b) p1 p2):=if h:(b==c)=true then some ⟨λS=>by
 simp only[aMG]at h;subst h;exact pv_bl⟩else none
noncomputable def aGW{c:_}{b:_}{p1:_}{p2:_}:CkE m (.int c) (.Constant (.int b) p1 p2):=if h:(b==c)=true then some ⟨λS=>by
 simp only[aMG]at h;subst h;exact aBI⟩else none
noncomputable def aGX{c:_}{b:_}{p1:_}{p2:_}:CkE m (.str c) (.Constant (.str b) p1 p2):=if h:(b==c&&strK b)=true then some ⟨λS=>by
 simp only[aNI,aMG]at h;obtain⟨rfl,h⟩:=h;exact aBK h⟩else none
noncomputable def aGY{op}{a}{b:_}{x:_}{o}{y:_}{p3}(r1:CkE m a x)(r2:CkE m b y):CkE m (.bin op a b) (.BinOp x o y p3):=if h:(o==op&&(r1.isSome&&r2.isSome))=true then some ⟨λS=>by
 simp only[aNI,aMG]at h;obtain⟨rfl,h1,h2⟩:=h;exact rH (aGM _) (got h1 S) (got h2 S)⟩else none
noncomputable def aGZ{op}{a}{b:_}{x:_}{o}{y:_}{p3}(r1:CkE m a x)(r2:CkE m b y):CkE m (.cmp op a b) (.Compare x [o] [y] p3):=if h:(o==op&&g9 y&&(r1.isSome&&r2.isSome))=true then some ⟨λS=>by
 simp only[aNI,aMG]at h;obtain⟨⟨rfl,hs⟩,h1,h2⟩:=h;exact aBL (oF _ S.un).1 (got h1 S) (got h2 S) (uJ _ hs)⟩else none
noncomputable def aG0{es}{xs:_}{p1:_}(r1:cW m es xs):CkE m (.andL es) (.BoolOp .And xs p1):=if h:(r1.isSome)=true then some ⟨λS=>by
 exact gA h S⟩else none
noncomputable def aG1{es}{xs:_}{p1:_}(r1:cW m es xs):CkE m (.orL es) (.BoolOp .Or xs p1):=if h:(r1.isSome)=true then some ⟨λS=>by
 exact gOr h S⟩else none
noncomputable def aG2{a}{x:_}{p1:_}(r1:CkE m a x):CkE m (.not a) (.UnaryOp .Not x p1):=if h:(r1.isSome)=true then some ⟨λS=>by
 exact aB8 (got h S)⟩else none
noncomputable def aG3{a}{x:_}{p1:_}(r1:CkE m a x):CkE m (.neg a) (.UnaryOp .USub x p1):=if h:(r1.isSome)=true then some ⟨λS=>by
 exact aB9 (got h S)⟩else none
noncomputable def aG4{a}{l:_}{u:_}{x:_}{lo:_}{hi:_}{p3}{p4}(r1:CkE m a x)(r2:CkO m l lo)(r3:CkO m u hi):CkE m (.slice a l u) (.Subscript x (.Slice lo hi none p3) p4):=if h:(r1.isSome&&(r2.isSome&&r3.isSome))=true then some ⟨λS=>by
 simp only[aNI]at h;obtain⟨h0,h1,h2⟩:=h;exact aES (got h0 S) (got h1 S) (got h2 S)⟩else none
noncomputable def kE_ix{a}{b:_}{x:_}{y:_}{p2:_}(r1:CkE m a x)(r2:CkE m b y):CkE m (.ix a b) (.Subscript x y p2):=if h:(oC y&&(r1.isSome&&r2.isSome))=true then some ⟨λS=>by
 simp only[aNI]at h;obtain⟨h0,h1,h2⟩:=h;exact pv_ix (got h1 S) (got h2 S) (uK h0)⟩else none
noncomputable def aG5{es}{es0}{p1:_}{p2:_}(r1:cW m es es0):CkE m (.tup es) (.Tuple es0 p1 p2):=if h:(r1.isSome)=true then some ⟨λS=>by
 exact aCE (gEs h S)⟩else none
noncomputable def aG6{es}{es0}{p1:_}(r1:cW m es es0):CkE m (.lst es) (.List es0 p1):=if h:(r1.isSome)=true then some ⟨λS=>by
 exact aCF (gEs h S)⟩else none
noncomputable def aG7{g:_}{n:_}{es}{f}{p:_}{x:_}{xs:_}{cp:_}(r1:cW m es (x::xs)):CkE m (.call g n es) (.Call (.Name f p) (x::xs) [] cp):=if h:(m.calm&&f==g&&m.glob f (.fn n)&&r1.isSome)=true then some ⟨λS=>by
 simp only[aNI,aMG]at h;obtain⟨⟨⟨hq,rfl⟩,h1⟩,h2⟩:=h;obtain⟨gl,l,hd,hn⟩:=S.gl h1;have st:=gSt h2;exact aDC (S.fn _ _ l) (S.rm hq) (S.xo hq) gl (gEs h2 S) hd (cN (st x mcs)) (gQ _ _ λy hy=>st y (mcm hy))⟩else none
noncomputable def aG8{b:_}{es}{f}{p:_}{x:_}{xs:_}{cp:_}(r1:cW m es (x::xs)):CkE m (.bcall b es) (.Call (.Name f p) (x::xs) [] cp):=if h:((m.calm||b == .len||b == .isinstance)&&f==b.name&&m.glob f .no&&r1.isSome)=true then some ⟨λS=>by
 rw[aNI,aNI,aNI]at h;obtain⟨⟨⟨hq,hz⟩,h1⟩,h2⟩:=h;cases(aMG.mp hz);obtain⟨gl,l,hd,hn⟩:=S.gl h1;have st:=gSt h2;exact aCG (aGI b S.cm hq) gl (S.no _ l) (aGH b) (gEs h2 S) hn hd (cN (st x mcs)) (gQ _ _ λy hy=>st y (mcm hy))⟩else none
noncomputable def aG9{t:_}{es}{f}{p1:_}{x:_}{xs:_}{p4}(r1:cW m es (x::xs)):CkE m (.tcall t es) (.Call (.Name f p1) (x::xs) [] p4):=if h:(f==(t.id:Str)&&m.glob f .no&&r1.isSome)=true then some ⟨λS=>by
 simp only[aNI,aMG]at h;obtain⟨⟨rfl,h1⟩,h2⟩:=h;obtain⟨gl,l,hd,hn⟩:=S.gl h1;exact sL (aGJ t) gl (S.no _ l) (uH t) (gEs h2 S) hn hd (gSt h2)⟩else none
noncomputable def aHA{a}{f}{x:_}{g:_}{p2:_}(r1:CkE m a x):CkE m (.fld a f) (.Attribute x g p2):=if h:(g==f&&iN x&&r1.isSome)=true then some ⟨λS=>by
 simp only[aNI,aMG]at h;obtain⟨⟨rfl,h1⟩,h2⟩:=h;exact aDL S.fl (got h2 S) h1⟩else none
noncomputable def aHB{a}{f}{es}{o}{g:_}{ap:_}{xs:_}{cp:_}(r1:CkE m a o)(r2:cW m es xs):CkE m (.meth a f es) (.Call (.Attribute o g ap) xs [] cp):=if h:(m.calm&&g==f&&ap.endLine==cp.line&&decide (xs.length<30)&&iN o&&(r1.isSome&&r2.isSome))=true then some ⟨λS=>by
 simp only[aNI,aMG,aNZ]at h;obtain⟨⟨⟨⟨⟨hq,rfl⟩,h1⟩,h2⟩,h3⟩,h4,h5⟩:=h;exact aDM S.mt (S.rm hq) (S.xo hq) (got h4 S) (gEs h5 S) h3 (gSt h5) h2 h1 λe0=>by
  subst e0;cases es with
  |nil=>funext ρ;simp only[aZ]
  |cons _ _=>cases got h5⟩else none
noncomputable def aHC{c:_}{f}{p1:_}{p2:_}:CkE m (.mk0 c) (.Call (.Name f p1) [] [] p2):=if h:(f==c&&m.glob f .cls&&m.g.mk0.contains f)=true then some ⟨λS=>by
 simp only[aNI,aMG,aPO]at h;obtain⟨⟨rfl,h1⟩,h2⟩:=h;obtain⟨gl,l,hd,hn⟩:=S.gl h1;exact aDO (S.mk0 _ h2) gl hd⟩else none
noncomputable def aHD{c:_}{key}{n:_}{es}{f}{p:_}{x:_}{xs:_}{cp:_}(r1:cW m es (x::xs)):CkE m (.make c key n es) (.Call (.Name f p) (x::xs) [] cp):=if h:(m.calm&&f==c&&m.glob f .cls&&m.g.mki.contains (f,key,n)&&r1.isSome)=true then some ⟨λ{k}{W}{C}{X} S=>by
 simp only[aNI,aMG,aPO]at h;obtain⟨⟨⟨⟨hq,rfl⟩,h1⟩,h2⟩,h3⟩:=h;obtain⟨gl,l,hd,hn⟩:=S.gl h1;cases ei:W.I key with
 |none =>
  have:evE W (.make f key n es)=λ_=>.stuck:=by funext ρ;show(match W.I key with|some Φ=>eV n Φ (aZ W es ρ)|none=>.stuck)=_;rw[ei]
  rw[this];exact uL
 |some Φ =>
  obtain⟨j,hj,M⟩:=S.mki _ _ _ h2 Φ ei;have:evE W (.make f key n es)=λρ=>eV n Φ (aZ W es ρ):=by funext ρ;show(match W.I key with|some Φ=>eV n Φ (aZ W es ρ)|none=>.stuck)=_;rw[ei]
  rw[this];exact aDQ M ((S.rm hq).mono hj) (S.xo hq) gl (gEs h3 S) hd (gSt h3)⟩else none
noncomputable def aHE{el}{it:_}{ts}{caps:_}{t:_}{n:_}{elt:_}{tg:_}{aS:_}{ifs:_}{scope:_}{cp:_}(r1:CkI m tg it aS)(r2:CkE (m.sub scope (caps.filterMap λi=>m.N[i]?) (eH 4 tg)) el elt)(r3:CkF (m.sub scope (caps.filterMap λi=>m.N[i]?) (eH 4 tg)) ts ifs):CkE m (.comp el it ts caps t n) (.ListComp elt [⟨tg,aS,ifs,0⟩] scope cp):=if h:(m.calm&&lO scope m.sc m.N caps (caps.filterMap λi=>m.N[i]?) (eH 4 tg)&&g9 aS&&decide ((eH 4 tg).length=n)&&(eE t).all (λj=>decide (caps.length<=j))&&mG (m.sub scope (caps.filterMap λi=>m.N[i]?) (eH 4 tg)) t tg&&(r1.isSome&&(r2.isSome&&r3.isSome)))=true then some ⟨λ{k}{W}{C}{X} S=>by
 simp only[aNI,aNZ,aPG]at h;obtain⟨⟨⟨⟨⟨⟨hq,ho⟩,hn⟩,hl⟩,hs⟩,hg⟩,h1,h2,h3⟩:=h;unfold lO at ho;simp only[aNI,aPG,aN1,aPQ,aMG,aNZ,aPO]at ho;obtain⟨⟨⟨⟨⟨⟨⟨g1,g2⟩,g3⟩,g4⟩,g5⟩,g6⟩,g7⟩,g8⟩:=ho;have er:(relabel scope X.env).names=jS scope m.sc:=by rw[<- S.hs];rfl
 have := aEA (pos := cp) (tgN := eH 4 tg) (t := t) (S.cm hq) (got h1 S) g1 g2 (fun y hy e => (g3 y hy).resolve_left fun z => z e) (fun y hy e => by
     have:=g4 y hy;show X.env.scope.names.lookup y.1=_\/X.env.scope.names.lookup y.1=_;rw[S.hs];rcases this with(z|z)|z
     . exact absurd e z
     . exact .inl z
     . exact .inr z) (by rw[S.hN];exact g5) g6 (λy hy=>by rw[er];exact g7 y hy) (λj hj=>hs j hj) (λcl A fp s3 H3=>sG (S.sub cl A fp s3 H3) g8 t hg)
     (λcl A fp s3 H3=>gF h3 (S.sub cl A fp s3 H3)) (λcl A fp s3 H3=>got h2 (S.sub cl A fp s3 H3)) (oG hn)
 rw[hl]at this;exact this⟩else none
noncomputable def aHF{a}{b:_}{x:_}{o}{y:_}{p3}(r1:CkE m a x)(r2:CkE m b y):CkE m (.mulT a b) (.BinOp x o y p3):=if h:(o == .Mult&&(r1.isSome&&r2.isSome))=true then some ⟨λS=>by
 simp only[aNI,aMG]at h;obtain⟨rfl,h1,h2⟩:=h;exact rH aER (got h1 S) (got h2 S)⟩else none
noncomputable def aHG{p0}:CkE m (.nnew) (.Dict [] [] p0):=if h:(true)=true then some ⟨λS=>by
 exact aE6⟩else none
noncomputable def aHH{a}{b:_}{x:_}{y:_}{p2:_}(r1:CkE m a x)(r2:CkE m b y):CkE m (.nix a b) (.Subscript x y p2):=if h:(oC y&&(r1.isSome&&r2.isSome))=true then some ⟨λS=>by
 simp only[aNI]at h;obtain⟨h0,h1,h2⟩:=h;exact aE7 S.un (got h1 S) (got h2 S) (uK h0)⟩else none
noncomputable def aHI{a}{f}{p1:_}{x:_}{p3}(r1:CkE m a x):CkE m (.ndl a) (.Call (.Name f p1) [x] [] p3):=if h:(m.calm&&f == "list" && m.glob f .no&&cC x&&r1.isSome)=true then some ⟨λS=>by
 simp only[aNI,aMG]at h;obtain⟨⟨⟨⟨hq,rfl⟩,h1⟩,hs⟩,h2⟩:=h;obtain⟨gl,l,hd,hn⟩:=S.gl h1;exact sL (aGG (S.cm hq)) gl (S.no _ l) sC (nC (got h2 S) nB (cN hs)) hn hd (λy hy=>by rw[aOM]at hy;subst hy;exact hs)⟩else none
noncomputable def aHJ{i:_}{es}{f' p x cp:_}(r1:cW m es [x]):CkE m (.ccv i es) (.Call (.Name f' p) [x] [] cp):=if h:(m.calm&&m.N[i]?==some f'&&m.vis f'&&r1.isSome)=true then some ⟨λS=>by
 simp only[aNI,aMG]at h;obtain⟨⟨⟨hq,h1⟩,hv⟩,h2⟩:=h;obtain⟨v1,v2,v3⟩:=S.vis hv;have st:=gSt h2
 exact aF6 S.cv (S.rm hq) (iE (by rw[S.hN];exact h1) v1 v2 v3) (gEs h2 S) (cN (st x mcs))⟩else none
noncomputable def aHK{f n:_}{es}{f' p x xs cp:_}(r1:cW m es (x::xs)):CkE m (.mkw f n es) (.Call (.Name f' p) (x::xs) [] cp):=if h:(m.calm&&f'==f&&m.glob f' (.fn n)&&r1.isSome)=true then some ⟨λ{k}{W}{C}{X} S=>by
 simp only[aNI,aMG]at h;obtain⟨⟨⟨hq,rfl⟩,h1⟩,h2⟩:=h;obtain⟨gl,l,hd,_⟩:=S.gl h1;have st:=gSt h2;cases hdp:W.dp with
 |false=>rw[show evE W (.mkw f' n es)=λ_=>.stuck by funext ρ;show(if W.dp=true then _ else _)=_;rw[hdp];rfl];exact oH
 |true =>
  rw[show evE W (.mkw f' n es)=λρ=>gZ f' (W.Wy f') (aZ W es ρ) by funext ρ;show(if W.dp=true then _ else _)=_;rw[hdp];rfl]
  cases hw:W.Wy f' with
  |none=>exact oH
  |some I=>exact aGB (S.sw hdp _ _ hw) (S.rm hq) (S.xo hq) gl (gEs h2 S) hd (cN (st x mcs)) (gQ _ _ λy hy=>st y (mcm hy))⟩else none
noncomputable def lQ(N ps:List Str)(sc:Scope):Bool:=sc.kind == .function&&!sc.isCoroutine&&!sc.isGenerator&&decide N.Nodup&&(N.take ps.length==ps)&&ps.all (λx=>sc.names.lookup x==some .local||sc.names.lookup x==some .cell)&&sc.names.all (λy=>y.2 != .free)
def oI{N:List Str}(h:lQ N ps sc=true):jK N ps sc:=by unfold lQ at h;simp only[aNI,aPG,aN1,aPQ,aMG,aNZ,aPP]at h;obtain⟨⟨⟨⟨⟨⟨h1,h2⟩,h3⟩,h4⟩,h5⟩,h6⟩,h7⟩:=h;exact⟨h1,h2,h3,h4,h5,h6,h7⟩
noncomputable def aHL{g:_}{a}{f}{p1:_}{x:_}{kw:_}{y:_}{q:_}{kp}{p3}(r1:CkE m a x):CkE m (.srtf g a) (.Call (.Name f p1) [x] [⟨some kw,.Name y q,kp⟩] p3):=if h:(m.calm&&f == "sorted" && m.glob f .no&&kw == "key" && cC x&&y==g&&m.glob g (.fn 1)&&r1.isSome)=true then some ⟨λ{k}{W}{C}{X} S=>by
 simp only[aNI,aMG]at h;obtain⟨⟨⟨⟨⟨⟨⟨hc,rfl⟩,h1⟩,rfl⟩,h2⟩,rfl⟩,h4⟩,h3⟩:=h;obtain⟨gl,l,_,_⟩:=S.gl h1;obtain⟨gl',l',hdb,_⟩:=S.gl h4;cases hd:W.dp with
 |false=>rw[show evE W (.srtf y a)=λ_=>.stuck by funext ρ;show(if W.dp=true then _ else _)=_;rw[hd];rfl];exact oH
 |true =>
  obtain⟨j,hj,fp⟩:=S.fp hd;rw[show evE W (.srtf y a)=λρ=>dH (λd=>W.Ψ y [d]) (evE W a ρ) by funext ρ;show(if W.dp=true then _ else _)=_;rw[hd];rfl]
  exact aFZ S.un gl (S.no _ l) (got h3 S) h2 gl' hdb (fp y 1 l') (by rw[hj];exact S.rm hc)⟩else none
noncomputable def aHM{op}{a}{b:_}{x:_}{o}{y:_}{p3}(r1:CkE m a x)(r2:CkE m b y):CkT m (.cmp op a b) (.Compare x [o] [y] p3):=if h:(o==op&&g9 y&&(r1.isSome&&r2.isSome))=true then some ⟨λ{k}{W}{C}{X} S=>by
 simp only[aNI,aMG]at h;obtain⟨⟨rfl,hs⟩,h1,h2⟩:=h;exact aB2 (oF _ S.un).1 (oF (C:=C) _ S.un).2 (got h1 S) (got h2 S) (uJ _ hs)⟩else none
noncomputable def aHN{es}{xs:_}{p1:_}(r1:CkF m es xs):CkT m (.andL es) (.BoolOp .And xs p1):=if h:(r1.isSome)=true then some ⟨λS=>by
 exact pt_w (gWA h S)⟩else none
noncomputable def aHO{es}{xs:_}{p1:_}(r1:CkF m es xs):CkT m (.orL es) (.BoolOp .Or xs p1):=if h:(r1.isSome)=true then some ⟨λS=>by
 exact pt_w (gWO h S)⟩else none
noncomputable def aHP{a}{x:_}{p1:_}(r1:CkT m a x):CkT m (.not a) (.UnaryOp .Not x p1):=if h:(r1.isSome)=true then some ⟨λS=>by
 exact aB3 (got h S)⟩else none
noncomputable def aHQ{tg0}{a}{f}{p1:_}{x:_}{p3}(r1:CkE m a x):CkI m tg0 (.rng1 a) (.Call (.Name f p1) [x] [] p3):=if h:(f == "range" && m.glob f .no&&cC x&&r1.isSome)=true then some ⟨λS=>by
 simp only[aNI,aMG]at h;obtain⟨⟨⟨rfl,h1⟩,h2⟩,h3⟩:=h;obtain⟨gl,l,hd,hn⟩:=S.gl h1;exact aCY gl (S.no _ l) (nC (got h3 S) nB (cN h2)) (cN h2)⟩else none
noncomputable def kEs{f fs x xs:_}(r1:CkE m f x)(r2:cW m fs xs):cW m (f::fs) (x::xs):=if h:(cC x&&r1.isSome&&r2.isSome)=true then some ⟨by
 simp only[aNI]at h;exact .cons h.1.1 (@got _ r1 h.1.2) (got h.2)⟩else none
noncomputable def kO{f x:_}(r1:CkE m f x):CkO m (some f) (some x):=if h:r1.isSome=true then some ⟨λS=>by simp only[evO];exact got h S⟩else none
noncomputable def kF{f fs x xs:_}(r1:CkT m f x)(r2:CkF m fs xs):CkF m (f::fs) (x::xs):=if h:(r1.isSome&&r2.isSome)=true then some ⟨by
 simp only[aNI]at h;exact .cons (@got _ r1 h.1) (got h.2)⟩else none
set_option maxHeartbeats 4000000 in
mutual
noncomputable def ckE:(m:MC)->(f:E)->(e:Expr)->CkE m f e
 |m,.frz a,e=>aGQ (ckE m a e)
 |m,.never,e=>some ⟨λ_=>uL⟩
 |m,.var i,e=>match e with|.Name x p1=>aGT|_=>none
 |m,.glob y c,e=>match e with|.Name x p1=>aGU|_=>none
 |m,.ty t,e=>match e with|.Name x p1=>kE_ty|_=>none
 |m,.non,e=>match e with|.Constant .none p0 p1=>aGV|_=>none
 |m,.bl c,e=>match e with|.Constant (.bool b) p1 p2=>kE_bl|_=>none
 |m,.int c,e=>match e with|.Constant (.int b) p1 p2=>aGW|_=>none
 |m,.str c,e=>match e with|.Constant (.str b) p1 p2=>aGX|_=>none
 |m,.bin op a b,e=>match e with|.BinOp x o y p3=>aGY (ckE m a x) (ckE m b y)|_=>none
 |m,.cmp op a b,e=>match e with|.Compare x [o] [y] p3=>aGZ (ckE m a x) (ckE m b y)|_=>none
 |m,.andL es,e=>match e with|.BoolOp .And xs p1=>aG0 (d9 m es xs)|_=>none
 |m,.orL es,e=>match e with|.BoolOp .Or xs p1=>aG1 (d9 m es xs)|_=>none
 |m,.not a,e=>match e with|.UnaryOp .Not x p1=>aG2 (ckE m a x)|_=>none
 |m,.neg a,e=>match e with|.UnaryOp .USub x p1=>aG3 (ckE m a x)|_=>none
 |m,.slice a l u,e=>match e with|.Subscript x (.Slice lo hi none p3) p4=>aG4 (ckE m a x) (ckO m l lo) (ckO m u hi)|_=>none
 |m,.ix a b,e=>match e with|.Subscript x y p2=>kE_ix (ckE m a x) (ckE m b y)|_=>none
 |m,.tup es,e=>match e with|.Tuple es0 p1 p2=>aG5 (d9 m es es0)|_=>none
 |m,.lst es,e=>match e with|.List es0 p1=>aG6 (d9 m es es0)|_=>none
 |m,.call g n es,e=>match e with|.Call (.Name f p) (x::xs) [] cp=>aG7 (d9 m es (x::xs))|_=>none
 |m,.bcall b es,e=>match e with|.Call (.Name f p) (x::xs) [] cp=>aG8 (d9 m es (x::xs))|_=>none
 |m,.tcall t es,e=>match e with|.Call (.Name f p1) (x::xs) [] p4=>aG9 (d9 m es (x::xs))|_=>none
 |m,.fld a f,e=>match e with|.Attribute x g p2=>aHA (ckE m a x)|_=>none
 |m,.meth a f es,e=>match e with|.Call (.Attribute o g ap) xs [] cp=>aHB (ckE m a o) (d9 m es xs)|_=>none
 |m,.mk0 c,e=>match e with|.Call (.Name f p1) [] [] p2=>aHC|_=>none
 |m,.make c key n es,e=>match e with|.Call (.Name f p) (x::xs) [] cp=>aHD (d9 m es (x::xs))|_=>none
 |m,.nnew,e=>match e with|.Dict [] [] p0=>aHG|_=>none
 |m,.srtf g a,e=>match e with|.Call (.Name f p1) [x] [⟨some kw,.Name y q,kp⟩] p3=>aHL (ckE m a x)|_=>none
 |m,.ndl a,e=>match e with|.Call (.Name f p1) [x] [] p3=>aHI (ckE m a x)|_=>none
 |m,.ccv i es,e=>match e with|.Call (.Name f' p) [x] [] cp=>aHJ (d9 m es [x])|_=>none
 |m,.mkw f n es,e=>match e with|.Call (.Name f' p) (x::xs) [] cp=>aHK (d9 m es (x::xs))|_=>none
 |m,.nix a b,e=>match e with|.Subscript x y p2=>aHH (ckE m a x) (ckE m b y)|_=>none
 |m,.comp el it ts caps t n,e=>match e with|.ListComp elt [⟨tg,aS,ifs,0⟩] scope cp=>aHE (ckI m tg it aS) (ckE (m.sub scope (caps.filterMap λi=>m.N[i]?) (eH 4 tg)) el elt) (ckF (m.sub scope (caps.filterMap λi=>m.N[i]?) (eH 4 tg)) ts ifs)|_=>none
 |m,.mulT a b,e=>match e with|.BinOp x o y p3=>aHF (ckE m a x) (ckE m b y)|_=>none
 |_,.tru _,_=>none
 |_,.items _,_=>none
 |_,.rng1 _,_=>none
noncomputable def ckT:(m:MC)->(f:E)->(e:Expr)->CkT m f e
 |m,.tru a,e=>aGR (ckE m a e)
 |m,.never,e=>some ⟨λ_=>aGO⟩
 |m,.cmp op a b,e=>match e with|.Compare x [o] [y] p3=>aHM (ckE m a x) (ckE m b y)|_=>none
 |m,.andL es,e=>match e with|.BoolOp .And xs p1=>aHN (ckF m es xs)|_=>none
 |m,.orL es,e=>match e with|.BoolOp .Or xs p1=>aHO (ckF m es xs)|_=>none
 |m,.not a,e=>match e with|.UnaryOp .Not x p1=>aHP (ckT m a x)|_=>none
 |_,_,_=>none
noncomputable def ckI:(m:MC)->(tg:Expr)->(f:E)->(e:Expr)->CkI m tg f e
 |m,tg,.items a,e=>aGS (ckE m a e)
 |m,tg,.never,e=>some ⟨λ_=>aGP⟩
 |m,tg0,.rng1 a,e=>match e with|.Call (.Name f p1) [x] [] p3=>aHQ (ckE m a x)|_=>none
 |_,_,_,_=>none
noncomputable def d9:(m:MC)->(fs:List E)->(es:List Expr)->cW m fs es
 |m,[],es=>match es with|[]=>some ⟨.nil⟩|_=>none
 |m,f::fs,l=>match l with|x::xs=>kEs (ckE m f x) (d9 m fs xs)|_=>none
noncomputable def ckO:(m:MC)->(f:Option E)->(e:Option Expr)->CkO m f e
 |m,none,e=>match e with|none=>some ⟨λ_=>True.intro⟩|_=>none
 |m,some f,l=>match l with|some x=>kO (ckE m f x)|_=>none
noncomputable def ckF:(m:MC)->(fs:List E)->(es:List Expr)->CkF m fs es
 |m,[],es=>match es with|[]=>some ⟨.nil⟩|_=>none
 |m,f::fs,l=>match l with|x::xs=>kF (ckT m f x) (ckF m fs xs)|_=>none
end
noncomputable def mE(m:MC)(f:E)(e:Expr):Bool:=(ckE m f e).isSome
noncomputable def mT(m:MC)(f:E)(e:Expr):Bool:=(ckT m f e).isSome
noncomputable def mI(m:MC)(tg:Expr)(f:E)(e:Expr):Bool:=(ckI m tg f e).isSome
noncomputable def mF(m:MC)(f:List E)(e:List Expr):Bool:=(ckF m f e).isSome
section
variable {W:WD}
def sE(f:E){e:Expr}(S:SX k W m C X)(h:mE m f e=true):PV C X e (evE W f):=got h S
def sT(f:E){e:Expr}(S:SX k W m C X)(h:mT m f e=true):PTv C X e (evE W f):=got h S
def sI(f:E){e:Expr}(S:SX k W m C X)(h:mI m tg f e=true):PIv C X tg e (evE W f):=got h S
def sF(fs:List E){es:List Expr}(S:SX k W m C X)(h:mF m fs es=true):cV X es (tT (C.at X) (evF W fs)):=gF h S
end
inductive G where|app (k v:E)|for (it:E) (t:Tg) (g:G)
inductive S where
 |ret (e:E)|retV (i:Nat)|set (i:Nat) (e:E)|ite (c:E) (a b:List S)|for (it:E) (t:Tg) (body:List S)
 |never|asg (t:Tg) (e:E)
 |app (i:Nat) (e:E)|setC (i:Nat) (fz:Bool) (e:E)|nput (i:Nat) (k e:E)|frzV (i:Nat)|nfrz (i:Nat)|way (I:bO)
mutual
noncomputable def evS(W:WD):S->Rho->aF
 |.ret e,ρ=>iL (evE W e ρ) ρ
 |.retV i,ρ=>eR ρ i
 |.set i e,ρ=>dC ρ i (evE W e ρ)
 |.ite c a b,ρ=>ifS (evE W c ρ) ρ (evB W a ρ) (evB W b ρ)
 |.for it t body,ρ=>dX (evE W it ρ) ρ (aP t) (evB W body)
 |.asg t e,ρ=>k6 t ρ (evE W e ρ)
 |.app i e,ρ=>dY ρ i (evE W e ρ)
 |.frzV i,ρ=>jV ρ i
 |.nfrz i,ρ=>jX ρ i
 |.way _,_=>.stuck
 |.nput i k e,ρ=>lC ρ i (evE W k ρ) (evE W e ρ)
 |.setC i fz e,ρ=>dC ρ i (if fz=true then aG (evE W e ρ)else evE W e ρ)
 |.never,_=>.stuck
noncomputable def evB(W:WD):List S->Rho->aF
 |[],ρ=>.nx ρ
 |s::r,ρ=>(evS W s ρ).thn (evB W r)
end
noncomputable def hC:Expr->Bool|.ListComp ..=>false|.SetComp ..=>false|.DictComp ..=>false|_=>true
noncomputable def mC(m:MC)(elt:Expr)(scope:Scope):E->List Comprehension->Bool
 |.comp el it ts caps t n,gens=>match gens with
  |[⟨tg,aS,ifs,0⟩] =>
   let aI:=caps.filterMap λi=>m.N[i]?
   let tgN:=eH 4 tg
   m.calm&&lO scope m.sc m.N caps aI tgN&&g9 aS&&decide (tgN.length=n)&&(eE t).all (λj=>decide (caps.length<=j))&&mG (m.sub scope aI tgN) t tg&&(mI m tg it aS&&(mE (m.sub scope aI tgN) el elt&&mF (m.sub scope aI tgN) ts ifs))
  |_=>false
 |_,_=>false
noncomputable def uM:Expr->Bool|.Tuple ..=>false|_=>true
def lS{e:Expr}{t:Option Expr}(h:hC e=true):swapsWith e t n env=pure false:=by cases e <;> first|rfl|cases h
def aHR{e:Expr}(hs:env.scope=m.sc)(h:(hC e||m.kind x==some .cell)=true):swapsWith e (some (.Name x p)) n env=pure false:=by
 rw[aN1,aMG]at h;rcases h with h|h
 . exact lS h
 . have hk:env.kindOf x=some .cell:=by show env.scope.names.lookup x=_;rw[hs];exact h
   unfold swapsWith;have kc:(NameKind.cell==NameKind.local)=false:=by decide
   cases e <;> first|rfl|(simp[hk,kc])
def aHS{t:Expr}{e:Expr}(h:uM e=true):swappedStores [t] e env=pure none:=by
 unfold swappedStores;split
 . rename_i q;split at q
   . cases h
   . cases h
   . cases q
 . rfl
def aHT:PSv C X st (λ_=>.stuck):=λaA s σ H En I q=>by obtain⟨ρ,F,R,w⟩:=q;exact w.elim
section
variable {W:WD}
structure SB(k:Nat)(W:WD)(m:MC)(C:Cw)(X:Cx):Prop extends SX k W m C X where
 nd:m.N.Nodup
 hp:PassesOwn (model X.prog X.w) X.A X.env X.xe
 ro:m.rz=true->RzOk (C.at X) X/\FnCx X/\XOk (HX1 X.prog X.w) (C.at X) X
end
def aHU{W:WD}(S:SB k W m C X)(fz:Bool){el it:E}{ts:List E}{px sp:Pos}{gens:List Comprehension}(h1:m.N[i]? = some x)(h2:m.kind x=some .local)(h3:m.sc.kind=.function)(h4:px.line=cp.line)(h5:(scope.names.any λy=>y.1==x&&(y.2 == .local||y.2 == .cell))=false)(h:mC m elt scope (.comp el it ts caps t n) gens=true):PSv C X (.Assign [.Name x px] (.ListComp elt gens scope cp) sp) (λρ=>dC ρ i (if fz=true then aG (evE W (.comp el it ts caps t n) ρ)else evE W (.comp el it ts caps t n) ρ)):=by
 have hk:X.env.scope.names.lookup x=some .local:=by rw[S.hs];exact h2
 conv at h=>lhs;whnf
 split at h
 . rename_i tg aS ifs;simp only[aNI,aNZ,aPG]at h;obtain⟨⟨⟨⟨⟨⟨hq,ho⟩,hn⟩,hl⟩,hs⟩,hg⟩,k1,k2,k3⟩:=h;unfold lO at ho;simp only[aNI,aPG,aN1,aPQ,aMG,aNZ,aPO]at ho;obtain⟨⟨⟨⟨⟨⟨⟨g1,g2⟩,g3⟩,g4⟩,g5⟩,g6⟩,g7⟩,g8⟩:=ho;have er:(relabel scope X.env).names=jS scope m.sc:=by rw[<- S.hs];rfl
   have bk:X.env.blockKind=.function:=by unfold Env.blockKind;rw[S.hs,h3];rfl
   have hsw:swapsWith (.ListComp elt [⟨tg,aS,ifs,0⟩] scope cp) (some (.Name x px)) sp.line X.env=pure true:=by
    have kx:X.env.kindOf x=some .local:=hk;unfold swapsWith;have k1:(ScopeKind.function==ScopeKind.function)=true:=by decide
    have k2:(some NameKind.local==some NameKind.local)=true:=by decide
    simp only[bk,kx,Expr.pos,h4,h5,k1,k2,aOG];rfl
   have := aEB fz (pos := cp) (pos' := px) (spos := sp) (i := i) (x := x) (tgN := eH 4 tg) (t := t) (S.cm hq) (sI it S.toSX k1) g1 g2 (fun y hy e => (g3 y hy).resolve_left fun z => z e) (fun y hy e => by
       have:=g4 y hy;show X.env.scope.names.lookup y.1=_\/X.env.scope.names.lookup y.1=_;rw[S.hs];rcases this with(z|z)|z
       . exact absurd e z
       . exact .inl z
       . exact .inr z) (by rw[S.hN];exact g5) g6 (λy hy=>by rw[er];exact g7 y hy) (λj hj=>hs j hj) (λcl A fp s3 H3=>sG (S.toSX.sub cl A fp s3 H3) g8 t hg)
       (λcl A fp s3 H3=>sF ts (S.toSX.sub cl A fp s3 H3) k3) (λcl A fp s3 H3=>sE el (S.toSX.sub cl A fp s3 H3) k2) (by rw[S.hN];exact S.nd) (by rw[S.hN];exact h1) hk hsw (oG hn)
   rw[hl]at this;exact this
 . cases h
abbrev CkS(m:MC)(f:D3.S)(st:Stmt):Type:=Option (PLift (∀{k:Nat}{W:WD}{C:Cw}{X:Cx},SB k W m C X->PSv C X st (evS W f)))
abbrev CkB(m:MC)(f:List D3.S)(sts:List Stmt):Type:=Option (PLift (∀{k:Nat}{W:WD}{C:Cw}{X:Cx},SB k W m C X->PBv C X sts (evB W f)))
noncomputable def aHV{f}{e}{p1:_}:CkS m (.ret f) (.Return (some e) p1):=if h:(mE m f e)=true then some ⟨λS=>by
 exact aCP (sE f S.toSX h)⟩else none
noncomputable def aHW{i:_}{x:_}{p1:_}{p2:_}:CkS m (.retV i) (.Return (some (.Name x p1)) p2):=if h:(m.N[i]?==some x&&m.vis x)=true then some ⟨λS=>by
 simp only[aNI,aMG]at h;obtain⟨h1,h2,h3⟩:=S.toSX.vis h.2
 exact aCQ i (iE (by rw[S.hN];exact h.1) h1 h2 h3)⟩else none
noncomputable def aHX{i:_}{f}{x:_}{p1:_}{e}{p3}:CkS m (.set i f) (.Assign [.Name x p1] e p3):=if h:(m.loc i x&&(hC e||m.kind x==some .cell)&&mE m f e)=true then some ⟨λS=>by
 simp only[aNI]at h;obtain⟨⟨h1,h2⟩,h3⟩:=h;obtain⟨b,c,d⟩:=S.toSX.loc h1
 exact aCS (by rw[S.hN];exact S.nd) b c (sE f S.toSX h3) (aHR S.hs h2) d⟩else none
noncomputable def aHY{i:_}{f}{g:_}{x:_}{p1:_}{k:_}{p3}{e}{p5}:CkS m (.nput i f g) (.Assign [.Subscript (.Name x p1) k p3] e p5):=if h:(m.N[i]?==some x&&m.vis x&&hC e&&mE m f k&&mE m g e)=true then some ⟨λS=>by
 simp only[aNI,aMG]at h;obtain⟨⟨⟨⟨h1,h2⟩,h3⟩,h4⟩,h5⟩:=h;obtain⟨v1,v2,v3⟩:=S.toSX.vis h2
 exact aE9 i S.un (iE (by rw[S.hN];exact h1) v1 v2 v3) (sE f S.toSX h4) (sE g S.toSX h5) (lS h3)⟩else none
noncomputable def aHZ{i:_}{fz}{f}{x:_}{px}{elt:_}{gens}{scope:_}{cp:_}{p6}:CkS m (.setC i fz f) (.Assign [.Name x px] (.ListComp elt gens scope cp) p6):=if h:(m.N[i]?==some x&&m.kind x==some .local&&m.sc.kind == .function&&px.line==cp.line&&!(scope.names.any λy=>y.1==x&&(y.2 == .local||y.2 == .cell))&&mC m elt scope f gens)=true then some ⟨λS=>by
 simp only[aNI,aMG,aPP]at h;obtain⟨⟨⟨⟨⟨h1,h2⟩,h3⟩,h4⟩,h5⟩,h7⟩:=h;cases f with
 |comp el it ts caps t n=>exact aHU S fz h1 h2 h3 h4 h5 h7
 |_=>cases h7⟩else none
noncomputable def aH0{f}{a}{b:_}{c:_}{x:_}{y:_}{p3}(r1:CkB m a x)(r2:CkB m b y):CkS m (.ite f a b) (.If c x y p3):=if h:(mT m f c&&(r1.isSome&&r2.isSome))=true then some ⟨λS=>by
 simp only[aNI]at h;obtain⟨h1,h2,h3⟩:=h;exact aCR (sT f S.toSX h1) (got h2 S) (got h3 S)⟩else none
noncomputable def aH1{f}{t:_}{b:_}{tg:_}{e}{body:_}{p3}(r1:CkB m b body):CkS m (.for f t b) (.For tg e body [] p3):=if h:(m.calm&&mG m t tg&&g9 e&&(mI m tg f e&&r1.isSome))=true then some ⟨λS=>by
 simp only[aNI]at h;obtain⟨⟨⟨hq,h1⟩,h2⟩,h3,h4⟩:=h;exact aCZ S.hp (S.cm hq) (sI f S.toSX h3) (aD8 (sG S.toSX S.nd t h1)) (got h4 S) (oG h2)⟩else none
noncomputable def aH2{t:_}{f}{tg:_}{e}{p2:_}:CkS m (.asg t f) (.Assign [tg] e p2):=if h:(mG m t tg&&fY tg&&hC e&&uM e&&mE m f e)=true then some ⟨λS=>by
 simp only[aNI]at h;obtain⟨⟨⟨⟨h1,h2⟩,h3⟩,h4⟩,h5⟩:=h;exact aD9 (sE f S.toSX h5) (sG S.toSX S.nd t h1) (lS h3) (aHS h4) h2⟩else none
noncomputable def aH3{i:_}{f}{x:_}{p1:_}{a}{ap:_}{e}{cp:_}{p6}:CkS m (.app i f) (.Expr (.Call (.Attribute (.Name x p1) a ap) [e] [] cp) p6):=if h:(m.N[i]?==some x&&m.vis x&&a == "append" && ap.endLine==cp.line&&cC e&&mE m f e)=true then some ⟨λS=>by
 simp only[aNI,aMG]at h;obtain⟨⟨⟨⟨⟨h1,h2⟩,rfl⟩,h3⟩,h4⟩,h5⟩:=h;obtain⟨v1,v2,v3⟩:=S.toSX.vis h2
 exact aEH i (iE (by rw[S.hN];exact h1) v1 v2 v3) (sE f S.toSX h5) h4 h3⟩else none
def aH4{W:WD}(S:SB k W m C X):PBv C X [] (evB W []):=by
 have:evB W []=λρ=>.nx ρ:=by funext ρ;simp only[evB]
 rw[this];exact aCM
noncomputable def aH5{i fs sts:_}(r:CkB m fs sts):CkB m (.frzV i::fs) sts:=if h:r.isSome=true then some ⟨λ{k}{W}{C}{X} S=>by
 have:evB W (.frzV i::fs)=λρ=>(jV ρ i).thn (evB W fs):=by funext ρ;rfl
 rw[this];exact aET (got h S)⟩else none
noncomputable def aH6{i fs sts:_}(r:CkB m fs sts):CkB m (.nfrz i::fs) sts:=if h:r.isSome=true then some ⟨λ{k}{W}{C}{X} S=>by
 have:evB W (.nfrz i::fs)=λρ=>(jX ρ i).thn (evB W fs):=by funext ρ;rfl
 rw[this];exact aFL (got h S)⟩else none
def aH7{g:Rho->aF}(h:∀ρ,g ρ=.stuck):PBv C X sts g:=λaA s σ H E I q=>by obtain⟨ρ,F,R,w⟩:=q;rw[h]at w;exact w.elim
def bO.e(I:bO):E:=match I.r with
 |.nm i=>.var (I.ps.length+i)
 |.ix j=>.ix (.lst ((List.range I.ws.length).map λi=>.var (I.ps.length+i))) (.var j)
noncomputable def oJ(m:MC)(I:bO)(sts:List Stmt):Bool:=m.N==I.ps++I.ws.map (·.1)&&I.ok I.ps&&decide (I.ws.length<=64)&&(match wsR m.sc m.q I.ws sts with|some e=>mE { m with calm:=false,q := "" } I.e e|none=>false)
noncomputable def oK{I sts:_}:CkB m [.way I] sts:=if h:oJ m I sts=true then some ⟨λ{k}{W}{C}{X} S=>aH7 λρ=>rfl⟩else none
noncomputable def aH8{f fs st sts:_}(r:CkS m f st)(r2:CkB m fs sts):CkB m (f::fs) (st::sts):=if h:(r.isSome&&r2.isSome)=true then some ⟨λ{k}{W}{C}{X} S=>by
 rw[aNI]at h;have:evB W (f::fs)=λρ=>(evS W f ρ).thn (evB W fs):=by funext ρ;simp only[evB]
 rw[this];exact aCO (got h.1 S) (got h.2 S)⟩else none
set_option maxHeartbeats 4000000 in
mutual
noncomputable def ckS:(m:MC)->(f:D3.S)->(st:Stmt)->CkS m f st
 |m,.never,st=>some ⟨λ_=>aHT⟩
 |_,.frzV _,_=>none
 |_,.nfrz _,_=>none
 |_,.way _,_=>none
 |m,.ret f,st=>match st with|.Return (some e) p1=>aHV|_=>none
 |m,.retV i,st=>match st with|.Return (some (.Name x p1)) p2=>aHW|_=>none
 |m,.set i f,st=>match st with|.Assign [.Name x p1] e p3=>aHX|_=>none
 |m,.nput i f g,st=>match st with|.Assign [.Subscript (.Name x p1) k p3] e p5=>aHY|_=>none
 |m,.setC i fz f,st=>match st with|.Assign [.Name x px] (.ListComp elt gens scope cp) p6=>aHZ|_=>none
 |m,.ite f a b,st=>match st with|.If c x y p3=>aH0 (ckB m a x) (ckB m b y)|_=>none
 |m,.for f t b,st=>match st with|.For tg e body [] p3=>aH1 (ckB m b body)|_=>none
 |m,.asg t f,st=>match st with|.Assign [tg] e p2=>aH2|_=>none
 |m,.app i f,st=>match st with|.Expr (.Call (.Attribute (.Name x p1) a ap) [e] [] cp) p6=>aH3|_=>none
noncomputable def ckB:(m:MC)->(f:List D3.S)->(sts:List Stmt)->CkB m f sts
 |m,[],sts=>match sts with|[]=>some ⟨λS=>aH4 S⟩|_=>none
 |m,.frzV i::fs,sts=>aH5 (ckB m fs sts)
 |m,.nfrz i::fs,sts=>aH6 (ckB m fs sts)
 |m,[.way I],sts=>oK
 |m,f::fs,sts=>match sts with|st::sts=>aH8 (ckS m f st) (ckB m fs sts)|_=>none
end
noncomputable def mB(m:MC)(f:List D3.S)(sts:List Stmt):Bool:=(ckB m f sts).isSome
def sB{W:WD}(S:SB k W m C X)(f:List D3.S)(h:mB m f sts=true):PBv C X sts (evB W f):=got h S
inductive IB where
 |done|guard (c:E) (b:List D3.S) (r:IB)|fset (f:Str) (e:E) (r:IB)
inductive IR where|ok (fs:List (Str×D))|exc (c:Str)|stuck
noncomputable def dI(W:WD)(c:Str):IB->Rho->List (Str×D)->IR
 |.done,_,fs=>.ok fs
 |.guard t b r,ρ,fs=>match evE W t ρ with
  |.ok _ (.bl false)=>dI W c r ρ fs
  |.ok _ (.bl true)=>(match evB W b ρ with|.exc x _=>.exc x|_=>.stuck)
  |_=>.stuck
 |.fset f e r,ρ,fs=>match evE W e ρ with
  |.ok .fz d=>(match W.cl.find? (λi=>i.name==c)with
   |some j=>if(j.flds.contains f&&decide (fs.length<1000))=true then dI W c r ρ (jT f d fs)else .stuck
   |none=>.stuck)
  |_=>.stuck
noncomputable def tIB(C:Cw)(W:WD)(c:Str)(ib:IB):TS:=λEn σ H=>∃ρ F fs x dx C' gs,aR C.K C.F0 C.H0 F H σ ρ/\σ[0]? = some (some (.ref x))/\(∀(i:Nat) (d:D),ρ[i]?≠some (some (true,d)))/\C.H0 x=none/\F x=none/\H x=some (.ins C' dx gs) /\
 PySem.W.nsIn C.K mainGlobals c=some (some (.ref C'))/\aQ C.K F fs gs/\match dI W c ib ρ fs with
 |.ok fs'=>∀F' H' gs',aE C.F0 C.H0 F' H'->F' x=none->H' x=some (.ins C' dx gs')->aQ C.K F' fs' gs'->En.nx σ H'
 |.exc c'=>∀σ' F' H',aE C.F0 C.H0 F' H'->C.EE c' σ' H'
 |.stuck=>False
section
variable {W:WD}
def aH9{c:Str}:PSs X [] (tIB (C.at X) W c .done):=PSs.imp mV λEn σ H q=>by obtain⟨ρ,F,fs,x,dx,C',gs,R,e0,_,h0,hf,hh,ns,rf,w⟩:=q;exact w F H gs R.st hf hh rf
def aIA(S:SB k W m C X)(c:Str){t:E}{b:List D3.S}{r:IB}{e:Expr}{y:List Stmt}(h1:mT m t e=true)(h2:mB m b y=true)(hr:PSs X sts (tIB (C.at X) W c r)):PSs X (.If e y [] p::sts) (tIB (C.at X) W c (.guard t b r)):=by
 refine PSs.imp (mW (qE (sT t S.toSX h1) (sB S b h2) mV) hr) λEn σ H q=>?_;obtain⟨ρ,F,fs,x,dx,C',gs,R,e0,e0',h0,hf,hh,ns,rf,w⟩:=q;refine⟨ρ,F,R,?_⟩;unfold dI at w;cases et:evE W t ρ with
 |stuck=>rw[et]at w;exact w.elim
 |exc c'=>rw[et]at w;exact w.elim
 |ok m' d' =>
  cases d' with
  |bl bb =>
   intro F' H' st;cases bb with
   |false=>rw[et]at w;rw[if_neg aMF];exact⟨ρ,F',fs,x,dx,C',gs,R.step st,e0,e0',h0,st.new x hf (by rw[hh];exact λz=>nomatch z),st.same _ _ hh,ns,rf.mono st.fsame _ _,w⟩
   |true =>
    rw[et]at w;rw[if_pos rfl];refine⟨ρ,F',R.step st,?_⟩;dsimp only at w;cases eb:evB W b ρ with
    |exc c' ρ'=>rw[eb]at w;exact λσ2 F2 H2 _ R2=>w σ2 F2 H2 R2.st
    |_=>rw[eb]at w;exact w.elim
  |_=>rw[et]at w;exact w.elim
def aIB(S:SB k W m C X)(c:Str){f:Str}{e:E}{r:IB}{x0 g0:Str}{p0:Pos}{v0:Expr}(h:(m.N[0]?==some x0&&m.vis x0&&g0==f&&hC v0&&mE m e v0)=true)(hr:PSs X sts (tIB (C.at X) W c r)):PSs X (.Assign [.Attribute (.Name x0 p0) g0 p1] v0 p2::sts) (tIB (C.at X) W c (.fset f e r)):=by
 simp only[aNI,aMG]at h;obtain⟨⟨⟨⟨h1,h2⟩,hgf⟩,h3⟩,h4⟩:=h;subst hgf;obtain⟨v1,v2,v3⟩:=S.toSX.vis h2;refine PSs.imp (mW (aAB (iE (i:=0) (by rw[S.hN];exact h1) v1 v2 v3) (sE e S.toSX h4) (lS h3)) hr) λEn σ H q=>?_
 obtain⟨ρ,F,fs,x,dx,C',gs,R,e0,e0',h0,hf,hh,ns,rf,w⟩:=q;unfold dI at w;cases et:evE W e ρ with
 |stuck=>rw[et]at w;exact w.elim
 |exc c'=>rw[et]at w;exact w.elim
 |ok md d =>
  rw[et]at w;cases md with
  |fr=>exact w.elim
  |bo=>exact w.elim
  |fz =>
  dsimp only at w;cases ej:W.cl.find? (λi=>i.name==c)with
  |none=>rw[ej]at w;exact w.elim
  |some j =>
   rw[ej]at w;dsimp only at w;by_cases hc:(j.flds.contains g0&&decide (fs.length<1000))=true
   . rw[if_pos hc]at w;rw[aNI,aNZ]at hc;show tG (C.at X) (evE W e) σ H _;rw[aV];refine⟨ρ,F,R,?_⟩;rw[et];intro v F1 H1 s1 rp _;have hj:j.name=c:=by simpa using aOJ ej
     obtain⟨C2,n1,cl',na⟩:=(S.fl j _ (aOK ej) (by simpa using hc.1)).ex
     rw[hj]at n1;have ns':PySem.W.nsIn X.K mainGlobals c=some (some (.ref C')):=ns;rw[n1]at ns';cases ns';have hh1:H1 x=some (.ins C' dx gs):=s1.same _ _ hh;have hf1:F1 x=none:=s1.new x hf (by rw[hh];exact λz=>nomatch z)
     refine⟨.ref x,e0,x,C',dx,gs,rfl,hh1,cl',na,by rw[rf.length];exact hc.2,?_⟩
     have R1:=R.step s1;have st:aE C.F0 C.H0 F1 (upd H1 x (.ins C' dx (bY g0 v gs))):=R1.st.upd h0 hf1;refine⟨ρ,F1,jT g0 d fs,x,dx,C',_,⟨st,λi b d' ei=>?_,λi l d1 d2 a hil q1 q2=>?_,R1.len⟩,e0,e0',h0,hf1,a9,ns,aQ.put rp (rf.mono s1.fsame _ _),w⟩
     . obtain⟨u,eu,ru,hu⟩:=R1.slot i b d' ei;refine⟨u,eu,?_,hu⟩;cases b with
       |false=>exact ru
       |true=>exact absurd ei (e0' i d')
     . exact R1.apart i l d1 d2 a hil q1 q2
   . rw[if_neg hc]at w;exact w.elim
end
abbrev jZ(m:MC)(ib:IB)(l:List Stmt):Type:=Option (PLift (∀{k:Nat}{W:WD}{C:Cw}{X:Cx},SB k W m C X->∀c:Str,PSs X l (tIB (C.at X) W c ib)))
noncomputable def aIC{t b r e y p sts:_}(r1:jZ m r sts):jZ m (.guard t b r) (.If e y [] p::sts):=if h:(mT m t e&&mB m b y&&r1.isSome)=true then some ⟨λS c=>by
 rw[aNI,aNI]at h;exact aIA S c h.1.1 h.1.2 (got h.2 S c)⟩else none
noncomputable def aID{f e r x0 p0 g0 p1 v0 p2 sts:_}(r1:jZ m r sts):jZ m (.fset f e r) (.Assign [.Attribute (.Name x0 p0) g0 p1] v0 p2::sts):=if h:(m.N[0]?==some x0&&m.vis x0&&g0==f&&hC v0&&mE m e v0&&r1.isSome)=true then some ⟨λS c=>by
 rw[aNI]at h;exact aIB S c h.1 (got h.2 S c)⟩else none
noncomputable def oM(m:MC):(ib:IB)->(l:List Stmt)->jZ m ib l
 |.done,l=>match l with|[]=>some ⟨λ_ _=>aH9⟩|_=>none
 |.guard t b r,l=>match l with|.If e y [] p::sts=>aIC (oM m r sts)|_=>none
 |.fset f e r,l=>match l with|.Assign [.Attribute (.Name x0 p0) g0 p1] v0 p2::sts=>aID (oM m r sts)|_=>none
noncomputable def mIB(m:MC)(ib:IB)(l:List Stmt):Bool:=(oM m ib l).isSome
def sIB{W:WD}(S:SB k W m C X)(c:Str)(ib:IB)(h:mIB m ib sts=true):PSs X sts (tIB (C.at X) W c ib):=got h S c
structure CD where
 caps:List Str
 rn:Str
 ls:List Str
 b:List D3.S
structure FD where
 ps:List Str
 N:List Str
 b:List D3.S
 ins:List (Str×CD)
structure ID where
 c:Str
 ps:List Str
 N:List Str
 ib:IB
structure TB where
 T:List (Str×FD)
 I:List (Str×ID)
 cl:List CI
 xt:List ((Str×Str)×Bool)
 xi:List ((Str×Str)×Bool)
noncomputable def dA(W:WD)(i:ID):List D->Res:=λds=>if ds.length+1=i.ps.length then(match dI W i.c i.ib (none::bC (i.N.length-1) ds) []with
 |.ok fs=>.ok .fr (.ins i.c fs)
 |.exc c=>.exc c
 |.stuck=>.stuck)else .stuck
noncomputable def j0(t:TB)(W:WD)(f:Str):List D->Res:=match t.T.lookup f with
 |some d=>phi d.ps.length d.N.length (evB W d.b)
 |none=>λ_=>.stuck
noncomputable def MsF(t:TB)(W:WD)(x:Str):D->KD->Option KD:=match t.T.lookup x with
 |some d=>λ_ _=>none
 |none=>λ_ _=>none
noncomputable def ClT(t:TB)(W:WD)(f n:Str):List (Str×D)->D->Res:=match t.T.lookup f with
 |some d=>(match d.ins.lookup n with|some c=>d5 c.caps (c.caps++c.rn::c.ls).length (evB W c.b)|none=>λ_ _=>.stuck)
 |none=>λ_ _=>.stuck
noncomputable def wyF(t:TB)(f:Str):Option bO:=match t.T.lookup f with
 |some d=>(match d.b with|[.way I]=>if d.ps=I.ps/\d.ins.isEmpty=false then some I else none|_=>none)
 |none=>none
noncomputable def wd0(t:TB):WD:=⟨λ_ _=>.stuck,λ_ _=>.stuck,λ_=>none,t.cl,t.xt,t.xi,false,λ_ _ _=>none,λ_ _ _ _=>.stuck,wyF t⟩
noncomputable def WT(t:TB):Nat->WD
 |0=>wd0 t
 |1=>⟨λf=>j0 t (wd0 t) f,λ_ _=>.stuck,λ_=>none,t.cl,t.xt,t.xi,true,MsF t (wd0 t),ClT t (wd0 t),wyF t⟩
 |k+2=>⟨λf=>j0 t (WT t (k+1)) f,(WT t (k+1)).Φ,λkey=>match t.I.lookup key with|some i=>some (dA (WT t k) i)|none=>none,t.cl,t.xt,t.xi,true,MsF t (WT t (k+1)),ClT t (WT t (k+1)),wyF t⟩
def gG(t:TB):∀k,(WT t k).cl=t.cl
 |0=>rfl
 |1=>rfl
 |k+2=>rfl
def uN(t:TB):∀k,(WT t k).xt=t.xt
 |0=>rfl
 |1=>rfl
 |k+2=>rfl
def uO(t:TB):∀k,(WT t k).xi=t.xi
 |0=>rfl
 |1=>rfl
 |k+2=>rfl
def uP(t:TB):∀k,(WT t k).Wy=wyF t
 |0=>rfl
 |1=>rfl
 |k+2=>rfl
def hO(t:TB):∀k,(WT t (k+1)).Cl=ClT t (WT t k)
 |0=>rfl
 |k+1=>rfl
def WT_Φ(t:TB):∀k f,(WT t (k+1)).Φ f=j0 t (WT t k) f
 |0,f=>rfl
 |k+1,f=>rfl
noncomputable def uQ(g:MG)(st:Stmt)(n:Str)(c:CD):Bool:=match oB c.caps c.rn n st with
 |some (sc,b)=>decide (c.caps++c.rn::c.ls).Nodup&&mB ⟨c.caps++c.rn::c.ls,sc,g,false,true,false,""⟩ c.b b
 |none=>false
noncomputable def fO(g:MG)(key:Str)(st:Stmt)(d:FD):Bool:=lQ d.N d.ps (bA st)&&(mB ⟨d.N,bA st,g,true,true,true,key⟩ d.b (cQ st)&&d.ins.all λz=>uQ g st z.1 z.2)
noncomputable def oN(g:MG)(st:Stmt)(d:ID):Bool:=lQ d.N d.ps (bA st)&&mIB ⟨d.N,bA st,g,true,true,true,""⟩ d.ib (cQ st)&&decide (0<d.ps.length)
noncomputable def uR(K:Fg)(g:MG)(fa:Str->Addr)(key:Str)(d:FD):Prop :=
 ∃name st fd,Fun K name key st (fa key) fd/\cB K fd d.ps []/\fO g key st d=true
noncomputable def j2(K:Fg)(g:MG)(fa:Str->Addr):List (Str×FD)->Prop
 |[]=>True
 |(x,d)::r=>uR K g fa x d/\j2 K g fa r
theorem j2.at{g:MG}:∀{T:List (Str×FD)}{x:Str}{d:FD},j2 K g fa T->T.lookup x=some d->uR K g fa x d
 |[],_,_,_,e=>by cases e
 |(y,d')::r,x,d,h,e=>by
  rw[aNY]at e;split at e
  . rename_i hb;cases e;rw[aMG]at hb;subst hb;exact h.1
  . exact h.2.at e
noncomputable def uS(K:Fg)(mg:SOV)(g:MG)(key:Str)(d:ID):Prop :=
 ∃name st C f fd,W.nsIn K mainGlobals d.c=some (some (.ref C))/\mg d.c=some (.ref C)/\Mk K C f/\Fun K name key st f fd/\cB K fd d.ps []/\oN g st d=true
noncomputable def j3(K:Fg)(mg:SOV)(g:MG):List (Str×ID)->Prop
 |[]=>True
 |(x,d)::r=>uS K mg g x d/\j3 K mg g r
theorem j3.at{g:MG}:∀{T:List (Str×ID)}{x:Str}{d:ID},j3 K mg g T->T.lookup x=some d->uS K mg g x d
 |[],_,_,_,e=>by cases e
 |(y,d')::r,x,d,h,e=>by
  rw[aNY]at e;split at e
  . rename_i hb;cases e;rw[aMG]at hb;subst hb;exact h.1
  . exact h.2.at e
noncomputable def GVOk(w:aP3)(K:Fg)(mg:SOV)(fa:Str->Addr)(x:Str):GV->Prop
 |.con (.s y)=>∃t,mg x=some (.str y t)
 |.con (.i n)=>∃t,mg x=some (.int n t)
 |.con (.t tb)=>iR w K mg x tb
 |.no=>mg x=none
 |.fn _=>mg x=some (.ref (fa x))
 |.cls=>True
noncomputable def j4(w:aP3)(K:Fg)(mg:SOV)(fa:Str->Addr):List (Str×GV)->Prop
 |[]=>True
 |(x,v)::r=>GVOk w K mg fa x v/\j4 w K mg fa r
theorem j4.at:∀{G:List (Str×GV)}{x:Str}{v:GV},j4 w K mg fa G->G.lookup x=some v->GVOk w K mg fa x v
 |[],_,_,_,e=>by cases e
 |(y,v')::r,x,v,h,e=>by
  rw[aNY]at e;split at e
  . rename_i hb;cases e;rw[aMG]at hb;subst hb;exact h.1
  . exact h.2.at e
noncomputable def gOk(G:List (Str×GV))(T:List (Str×FD)):Bool:=G.all λ(x,v)=>match v with|.fn n=>(match T.lookup x with|some d=>d.ps.length==n|none=>false)|_=>true
theorem oO{T:List (Str×FD)}:∀{G:List (Str×GV)}{x:Str}{n:Nat},gOk G T=true->G.lookup x=some (.fn n)->∃d,T.lookup x=some d/\d.ps.length=n
 |[],_,_,_,e=>by cases e
 |(y,v')::r,x,n,h,e=>by
  unfold gOk at h;rw[aPR,aNI]at h;rw[aNY]at e;split at e
  . rename_i hb;cases e;rw[aMG]at hb;subst hb;have h1:=h.1;dsimp only at h1;cases q:T.lookup x with
    |none=>rw[q]at h1;cases h1
    |some d=>rw[q]at h1;exact⟨d,rfl,by simpa using h1⟩
  . exact oO (G:=r) h.2 e
noncomputable def mtOk(cl:List CI)(T:List (Str×FD)):Bool:=cl.all λi=>i.meths.all λ(_,key,n)=>match T.lookup key with|some d=>d.ps.length==n|none=>false
noncomputable def uT(mki:List (Str×Str×Nat))(I:List (Str×ID)):Bool:=mki.all λ(c,key,n)=>match I.lookup key with|some d=>d.c==c&&d.ps.length==n+1|none=>false
noncomputable def iV(K:Fg)(fa:Str->Addr)(C:Addr):List (Str×Str×Nat)->Prop
 |[]=>True
 |(m,key,_)::r=>jJ K C m (fa key)/\iV K fa C r
noncomputable def iW(K:Fg)(C:Addr):List Str->Prop
 |[]=>True
 |f::r=>fB K C f/\iW K C r
noncomputable def j5(K:Fg)(fa:Str->Addr):List CI->Prop
 |[]=>True
 |i::r=>(∃C,W.nsIn K mainGlobals i.name=some (some (.ref C))/\Cls K C/\iV K fa C i.meths/\iW K C i.flds)/\j5 K fa r
theorem j5.at:∀{cl:List CI}{i:CI},j5 K fa cl->i∈cl->∃C,W.nsIn K mainGlobals i.name=some (some (.ref C))/\Cls K C/\iV K fa C i.meths/\iW K C i.flds
 |[],_,_,h=>by cases h
 |j::r,i,h,hi=>by
  rcases aLU.mp hi with rfl|hi
  . exact h.1
  . exact h.2.at hi
theorem iW.at{C:Addr}:∀{l:List Str}{f:Str},iW K C l->f∈l->fB K C f
 |[],_,_,h=>by cases h
 |j::r,i,h,hi=>by
  rcases aLU.mp hi with rfl|hi
  . exact h.1
  . exact h.2.at hi
theorem iV.at{C:Addr}:∀{l:List (Str×Str×Nat)}{m key:Str}{n:Nat},iV K fa C l->l.lookup m=some (key,n)->jJ K C m (fa key)
 |[],_,_,_,_,e=>by cases e
 |(m',key',n')::r,m,key,n,h,e=>by
  rw[aNY]at e;split at e
  . rename_i hb;cases e;rw[aMG]at hb;subst hb;exact h.1
  . exact h.2.at e
noncomputable def oP(g:MG)(T:List (Str×FD)):Bool:=g.sn.isEmpty
def uU{g:MG}{T:List (Str×FD)}(h:oP g T=true)(hx:x∈g.sn):∃d:FD,T.lookup x=some d/\True/\True/\True/\g.G.lookup x=some (.fn 2):=by rw[aPH.mp h]at hx;cases hx
def aIE(h:mB m [.way I] sts=true):oJ m I sts=true:=by
 have h:(oK (m:=m) (I:=I) (sts:=sts)).isSome=true:=h;unfold oK at h;split at h
 . assumption
 . cases h
noncomputable def oQ(g:MG)(T:List (Str×FD)):Bool:=T.all λx=>x.2.ins.isEmpty||(match g.G.lookup x.1 with|some (.fn _)=>true|_=>false)
def uV{g:MG}{T:List (Str×FD)}(h:oQ g T=true){f:Str}{d:FD}(e:T.lookup f=some d)(hd:d.ins.isEmpty=false):∃n,g.G.lookup f=some (.fn n):=by
 have h:=aPG.mp h _ (aMU e);dsimp only at h;rw[hd,Bool.false_or]at h;split at h
 . rename_i n q;exact⟨n,q⟩
 . cases h
def aIF{t:TB}{f:Str}(h:wyF t f=some I):∃d,t.T.lookup f=some d/\d.b=[.way I]/\d.ps=I.ps/\d.ins.isEmpty=false:=by
 unfold wyF at h;split at h
 . rename_i d e;split at h
   . rename_i I' eb;split at h
     . rename_i q;cases h;exact⟨d,e,eb,q⟩
     . cases h
   . cases h
 . cases h
theorem uW{W:WD}{ρ:Rho}{np:Nat}{φ:Nat->D}:∀{l:List Nat},(∀i∈l,aO ρ (np+i)=.ok .fz (φ i))->aZ W (l.map λi=>.var (np+i)) ρ=.ok (l.map λi=>(.fz,φ i))
 |[],_=>rfl
 |i::l,h=>by show aJ (aO ρ (np+i)) (aZ W (l.map λi=>.var (np+i)) ρ)=_;rw[h i mcs,uW λj hj=>h j (mcm hj)];rfl
theorem uX{φ:Nat->D}:∀{l:List Nat},bU (l.map λi=>(.fz,φ i))=some (l.map φ)
 |[]=>rfl
 |i::l=>by show(bU (l.map λi=>(.fz,φ i))).map _=_;rw[uX];rfl
theorem wayE{W:WD}{gs:List Addr}{g0:Addr}(hn:n=I.ps.length+I.ws.length)(h64:I.ws.length<=64)(h1:ds.length=I.ps.length)(h2:gs.length=I.ws.length)(hp:I.pick ds=some i)(hg:gs[i]? = some g0):evE W I.e (bC n (ds++gs.map D.ob))=.ok .fz (.ob g0):=by
 have gt:∀{j:Nat}{d:D},(ds++gs.map D.ob)[j]? = some d->aO (bC n (ds++gs.map D.ob)) j=.ok .fz d:=λ{j d} e=>by unfold aO bC;rw[aMX (by simpa using(aLX.mp e).1),aMY,e];rfl
 have gv:∀{j:Nat}{a:Addr},gs[j]? = some a->aO (bC n (ds++gs.map D.ob)) (I.ps.length+j)=.ok .fz (.ob a):=λ{j a} e=>gt (by
  rw[<- h1,aMV (aPL _ _),aPM,aMY,e];rfl)
 unfold bO.pick at hp;unfold bO.e;cases er:I.r with
 |nm i'=>rw[er]at hp;cases hp;exact gv hg
 |ix j =>
  rw[er]at hp;dsimp only at hp ⊢;split at hp
  . rename_i z ez;have ej:aO (bC n (ds++gs.map D.ob)) j=.ok .fz (.int z):=gt (by rw[aMX (aLX.mp ez).1];exact ez)
    have el:aZ W ((List.range I.ws.length).map λi=>.var (I.ps.length+i)) (bC n (ds++gs.map D.ob))=.ok ((List.range I.ws.length).map λi=>(.fz,(D.ob (gs.getD i 0)))):=uW λi hi=>by
     have hi:i<gs.length:=by rw[h2];exact aLQ.mp hi
     rw[gv (aOC hi)];simp[hi]
    show op2 ixD (dW (aZ W ((List.range I.ws.length).map λi=>.var (I.ps.length+i)) (bC n (ds++gs.map D.ob)))) (aO (bC n (ds++gs.map D.ob)) j)=_;rw[el,ej];unfold dW;rw[aY.thn_ok,uX];dsimp only
    rw [if_pos (by have : (64 : Nat) ≤ sizeLine := by decide
                   simp;lia)]
    show Res.of (D3.ixD .fr (.lst ((List.range I.ws.length).map λi=>D.ob (gs.getD i 0))) .fz (.int z))=_;have:D3.ixD .fr (.lst ((List.range I.ws.length).map λi=>D.ob (gs.getD i 0))) .fz (.int z)=some (.fz,.ob g0):=by
     unfold ixD;dsimp only;unfold L2.atI;rw[aMJ,aPA,hp];have hi:i<I.ws.length:=by rw[<- h2];exact(aLX.mp hg).1
     have hg0:gs.getD i 0=g0:=by rw[List.getD_eq_getElem?_getD,hg];rfl
     rw[Option.bind_some,aMY,aOA hi,aOB,aOB,hg0]
    rw[this];rfl
  . cases hp
noncomputable def oR(g:MG)(T:List (Str×FD)):Bool:=g.cl.isEmpty
def aIG{g:MG}{T:List (Str×FD)}(h:oR g T=true){f a b:Str}(hx:(f,a,b,q)∈g.cl):∃d:FD,T.lookup f=some d/\True/\True/\True/\True/\g.G.lookup f=some (.fn 2):=by rw[aPH.mp h]at hx;cases hx
structure GF(w:aP3)(K:Fg)(mg:SOV)(g:MG)(t:TB)(fa:Str->Addr):Prop where
 con:j4 w K mg fa g.G
 gok:gOk g.G t.T=true
 all:j2 K g fa t.T
 alli:j3 K mg g t.I
 mk0:∀c,c∈g.mk0->nK K mg c
 mkok:uT g.mki t.I=true
 iso:∀c,c∈g.iso->IsV K mg t.cl c
 cls:j5 K fa t.cl
 mtok:mtOk t.cl t.T=true
 xtok:nQ K mg (λc x=>t.xt.lookup (c,x))
 xiok:nR K mg (λc x=>t.xi.lookup (c,x))
 xcok:∀c,c∈g.xcs->∃Cc,mg c=some (.ref Cc)/\sN K Cc
 xnok:∀n,n∈g.xns->∃cv,k7 mg n cv
 snok:oP g t.T=true
 clok:oR g t.T=true
 insok:oQ g t.T=true
 insns:∀f d,t.T.lookup f=some d->d.ins.isEmpty=false->W.nsIn K mainGlobals f=some (some (.ref (fa f)))
 clns:∀f a b h,(f,a,b,h)∈g.cl->W.nsIn K mainGlobals f=some (some (.ref (fa f)))
def uY{Q:VK}{E:XK}(hz:∀ds,Φ ds=.stuck)(h:spV K mg n Φ vs H Q E):False:=by obtain⟨_,F,ds,_,_,h⟩:=h;rw[hz]at h;exact h
section
variable {g:MG}{t:TB}
structure eI(P:aP4)(w:aP3)(K:Fg)(mg:SOV)(base:Heap)(g:MG)(t:TB)(fa:Str->Addr)(k:Nat):Prop where
 fn:∀key d,t.T.lookup key=some d->∃fd,bH P w K mg base (CX1 P w) k (fa key) fd d.ps (spV K mg d.ps.length ((WT t k).Φ key))/\cB K fd d.ps []/\W.keepIn K (.ref (fa key))=true
 fp:(WT t k).dp=true->∃j,j+1=k/\∀key d,t.T.lookup key=some d->∃fd,bH P w K mg base (CX1 P w) j (fa key) fd d.ps (spV K mg d.ps.length ((WT t k).Ψ key))/\cB K fd d.ps []/\W.keepIn K (.ref (fa key))=true
 ini:∀key d Φ,t.I.lookup key=some d->(WT t k).I key=some Φ->∃j,j+1<=k/\InV P w K mg base (CX1 P w) j d.c (d.ps.length-1) Φ
 mu:∀x,x∈g.sn->∃fd ps,bH P w K mg base (CX1 P w) k (fa x) fd ps (lL K ((WT t k).Ms x))/\cB K fd ps []/\W.keepIn K (.ref (fa x))=true
 cv:∀f n,gY P w K mg base k f n ((WT t k).Cl f n)
def uZ(f:GF w K mg g t fa)(A:eI P w K mg base g t fa k){N:List Str}{fb cb rb:Bool}(hP:X.prog=P)(hw:X.w=w)(hK:X.K=K)(hmg:X.mg=mg)(hb:X.base=base)(hN:X.N=N)(hs:X.env.scope=sc)(cm:cb=true->X.calm=true)(rm:cb=true->aX k X.A)(un:X.A.units+64<cLine)(hfn:fb=true->∀x,X.fn x=true)(cd:q="" \/ (W.codeIn X.K X.env.code q=true/\X.env.qual=q ++ ".<locals>."))(xo:cb=true->XOk (CX1 X.prog X.w) (C.at X) X)(sw:(WT t k).dp=true->∀f I,(WT t k).Wy f=some I->FnW P w K mg base (CX1 P w) k f I):SX k (WT t k) ⟨N,sc,g,fb,cb,rb,q⟩ C X:=by
 subst hP hw hK hmg hb;refine⟨hN,hs,cm,rm,un,xo,?_,?_,f.xcok,f.xnok,λy c l=>?_,λy l=>f.con.at l,λc hc=>f.mk0 c hc,λc key n hm Φ e=>?_,λc hc=>by rw[gG];exact f.iso c hc,λi f' hi hf=>?_,λc m key n e=>?_,λy n l=>?_,hfn,λhd=>?_,λy hy=>?_,λhd f1 a1 b1 g1 hz=>?_,A.cv,sw,cd⟩
 . unfold WD.xf;rw[uN];exact f.xtok
 . unfold WD.xg;rw[uO];exact f.xiok
 . have:=f.con.at l;cases c <;> exact this
 . have h1:=aPG.mp f.mkok (c,key,n) hm;dsimp only at h1;cases q:t.I.lookup key with
   |none=>rw[q]at h1;cases h1
   |some d=>rw[q]at h1;simp only[aNI,aMG]at h1;obtain⟨j,hj,M⟩:=A.ini key d Φ q e;rw[h1.1,h1.2]at M;exact⟨j,hj,M⟩
 . rw[gG]at hi;obtain⟨C',h1,h2,_,h4⟩:=f.cls.at hi;exact⟨C',h1,h2,h4.at hf⟩
 . rw[gG]at e;unfold CI.meth at e;split at e
   . rename_i i ei;have hi:=aOK ei;have hn:i.name=c:=by simpa using aOJ ei
     obtain⟨C',h1,h2,h3,_⟩:=f.cls.at hi;have hmo:=aPG.mp (aPG.mp f.mtok i hi) (m,key,n) (aMU e);dsimp only at hmo;cases q:t.T.lookup key with
     |none=>rw[q]at hmo;cases hmo
     |some d=>rw[q]at hmo;rw[aMG]at hmo;obtain⟨fd,FO,hb,_⟩:=A.fn key d q;rw[hmo]at FO;exact⟨C',fa key,fd,d.ps,by rw[<- hn];exact h1,h2,h3.at e,FO,hb⟩
   . cases e
 . obtain⟨d,e,rfl⟩:=oO f.gok l;obtain⟨fd,FO,hb,hk⟩:=A.fn y d e;exact⟨fa y,fd,d.ps,FO,f.con.at l,hk,hb⟩
 . obtain⟨j,hj,fp⟩:=A.fp hd;refine⟨j,hj,λy n l=>?_⟩;obtain⟨d,e,rfl⟩:=oO f.gok l;obtain⟨fd,FO,hb,hk⟩:=fp y d e;exact⟨fa y,fd,d.ps,FO,f.con.at l,hk,hb⟩
 . obtain⟨d,e,_,_,_,l⟩:=uU f.snok hy;obtain⟨fd,ps,FO,hb,hk⟩:=A.mu y hy;exact⟨fa y,fd,ps,FO,f.con.at l,hk,hb⟩
 . obtain⟨j,hj,_⟩:=A.fp hd;rw[aPH.mp f.clok]at hz;cases hz
def mu_0{f:Addr}:bH P w K mg base (CX1 P w) k f fd ps (lL K λ_ _=>none) :=
 ⟨λvs H Q En h=>(by obtain⟨_,_,_,_,_,_,_,_,_,_,_,_,_,_,e,_⟩:=h;cases e),λA outer s H args us vs Q En _ _ _ _ h=>(by obtain⟨_,_,_,_,_,_,_,_,_,_,_,_,_,_,e,_⟩:=h;cases e)⟩
def u0 (f : GF w K mg g t fa) : eI P w K mg base g t fa 0 := ⟨fun key d e => by
      obtain⟨name,st,fd,F,hb,_⟩:=f.all.at e;exact⟨fd,⟨λvs H Q En h=>(uY (λ_=>rfl) h).elim,λA outer s H args us vs Q En _ _ _ _ h=>(uY (λ_=>rfl) h).elim⟩,hb,F.kp⟩,(λz=>by cases z),(λkey d Φ _ e=>by cases e),(λx hx=>by
      obtain⟨d,e,_⟩:=uU f.snok hx;obtain⟨name,st,fd,F,hb,_⟩:=f.all.at e;exact⟨fd,d.ps,mu_0,hb,F.kp⟩),λ_ _=>oA⟩
def aIH(f:GF w K mg g t fa)(A:eI P w K mg base g t fa k)(hd:(WT t k).dp=true)(y:Str)(I:bO)(h:(WT t k).Wy y=some I):FnW P w K mg base (CX1 P w) k y I:=by
 obtain⟨j,hj,_⟩:=A.fp hd;rw[uP]at h;obtain⟨d,e,eb,hps,hi⟩:=aIF h;obtain⟨name,st,fd,F,hb,ok⟩:=f.all.at e;unfold fO at ok;rw[aNI,aNI,eb]at ok;have hw:=aIE ok.2.1;unfold oJ at hw;simp only[aNI,aMG,aNZ]at hw;obtain⟨⟨⟨hN,hI⟩,h64⟩,hr⟩:=hw;split at hr;rotate_left
 . cases hr
 rename_i re er;obtain⟨ws,b2,hb0,hW⟩:=uD er;obtain⟨n,l⟩:=uV f.insok e hi;have hN:d.N=I.ps++I.ws.map (·.1):=hN;have sc:=oI ok.1;rw[hps]at sc hb;rw[<- hj];exact⟨fa y,fd,aGA (g:=evE (WT t 0) I.e) (f.insns _ _ e hi) F sc hb0 hN hW hI (λcdv A' outer s H E C hr'=>sE I.e (uZ (X:=bZ (CX1 P w) P w K mg base d.N y (bA st) (fa y) cdv A' outer s H E) (rb:=true) (fb:=true) (q := "") f (u0 (P:=P) (w:=w) (base:=base) f) rfl rfl rfl rfl rfl rfl rfl (λz=>by cases z) (λz=>by cases z) hr'.units (λ_ _=>rfl) (.inl rfl) (λz=>by cases z) λz=>by cases z) hr) λds gs i g0 h1 h2 hp hg=>wayE (by rw[hN];simp) h64 h1 h2 hp hg,f.con.at l,F.kp,hb⟩
def oS(f:GF w K mg g t fa)(A:eI P w K mg base g t fa k){N:List Str}{fb rb:Bool}(hP:X.prog=P)(hw:X.w=w)(hK:X.K=K)(hmg:X.mg=mg)(hb:X.base=base)(hN:X.N=N)(hs:X.env.scope=sc)(cm:X.calm=true)(rm:aX k X.A)(hfn:fb=true->∀x,X.fn x=true)(cd:q="" \/ (W.codeIn X.K X.env.code q=true/\X.env.qual=q ++ ".<locals>."))(xo:XOk (CX1 X.prog X.w) (C.at X) X):SX k (WT t k) ⟨N,sc,g,fb,true,rb,q⟩ C X:=uZ f A hP hw hK hmg hb hN hs (λ_=>cm) (λ_=>rm) rm.units hfn cd (λ_=>xo) λhd y I h=>aIH f A hd y I h
def u4(f:GF w K mg g t fa)(A:eI P w K mg base g t fa k)(y n:Str):gY P w K mg base (k+1) y n ((WT t (k+1)).Cl y n):=by
 rw[hO];unfold ClT;split;rotate_left
 . exact oA
 rename_i d e;split;rotate_left
 . exact oA
 rename_i c ec;obtain⟨name,st,fd,F,hb,ok⟩:=f.all.at e;unfold fO at ok;rw[aNI,aNI]at ok;have ok:=aPG.mp ok.2.2 _ (aMU ec);dsimp only at ok;unfold uQ at ok;split at ok;rotate_left
 . cases ok
 rename_i sc b ei;rw[aNI,aNZ]at ok;have hi:d.ins.isEmpty=false:=by
  cases q:d.ins with
  |nil=>rw[q]at ec;cases ec
  |cons _ _=>rfl
 refine aGC ei (f.insns _ _ e hi) F λF0 H A' outer s cl fa' c' q' hr=>?_;have hx:XOk (CX1 P w) ((⟨K,F0,H,λ_ _ _=>False⟩:Cw).at (gD P w K mg base (c.caps++c.rn::c.ls) q' sc cl fa' (.ref c') A' outer s H)) (gD P w K mg base (c.caps++c.rn::c.ls) q' sc cl fa' (.ref c') A' outer s H):=λaA σ H' s' e s'' I' h=>by obtain⟨_,_,_,_,_,_,_,_,_,_,_,_,z⟩:=h;exact z
 exact sB (m:=⟨c.caps++c.rn::c.ls,sc,g,false,true,false,""⟩) (X:=gD P w K mg base (c.caps++c.rn::c.ls) q' sc cl fa' (.ref c') A' outer s H) ⟨oS f A rfl rfl rfl rfl rfl rfl rfl rfl (hr.deeper _) (λz=>by cases z) (.inl rfl) hx,ok.1,PassesOwn.never,λz=>by cases z⟩ c.b ok.2
def oU(f:GF w K mg g t fa)(A:eI P w K mg base g t fa k){key:Str}{d:FD}{name:Str}{a:Addr}(F:Fun K name key st a fd)(e:t.T.lookup key=some d)(ok:fO g key st d=true):bH P w K mg base (CX1 P w) (k+1) a fd d.ps (spV K mg d.ps.length ((WT t (k+1)).Φ key)):=by
 unfold fO at ok;rw[aNI,aNI]at ok;have sc:=oI ok.1;have:(WT t (k+1)).Φ key=phi d.ps.length d.N.length (evB (WT t k) d.b):=by rw[WT_Φ];unfold j0;rw[e]
 rw[this];exact aEG (k:=k) F sc λC cdv hcd A' outer s H En hE hr=>sB (m:=⟨d.N,bA st,g,true,true,true,key⟩) (X:=bZ (CX1 P w) P w K mg base d.N key (bA st) a cdv A' outer s H En) ⟨oS f A rfl rfl rfl rfl rfl rfl rfl rfl hr (λ_ _=>rfl) (.inr ⟨hcd,rfl⟩) (sO (K:=K) (H:=H) (outer:=outer) hE),sc.nd,PassesOwn.leaving,λ_=>⟨sP (K:=K) (H:=H) (outer:=outer) hE,fnCx,sR (K:=K) (H:=H) (outer:=outer) hE⟩⟩ d.b ok.2.1
def u5(f:GF w K mg g t fa)(A:eI P w K mg base g t fa k)(hx:x∈g.sn):∃fd ps,bH P w K mg base (CX1 P w) (k+1) (fa x) fd ps (lL K ((WT t (k+1)).Ms x))/\cB K fd ps []/\W.keepIn K (.ref (fa x))=true:=by rw[aPH.mp f.snok]at hx;cases hx
theorem aII(f:GF w K mg g t fa)(A:eI P w K mg base g t fa k){key:Str}{d:ID}(e:t.I.lookup key=some d):InV P w K mg base (CX1 P w) (k+1) d.c (d.ps.length-1) (dA (WT t k) d):=by
 obtain⟨name,st,C',a,fd,ns,hm,M,F,hb,ok⟩:=f.alli.at e;refine⟨C',a,fd,d.ps,ns,hm,M,?_,hb⟩;unfold oN at ok;rw[aNI,aNI,aNZ]at ok;have sc:=oI ok.1.1;obtain⟨oc,od,kV,doc,pm,an,cdv,ct,osl,rfl,lk,hcd⟩:=F.ex;refine qS lk hcd sc (λvs H Q E h=>?_) λA' outer s H vs Q E hr h=>?_
 . obtain⟨x,us,dx,C,H1,F1,ds,rfl,hl,_⟩:=h;rw[aMH,hl];have:=ok.2;lia
 . obtain⟨x,us,dx,C2,H1,F1,ds,rfl,hl,ns2,rfl,hx,hd,hne,sF,rl,h⟩:=h;rw[ns]at ns2;cases ns2
   let Cw0:Cw:=⟨K,F1,H1,iQ mg E⟩
   have hN:0<d.N.length:=by have:=congrArg List.length sc.pre;rw[aMT]at this;lia
   refine⟨_,sIB (m:=⟨d.N,bA st,g,true,true,true,""⟩) (C:=Cw0) ⟨oS f A rfl rfl rfl rfl rfl rfl rfl rfl hr (λ_ _=>rfl) (.inl rfl) (sO rfl),sc.nd,PassesOwn.leaving,λ_=>⟨sP rfl,fnCx,sR rfl⟩⟩ d.c d.ib ok.1.2,?_⟩;unfold dA at h;rw[if_pos (by have:=rl.length;lia)]at h
   have low:∀(i:Nat) (m:Bool) (e:D),(none::bC (d.N.length-1) ds:Rho)[i]? = some (some (m,e))->m=false/\∃v,(bM d.N (.ref x::us))[i]? = some (some v)/\aB K F1 e v:=λi m e' ei=>by
    cases i with
    |zero=>cases ei
    |succ i =>
     rw[aPS]at ei;unfold bC at ei;unfold L2.bM;by_cases hi:i<ds.length
     . rw[aMX (by simpa using hi),aMY,aOC hi]at ei
       cases ei;obtain⟨v,ev,rv⟩:=rl.get' (aOC hi);exact⟨rfl,v,by rw[aMX (by simpa[rl.length]using hi),aMY,aPS,ev];rfl,rv⟩
     . rw[aMV (by simpa using hi),aMW]at ei
       split at ei <;> cases ei
   refine⟨none::bC (d.N.length-1) ds,F1,[],x,dx,C',[],⟨sD sF hx hd hne,λi m e' ei=>?_,λi j d1 d2 a _ e1 _ _ _=>?_,by simp[L2.bM,bC,rl.length];lia⟩,by simp[L2.bM],λi d' ei=>?_,hx,sF.free hx,a9,ns,by simp only[aQ],?_⟩
   . obtain⟨rfl,v,e1,rv⟩:=low i m e' ei;exact⟨v,e1,rv,by nofun⟩
   . have:=(low i true d1 e1).1;cases this
   . have:=(low i true d' ei).1;cases this
   . cases er:dI (WT t k) d.c d.ib (none::bC (d.N.length-1) ds) []with
     |stuck=>rw[er]at h;exact h.elim
     |exc c'=>rw[er]at h;exact λσ' F' H' st' u hu=>h F' H' u st' hu
     |ok fs=>rw[er]at h;exact λF' H' gs' st' hf hh rf=>h F' H' st' ⟨x,rfl,hf,C',dx,gs',ns,hh,rf⟩
theorem u6(f:GF w K mg g t fa):∀k,eI P w K mg base g t fa k/\eI P w K mg base g t fa (k+1)
 |0=>by
  have A0:eI P w K mg base g t fa 0:=u0 f;refine⟨A0,λkey d e=>?_,λ_=>⟨0,rfl,A0.fn⟩,(λkey d Φ _ e=>by cases e),(λx hx=>u5 f A0 hx),u4 f A0⟩
  obtain⟨name,st,fd,F,hb,ok⟩:=f.all.at e;exact⟨fd,oU f A0 F e ok,hb,F.kp⟩
 |k+1=>by
  obtain⟨A0,A1⟩:=u6 f k;refine⟨A1,λkey d e=>?_,λ_=>⟨k+1,rfl,A1.fn⟩,λkey d Φ e ei=>?_,(λx hx=>u5 f A1 hx),u4 f A1⟩
  . obtain⟨name,st,fd,F,hb,ok⟩:=f.all.at e;exact⟨fd,oU f A1 F e ok,hb,F.kp⟩
  . have ei:(match t.I.lookup key with|some i=>some (dA (WT t k) i)|none=>none)=some Φ:=ei
    rw[e]at ei;cases ei;exact⟨k+1,aL7 _,aII f A0 e⟩
end
noncomputable def oV(K:Fg)(Φ:List D->Res):Sp:=λvs H Q E=>∃a ns,vs=[.ref a]/\SqL K H a (ns.map V.int)/\Φ (kU ns)=.ok .fz (.bl true)/\∀H',Q (.bl true) H'
def aIJ{f:Addr}(h:bH P w K mg base CX k f fd ps (spV K mg 1 Φ)):bH P w K mg base CX k f fd ps (oV K Φ) :=
 h.imp λvs H Q E ⟨a,ns,e,hq,hp,q⟩=>by
  subst e;refine⟨rfl,H,kU ns,aD.refl _,aC.cons ?_ aC.nil,?_⟩
  . simp only[aB];exact⟨a,_,rfl,hq,rZ ns⟩
  . rw[hp];exact⟨by decide,λv F' H' s rp _=>by rw[rp.bl];exact q H'⟩
def aIK{g:MG}{t:TB}(f:GF w K mg g t fa)(k:Nat){a:Addr}{d:FD}(F:Fun K "law" "law" st a fd)(e:t.T.lookup ("law":Str)=some d)(ok:fO g "law" st d=true)(hl:d.ps.length=1):bH P w K mg base (CX1 P w) (k+1) a fd d.ps (oV K ((WT t (k+1)).Φ ("law":Str))):=by have:=oU (P:=P) (w:=w) (base:=base) f (u6 f k).1 F e ok;rw[hl]at this;exact aIJ this
section
variable {W:WD}{a b c:E}{es:List E}
@[simp] theorem iX{i:_}:evE W (.var i) ρ=aO ρ i:=Eq.trans rfl rfl
@[simp] theorem e_non:evE W .non ρ=.ok .fz .non:=Eq.trans rfl rfl
@[simp] theorem e_bl{b:_}:evE W (.bl b) ρ=.ok .fz (.bl b):=Eq.trans rfl rfl
@[simp] theorem e_int{i:_}:evE W (.int i) ρ=.ok .fz (.int i):=Eq.trans rfl rfl
@[simp] theorem e_str{x:_}:evE W (.str x) ρ=.ok .fz (.str x):=Eq.trans rfl rfl
@[simp] theorem e_globS{x y:_}:evE W (.glob x (.s y)) ρ=.ok .fz (.str y):=Eq.trans rfl rfl
@[simp] theorem e_globI{x y:_}:evE W (.glob x (.i y)) ρ=.ok .fz (.int y):=Eq.trans rfl rfl
@[simp] theorem e_ty{t:Ty}:evE W (.ty t) ρ=.ok .fz (.ty t.id):=Eq.trans rfl rfl
@[simp] theorem e_bin{op}:evE W (.bin op a b) ρ=op2 (bK op) (evE W a ρ) (evE W b ρ):=Eq.trans rfl rfl
@[simp] theorem e_cmp{op}:evE W (.cmp op a b) ρ=op2 (bP op) (evE W a ρ) (evE W b ρ):=Eq.trans rfl rfl
@[simp] theorem aIL:evE W (.andL es) ρ=evA W es ρ:=Eq.trans rfl rfl
@[simp] theorem e_orL:evE W (.orL es) ρ=cP W es ρ:=Eq.trans rfl rfl
@[simp] theorem e_not:evE W (.not a) ρ=fW (evE W a ρ):=Eq.trans rfl rfl
@[simp] theorem e_neg:evE W (.neg a) ρ=kQ (evE W a ρ):=Eq.trans rfl rfl
@[simp] theorem e_tru:evE W (.tru a) ρ=fV (evE W a ρ):=Eq.trans rfl rfl
@[simp] theorem oW:evE W (.frz a) ρ=aG (evE W a ρ):=Eq.trans rfl rfl
@[simp] theorem e_ix:evE W (.ix a b) ρ=op2 ixD (evE W a ρ) (evE W b ρ):=Eq.trans rfl rfl
@[simp] theorem u7{l h:_}:evE W (.slice a l h) ρ=slP (evE W a ρ) (evO W l) (evO W h) ρ:=Eq.trans rfl rfl
@[simp] theorem e_tup:evE W (.tup es) ρ=cU (aZ W es ρ):=Eq.trans rfl rfl
@[simp] theorem e_lst:evE W (.lst es) ρ=dW (aZ W es ρ):=Eq.trans rfl rfl
@[simp] theorem e_call{f n:_}:evE W (.call f n es) ρ=aM n (W.Φ f) (aZ W es ρ):=Eq.trans rfl rfl
@[simp] theorem e_bcall{f:Bn}:evE W (.bcall f es) ρ=b0 f.f (aZ W es ρ):=Eq.trans rfl rfl
@[simp] theorem aIM:evE W (.items a) ρ=eT (aG (evE W a ρ)):=Eq.trans rfl rfl
@[simp] theorem u8:evE W (.rng1 a) ρ=gP (aJ (evE W a ρ) (.ok [])):=Eq.trans rfl rfl
@[simp] theorem e_nnew:evE W .nnew ρ=.ok .fr (.dtn []):=Eq.trans rfl rfl
@[simp] theorem e_nix:evE W (.nix a b) ρ=op2 fJ (evE W a ρ) (evE W b ρ):=Eq.trans rfl rfl
@[simp] theorem e_ndl:evE W (.ndl a) ρ=b0 jY (aJ (evE W a ρ) (.ok [])):=Eq.trans rfl rfl
@[simp] theorem e_ccv{i:_}:evE W (.ccv i es) ρ=eX W.Cl (aO ρ i) (aZ W es ρ):=Eq.trans rfl rfl
@[simp] theorem e_mkw{f n:_}(h:W.dp=true):evE W (.mkw f n es) ρ=gZ f (W.Wy f) (aZ W es ρ):=if_pos h
@[simp] theorem e_mulT:evE W (.mulT a b) ρ=op2 mulT (evE W a ρ) (evE W b ρ):=Eq.trans rfl rfl
@[simp] theorem u9{ts:List E}{caps t n:_}:evE W (.comp a b ts caps t n) ρ=eU (evE W b ρ) ρ caps n (aP t) (λρ=>evF W ts ρ) (λρ=>evE W a ρ):=Eq.trans rfl rfl
@[simp] theorem el_nil:evL W []=[]:=by simp only[evL]
@[simp] theorem el_cons:evL W (a::es)=evE W a::evL W es:=by simp only[evL]
@[simp] theorem sg_nm{d:D}:aP (.nm i) d ρ=some (ρ.set i (some (false,d))):=by simp only[aP]
@[simp] theorem sg_tp{ts:List Tg}:aP (.tp ts) (.tup ds) ρ=cO ts ds ρ:=by simp only[aP]
@[simp] theorem sg_tpl{ts:List Tg}:aP (.tp ts) (.lst ds) ρ=cO ts ds ρ:=by simp only[aP]
@[simp] theorem sgs_nil:cO [] [] ρ=some ρ:=by simp[cO]
@[simp] theorem sgs_cons{ts:List Tg}{d:D}:cO (t::ts) (d::ds) ρ=(aP t d ρ).bind (cO ts ds):=by simp only[cO];cases aP t d ρ <;> rfl
@[simp] theorem aIN{t:Ty}:evE W (.tcall t es) ρ=b0 t.f (aZ W es ρ):=Eq.trans rfl rfl
@[simp] theorem e_fld{x:_}:evE W (.fld a x) ρ=fE W.cl x (evE W a ρ):=Eq.trans rfl rfl
@[simp] theorem e_meth{x:_}:evE W (.meth a x es) ρ=cD W.cl W.Φ x (evE W a ρ) (aZ W es ρ):=Eq.trans rfl rfl
@[simp] theorem e_mk0{x:_}:evE W (.mk0 x) ρ=.ok .fr (.ins x []):=Eq.trans rfl rfl
def oX{x key n Φ:_}(h:W.I key=some Φ):evE W (.make x key n es) ρ=eV n Φ (aZ W es ρ):=by show(match W.I key with|some Φ=>eV n Φ (aZ W es ρ)|none=>.stuck)=_;rw[h]
@[simp] theorem vA:aZ W [] ρ=.ok []:=by simp only[aZ]
@[simp] theorem oY:aZ W (a::es) ρ=aJ (evE W a ρ) (aZ W es ρ):=by simp only[aZ]
@[simp] theorem aIO:evA W [a] ρ=evE W a ρ:=by simp only[evA]
@[simp] theorem aIP:evA W (a::b::es) ρ=dU (evE W a ρ) (evA W (b::es) ρ):=by simp only[evA]
@[simp] theorem eo_one:cP W [a] ρ=evE W a ρ:=by simp only[cP]
@[simp] theorem eo_cons:cP W (a::b::es) ρ=orR (evE W a ρ) (cP W (b::es) ρ):=by simp only[cP]
@[simp] theorem ef_nil:evF W [] ρ=.ok .fz (.bl true):=by simp only[evF]
@[simp] theorem ef_cons:evF W (a::es) ρ=dU (evE W a ρ) (evF W es ρ):=by simp only[evF]
@[simp] theorem eo_none:evO W none=none:=by simp only[evO]
@[simp] theorem eo_some:evO W (some a)=some (evE W a):=by simp only[evO]
@[simp] theorem vB:evS W (.ret a) ρ=iL (evE W a ρ) ρ:=Eq.trans rfl rfl
@[simp] theorem aIQ{i:_}:evS W (.retV i) ρ=eR ρ i:=Eq.trans rfl rfl
@[simp] theorem oZ{i:_}:evS W (.set i a) ρ=dC ρ i (evE W a ρ):=Eq.trans rfl rfl
@[simp] theorem vC{x y:List S}:evS W (.ite a x y) ρ=ifS (evE W a ρ) ρ (evB W x ρ) (evB W y ρ):=Eq.trans rfl rfl
@[simp] theorem hU{y:List S}:evS W (.for a t y) ρ=dX (evE W a ρ) ρ (aP t) (evB W y):=Eq.trans rfl rfl
@[simp] theorem s_asg:evS W (.asg t a) ρ=k6 t ρ (evE W a ρ):=Eq.trans rfl rfl
@[simp] theorem s_app{i:_}:evS W (.app i a) ρ=dY ρ i (evE W a ρ):=Eq.trans rfl rfl
@[simp] theorem s_frzV{i:_}:evS W (.frzV i) ρ=jV ρ i:=Eq.trans rfl rfl
@[simp] theorem s_nfrz{i:_}:evS W (.nfrz i) ρ=jX ρ i:=Eq.trans rfl rfl
@[simp] theorem aIR{i:_}:evS W (.nput i a b) ρ=lC ρ i (evE W a ρ) (evE W b ρ):=Eq.trans rfl rfl
@[simp] theorem s_setC{i:_}:evS W (.setC i false a) ρ=dC ρ i (evE W a ρ):=Eq.trans rfl rfl
@[simp] theorem aIS{i:_}:evS W (.setC i true a) ρ=dC ρ i (aG (evE W a ρ)):=Eq.trans rfl rfl
@[simp] theorem eJ:evB W [] ρ=.nx ρ:=by simp only[evB]
@[simp] theorem dJ{s:S}{r:List S}:evB W (s::r) ρ=(evS W s ρ).thn (evB W r):=by simp only[evB]
end
section
variable {m n:Md}{i j:Int}{d:D}
@[simp] theorem x_add:op2 (bK .Add) (.ok m (.int i)) (.ok n (.int j))=.ok .fz (.int (i+j)):=rfl
@[simp] theorem x_sub:op2 (bK .Sub) (.ok m (.int i)) (.ok n (.int j))=.ok .fz (.int (i-j)):=rfl
@[simp] theorem x_lt:op2 (bP .Lt) (.ok m (.int i)) (.ok n (.int j))=.ok .fz (.bl (decide (i<j))):=rfl
@[simp] theorem x_le:op2 (bP .LtE) (.ok m (.int i)) (.ok n (.int j))=.ok .fz (.bl (decide (i<=j))):=rfl
@[simp] theorem x_gt:op2 (bP .Gt) (.ok m (.int i)) (.ok n (.int j))=.ok .fz (.bl (decide (j<i))):=rfl
@[simp] theorem x_ge:op2 (bP .GtE) (.ok m (.int i)) (.ok n (.int j))=.ok .fz (.bl (decide (j<=i))):=rfl
@[simp] theorem hX(h:0<j):op2 (bK .Mod) (.ok m (.int i)) (.ok n (.int j))=.ok .fz (.int (i % j)):=by show Res.of (if decide (0<j)=true then _ else _)=_;rw[if_pos (aNO h)];rfl
def x_div(h:0<j)(hb:bits j=true):op2 (bK .FloorDiv) (.ok m (.int i)) (.ok n (.int j))=.ok .fz (.int (i / j)):=by show Res.of (if(decide (0<j)&&bits j)=true then _ else _)=_;rw[if_pos (by rw[hb,aNO h];rfl)];rfl
def aIT(h:i.natAbs<10 ^ 2000):bits i=true:=by
 unfold bits;refine aNO ?_;by_cases h0:i.natAbs=0
 . rw[h0];decide
 . refine(Nat.log2_lt h0).mpr (Nat.lt_trans h ?_);decide +kernel
def aIU{N:Nat}(h:i.natAbs<=N)(hN:N<10 ^ 2000:=by decide +kernel):bits i=true:=aIT (Nat.lt_of_le_of_lt h hN)
@[simp] theorem o1(h:0<j)(hb:j.natAbs<=1000000000):op2 (bK .FloorDiv) (.ok m (.int i)) (.ok n (.int j))=.ok .fz (.int (i / j)):=x_div h (aIU hb)
def aIV(h:((bits i&&bits j)||(w64 i||w64 j))=true):op2 (bK .Mult) (.ok m (.int i)) (.ok n (.int j))=.ok .fz (.int (i * j)):=by show Res.of (((if((bits i&&bits j)||(w64 i||w64 j))=true then _ else _:Option (Md×D)).orElse _).orElse _)=_;rw[if_pos h];rfl
theorem j6(h:i.natAbs<9000000000000000000):op2 (bK .Mult) (.ok m (.int i)) (.ok n (.int j))=.ok .fz (.int (i * j)):=aIV (by
 have:w64 i=true:=aNO (by lia)
 rw[this];simp)
def cA{φ:Md->D->Md->D->Option (Md×D)}{x y d:D}{k:Md}(h:φ m x n y=some (k,d)):op2 φ (.ok m x) (.ok n y)=.ok k d:=by show Res.of (φ m x n y)=_;rw[h];rfl
@[simp] theorem x_eqI:op2 (bP .Eq) (.ok m (.int i)) (.ok n (.int j))=.ok .fz (.bl (i==j)):=cA rfl
@[simp] theorem x_neI:op2 (bP .NotEq) (.ok m (.int i)) (.ok n (.int j))=.ok .fz (.bl (i != j)):=cA rfl
@[simp] theorem x_eqB{a b:Bool}:op2 (bP .Eq) (.ok m (.bl a)) (.ok n (.bl b))=.ok .fz (.bl (a==b)):=cA rfl
@[simp] theorem x_neB{a b:Bool}:op2 (bP .NotEq) (.ok m (.bl a)) (.ok n (.bl b))=.ok .fz (.bl (a != b)):=cA rfl
@[simp] theorem x_eqS{a b:Str}:op2 (bP .Eq) (.ok m (.str a)) (.ok n (.str b))=.ok .fz (.bl (a==b)):=cA (by rfl)
@[simp] theorem x_neS{a b:Str}:op2 (bP .NotEq) (.ok m (.str a)) (.ok n (.str b))=.ok .fz (.bl (a != b)):=cA (by rfl)
@[simp] theorem o3{a b:Str}(h:a.length+b.length<=sizeLine):op2 (bK .Add) (.ok m (.str a)) (.ok n (.str b))=.ok .fz (.str (a++b)) :=
 cA (by
  have:fS (λi j=>decide (i.length+j.length<=sizeLine)) (λi j=>D.str (i++j)) m (.str a) n (.str b)=some (Md.fz,D.str (a++b)):=by show(if decide (a.length+b.length<=sizeLine)=true then some (Md.fz,D.str (a++b))else none)=_;rw[if_pos (aNO h)]
  show orO (orO (fI (λ_ _=>true) λi j=>.int (i+j)) (fS (λi j=>decide (i.length+j.length<=sizeLine)) λi j=>.str (i++j))) kX m (.str a) n (.str b)=_;simp only[orO,this];rfl)
@[simp] theorem x_isN{d:D}:op2 (bP .Is) (.ok m d) (.ok n .non)=.ok .fz (.bl (dD d)):=cA rfl
@[simp] theorem x_isnotN{d:D}:op2 (bP .IsNot) (.ok m d) (.ok n .non)=.ok .fz (.bl (!dD d)):=cA rfl
@[simp] theorem aIW{x y:List D}(h:x.length+y.length<=sizeLine):op2 (bK .Add) (.ok m (.lst x)) (.ok n (.lst y))=.ok .fr (.lst (x++y)):=cA (by
 show(if x.length+y.length<=sizeLine then some (Md.fr,D.lst (x++y))else none)=_;rw[if_pos h])
@[simp] theorem vD{x y:List D}(h:x.length+y.length<=sizeLine):op2 (bK .Add) (.ok m (.tup x)) (.ok n (.tup y))=.ok .fz (.tup (x++y)):=cA (by
 show(if x.length+y.length<=sizeLine then some (Md.fz,D.tup (x++y))else none)=_;rw[if_pos h])
@[simp] theorem isn_n:dD .non=true:=rfl
@[simp] theorem isn_i{i:Int}:dD (.int i)=false:=rfl
@[simp] theorem isn_b{i:Bool}:dD (.bl i)=false:=rfl
@[simp] theorem isn_s{i:Str}:dD (.str i)=false:=rfl
@[simp] theorem isn_t{i:List D}:dD (.tup i)=false:=rfl
@[simp] theorem isn_l{i:List D}:dD (.lst i)=false:=rfl
@[simp] theorem x_andT{y:Res}:dU (.ok m (.bl true)) y=y:=rfl
@[simp] theorem x_andF{y:Res}:dU (.ok m (.bl false)) y=.ok .fz (.bl false):=rfl
@[simp] theorem x_orT{y:Res}:orR (.ok m (.bl true)) y=.ok .fz (.bl true):=rfl
@[simp] theorem x_orF{y:Res}:orR (.ok m (.bl false)) y=y:=rfl
@[simp] theorem x_and{a b:Bool}:dU (.ok m (.bl a)) (.ok .fz (.bl b))=.ok .fz (.bl (a&&b)):=by cases a <;> rfl
@[simp] theorem x_or{a b:Bool}:orR (.ok m (.bl a)) (.ok .fz (.bl b))=.ok .fz (.bl (a||b)):=by cases a <;> rfl
@[simp] theorem x_not{a:Bool}:fW (.ok m (.bl a))=.ok .fz (.bl (!a)):=rfl
@[simp] theorem x_tru{a:Bool}:fV (.ok m (.bl a))=.ok .fz (.bl a):=rfl
@[simp] theorem x_truI:fV (.ok m (.int i))=.ok .fz (.bl (i != 0)):=rfl
@[simp] theorem x_neg:kQ (.ok m (.int i))=.ok .fz (.int (-i)):=rfl
@[simp] theorem x_ifT{x y:aF}:ifS (.ok m (.bl true)) ρ x y=x:=rfl
@[simp] theorem x_ifF{x y:aF}:ifS (.ok m (.bl false)) ρ x y=y:=rfl
@[simp] theorem x_frz:aG (.ok .fz d)=.ok .fz d:=rfl
@[simp] theorem x_frr:aG (.ok .fr d)=.ok .fz d:=rfl
@[simp] theorem x_set:dC ρ k (.ok .fz d)=.nx (ρ.set k (some (false,d))):=rfl
@[simp] theorem x_setr:dC ρ k (.ok .fr d)=.nx (ρ.set k (some (true,d))):=rfl
@[simp] theorem x_ret:iL (.ok .fz d) ρ=.rt .fz d:=rfl
@[simp] theorem x_retr:iL (.ok .fr d) ρ=.rt .fr d:=rfl
@[simp] theorem g_0{r:Rho}:aO (some (false,d)::r) 0=.ok .fz d:=rfl
@[simp] theorem g_0b{r:Rho}:aO (some (true,d)::r) 0=.ok .bo d:=rfl
@[simp] theorem g_s{x:Option (Bool×D)}{r:Rho}{i:Nat}:aO (x::r) (i+1)=aO r i:=rfl
@[simp] theorem g_1{x:Option (Bool×D)}{r:Rho}:aO (x::r) 1=aO r 0:=rfl
@[simp] theorem rs_0{r:Rho}:eR (some (false,d)::r) 0=.rt .fz d:=rfl
@[simp] theorem rs_0b{r:Rho}:eR (some (true,d)::r) 0=.rt .fr d:=rfl
@[simp] theorem rs_1{x:Option (Bool×D)}{r:Rho}:eR (x::r) 1=eR r 0:=rfl
@[simp] theorem rs_s{x:Option (Bool×D)}{r:Rho}{i:Nat}:eR (x::r) (i+1)=eR r i:=rfl
@[simp] theorem r_set0{x y:Option (Bool×D)}{r:Rho}:(x::r).set 0 y=y::r:=rfl
@[simp] theorem x_callR{f:List (Md×D)->Option (Md×D)}{xs:List (Md×D)}:b0 f (.ok xs)=Res.of (f xs):=rfl
@[simp] theorem bn_len:Bn.f .len=eQ:=rfl
@[simp] theorem bn_isi:Bn.f .isinstance=bN:=rfl
@[simp] theorem ty_int:Ty.f .int=iP:=rfl
@[simp] theorem ty_tuple:Ty.f .tuple=iO:=rfl
@[simp] theorem tci_i{i:Int}:iP [(m,.int i)]=some (.fz,.int i):=rfl
@[simp] theorem tci_b{i:Bool}:iP [(m,.bl i)]=some (.fz,.int (if i then 1 else 0)):=rfl
@[simp] theorem tct_l{i:List D}:iO [(m,.lst i)]=some (.fz,.tup i):=rfl
@[simp] theorem tct_t{i:List D}:iO [(.fz,.tup i)]=some (.fz,.tup i):=rfl
@[simp] theorem len_s:eQ [(m,.str z)]=some (.fz,.int z.length):=rfl
@[simp] theorem len_l{z:List D}:eQ [(m,.lst z)]=some (.fz,.int z.length):=rfl
@[simp] theorem len_t{z:List D}:eQ [(m,.tup z)]=some (.fz,.int z.length):=rfl
@[simp] theorem itm_l{z:List D}:eT (.ok m (.lst z))=.ok .fz (.lst z):=rfl
@[simp] theorem itm_t{z:List D}:eT (.ok m (.tup z))=.ok .fz (.lst z):=rfl
@[simp] theorem itm_s:eT (.ok m (.str z))=.ok .fz (.lst (iM z)):=rfl
end
@[simp] theorem WT_xf{t:TB}:(WT t k).xf=λc x=>t.xt.lookup (c,x):=by unfold WD.xf;rw[uN]
@[simp] theorem WT_xg{t:TB}:(WT t k).xg=λc x=>t.xi.lookup (c,x):=by unfold WD.xg;rw[uO]
section
variable  {c:Str}{ρ':Rho}{m:Md}{d:D}{xt:Str->Str->Option Bool}{hs:List HX}{g:Rho->aF}
@[simp] theorem x_frx:aG (.exc c)=.exc c:=rfl
@[simp] theorem x_setx:dC ρ k (.exc c)=.exc c ρ:=rfl
@[simp] theorem x_retx:iL (.exc c) ρ=.exc c ρ:=rfl
end
def cH{N:Nat}{g:Rho->aF}{m:Md}{d:D}(hl:ds.length=n)(h:g (bC N ds)=.rt m d):phi n N g ds=.ok m d:=by unfold phi;rw[if_pos hl,h];rfl
def lT{xs:List (Md×D)}{d:D}(hl:ds.length=n)(ha:bU xs=some ds)(h:Φ ds=.ok .fz d):aM n Φ (.ok xs)=.ok .fz d:=by
 show(match bU xs with|some ds=>if ds.length=n then(match Φ ds with|.ok .bo _=>Res.stuck|r=>r)else .stuck|none=>.stuck)=_
 rw[ha];show(if ds.length=n then _ else _)=_;rw[if_pos hl,h]
@[simp] theorem call1{a d:D}(h:Φ [a]=.ok .fz d):aM 1 Φ (.ok [(.fz,a)])=.ok .fz d:=lT (ds:=[a]) rfl rfl h
@[simp] theorem lU{a b d:D}(h:Φ [a,b]=.ok .fz d):aM 2 Φ (.ok [(.fz,a),(.fz,b)])=.ok .fz d:=lT (ds:=[a,b]) rfl rfl h
@[simp] theorem lV{a b c d:D}(h:Φ [a,b,c]=.ok .fz d):aM 3 Φ (.ok [(.fz,a),(.fz,b),(.fz,c)])=.ok .fz d:=lT (ds:=[a,b,c]) rfl rfl h
@[simp] theorem j7{cl:List CI}{Φ:Str->List D->Res}{c m key:Str}{fs:List (Str×D)}{as:aY}(h:CI.meth cl c m=some (key,n))(hl:fs.lookup m=none):cD cl Φ m (.ok .fz (.ins c fs)) as=aM n (Φ key) (aJ (.ok .fz (.ins c fs)) as):=by
 show(match CI.meth cl c m with|some (key,n)=>if fs.lookup m=none then aM n (Φ key) (aJ (.ok .fz (.ins c fs)) as)else .stuck|none=>.stuck)=_
 rw[h];show(if fs.lookup m=none then _ else _)=_;rw[if_pos hl]
@[simp] theorem wt_cl{t:TB}:(WT t k).cl=t.cl:=gG t k
def wt_Wy{t:TB}{f:Str}{d:FD}(h:t.T.lookup f=some d)(h2:d.b=[.way I])(h3:d.ps=I.ps)(h4:d.ins.isEmpty=false):(WT t k).Wy f=some I:=by rw[uP];unfold wyF;rw[h];dsimp only;rw[h2];exact if_pos ⟨h3,h4⟩
def cF{t:TB}{f:Str}{d:FD}(h:t.T.lookup f=some d):(WT t (k+1)).Φ f=phi d.ps.length d.N.length (evB (WT t k) d.b):=by rw[WT_Φ];unfold j0;rw[h]
@[simp] theorem vE{a b c e d:D}(h:Φ [a,b,c,e]=.ok .fz d):aM 4 Φ (.ok [(.fz,a),(.fz,b),(.fz,c),(.fz,e)])=.ok .fz d:=lT (ds:=[a,b,c,e]) rfl rfl h
theorem hZ{W:WD}:∀{x y:List D3.S}{ρ:Rho},evB W (x++y) ρ=(evB W x ρ).thn (evB W y)
 |[],y,ρ=>by simp
 |s::x,y,ρ=>by
  show evB W (s::(x++y)) ρ=_;rw[dJ,dJ];cases evS W s ρ with
  |nx ρ'=>exact hZ
  |_=>rfl
def iA{W:WD}{s:D3.S}{r:List D3.S}{ρ':Rho}(h:evS W s ρ=.nx ρ'):evB W (s::r) ρ=evB W r ρ':=by rw[dJ,h];rfl
theorem vF{k:D->Rho->Option Rho}{body:Rho->aF}(I:Rho->Prop):∀{ds:List D}{ρ:Rho},(∀d∈ds,∀ρ,I ρ->∃ρ1 ρ2,k d ρ=some ρ1/\(body ρ1=.nx ρ2\/body ρ1=.ct ρ2)/\I ρ2)->I ρ->∃ρ',bI k body ds ρ=.nx ρ'/\I ρ'
 |[],ρ,_,h=>⟨ρ,rfl,h⟩
 |d::ds,ρ,hs,h=>by obtain⟨ρ1,ρ2,e1,e2,h2⟩:=hs d mcs ρ h;obtain⟨ρ',e3,h3⟩:=vF I (λd hd=>hs d (mcm hd)) h2;refine⟨ρ',?_,h3⟩;unfold bI;rw[e1];dsimp only;rcases e2 with e2|e2 <;> rw[e2] <;> exact e3
def aIX{k:D->Rho->Option Rho}{body:Rho->aF}{m:Md}(I:Rho->Prop)(hs:∀d∈ds,∀ρ,I ρ->∃ρ1 ρ2,k d ρ=some ρ1/\(body ρ1=.nx ρ2\/body ρ1=.ct ρ2)/\I ρ2)(h:I ρ):∃ρ',dX (.ok m (.lst ds)) ρ k body=.nx ρ'/\I ρ':=vF I hs h
def gm(x y:Nat):Nat:=2 * (x.log2+y.log2)+(if x<y then 1 else 0)+(if y=0 then 0 else 2)
end D3
namespace Tp
open PySem.W PySem.Calls
structure S where
 t:BT
 n:Nat
 k:Nat
 nm:aP0
 g:List DictEntry
 tb:List aP0
def tupO(vs:List aP0):Obj:=⟨.type "tuple", none,.seq vs.toArray 0,#[]⟩
def fldO(c:aP0)(vs:List aP0):Obj:=⟨c,none,.fields vs.toArray,#[]⟩
def dicO(es:List DictEntry)(e:Nat):Obj:=⟨.type "dict", none,.dict es.toArray e,#[]⟩
def en(P:Params)(x:Str)(k:Nat)(v:aP0):DictEntry:=⟨PyData.keyHash P x,.str x k,v⟩
def eL:List Str->Nat->List aP0
 |[],_=>[]
 |x::xs,k=>.str x k::eL xs (k+1)
def fileS:Str := "/claim/cut.py"
noncomputable def codeO(name qual:Str)(k line argc fl:Nat)(isF:Bool)(a:Nat)(ls cs tm:aP0)(j:Nat):Obj :=
 fldO (.type "code") [.str name k,.str qual (k+1),.str fileS (k+2),.int line 0,.int argc 0,.int 0 0,.int 0 0,.int fl 0,.ref a,.bool isF,.int 181 0,.ref (a+1),.none,ls,cs,tm,.int j 0,.int line 0,.str fileS (j+1)]
noncomputable def frmO(code ns:Nat)(nm:aP0):Obj:=⟨.type "frame", none,.plain,#[some (.ref code),some (.ref 3),some (.ref ns),none,some nm,none,some (.ref 0)]⟩
def fnD(name qual:Str)(args:Arguments)(body:List Stmt)(sc:Scope)(gl:Nat)(nm cd:aP0):FuncData:=⟨name,qual,args,.stmts body,sc,gl,[],.none,.none,.none,nm,none,cd,.none,0⟩
def insL:List Obj->BT->Nat->BT
 |[],t,_=>t
 |o::os,t,n=>insL os (t.ins n o) (n+1)
def layF(name qual:Str)(args:Arguments)(body:List Stmt)(sc:Scope)(line n k:Nat)(nm:aP0):List Obj×Nat×Nat :=
 match localNames args sc (.stmts body)with
 |some (ls,cs) =>
  let a:=ls.length
  let b:=cs.length
  ([tupO [],fldO .none [],tupO (eL ls (k+3)),tupO (eL cs (k+3+a)),⟨.none,none,.func (fnD name qual args body sc 0 .none .none),#[]⟩,
   codeO name qual k line args.args.length 3 true n (.ref (n+2)) (.ref (n+3)) (.ref (n+4)) (k+3+a+b),⟨.type "function", none,.func (fnD name qual args body sc 3 nm (.ref (n+5))),#[]⟩],n+5,k+5+a+b)
 |none =>
  ([tupO [],fldO .none [],⟨.none,none,.func (fnD name qual args body sc 0 .none .none),#[]⟩,
   codeO name qual k line args.args.length 3 true n .none .none (.ref (n+2)) (k+3),⟨.type "function", none,.func (fnD name qual args body sc 3 nm (.ref (n+3))),#[]⟩],n+3,k+5)
def look(x:Str):List DictEntry->Option aP0
 |[]=>none
 |⟨_,.str y _,v⟩::es=>match decide (x=y)with|true=>some v|false=>look x es
 |_::es=>look x es
structure B where
 t:BT
 n:Nat
 k:Nat
 es:List DictEntry
 tb:List aP0
def layB(P:Params)(cn:Str)(nm:aP0):List Stmt->B->B
 |.FunctionDef name args body _ _ _ sc _ _ pos::r,⟨t,n,k,es,tb⟩ =>
  match layF name (cn ++ "." ++ name) args body sc pos.line n k nm with
  |(os,c,j)=>layB P cn nm r ⟨insL os t n,n+os.length,j+1,en P name j (.ref (c+1))::es,.ref c :: .int pos.col 0 :: .int pos.line 0::tb⟩
 |_::r,b=>layB P cn nm r b
 |[],b=>b
def mroOf(t:BT)(a:Nat):List aP0×aP0:=match t.get a with
 |some ⟨_,_,.cls c,sl⟩=>(c.mro,(sl.getD 4 none).getD .none)
 |_=>([],.none)
def subTo(a:Nat):Obj->Obj
 |⟨c,d,.cls k,sl⟩=>⟨c,d,.cls {k with subclasses:=k.subclasses++[.ref a]},sl⟩
 |o=>o
noncomputable def layC(P:Params)(name:Str)(bases:List PySem.Expr)(body:List Stmt)(st:List Str)(line:Nat):S->S
 |⟨t,n,k,nm,g,tb⟩ =>
  let bs:List aP0:=match bases with
   |.Name b _::_=>(match look b g with|some v=>[v]|none=>[.type "ValueError"])
   |_=>[]
  let n2:=n+2
  let t1:=insL [tupO bs,fldO (.type "builtin_function_or_method") [.builtin "type.__prepare__", .type "type"],dicO [] 0,tupO [],fldO .none [],codeO name name (k+2) line 0 0 false (n+3) .none .none .none (k+5),frmO (n+5) n2 nm] t n
  match layB P name nm body ⟨t1,n+7,k+12,[en P "__firstlineno__" (k+11) (.int line (k+10)),en P "__qualname__" (k+9) (.str name (k+8)),en P "__module__" (k+7) nm],[]⟩with
  |⟨t2,m,j,es,ct⟩ =>
   let es1:=en P "__static_attributes__" (j+st.length) (.ref m)::es
   let j1:=j+st.length+1
   let t3:=(t2.set n2 λ_=>dicO es1.reverse es1.length).set (n+4) λ_=>fldO .none ct.reverse
   let cl:=m+2
   let cp:=(es1.reverse.take 1)++(es1.reverse.drop 2)
   let fin (mro:List aP0) (nw:aP0) (bv:List aP0) (sl0:Option aP0) (xs:List DictEntry) (gs:List Obj) (t:BT) (j:Nat):S :=
    let os:=[tupO (eL st (m-m+(j1-1-st.length))),dicO (cp++xs++[en P "__doc__" j .none]) (2+xs.length),⟨.type "type", none,.cls ⟨name,bv,.ref cl::mro,m+1,name,true,[],[],false,none,false⟩,#[sl0,none,some (.str name k),some (.str name (k+8)),some nw,some (.bool true)]⟩]
     ++ gs++[fldO (.type "super") [.ref cl,.ref cl,.ref cl],fldO (.type "builtin_function_or_method") [.builtin "object.__init_subclass__", .ref cl]]
    ⟨insL os t m,m+os.length,j+3,nm,en P name (j+2) (.ref cl)::g,.ref (n+5) :: .int 0 0 :: .int line 0::tb⟩
   let gw (j a:Nat):=fldO (.type "getset_descriptor") [.str "__weakref__" j,.ref cl,.builtin "ExceptionGroup.__weakref__", .none]
   match bs with
   | [] => fin [.type "object"] (.builtin "object.__new__") [.type "object"] none [en P "__dict__" (j1 + 1) (.ref (m + 3)), en P "__weakref__" (j1 + 3) (.ref (m + 4))]
       [fldO (.type "getset_descriptor") [.str "__dict__" j1,.ref cl,.builtin "function.__dict__", .builtin "function.__dict__#set"],gw (j1+2) 0] t3 (j1+4)
   |.ref a::_=>match mroOf t3 a with
    |(mro,nw)=>fin mro nw bs (some (.ref n)) [] [] (t3.set a (subTo cl)) j1
   |_=>fin [.type "ValueError", .type "Exception", .type "BaseException", .type "object"] (.builtin "ValueError.__new__") bs (some (.ref n)) [en P "__weakref__" (j1+1) (.ref (m+3))] [gw j1 0] t3 (j1+2)
def keysD(P:Params)(g:List DictEntry):List (Option PySem.Expr)->List PySem.Expr->Nat->List DictEntry
 |some (.Constant (.str x) _ _)::ks,.Name y _::vs,k=>en P x k ((look y g).getD .none)::keysD P g ks vs (k+1)
 |_,_,_=>[]
def put(P:Params)(x:Str)(v:aP0)(t:BT)(n k:Nat)(nm:aP0)(g:List DictEntry)(tb:List aP0):S:=match decide (x="__name__")with
 |true=>⟨t,n,k+1,v,g,tb⟩
 |false=>⟨t,n,k+1,nm,en P x k v::g,tb⟩
def lay1(P:Params):Stmt->S->S
 |.FunctionDef name args body _ _ _ sc _ _ pos,⟨t,n,k,nm,g,tb⟩=>match layF name name args body sc pos.line n k nm with
  |(os,c,j)=>⟨insL os t n,n+os.length,j+1,nm,en P name j (.ref (c+1))::g,.ref c :: .int pos.col 0 :: .int pos.line 0::tb⟩
 |.ClassDef name bases _ body _ _ _ _ _ st pos,s=>layC P name bases body st pos.line s
 |.Assign [.Name x _] (.Constant (.str v) _ _) _,⟨t,n,k,nm,g,tb⟩=>put P x (.str v k) t n (k+1) nm g tb
 |.Assign [.Name x _] (.Constant (.int v) _ _) _,⟨t,n,k,nm,g,tb⟩=>put P x (.int v k) t n (k+1) nm g tb
 |.Assign [.Name x _] (.Dict ks vs _) _,⟨t,n,k,nm,g,tb⟩=>put P x (.ref n) (t.ins n (dicO (keysD P g ks vs k) vs.length)) (n+1) (k+2 * vs.length) nm g tb
 |_,s=>s
def lay(P:Params):List Stmt->S->S
 |[],s=>s
 |st::r,s=>lay P r (lay1 P st s)
noncomputable def s0(os:List Obj):S :=
 ⟨insL [tupO [],fldO .none [],codeO "<module>" "<module>" 182 1 0 0 false 11 .none .none .none 185,frmO 13 3 (.str "__main__" 164)] (insL os .nil 0) 11,15,187,.str "__main__" 164,[],[]⟩
def nameTo(nm:aP0):List DictEntry->List DictEntry
 |e::es=>{e with val:=nm}::es
 |[]=>[]
def mainTo(nm:aP0)(g:List DictEntry):Obj->Obj
 |⟨c,d,.dict es e,sl⟩=>⟨c,d,.dict (nameTo nm es.toList++g.reverse).toArray (e+g.length),sl⟩
 |o=>o
noncomputable def S.bt(s:S):BT:=(s.t.set 3 (mainTo s.nm s.g)).set 12 λ_=>fldO .none s.tb.reverse
def z0:Pos:=⟨0,0,0,0⟩
def an:Option aP0:=some (.ref 6)
def ev(p:aP4):Env:={scope:=p.main.scope,locals:=mainNs,globals:=mainNs,cells:=[],code:=.ref 13,frame:=some 14}
noncomputable def cd(p:aP4):Code:=.body (behindTheImports p) (ev p)
noncomputable def go(tb:String->Option Builtin)(p:aP4)(w:aP3)(F:Nat):List Stmt->SharedT->Code->Pos->Option (SharedT×Code×Pos)
 |[],s,c,q=>some (s,c,q)
 |st::l,s,c,q=>match segRunT tb p w 11 an 1 F s (pieceOf st (ev p) c q [topFrame z0])with
  |some (.next,s',c',q')=>go tb p w F l s' c' q'
  |_=>none
def ns(F N:Nat):List Stmt->Nat
 |[]=>N
 |_::l=>F+ns F N l
section
variable {tb:String->Option Builtin}{p:aP4}
def one{N:Nat}{r:aP1}{rest:List Stmt}{c c':Code}{e:Env}{q:Pos}(h:segRun tb p w 11 an 1 n s (pieceOf st e c q [topFrame z0])=some (.next,s',c',q'))(k:topRun tb p w 11 an N s' (restOf rest e c' q' [topFrame z0])=some r):topRun tb p w 11 an (n+N) s (restOf (st::rest) e c q [topFrame z0])=some r:=by
 obtain⟨a,ha,hN⟩:=seg_top (B:=[topFrame z0]) (res:=id)
  (K':=λf=>match f with
   |.next=>(execs rest e).wrap doneF (leaveH e) id id
   |f=>doneF f)
  (H':=leaveH e) rfl n s (pieceOf st e c q [topFrame z0])
  ⟨(exec st e).wrap (λf=>match f with
   |.next=>(execs rest e).wrap doneF (leaveH e) id id
   |f=>doneF f) (leaveH e) id id,c,q,[topFrame z0]⟩ _ _ _ _ ⟨rfl,rfl,.inl ⟨rfl,rfl,_,rfl,rfl⟩⟩ h
 cases ha;unfold restOf;rw[execs_cons_wrap];exact hN N r k
theorem go_top'{F:Nat}:∀(l:List Stmt) {s s':SharedT}{c c':Code}{q q':Pos},go tb p w F l s c q=some (s',c',q')->∀{N:Nat}{r:aP1}{rest:List Stmt},topRun tb p w 11 an N s'.abs (restOf rest (ev p) c' q' [topFrame z0])=some r->topRun tb p w 11 an (ns F N l) s.abs (restOf (l++rest) (ev p) c q [topFrame z0])=some r
 |[],_,_,_,_,_,_,h,_,_,_,k=>by cases h;exact k
 |st::l,s,s',c,c',q,q',h,N,r,rest,k=>by
  unfold go at h;split at h
  . rename_i x e;exact one (segRun_of e) (go_top' l h k)
  . cases h
def fin2(s:aP1)(c:Code)(q:Pos):topRun tb p w 11 an 2 s (restOf [] (ev p) c q [topFrame z0])=some s:=by obtain⟨h,g,d,k,o⟩:=s;rfl
noncomputable def sh(P:Params)(S:S)(n k:Nat)(os:OsState):SharedT:=⟨S.bt,n,(boot_heap P).life,#[],boot_drawn,k,os⟩
noncomputable def sA(P:Params):S:=s0 (boot_heap P).objs.toList
def run_of{l:List Stmt}{c':Code}(hl:behindTheImports p=l)(pre:∀(w:aP3) (os:OsState),topGo treeTable p w 11 an 12 ⟨boot_heap w.params,#[],boot_drawn,boot_toks,os⟩ (topStub p)=some ((sh w.params (sA w.params) 15 187 os).abs,⟨denote treeTable (cd p),cd p,z0,[topFrame z0]⟩))(blk:∀(w:aP3) (s:aP1),segRun treeTable p w 11 an 1 1 s (blockOf l (ev p) (cd p) z0 [topFrame z0])=some (.next,s,cd p,z0))(run:∀(w:aP3) (os:OsState),go treeTable p w 1000 l (sh w.params (sA w.params) 15 187 os) (cd p) z0=some (sh w.params (lay w.params l (sA w.params)) n k os,c',q')):∀(w:aP3) (os:OsState),topRun treeTable p w 11 an (12+(1+ns 1000 2 l)) ⟨boot_heap w.params,#[],boot_drawn,boot_toks,os⟩ (topStub p)=some (sh w.params (lay w.params l (sA w.params)) n k os).abs:=by
 intro w os;refine go_top (pre w os) ?_;unfold cd;rw[hl];refine piece_block (n:=1) (by have:=blk w (sh w.params (sA w.params) 15 187 os).abs;unfold cd at this;rw[hl]at this;exact this) ?_
 have:=go_top' l (run w os) (rest:=[]) (fin2 _ _ _);rw[aMO]at this;unfold cd at this;rw[hl]at this;exact this
end
noncomputable def KK(l:List Stmt)(as:List Addr)(P:Params):Frag:=as.map λa=>(a,((lay P l (sA P)).bt.get a).getD default)
def KK_e(l:List Stmt)(as:List Addr)(P:Params):as=(KK l as P).map (·.1):=by unfold KK;rw[aPF];exact(List.map_id as).symm
noncomputable def hk(l:List Stmt)(as:List Addr):Hook:=kHook (KK l as) as (KK_e l as)
noncomputable def H1(l:List Stmt)(n:Nat)(P:Params):Heap:=absHeap (lay P l (sA P)).bt n (boot_heap P).life
noncomputable def S1(l:List Stmt)(n k:Nat)(P:Params)(os:OsState):aP1:=⟨H1 l n P,#[],boot_drawn,k,os⟩
def bnd(n:Str):Stmt->List Str
 |.FunctionDef x ..=>if x==n then[]else[x]
 |.ClassDef x ..=>[x]
 |.Assign [.Name x _] _ _=>if x == "__name__" then[]else[x]
 |_=>[]
def los(l:List Stmt):List Str:=l.flatMap (bnd "law")
def vw(p:aP4):aP4:={ p with main:={ p.main with body:=p.main.body.filter λst=>match st with|.FunctionDef x ..=>x == "law" |_=>false } }
def xt(r:OpenRow)(s:aP1):Bool:=xlAt (vw r.prog) [] s&&recOk r.toRowW.records s
def size1(w:aP3):((boot_heap w.params).isNs mainGlobals&&(#[]:Array GenState).size==0,(boot_heap w.params).objs.size,(boot_heap w.params).nsMap mainGlobals "__annotations__")=(true,11,an):=by kernel_rfl
end Tp
def Tp.twA:Prod.fst (true,(@Tp.go,@Tp.lay,@Tp.sh,@Tp.sA,@Tp.cd,@Tp.ev,@Tp.S.bt,@Tp.KK,@Tp.hk,@Tp.H1,@Tp.S1,@Tp.los,@Tp.vw,@Tp.xt))=true:=by k_qdec
namespace D3
open PySem.Calls
def o4(q:Str):Str:=q ++ ".<locals>."
def cdT:aP0->aP0->aP0->aP0->aP0->aP0->Option Addr
 |.type "code", .ref T,.str _ _,.int _ _,.bool _,.int _ _=>some T
 |_,_,_,_,_,_=>none
def gH:Obj->Option (Str×Option Addr)
 |⟨cl,_,.fields vs,_⟩=>match vs.toList with
  |_ :: .str q _::_=>some (q,cdT cl (vs.getD 11 .none) (vs.getD 18 .none) (vs.getD 7 .none) (vs.getD 9 .none) (vs.getD 10 .none))
  |_=>none
 |_=>none
def tq(b:Addr):Fg->Option Str
 |[]=>none
 |(_,o)::r=>match gH o with
  |some (q,some T)=>if T=b then some q else tq b r
  |_=>tq b r
def o5:Option Obj->Bool
 |some ⟨.none,none,.fields vs,sl⟩=>vs.size==0&&sl.size==0
 |_=>false
noncomputable def lW(K Kf:Fg):Bool:=K.all λ(c,o)=>match gH o with
 |none=>true
 |some (q,some T)=>tq T K==some q&&(K.lookup T).isNone&&o5 (Kf.lookup T)&&c != T
 |some (_,none)=>false
def aIY{o:Option Obj}(h:o5 o=true):o=some ⟨.none,none,.fields #[],#[]⟩:=by
 unfold o5 at h;split at h
 . rename_i vs sl;simp only[aNI,aMG]at h;obtain rfl:vs = #[]:=aPT h.1;obtain rfl:sl = #[]:=aPT h.2;rfl
 . cases h
def vG{o:Obj}{T:Addr}(h:gH o=some (q,some T)){c:Addr}(e:hp.get? c=some o)(ne:c≠T):W.CodeHd hp c T:=by
 obtain⟨cl,od,dt,sl⟩:=o;unfold gH at h;split at h
 . rename_i cl' od' vs sl' he;cases he;split at h
   . rename_i a q' t r hv;have h1:=aL0 h;have h2:cdT cl (vs.getD 11 .none) (vs.getD 18 .none) (vs.getD 7 .none) (vs.getD 9 .none) (vs.getD 10 .none)=some T:=congrArg Prod.snd h1;unfold cdT at h2;split at h2
     . rename_i e1 e2 e3 e4 e5;cases h2;refine⟨_,vs,_,_,_,_,_,_,_,e,rfl,rfl,?_,e1,e2,e3,e4,e5,ne⟩;rw[aOV]at e1;cases q:vs[11]? with
       |none=>rw[q]at e1;cases e1
       |some v=>rw[q]at e1;exact congrArg some e1
     . cases h2
   . cases h
 . cases h
def aIZ{cd:aP0}(h:W.codeIn K cd q=true):∃c o,cd=.ref c/\K.lookup c=some o/\∃x,gH o=some (q,x):=by
 unfold W.codeIn at h;split at h
 . rename_i c;split at h
   . rename_i e;split at h
     . rename_i a n t r hv;refine⟨c,_,rfl,e,?_⟩;rw[aMG]at h;subst h;unfold gH;dsimp only;rw[hv];exact⟨_,rfl⟩
     . cases h
   . cases h
 . cases h
theorem vH{c:Addr}{o:Obj}:∀{K:Fg},K.lookup c=some o->(c,o)∈K
 |[],h=>by cases h
 |(b,u)::r,h=>by
  rw[aNY]at h;split at h
  . rename_i hb;cases h;have hb:=aMG.mp hb;subst hb;exact mcs
  . exact mcm (vH h)
theorem o7{b:Addr}{q:Str}:∀{K:Fg},tq b K=some q->∃c o,(c,o)∈K/\gH o=some (q,some b)
 |[],h=>by cases h
 |(c,o)::r,h=>by
  unfold tq at h;split at h
  . rename_i q' T e;split at h
    . rename_i ht;cases h;subst ht;exact⟨c,o,mcs,e⟩
    . obtain⟨c',o',m,x⟩:=o7 h;exact⟨c',o',mcm m,x⟩
  . obtain⟨c',o',m,x⟩:=o7 h;exact⟨c',o',mcm m,x⟩
structure TabF(K Kf:Fg):Prop where
 all:∀c o,(c,o)∈K->∀q x,gH o=some (q,x)->∃T,x=some T/\tq T K=some q/\K.lookup T=none/\Kf.lookup T=some ⟨.none,none,.fields #[],#[]⟩/\c≠T
def aI0{Kf:Fg}(h:lW K Kf=true):TabF K Kf:=⟨λc o m q x e=>by
 have h1:=aPG.mp h (c,o) m;dsimp only at h1;rw[e]at h1;cases x with
 |none=>cases h1
 |some T =>
  dsimp only at h1;simp only[aNI,aMG,aPQ,aPI]at h1;exact⟨T,rfl,h1.1.1.1,h1.1.1.2,aIY h1.1.2,h1.2⟩⟩
def aI1{Kf:Fg}{mb:SOV}{fa a:Addr}{s₁:aP1}{vs:List aP0}{ns:List Int}(KX:Kf.In s₁.heap)(sub:∀b o,K.lookup b=some o->Kf.lookup b=some o)(tb:TabF K Kf)(nd:∀b o,(b,o)∈K->K.lookup b=some o)(hns:s₁.heap.Ns mainGlobals mg)(hb:s₁.heap.Ns builtinsNs mb)(hbb:∀x:Str,x ≠ "__name__" -> mb x=bootBuiltins x)(hlim:s₁.heap.NoLimit)(hbm:∃bm ob,mg "__builtins__" = some (.ref bm)/\bm≠builtinsNs/\s₁.heap.get? bm=some ob/\ob.cls=.type "module" /\ ob.dict=some builtinsNs/\ob.data=.plain)(hg:s₁.gens = #[])(ha:s₁.heap.get? a=some { cls:=.type "list", data:=.seq vs.toArray })(hi:IntsAre vs ns)(hl:ns.length<=sizeLine)(hr:aX k callerA)(F:∀base:Heap,K.In base->base.Ns mainGlobals mg->bH P w K mg base CX k fa fd [x] sp)(hbind:∀(s:aP1) (u:aP0),BindsTo s fd ⟨[u],[]⟩ [(x,u)])(hsp:∀H:Hp,SqL K H a (ns.map V.int)->sp [.ref a] H (λv _=>v=.bl true) λ_ _ _=>False)(hCX:∀H e s',CX [] H s₁ (λ_ _ _=>False) e s'->False):codeAny (model P w) callerA (.call (.ref fa) ⟨[.ref a],[]⟩) (λr s'=>r=.ok (.ret (.bool true))/\OldK s₁.heap s'.heap/\s'.os=s₁.os/\AllBare s'.gens) s₁:=by
 have KX':K.In s₁.heap:=λb o e=>KX b o (sub b o e);have rv:=aGD hi;have lenV:=hi.length
 let sob:Obj:={ cls:=.type "list", data:=.seq vs.toArray }
 let H:Hp:=λb=>match tq b K with
  |some q=>some (.tbl #[.str (o4 q) 0])
  |none=>if b=a/\K.lookup a=none then some (.frz sob (.lst (ns.map V.int)))else none
 have tabAt:∀{b:Addr}{q:Str},tq b K=some q->K.lookup b=none/\s₁.heap.get? b=some ⟨.none,none,.fields #[],#[]⟩/\isCodeTable s₁.heap b:=λ{b q} e=>by obtain⟨c,o,m,x⟩:=o7 e;obtain⟨T,e1,_,e3,e4,e5⟩:=tb.all c o m q _ x;cases e1;obtain⟨o',vs',_,_,_,_,_,_,_,g1,g2,g3,g4,_⟩:=vG x (KX' c o (nd c o m)) e5;exact⟨e3,KX _ _ e4,c,o',vs',g1,g2,g3,g4⟩
 have nota:tq a K=none:=by
  cases e:tq a K with
  |none=>rfl
  |some q=>have:=(tabAt e).2.1;rw[ha]at this;cases this
 have Htab:∀{b:Addr}{q:Str},tq b K=some q->H b=some (.tbl #[.str (o4 q) 0]):=λ{b q} e=>by
  show(match tq b K with|some q=>_|none=>_)=_
  rw[e]
 have Hno:∀{b:Addr},tq b K=none->H b=if b=a/\K.lookup a=none then some (.frz sob (.lst (ns.map V.int)))else none:=λ{b} e=>by
  show(match tq b K with|some q=>_|none=>_)=_
  rw[e]
 have HK:∀{b:Addr}{o:Obj},K.lookup b=some o->H b=none:=λ{b o} e=>by
  cases q:tq b K with
  |some x=>have:=(tabAt q).1;rw[e]at this;cases this
  |none=>rw[Hno q,if_neg];rintro⟨rfl,z⟩;rw[e]at z;cases z
 have noD:∀{b:Addr}{o:Obj}{es:Array DictEntry}{ep:Nat},s₁.heap.get? b=some o->o.data=.dict es ep->H b=none:=λ{b o es ep} e d=>by
  cases q:tq b K with
  |some x=>have:=(tabAt q).2.1;rw[e]at this;cases this;cases d
  |none=>rw[Hno q,if_neg];rintro⟨rfl,z⟩;rw[ha]at e;cases e;cases d
 have noM:∀{b:Addr}{o:Obj},s₁.heap.get? b=some o->o.cls=.type "module" -> H b=none:=λ{b o} e d=>by
  cases q:tq b K with
  |some x=>have:=(tabAt q).2.1;rw[e]at this;cases this;cases d
  |none=>rw[Hno q,if_neg];rintro⟨rfl,z⟩;rw[ha]at e;cases e;injection d with d;exact absurd d (by decide)
 have hok:HOk P w H s₁.heap:=λb u e=>by
  cases q:tq b K with
  |some x=>rw[Htab q]at e;cases e;refine⟨o4 x,#[],rfl,(tabAt q).2.1,trivial,λz cv f=>?_⟩;cases f
  |none =>
   rw[Hno q]at e;split at e
   . rename_i hc;cases e;obtain⟨rfl,_⟩:=hc;exact⟨ha,by rw[aMJ];exact hl,vs,_,rv,ha⟩
   . cases e
 have hS:SqL K H a (ns.map V.int):=by
  cases hk:K.lookup a with
  |some o=>have e:=KX' a o hk;rw[ha]at e;cases e;exact .inr ⟨_,vs.toArray,_,hk,rfl,rfl,rfl,by rw[aMD,lenV];exact hl,by simpa using rv⟩
  |none=>exact .inl (.inr ⟨sob,by rw[Hno nota,if_pos ⟨rfl,hk⟩]⟩)
 have nsK:∀{b:Addr}{m:SOV},s₁.heap.Ns b m->(e9 s₁.heap H).Ns b m:=λ{b m} ⟨o,es,ep,e,d,r⟩=>⟨o,es,ep,mQ e (noD e d),d,r⟩;have hKb:K.In (e9 s₁.heap H):=λb o e=>mQ (KX' b o e) (HK e);have hM:Mod K mg (e9 s₁.heap H):=⟨hKb,nsK hns,⟨mb,nsK hb,hbb⟩,let⟨mc,h1,h2⟩:=hlim;⟨mc,nsK h1,h2⟩,let⟨bm,ob,b1,b2,b3,b4,b5,b6⟩:=hbm;⟨bm,ob,b1,b2,mQ b3 (noM b3 b4),b4,b5,b6⟩⟩
 have hT:iC K (e9 s₁.heap H) H:=λcd q e=>by obtain⟨c,o,rfl,lk,y,hy⟩:=aIZ e;obtain⟨T,rfl,e2,_,_,e5⟩:=tb.all c o (vH lk) q y hy;exact⟨c,T,_,rfl,vG hy (hKb c o lk) e5,Htab e2,rfl⟩
 have e0:dP P w K mg (e9 s₁.heap H) callerA [] s₁ H:=⟨rfl,hM,λb o e=>yC e,aML (yB _ _),trivial,λb hb=>absurd (show b∈([]:List Addr)from hb) (by simp),hok,.of_eq hg,hT⟩
 refine aNP ((F _ hKb (nsK hns)).run callerA [] s₁ H ⟨[.ref a],[]⟩ [.ref a] [.ref a] _ _ hr e0 (hbind s₁ (.ref a)) (.cons rfl .nil) (hsp H hS)) λr s' h=>?_;cases r with
 |error e=>exact(hCX H e s' h).elim
 |ok fl =>
  cases fl with
  |next=>exact False.elim h
  |brk=>exact False.elim h
  |cont=>exact False.elim h
  |ret u =>
   obtain⟨v,H',os,bare,un,hok',r',q⟩:=h;have q':v=.bl true:=q;subst q';obtain rfl:u=Value.bool true:=r';have was:∀b o,s₁.heap.get? b=some o->asItWas s₁.heap s'.heap b o/\∃o',s'.heap.get? b=some o':=λb o e=>by
    cases q:tq b K with
    |some x=>obtain⟨more,z⟩:=un.tbls b _ (Htab q);obtain⟨_,m,_,g,_⟩:=hok' b _ z;obtain⟨_,t2,t3⟩:=tabAt q;rw[e]at t2;cases t2;exact⟨.inr (.inl ⟨t3,rfl,#[],m,rfl,by rw[g];simp⟩),_,g⟩
    |none =>
     have hn:=Hno q;split at hn
     . rename_i hc;obtain⟨rfl,_⟩:=hc;have z2:=un.frzs _ _ _ hn;obtain⟨e2,_⟩:=hok' _ _ z2;rw[ha]at e;cases e;exact⟨.inl e2,_,e2⟩
     . have:=un.keep b o e hn (by intro z;exact absurd (show b∈([]:List Addr)from z) (by simp)) (by simp)
       exact⟨.inl this,o,this⟩
   exact⟨rfl,⟨λb o e=>(was b o e).1,λb o e=>(was b o e).2⟩,os,bare⟩
def aI2{l:W.OpenLaw}{q:aP4}{d:DefRec}{K Kf:Params->Fg}{CX:aP3->CXT}{sp:aP3->Sp}(hn:l.most=some n)(hn2:n<=sizeLine)(hdf:d.params.defaults=[])(hr:aX k callerA)(hY:∀(w:aP3) (h:Heap),YP w h->(Kf w.params).In h)(sub:∀P b o,(K P).lookup b=some o->(Kf P).lookup b=some o)(nd:∀P b o,(b,o)∈K P->(K P).lookup b=some o)(tb:∀P,lW (K P) (Kf P)=true)(F:∀(w:aP3) (mg:SOV) (fa:Addr) (h:Heap),(K w.params).In h->h.Ns mainGlobals mg->mg d.name=some (.ref fa)->∃fd:FuncData,(∀(s:aP1) (u:aP0),BindsTo s fd ⟨[u],[]⟩ [(x,u)])/\∀base:Heap,(K w.params).In base->base.Ns mainGlobals mg->bH l.prog w (K w.params) mg base (CX w) k fa fd [x] (sp w))(hsp:∀(w:aP3) (H:Hp) (a:Addr) (ns:List Int),ns.length<=n->SqL (K w.params) H a (ns.map V.int)->sp w [.ref a] H (λv _=>v=.bl true) λ_ _ _=>False)(hCX:∀(w:aP3) (H:Hp) (s:aP1) (e:aP0) (s':aP1),CX w [] H s (λ_ _ _=>False) e s'->False):W.WalkO q loose XP YP l.row.toRowW d [] (λf vs=>PySem.call f vs):=by refine Att.aBA hn hdf λw s₀ s₁ mg mb fa o pm cd doc a vs ns G Y ho hd hcd hmg hobj hints hlen hg=>?_;have KX:=hY w _ Y;obtain⟨fd,hb,hF⟩:=F w mg fa _ (λb o e=>KX b o (sub _ b o e)) G.T.g hmg;exact aI1 KX (sub w.params) (aI0 (tb w.params)) (nd w.params) G.T.g G.T.b G.T.builtins G.T.nolimit G.T.bmain hg hobj hints (aLS hlen hn2) hr hF hb (λH hS=>hsp w H a ns hlen hS) λH e s'=>hCX w H s₁ e s'
noncomputable def adB(K:Fg)(x:Str):Option Addr:=match W.nsIn K mainGlobals x with|some (some (.ref a))=>some a|_=>none
def eA{a:Addr}(h:adB K x=some a):W.nsIn K mainGlobals x=some (some (.ref a)):=by
 unfold adB at h;split at h
 . rename_i b e;cases h;exact e
 . cases h
noncomputable def isKey(key:Str):Addr×Obj->Bool
 |(_,⟨.type t,_,.func fd,_⟩)=>t == "function" && fd.qualname==key
 |_=>false
noncomputable def faK(K:Fg)(key:Str):Addr:=match K.find? (isKey key)with|some p=>p.1|none=>0
noncomputable def stOf(fd:FuncData)(b:List Stmt):Stmt:=.FunctionDef fd.name fd.params b [] none [] fd.scope none fd.name ⟨0,0,0,0⟩
noncomputable def parB(p:Arguments)(ps:List Str):Bool:=p.posonlyargs.isEmpty&&(p.args.map (·.arg)==ps)&&p.vararg.isNone&&p.kwonlyargs.isEmpty&&p.kwarg.isNone&&decide ps.Nodup
noncomputable def fdB(K:Fg)(nm:Option Str)(key:Str)(a:Addr)(ps:List Str)(f:Stmt->Bool)(fd:FuncData)(b:List Stmt):Bool :=
 (nm.getD fd.name==fd.name)&&((fd.qualname==key)&&(fd.globals==mainGlobals&&(fd.closure.isEmpty&&((fd.defaults == .none)&&(fd.builtins==builtinsNs&&(W.codeIn K fd.code key&&(W.keepIn K (.ref a)&&(parB fd.params ps&&f (stOf fd b)))))))))
noncomputable def iY(K:Fg)(nm:Option Str)(key:Str)(a:Addr)(ps:List Str)(f:Stmt->Bool):Bool:=match K.lookup a with
 |some ⟨_,_,.func fd,_⟩=>(match fd.body with
  |.stmts b=>fdB K nm key a ps f fd b
  |_=>false)
 |_=>false
def o8{nm:Option Str}{key:Str}{a:Addr}{f:Stmt->Bool}(h:iY K nm key a ps f=true):∃name st fd,Fun K name key st a fd/\cB K fd ps []/\f st=true/\nm.getD name=name/\∀us:List aP0,us.length=ps.length->bindArgs fd ⟨us,[]⟩=pure (ps.zip us):=by
 unfold iY at h;split at h
 . rename_i oc od fd sl el;split at h
   . rename_i b eb;unfold fdB at h;simp only[aNI]at h;obtain⟨h1,h2,h3,h4,h5,h6,h7,h8,h9,h10⟩:=h;obtain⟨name,qualname,params,body,scope,globals,closure,defaults,kwdefaults,doc,pm,an,code,ct,bl⟩:=fd;dsimp only at *;obtain rfl:=eb;obtain rfl:=aMG.mp h2;obtain rfl:=aMG.mp h3;obtain rfl:=aPH.mp h4;obtain rfl:=aMG.mp h5;obtain rfl:=aMG.mp h6;unfold parB at h9;simp only[aNI,aPH,aMG,aPI,aNZ]at h9;obtain⟨⟨⟨⟨⟨p1,p2⟩,p3⟩,p4⟩,p5⟩,p6⟩:=h9;have bp:=tZ (fd:=W.fnOf name qualname params b scope .none kwdefaults doc pm an code ct) p1 p2 p3 p4 p5 rfl p6;exact⟨name,_,_,aBB (st:=stOf ⟨name,qualname,params,.stmts b,scope,mainGlobals,[],.none,kwdefaults,doc,pm,an,code,ct,builtinsNs⟩ b) el h7 h8,.all bp,h10,aMG.mp h1,bp⟩
   . cases h
 . cases h
noncomputable def gvB(K:Fg)(x:Str):GV->Bool
 |.con (.s y)=>(match W.nsIn K mainGlobals x with|some (some (.str z _))=>z==y|_=>false)
 |.con (.i n)=>(match W.nsIn K mainGlobals x with|some (some (.int z _))=>z==n|_=>false)
 |.con (.t _)=>true
 |.no=>W.nsIn K mainGlobals x==some none
 |.fn _=>W.nsIn K mainGlobals x==some (some (.ref (faK K x)))
 |.cls=>true
noncomputable def lX(K:Fg)(C:Addr):Bool:=W.plainGet K C Str.empty&&(W.hasDictIn K C&&(W.plainOver K C&&W.findIn K (.ref C) "__setattr__" == some (some (.builtin "object.__setattr__"))))
def vI{C:Addr}(h:lX K C=true):Cls K C:=by unfold lX at h;simp only[aNI,aMG]at h;exact⟨h.1,h.2.1,h.2.2.1,h.2.2.2⟩
noncomputable def o9(K:Fg)(C:Addr)(x:Str×Str×Nat):Bool:=W.findIn K (.ref C) x.1==some (some (.ref (faK K x.2.1)))&&(W.isFn K (.ref (faK K x.2.1))&&W.keepIn K (.ref (faK K x.2.1)))
noncomputable def ciB(K:Fg)(i:CI):Bool:=match adB K i.name with
 |some C=>lX K C&&(i.meths.all (o9 K C)&&i.flds.all λf=>W.findIn K (.ref C) f==some none)
 |none=>false
noncomputable def mk0B(K:Fg)(c:Str):Bool:=match adB K c with
 |some C=>W.makesIn K C&&(W.findIn K (.ref C) "__init__" == some (some (.builtin "object.__init__"))&&W.keepIn K (.ref C))
 |none=>false
noncomputable def clB(K:Fg)(C:Addr):Bool:=W.findIn K (.ref C) "__class__" == some (some (.builtin "object.__class__"))&&(W.specialIn K (.builtin "object.__class__") "__get__" == some (some (.builtin "getset_descriptor.__get__"))&&(W.takesIn K (.builtin "object.__class__")==some true&&W.mroIn K C (.type "object")==some true))
noncomputable def isoB(K:Fg)(cl:List CI)(c:Str):Bool:=match adB K c with
 |some C=>["NoneType", "bool", "int", "str", "tuple", "list", "dict"].all (λt=>W.kitOne K (.type t) (.ref C)==some false)&&cl.all λi=>match adB K i.name with
  |some C'=>lX K C'&&(clB K C'&&W.kitOne K (.ref C') (.ref C)==some (i.ups.contains c))
  |none=>false
 |none=>false
noncomputable def inB(K:Fg)(g:MG)(x:Str×ID):Bool:=match adB K x.2.c with
 |some C=>W.makesIn K C&&(W.findIn K (.ref C) "__init__" == some (some (.ref (faK K x.1)))&&(W.isFn K (.ref (faK K x.1))&&(W.keepIn K (.ref C)&&iY K none x.1 (faK K x.1) x.2.ps (λst=>oN g st x.2))))
 |none=>false
noncomputable def xtB(K:Fg)(x:(Str×Str)×Bool):Bool:=match adB K x.1.1,adB K x.1.2 with
 |some C,some C2=>W.mroIn K C2 (.type "BaseException")==some true&&(W.typeIn K (.ref C2)==some (.type "type")&&W.mroIn K C (.ref C2)==some x.2)
 |_,_=>false
noncomputable def xcB(K:Fg)(C:Addr):Bool:=W.findIn K (.ref C) "__getattribute__" == some (some (.builtin "BaseException.__getattribute__"))&&(W.findIn K (.ref C) "__getattr__" == some none&&(W.mroIn K C (.type "BaseException")==some true&&clB K C))
noncomputable def cvB(K:Fg)(n:Str):Option V:=match W.nsIn K mainGlobals n with
 |some (some (.ref C))=>some (.ref C)
 |some none=>if n == "__name__" then none else(match bootBuiltins n with|some (.type T)=>some (.ty T)|_=>none)
 |_=>none
noncomputable def xiB(K:Fg)(x:(Str×Str)×Bool):Bool:=match adB K x.1.1,cvB K x.1.2 with
 |some C,some cv=>xcB K C&&W.kitOne K (.ref C) (sQ cv)==some x.2
 |_,_=>false
noncomputable def rzB(K:Fg)(c:Str):Bool:=match adB K c with
 |some C=>W.excIn K C vErr "ValueError.__new__"
 |none=>false
noncomputable def gfB(K:Fg)(g:MG)(t:TB):Bool :=
 g.G.all (λx=>gvB K x.1 x.2)&&(gOk g.G t.T&&(t.T.all (λx=>iY K (if x.1 == "law" then some "law" else none) x.1 (faK K x.1) x.2.ps (λst=>fO g x.1 st x.2))&&(t.I.all (inB K g)&&(g.mk0.all (mk0B K)&&(uT g.mki t.I&&(g.iso.all (isoB K t.cl)&&(t.cl.all (ciB K)&&(mtOk t.cl t.T&&(t.xt.all (xtB K)&&(t.xi.all (xiB K)&&(g.xcs.all (rzB K)&&(g.xns.all (λn=>(cvB K n).isSome)&&(oP g t.T&&(oR g t.T&&oQ g t.T))))))))))))))
section
variable (Xi:K.In h)(G:h.Ns mainGlobals mg)
include Xi G
theorem vJ:∀{l:List (Str×GV)},(∀x tb,(x,GV.con (.t tb))∈l->iR w K mg x tb)->l.all (λx=>gvB K x.1 x.2)=true->j4 w K mg (faK K) l
 |[],_,_=>trivial
 |(x,v)::l,ht,b=>by
  rw[aPR,aNI]at b;refine⟨?_,vJ (λx tb hx=>ht x tb (mcm hx)) b.2⟩;have b:=b.1;dsimp only at b;cases v with
  |con c =>
   cases c with
   |s y =>
    have b:(match W.nsIn K mainGlobals x with|some (some (.str z _))=>z==y|_=>false)=true:=b
    split at b
    . rename_i z t e;cases aMG.mp b;exact⟨t,aPU Xi G e⟩
    . cases b
   |i y =>
    have b:(match W.nsIn K mainGlobals x with|some (some (.int z _))=>z==y|_=>false)=true:=b
    split at b
    . rename_i z t e;cases aMG.mp b;exact⟨t,aPU Xi G e⟩
    . cases b
   |t tb=>exact ht x tb mcs
  |fn n=>exact aPU Xi G (aMG.mp b)
  |no=>exact W.mg_none_of Xi G (aMG.mp b)
  |cls=>trivial
def vK{n:Str}{cv:V}(e:cvB K n=some cv):k7 mg n cv:=by
 unfold cvB at e;split at e
 . rename_i C q;cases e;exact .inl ⟨C,aPU Xi G q,rfl⟩
 . rename_i q;split at e
   . cases e
   . rename_i hn;split at e
     . rename_i T hb;cases e;exact .inr ⟨W.mg_none_of Xi G q,by simpa using hn,T,hb,rfl⟩
     . cases e
 . cases e
end
theorem vL{K:Fg}{g:MG}:∀{l:List (Str×FD)},l.all (λx=>iY K (if x.1 == "law" then some "law" else none) x.1 (faK K x.1) x.2.ps (λst=>fO g x.1 st x.2))=true->j2 K g (faK K) l
 |[],_=>trivial
 |(x,d)::l,b=>by rw[aPR,aNI]at b;obtain⟨name,st,fd,F,hb,ok,_,_⟩:=o8 b.1;exact⟨⟨name,st,fd,F,hb,ok⟩,vL b.2⟩
theorem vM{K:Fg}{C:Addr}:∀{l:List (Str×Str×Nat)},l.all (o9 K C)=true->iV K (faK K) C l
 |[],_=>trivial
 |(m,key,n)::l,b=>by rw[aPR,aNI]at b;have b1:=b.1;unfold o9 at b1;simp only[aNI,aMG]at b1;exact⟨⟨b1.1,b1.2.1,b1.2.2⟩,vM b.2⟩
theorem vN{K:Fg}{C:Addr}:∀{l:List Str},l.all (λf=>W.findIn K (.ref C) f==some none)=true->iW K C l
 |[],_=>trivial
 |f::l,b=>by rw[aPR,aNI]at b;exact⟨aMG.mp b.1,vN b.2⟩
theorem vO{K:Fg}:∀{l:List CI},l.all (ciB K)=true->j5 K (faK K) l
 |[],_=>trivial
 |i::l,b=>by
  rw[aPR,aNI]at b;refine⟨?_,vO b.2⟩;have b:=b.1;unfold ciB at b;split at b
  . rename_i C e;simp only[aNI]at b;exact⟨C,eA e,vI b.1,vM b.2.1,vN b.2.2⟩
  . cases b
section
variable (Xi:K.In h)(G:h.Ns mainGlobals mg)
include Xi G
theorem vP{g:MG}:∀{l:List (Str×ID)},l.all (inB K g)=true->j3 K mg g l
 |[],_=>trivial
 |(x,d)::l,b=>by
  rw[aPR,aNI]at b;refine⟨?_,vP b.2⟩;have b:=b.1;unfold inB at b;split at b
  . rename_i C e;simp only[aNI,aMG]at b;obtain⟨b1,b2,b3,b4,b5⟩:=b;obtain⟨name,st,fd,F,hb,ok,_,_⟩:=o8 b5;exact⟨name,st,C,_,fd,eA e,aPU Xi G (eA e),⟨b1,b2,b3,b4⟩,F,hb,ok⟩
  . cases b
omit Xi G in
theorem pA{c x:Str}{v:Bool}:∀{l:List ((Str×Str)×Bool)},l.lookup (c,x)=some v->((c,x),v)∈l
 |[],e=>by cases e
 |(y,b)::l,e=>by
  rw[aNY]at e;split at e
  . rename_i hb;cases e;rw[<- aMG.mp hb];exact mcs
  . exact mcm (pA e)
def xt_of{l:List ((Str×Str)×Bool)}(b:l.all (xtB K)=true):nQ K mg (λc x=>l.lookup (c,x)):=λc x v e=>by
 have b:=aPG.mp b ((c,x),v) (pA e);unfold xtB at b;split at b
 . rename_i C C2 e1 e2;simp only[aNI,aMG]at b;exact⟨C,C2,eA e1,aPU Xi G (eA e1),aPU Xi G (eA e2),b.1,b.2.1,b.2.2⟩
 . cases b
def xi_of{l:List ((Str×Str)×Bool)}(b:l.all (xiB K)=true):nR K mg (λc x=>l.lookup (c,x)):=λc x v e=>by
 have b:=aPG.mp b ((c,x),v) (pA e);unfold xiB at b;split at b
 . rename_i C cv e1 e2;unfold xcB clB at b;simp only[aNI,aMG]at b;obtain⟨⟨b1,b2,b3,b4,b5,b6,b7⟩,b8⟩:=b;exact⟨C,cv,eA e1,⟨b1,b2,b4,b3,b7,b5,b6⟩,vK Xi G e2,b8⟩
 . cases b
def gf_of{g:MG}{t:TB}(b:gfB K g t=true)(ht:∀x tb,(x,GV.con (.t tb))∈g.G->iR w K mg x tb):GF w K mg g t (faK K):=by
 unfold gfB at b;simp only[aNI]at b;obtain⟨b1,b2,b3,b4,b5,b6,b7,b8,b9,b10,b11,b12,b13,b14,b15,b16⟩:=b;refine⟨vJ Xi G ht b1,b2,vL b3,vP Xi G b4,λc hc=>?_,b6,λc hc=>?_,vO b8,b9,xt_of Xi G b10,xi_of Xi G b11,λc hc=>?_,λn hn=>?_,b14,b15,b16,λf d e hd=>?_,λf a b h hz=>?_⟩
 . have b:=aPG.mp b5 c hc;unfold mk0B at b;split at b
   . rename_i C e;simp only[aNI,aMG]at b;exact⟨C,eA e,aPU Xi G (eA e),b.1,b.2.1,b.2.2⟩
   . cases b
 . have b:=aPG.mp b7 c hc;unfold isoB at b;split at b
   . rename_i C e;rw[aNI]at b;refine⟨C,aPU Xi G (eA e),λt ht=>aMG.mp (aPG.mp b.1 t ht),λi hi=>?_⟩;have b:=aPG.mp b.2 i hi;split at b
     . rename_i C' e';unfold clB at b;simp only[aNI,aMG]at b;obtain⟨c1,⟨c2,c3,c4,c5⟩,c6⟩:=b;exact⟨C',eA e',vI c1,c2,c3,c4,c5,c6⟩
     . cases b
   . cases b
 . have b:=aPG.mp b12 c hc;unfold rzB at b;split at b
   . rename_i C e;exact⟨C,aPU Xi G (eA e),b⟩
   . cases b
 . have b:=aPG.mp b13 n hn;cases e:cvB K n with
   |none=>rw[e]at b;cases b
   |some cv=>exact⟨cv,vK Xi G e⟩
 . obtain⟨n,l⟩:=uV b16 e hd;have b:=aPG.mp b1 _ (aMU l);have b:(W.nsIn K mainGlobals f==some (some (.ref (faK K f))))=true:=b;exact aMG.mp b
 . obtain⟨d,_,_,_,_,_,l⟩:=aIG b15 hz;have b:=aPG.mp b1 _ (aMU l);have b:(W.nsIn K mainGlobals f==some (some (.ref (faK K f))))=true:=b;exact aMG.mp b
end
noncomputable def pB(K:Fg)(g:MG)(t:TB):Bool:=gfB K g t&&W.nsIn K mainGlobals "law" == some (some (.ref (faK K "law")))
theorem vQ{x:Str}{d:FD}:∀{l:List (Str×FD)},l.lookup x=some d->(x,d)∈l
 |[],e=>by cases e
 |(y,b)::l,e=>by
  rw[aNY]at e;split at e
  . rename_i hb;cases e;rw[<- aMG.mp hb];exact mcs
  . exact mcm (vQ e)
noncomputable def noT(g:MG):Bool:=g.G.all λx=>match x.2 with|.con (.t _)=>false|_=>true
def aI3{g:MG}{K:Params->Fg}(b:noT g=true)(w:aP3)(mg:SOV)(h:Heap)(_:(K w.params).In h)(_:h.Ns mainGlobals mg)(x:Str)(tb:List (Str×Str))(hm:(x,GV.con (.t tb))∈g.G):iR w (K w.params) mg x tb:=by have:=aPG.mp b _ hm;cases this
def walkG{l:W.OpenLaw}{q:aP4}{d:DefRec}{K Kf:Params->Fg}{g:MG}{t:TB}{kk:Nat}{e:FD}(hn:l.most=some 63)(hdf:d.params.defaults=[])(hdn:d.name="law")(hY:∀(w:World) (h:Heap),YP w h->(Kf w.params).In h)(sub:∀P b o,(K P).lookup b=some o->(Kf P).lookup b=some o)(nd:∀P b o,(b,o)∈K P->(K P).lookup b=some o)(tb:∀P,lW (K P) (Kf P)=true)(b:∀P,pB (K P) g t=true)(ht:∀(w:World) (mg:SOV) (h:Heap),(K w.params).In h->h.Ns mainGlobals mg->∀x tb,(x,GV.con (.t tb))∈g.G->iR w (K w.params) mg x tb)(hT:t.T.lookup ("law":Str)=some e)(hps:e.ps=[x])(hr:aX (kk+1) callerA)(main:∀ns:List Int,ns.length<=63->(WT t (kk+1)).Φ "law" (kU ns)=.ok .fz (.bl true)):W.WalkO q loose XP YP l.row.toRowW d [] (λf vs=>PySem.call f vs):=by
 refine aI2 (K:=K) (Kf:=Kf) (n:=63) (k:=kk+1) (x:=x) (CX:=λw=>CX1 l.prog w) (sp:=λw=>oV (K w.params) ((WT t (kk+1)).Φ ("law":Str))) hn (by decide) hdf hr hY sub nd tb (λw mg fa h KX G hmg=>?_)
  (λ_ _ a ns hl hS=>⟨a,ns,rfl,hS,main ns hl,λ_=>rfl⟩) λ_ _ _ _ _ z=>by obtain⟨_,_,_,_,_,_,_,_,_,_,z⟩:=z;exact z
 have b:=b w.params;unfold pB at b;rw[aNI,aMG]at b;have f:=gf_of (w:=w) KX G b.1 (ht w mg h KX G);have e1:=aPU KX G b.2;rw[hdn,e1]at hmg;cases hmg;have b3:t.T.all (λx=>iY (K w.params) (if x.1 == "law" then some "law" else none) x.1 (faK (K w.params) x.1) x.2.ps (λst=>fO g x.1 st x.2))=true:=by have:=b.1;unfold gfB at this;simp only[aNI]at this;exact this.2.2.1
 obtain⟨name,st,fd,F,hb,ok,hnm,bp⟩:=o8 (aPG.mp b3 (("law":Str),e) (vQ hT));have hnm:name="law" := hnm.symm;subst hnm;refine⟨fd,λs u=>.of_eq ?_,λbase _ _=>?_⟩
 . have:=bp [u] (by rw[hps];rfl)
   rw[hps]at this;exact this
 . have:=aIK (P:=l.prog) (base:=base) f kk F hT ok (by rw[hps];rfl)
   rw[hps]at this;exact this
end D3
namespace Tp
open PySem.W PySem.Calls
theorem KK_look(l:List Stmt)(P:Params)(b:Addr):∀as:List Addr,(KK l as P).lookup b=if b∈as then some (((lay P l (sA P)).bt.get b).getD default)else none
 |[]=>rfl
 |a::as=>by
  show((a,((lay P l (sA P)).bt.get a).getD default)::KK l as P).lookup b=_;rw[aNY,KK_look l P b as];by_cases h:b=a
  . subst h;simp
  . have:(b==a)=false:=aLJ.mpr h;rw[this];simp[h]
def KK_sub(l:List Stmt)(as ts:List Addr)(P:Params)(b:Addr)(o:Obj)(h:(KK l as P).lookup b=some o):(KK l (as++ts) P).lookup b=some o:=by
 rw[KK_look]at h ⊢;split at h
 . rename_i hb;rw[if_pos (aLW _ hb)];exact h
 . cases h
def KK_nd(l:List Stmt)(as:List Addr)(P:Params)(b:Addr)(o:Obj)(h:(b,o)∈KK l as P):(KK l as P).lookup b=some o:=by rw[KK_look];unfold KK at h;obtain⟨a,ha,e⟩:=aPE.mp h;cases e;rw[if_pos ha]
def left{p:aP4}{r:OpenRow}{l:List Stmt}{as:List Addr}{c':Code}(hl:behindTheImports p=l)(pre:∀(w:aP3) (os:OsState),topGo treeTable p w 11 an 12 ⟨boot_heap w.params,#[],boot_drawn,boot_toks,os⟩ (topStub p)=some ((sh w.params (sA w.params) 15 187 os).abs,⟨denote treeTable (cd p),cd p,z0,[topFrame z0]⟩))(blk:∀(w:aP3) (s:aP1),segRun treeTable p w 11 an 1 1 s (blockOf l (ev p) (cd p) z0 [topFrame z0])=some (.next,s,cd p,z0))(run:∀(w:aP3) (os:OsState),go treeTable p w 1000 l (sh w.params (sA w.params) 15 187 os) (cd p) z0=some (sh w.params (lay w.params l (sA w.params)) n k os,c',q'))(le:Nat.ble (12+(1+ns 1000 2 l)) 1000000=true)(e1:opening p=plainProg p.main.scope.names)(e2:∀s,fenceModules? p s=some s)(pU:∀w:aP3,(λos=>((staticsOk (importedModules p.main.body) (boot_heap w.params) (H1 l n w.params)&&namesBound p (H1 l n w.params)&&gensDone (S1 l n k w.params os)&&laidKept (boot_heap w.params) (H1 l n w.params)),openSeen (vw p) (los l) (importedModules p.main.body) (xt r) true (S1 l n k w.params os),(hk l as).obs (S1 l n k w.params os)))=λ_=>(true,openGood (vw p) (los l),(hk l as).val w)):LeftO p (vw p) (los l) (xt r) (hk l as).obs (hk l as).val 1000000 :=
 LeftO.of_pieces (H₀:=boot_heap) (H₁:=H1 l n) (m₀:=11) (ann:=an) (boot_open e1 rfl e2) size1 (run_of hl pre blk run) le pU
def head{p:OpenLaw}{l:List Stmt}{as:List Addr}{d:DefRec}(left:LeftO p.prog (vw p.prog) (los l) (xt p.row) (hk l as).obs (hk l as).val 1000000)(said:p.row.wellSaid=true)(h1:defOf (vw p.prog) p.name=some (d,[]))(h2:p.prog.theDef p.name=some (d.params,d.body,d.scope))(h3:kwWritten? d.params.kwonlyargs d.params.kw_defaults=some [])(h4:(!p.row.writes||p.row.records.isEmpty)=true)(ok:(chainsOk (vw p.prog)&&opensWell p.prog&&(frees p.row.toRowW&&p.row.within.isEmpty))=true)(hb:p.prog.bare)(hw:p.row.toRowW.promised)(call:WalkO (vw p.prog) (los l) (XL (vw p.prog) []) (hk l as).says p.row.toRowW d [] λf vs=>PySem.call f vs):p.row.Holds :=
 holds_open (r:=p.row) (XP:=XL (vw p.prog) []) (YP:=(hk l as).says) left (hk l as).of (hk l as).keeps (λs e=>xl_of s (Bool.and_eq_true_iff.mp e).1) XL.keeps h1 h2 h3
  (λs e=>recFacts_of (Bool.and_eq_true_iff.mp e).2) h4 said ok hb hw call
end Tp
namespace D3
open PySem.Calls
end D3
namespace K33
open D3
def fP:bO:=⟨["_law_way_here", "_law_factor", "_law_size"],[("_law_wheeled", ["_law_size", "_law_factor"]),("_law_whether", []),("_law_priced", ["_law_factor"]),("_law_halved", ["_law_factor"]),("_law_paired", ["_law_priced"]),("_law_heaped", ["_law_factor"])],.ix 0⟩
abbrev n0:E:=.int 0
abbrev n1:E:=.int 1
abbrev n5:E:=.int 5
abbrev n3:E:=.int 3
abbrev n2:E:=.int 2
abbrev n4:E:=.int 4
abbrev sf(d:D):Option (Bool×D):=some (false,d)
abbrev si(i:Int):Option (Bool×D):=some (false,.int i)
noncomputable abbrev v0:E:=.var 0
noncomputable abbrev v1:E:=.var 1
noncomputable abbrev v2:E:=.var 2
abbrev v3:E:=.var 3
abbrev v4:E:=.var 4
abbrev v5:E:=.var 5
abbrev v6:E:=.var 6
abbrev v7:E:=.var 7
abbrev v8:E:=.var 8
abbrev v9:E:=.var 9
abbrev v10:E:=.var 10
abbrev v11:E:=.var 11
abbrev v12:E:=.var 12
abbrev v13:E:=.var 13
abbrev v14:E:=.var 14
abbrev v15:E:=.var 15
abbrev v16:E:=.var 16
abbrev v17:E:=.var 17
abbrev v18:E:=.var 18
abbrev v19:E:=.var 19
abbrev v20:E:=.var 20
def pC:List D3.S:=[.ite (.cmp .Eq v3 v2) [.retV 4] []]
def gI:List D3.S:=[.set 9 (.ix (.lst [(.int 26),(.int 36)]) (.tcall .int [(.cmp .Gt v8 n0)])),.set 10 (.frz (.bin .FloorDiv (.bin .FloorDiv v0 (.int 7)) (.bin .Add v8 n1))),.ite (.cmp .Eq v8 v4) [.set 10 (.frz (.bin .Add (.bin .FloorDiv v0 (.int 240)) (.bin .Mult n5 v6)))] [],.set 7 (.frz (.bin .Add v7 (.ix v2 (.bin .Mod v10 v9))))]
def cX:List D3.S:=[.set 7 (.str ""),.for (.rng1 v3) (.nm 8) gI,.app 5 (.ix (.lst [v7,(.frz (.slice v7 none (some (.bin .Add v4 n1))))]) (.tcall .int [(.andL [(.cmp .Eq (.bin .Mod (.bin .FloorDiv v0 n5) n3) n1),(.cmp .Eq (.bin .Mod v6 n2) n1)])]))]
def iZ:List D3.S:=[.ite (.not (.tru (.call "_law_alike" 2 [(.ix v0 v2),(.ix v1 v2)]))) [.ret (.bl false)] []]
def gJ:List D3.S:=[.ite (.tru (.bcall .isinstance [v2,(.ty .str)])) [.app 1 (.tup [n1,n0,v2])] [.app 1 (.tup [n0,v2,(.str "")])]]
def pD:List D3.S:=[.ite (.cmp .Eq v6 v4) [.set 5 v7] []]
def pE:List D3.S:=[.set 5 v2,.for (.items (.ix v0 n1)) (.tp [(.nm 6),(.nm 7)]) pD,.ite (.not (.tru (.call "_law_alike" 2 [(.frz (.call "note_of" 3 [v0,v1,v4])),v5]))) [.ret (.bl false)] []]
def lY:List D3.S:=[.nput 8 (.call "_law_row" 3 [v9,v7,v2]) (.bin .Add n1 (.bin .Mod (.bin .FloorDiv v9 (.int 64)) (.bin .Sub v3 n1)))]
def lZ:List D3.S:=[.ret (.andL [(.bcall .isinstance [v0,(.ty .int)]),(.not (.bcall .isinstance [v0,(.ty .bool)]))])]
def aI4:List D3.S:=[.never]
def aI5:List D3.S:=[.never]
def aI6:List D3.S:=[.never,.never,.never,.never]
def aI7:List D3.S:=[.never,.never]
def pF:List D3.S:=[.set 2 (.frz (.meth v0 "nought" [])),.ret (.comp (.tup [v1,v2]) (.items v1) [(.cmp .NotEq v2 v0)] [2] (.tp [(.nm 1),(.nm 2)]) 2)]
def pG:List D3.S:=[.asg (.tp [(.nm 3),(.nm 4)]) v0,.ret (.tup [v3,(.frz (.tcall .tuple [(.call "without_noughts" 2 [v1,(.frz (.comp (.tup [v1,(.frz (.ccv 0 [v2]))]) (.items v4) [] [2] (.tp [(.nm 1),(.nm 2)]) 2))])]))])]
def pH:List D3.S:=[.for (.items (.ix v0 n1)) (.tp [(.nm 3),(.nm 4)]) pC,.ret (.meth v1 "nought" [])]
def aI8:List D3.S:=[.never]
def j8:List D3.S:=[.ite (.cmp .Lt v1 (.bcall .len [v0])) [.ret (.ix v0 v1)] [],.ret n0]
def eY:List D3.S:=[.set 2 (.str "abcdefghijklmnopqrstuvwxyz0123456789"),.set 3 (.ix (.lst [n1,n2,n3,n5,(.int 8),(.int 40)]) (.bin .Mod v0 (.int 6))),.set 4 (.frz (.bin .Mod (.bin .FloorDiv v0 (.int 6)) v3)),.set 5 (.lst []),.for (.rng1 v1) (.nm 6) cX,.retV 5]
def bQ:List D3.S:=[.ite (.cmp .Is v1 .non) [.ret (.cmp .Is v0 .non)] [],.ite (.tru (.bcall .isinstance [v1,(.ty .bool)])) [.ret (.andL [(.bcall .isinstance [v0,(.ty .bool)]),(.cmp .Eq v0 v1)])] [],.ite (.tru (.bcall .isinstance [v1,(.ty .int)])) [.ret (.andL [(.bcall .isinstance [v0,(.ty .int)]),(.not (.bcall .isinstance [v0,(.ty .bool)])),(.cmp .Eq v0 v1)])] [],.ite (.tru (.bcall .isinstance [v1,(.ty .str)])) [.ret (.andL [(.bcall .isinstance [v0,(.ty .str)]),(.cmp .Eq v0 v1)])] [],.ite (.tru (.bcall .isinstance [v1,(.ty .list)])) [.ite (.orL [(.not (.tru (.bcall .isinstance [v0,(.ty .list)]))),(.cmp .NotEq (.bcall .len [v0]) (.bcall .len [v1]))]) [.ret (.bl false)] []] [.ite (.orL [(.not (.tru (.bcall .isinstance [v0,(.ty .tuple)]))),(.cmp .NotEq (.bcall .len [v0]) (.bcall .len [v1]))]) [.ret (.bl false)] []],.for (.rng1 (.bcall .len [v1])) (.nm 2) iZ,.ret (.bl true)]
def eZ:List D3.S:=[.set 1 (.frz (.bin .Add (.bin .Mod v0 (.bin .Pow (.int 10) (.int 50))) (.int 10))),.ite (.cmp .Eq (.bin .Mod (.bin .FloorDiv v0 n3) n2) n1) [.set 1 (.neg v1)] [],.set 2 (.frz (.lst [(.str ""),(.str "a"),(.str "Z z"),(.str "0"),(.str "b2c~")])),.set 3 (.ix v2 (.bin .Mod (.bin .FloorDiv v0 (.int 42)) n5)),.ret (.lst [v1,(.frz (.bin .Sub (.bin .Mod (.bin .FloorDiv v0 (.int 6)) (.int 7)) n2)),v3,(.frz (.bin .Add v3 (.str "a")))])]
def l3:List D3.S:=[.set 1 (.lst []),.for (.items v0) (.nm 2) gJ,.retV 1]
def aI9:List D3.S:=[.way fP]
def pI:List D3.S:=[.ret (.tcall .tuple [(.comp (.ix v0 (.bin .Mod (.bin .FloorDiv v1 (.ix (.lst [n1,n4,(.int 16)]) v2)) n4)) (.rng1 v2) [] [1,0] (.nm 2) 1)])]
def pJ:List D3.S:=[.for (.items v3) (.nm 4) pE,.ret (.bl true)]
def fQ:List D3.S:=[.set 1 (.frz (.call "_law_cell_at" 2 [v0,n0])),.set 2 (.frz (.bin .Mod v1 n4)),.set 3 (.frz (.bin .Add n2 (.bin .Mod (.bin .FloorDiv v1 n4) (.int 89)))),.set 4 (.frz (.bin .Add n2 (.bin .Mod (.call "_law_cell_at" 2 [v0,n1]) (.int 30)))),.set 5 (.frz (.bin .Mod (.bin .FloorDiv (.call "_law_cell_at" 2 [v0,n1]) (.int 30)) (.int 6))),.set 6 (.frz (.bin .Add n1 (.bin .Mod (.bin .FloorDiv (.call "_law_cell_at" 2 [v0,n1]) (.int 180)) (.bin .Pow (.int 10) (.int 40))))),.set 7 (.frz (.call "_law_pool" 1 [(.frz (.call "_law_cell_at" 2 [v0,n2]))])),.set 8 .nnew,.for (.items (.slice v0 (some n4) (some (.int 100)))) (.nm 9) lY,.nfrz 8,.set 10 (.frz (.tcall .tuple [(.call "_law_names" 2 [(.frz (.call "_law_cell_at" 2 [v0,n3])),v2])])),.set 11 (.frz (.srtf "_law_ranked" (.ndl v8))),.set 12 (.tup [v10,(.frz (.tcall .tuple [(.comp (.tup [v1,(.nix v0 v1)]) (.items v11) [] [8] (.nm 1) 1)]))]),.set 13 (.ix (.lst [(.frz (.make "Wheel" "Wheel.__init__" 1 [v4])),(.frz (.mk0 "Truth")),(.frz (.mk0 "Costs")),(.frz (.mk0 "Counts")),(.frz (.make "Pair" "Pair.__init__" 2 [(.frz (.mk0 "Costs")),(.frz (.mk0 "Truth"))])),(.frz (.make "Heaps" "Heaps.__init__" 1 [(.frz (.mk0 "Counts"))]))]) v5),.set 14 (.ix (.lst [n0,(.bl false),.non,n0,(.tup [.non,(.bl false)]),(.tup [])]) v5),.set 15 (.frz (.mkw "_law_way" 3 [v5,v6,v4])),.setC 16 true (.comp (.tup [v2,(.frz (.ccv 0 [(.nix v1 v2)]))]) (.items v11) [] [15,8] (.nm 2) 1),.set 17 (.tup [v10,(.frz (.tcall .tuple [(.comp v1 (.items v16) [(.cmp .NotEq (.ix v1 n1) v0)] [14] (.nm 1) 1)]))]),.set 18 (.frz (.bin .Add v11 (.comp (.call "_law_row" 3 [(.frz (.bin .FloorDiv (.call "_law_cell_at" 2 [v2,n3]) (.bin .Add v3 n1))),v0,v1]) (.rng1 n3) [] [7,2,0] (.nm 3) 1))),.ite (.not (.tru (.call "_law_noted" 4 [v12,(.frz (.make "Wheel" "Wheel.__init__" 1 [v3])),n0,v18]))) [.ret (.bl false)] [],.set 19 (.frz (.call "turned" 3 [v12,v13,v15])),.ite (.not (.tru (.call "_law_alike" 2 [v19,v17]))) [.ret (.bl false)] [],.ret (.andL [(.call "_law_noted" 4 [v17,v13,v14,v18]),(.call "_law_noted" 4 [v12,(.frz (.make "Wheel" "Wheel.__init__" 1 [v3])),n0,v18])])]
def pK:List D3.S:=[.ret n0]
def l4:List D3.S:=[.ret (.bl false)]
def l5:List D3.S:=[.ret .non]
def pL:List D3.S:=[.ret n0]
def vR:List D3.S:=[.ret (.tup [(.frz (.meth (.fld v0 "first") "nought" [])),(.frz (.meth (.fld v0 "second") "nought" []))])]
def vS:List D3.S:=[.ret (.tup [])]
def l7:List D3.S:=[.ret (.bin .Mod (.bin .Mult v2 v1) v0)]
def l8:List D3.S:=[.ret (.cmp .Gt (.bin .Mod v0 n3) n0)]
def l9:List D3.S:=[.ite (.cmp .Eq (.bin .Mod v1 n4) n0) [.ret .non] [],.ret (.bin .Mult (.bin .Sub v1 n5) v0)]
def mD:List D3.S:=[.ret (.bin .Mult (.bin .FloorDiv v1 n2) v0)]
def mH:List D3.S:=[.ret (.tup [(.frz (.ccv 0 [v1])),(.cmp .Eq (.bin .Mod v1 n3) n1)])]
def j9:List D3.S:=[.ite (.cmp .Eq (.bin .Mod v1 n3) n0) [.ret (.tup [])] [],.ret (.bin .Add (.tup [(.tup [(.frz (.bin .Sub v1 (.int 40))),(.frz (.bin .Add n1 (.bin .Mod v1 n4)))])]) (.mulT (.tup [(.tup [(.frz (.bin .Mult v1 v0)),v0])]) (.bin .Mod v1 n2)))]
def vT:FD:=⟨["thing"],["thing"],lZ,[]⟩
def aJA:FD:=⟨["thing"],["thing"],aI4,[]⟩
def aJB:FD:=⟨["things"],["things"],aI5,[]⟩
def aJC:FD:=⟨["kind", "notes"],["kind", "notes", "sums", "halves"],aI6,[]⟩
def aJD:FD:=⟨["kind", "groups"],["kind", "groups", "sums"],aI7,[]⟩
def vU:FD:=⟨["kind", "pairs"],["kind", "pairs", "nought"],pF,[]⟩
def vV:FD:=⟨["some", "kind", "way"],["some", "kind", "way", "columns", "pairs"],pG,[]⟩
def vW:FD:=⟨["some", "kind", "row"],["some", "kind", "row", "other", "note"],pH,[]⟩
def aJE:FD:=⟨["kind", "groups"],["kind", "groups"],aI8,[]⟩
def vX:FD:=⟨["_law_script", "_law_k"],["_law_script", "_law_k"],j8,[]⟩
def vY:FD:=⟨["_law_cell", "_law_many"],["_law_cell", "_law_many", "_law_letters", "_law_size", "_law_at", "_law_names_here", "_law_k", "_law_name", "_law_j", "_law_most", "_law_drift"],eY,[]⟩
def vZ:FD:=⟨["_law_found", "_law_due"],["_law_found", "_law_due", "_law_k"],bQ,[]⟩
def wA:FD:=⟨["_law_cell"],["_law_cell", "_law_far", "_law_some", "_law_word"],eZ,[]⟩
def wB:FD:=⟨["_law_row_here"],["_law_row_here", "_law_keys", "_law_value"],l3,[]⟩
def wC:FD:=⟨["_law_way_here", "_law_factor", "_law_size"],["_law_way_here", "_law_factor", "_law_size", "_law_wheeled", "_law_whether", "_law_priced", "_law_halved", "_law_paired", "_law_heaped"],aI9,[("_law_wheeled", ⟨["_law_size", "_law_factor"],"_law_note", [],l7⟩),("_law_whether", ⟨[],"_law_note", [],l8⟩),("_law_priced", ⟨["_law_factor"],"_law_note", [],l9⟩),("_law_halved", ⟨["_law_factor"],"_law_note", [],mD⟩),("_law_paired", ⟨["_law_priced"],"_law_note", [],mH⟩),("_law_heaped", ⟨["_law_factor"],"_law_note", [],j9⟩)]⟩
def wD:FD:=⟨["_law_cell", "_law_pool_here", "_law_width"],["_law_cell", "_law_pool_here", "_law_width"],pI,[]⟩
def wE:FD:=⟨["_law_some", "_law_kind", "_law_nought", "_law_rows"],["_law_some", "_law_kind", "_law_nought", "_law_rows", "_law_row_here", "_law_due", "_law_there", "_law_note"],pJ,[]⟩
def pM:FD:=⟨["_law_script"],["_law_script", "_law_head", "_law_width", "_law_size", "_law_other", "_law_way_here", "_law_factor", "_law_pool_here", "_law_notes", "_law_cell", "_law_columns", "_law_rows", "_law_some", "_law_kind", "_law_nought", "_law_turn", "_law_pairs", "_law_due", "_law_asked", "_law_found"],fQ,[]⟩
def wF:FD:=⟨["self"],["self"],pK,[]⟩
def wG:FD:=⟨["self"],["self"],l4,[]⟩
def wH:FD:=⟨["self"],["self"],l5,[]⟩
def wI:FD:=⟨["self"],["self"],pL,[]⟩
def wJ:FD:=⟨["self"],["self"],vR,[]⟩
def wK:FD:=⟨["self"],["self"],vS,[]⟩
def kA:ID:=⟨"Wheel", ["self", "size"],["self", "size"],(.guard (.orL [(.not (.tru (.call "is_whole" 1 [v1]))),(.cmp .Lt v1 n2)]) [.never] (.fset "size" v1 .done))⟩
def mJ:ID:=⟨"Pair", ["self", "first", "second"],["self", "first", "second"],(.fset "first" v1 (.fset "second" v2 .done))⟩
def mK:ID:=⟨"Heaps", ["self", "kind"],["self", "kind"],(.fset "kind" v1 .done)⟩
def aJF:CI:=⟨"Kind", ["Kind"],[],[]⟩
def aJG:CI:=⟨"Single", ["Single", "Kind"],[],[]⟩
def aJH:CI:=⟨"Counts", ["Counts", "Kind"],[],[("nought", "Counts.nought", 1)]⟩
def aJI:CI:=⟨"Truth", ["Truth", "Single", "Kind"],[],[("nought", "Truth.nought", 1)]⟩
def aJJ:CI:=⟨"Costs", ["Costs", "Single", "Kind"],[],[("nought", "Costs.nought", 1)]⟩
def aJK:CI:=⟨"Wheel", ["Wheel", "Kind"],["size"],[("nought", "Wheel.nought", 1)]⟩
def aJL:CI:=⟨"Pair", ["Pair", "Kind"],["first", "second"],[("nought", "Pair.nought", 1)]⟩
def aJM:CI:=⟨"Heaps", ["Heaps", "Kind"],["kind"],[("nought", "Heaps.nought", 1)]⟩
abbrev pFD(s:Str)(d:FD):Str×FD:=(s,d)
abbrev pGV(s:Str)(d:GV):Str×GV:=(s,d)
def T:List (Str×FD):=[pFD "is_whole" vT,pFD "is_pair" aJA,pFD "is_rising" aJB,pFD "poured" aJC,pFD "poured_groups" aJD,pFD "without_noughts" vU,pFD "turned" vV,pFD "note_of" vW,pFD "heap_of" aJE,pFD "_law_cell_at" vX,pFD "_law_names" vY,pFD "_law_alike" vZ,pFD "_law_pool" wA,pFD "_law_ranked" wB,pFD "_law_way" wC,pFD "_law_row" wD,pFD "_law_noted" wE,pFD "law" pM,pFD "Counts.nought" wF,pFD "Truth.nought" wG,pFD "Costs.nought" wH,pFD "Wheel.nought" wI,pFD "Pair.nought" wJ,pFD "Heaps.nought" wK]
def TT:TB:=⟨T,[("Wheel.__init__", kA),("Pair.__init__", mJ),("Heaps.__init__", mK)],[aJF,aJG,aJH,aJI,aJJ,aJK,aJL,aJM],[],[]⟩
abbrev okf(d:D):Res:=.ok .fz d
noncomputable abbrev Wk(k:Nat):WD:=WT TT k
noncomputable def GG:MG:=⟨[pGV "Costs" .cls,pGV "Counts" .cls,pGV "Heaps" .cls,pGV "Pair" .cls,pGV "Truth" .cls,pGV "Wheel" .cls,pGV "_law_alike" (.fn 2),pGV "_law_cell_at" (.fn 2),pGV "_law_names" (.fn 2),pGV "_law_noted" (.fn 4),pGV "_law_pool" (.fn 1),pGV "_law_ranked" (.fn 1),pGV "_law_row" (.fn 3),pGV "_law_way" (.fn 3),pGV "bool" .no,pGV "int" .no,pGV "is_whole" (.fn 1),pGV "isinstance" .no,pGV "len" .no,pGV "list" .no,pGV "note_of" (.fn 3),pGV "range" .no,pGV "sorted" .no,pGV "str" .no,pGV "tuple" .no,pGV "turned" (.fn 3),pGV "without_noughts" (.fn 2)],["Truth", "Costs", "Counts"],[("Wheel", "Wheel.__init__", 1),("Pair", "Pair.__init__", 2),("Heaps", "Heaps.__init__", 1)],[],[],[],[],[]⟩
def top(i:Nat):Stmt:=aP5.main.body.getD i (.Pass ⟨0,0,0,0⟩)
abbrev pN:Stmt:=top 33
def aJN(k:Nat):(Wk (k+1)).Φ "is_whole" = phi 1 1 (evB (Wk k) lZ):=cF (d:=vT) rfl
def aJO(k:Nat):(Wk (k+1)).Φ "without_noughts" = phi 2 3 (evB (Wk k) pF):=cF (d:=vU) rfl
def aJP(k:Nat):(Wk (k+1)).Φ "turned" = phi 3 5 (evB (Wk k) pG):=cF (d:=vV) rfl
def aJQ(k:Nat):(Wk (k+1)).Φ "note_of" = phi 3 5 (evB (Wk k) pH):=cF (d:=vW) rfl
def aJR(k:Nat):(Wk (k+1)).Φ "_law_cell_at" = phi 2 2 (evB (Wk k) j8):=cF (d:=vX) rfl
def aJS(k:Nat):(Wk (k+1)).Φ "_law_names" = phi 2 11 (evB (Wk k) eY):=cF (d:=vY) rfl
def kB(k:Nat):(Wk (k+1)).Φ "_law_alike" = phi 2 3 (evB (Wk k) bQ):=cF (d:=vZ) rfl
def aJT(k:Nat):(Wk (k+1)).Φ "_law_pool" = phi 1 4 (evB (Wk k) eZ):=cF (d:=wA) rfl
def aJU(k:Nat):(Wk (k+1)).Φ "_law_ranked" = phi 1 3 (evB (Wk k) l3):=cF (d:=wB) rfl
def aJV(k:Nat):(Wk (k+1)).Φ "_law_row" = phi 3 3 (evB (Wk k) pI):=cF (d:=wD) rfl
def aJW(k:Nat):(Wk (k+1)).Φ "_law_noted" = phi 4 8 (evB (Wk k) pJ):=cF (d:=wE) rfl
def u_law(k:Nat):(Wk (k+1)).Φ "law" = phi 1 20 (evB (Wk k) fQ):=cF (d:=pM) rfl
def aJX(k:Nat):(Wk (k+1)).Φ "Counts.nought" = phi 1 1 (evB (Wk k) pK):=cF (d:=wF) rfl
def wL(k:Nat):(Wk (k+1)).Φ "Truth.nought" = phi 1 1 (evB (Wk k) l4):=cF (d:=wG) rfl
def wM(k:Nat):(Wk (k+1)).Φ "Costs.nought" = phi 1 1 (evB (Wk k) l5):=cF (d:=wH) rfl
def aJY(k:Nat):(Wk (k+1)).Φ "Wheel.nought" = phi 1 1 (evB (Wk k) pL):=cF (d:=wI) rfl
def aJZ(k:Nat):(Wk (k+1)).Φ "Pair.nought" = phi 1 1 (evB (Wk k) vR):=cF (d:=wJ) rfl
def aJ0(k:Nat):(Wk (k+1)).Φ "Heaps.nought" = phi 1 1 (evB (Wk k) vS):=cF (d:=wK) rfl
def aJ1(k:Nat):(Wk k).Wy "_law_way" = some fP:=wt_Wy (d:=wC) rfl rfl rfl rfl
def aJ2(k:Nat):(Wk (k+1)).Cl "_law_way" "_law_wheeled" = d5 ["_law_size", "_law_factor"] 3 (evB (Wk k) l7):=by rw[hO];rfl
def aJ3(k:Nat):(Wk (k+1)).Cl "_law_way" "_law_whether" = d5 [] 1 (evB (Wk k) l8):=by rw[hO];rfl
def aJ4(k:Nat):(Wk (k+1)).Cl "_law_way" "_law_priced" = d5 ["_law_factor"] 2 (evB (Wk k) l9):=by rw[hO];rfl
def aJ5(k:Nat):(Wk (k+1)).Cl "_law_way" "_law_halved" = d5 ["_law_factor"] 2 (evB (Wk k) mD):=by rw[hO];rfl
def aJ6(k:Nat):(Wk (k+1)).Cl "_law_way" "_law_paired" = d5 ["_law_priced"] 2 (evB (Wk k) mH):=by rw[hO];rfl
def aJ7(k:Nat):(Wk (k+1)).Cl "_law_way" "_law_heaped" = d5 ["_law_factor"] 2 (evB (Wk k) j9):=by rw[hO];rfl
def aJ8:CI.meth TT.cl "Counts" "nought" = some (("Counts.nought":Str),1):=rfl
def aJ9{Φ:Str->List D->Res}{as:aY}{fs:List (Str×D)}(hl:fs.lookup ("nought":Str)=none):cD TT.cl Φ "nought" (okf (.ins "Counts" fs)) as=aM 1 (Φ "Counts.nought") (aJ (okf (.ins "Counts" fs)) as):=j7 aJ8 hl
def aKA:CI.meth TT.cl "Truth" "nought" = some (("Truth.nought":Str),1):=rfl
def wN{Φ:Str->List D->Res}{as:aY}{fs:List (Str×D)}(hl:fs.lookup ("nought":Str)=none):cD TT.cl Φ "nought" (okf (.ins "Truth" fs)) as=aM 1 (Φ "Truth.nought") (aJ (okf (.ins "Truth" fs)) as):=j7 aKA hl
def aKB:CI.meth TT.cl "Costs" "nought" = some (("Costs.nought":Str),1):=rfl
def wO{Φ:Str->List D->Res}{as:aY}{fs:List (Str×D)}(hl:fs.lookup ("nought":Str)=none):cD TT.cl Φ "nought" (okf (.ins "Costs" fs)) as=aM 1 (Φ "Costs.nought") (aJ (okf (.ins "Costs" fs)) as):=j7 aKB hl
def aKC:CI.meth TT.cl "Wheel" "nought" = some (("Wheel.nought":Str),1):=rfl
def aKD{Φ:Str->List D->Res}{as:aY}{fs:List (Str×D)}(hl:fs.lookup ("nought":Str)=none):cD TT.cl Φ "nought" (okf (.ins "Wheel" fs)) as=aM 1 (Φ "Wheel.nought") (aJ (okf (.ins "Wheel" fs)) as):=j7 aKC hl
def aKE:CI.meth TT.cl "Heaps" "nought" = some (("Heaps.nought":Str),1):=rfl
def aKF{Φ:Str->List D->Res}{as:aY}{fs:List (Str×D)}(hl:fs.lookup ("nought":Str)=none):cD TT.cl Φ "nought" (okf (.ins "Heaps" fs)) as=aM 1 (Φ "Heaps.nought") (aJ (okf (.ins "Heaps" fs)) as):=j7 aKE hl
def aKG(k:Nat):(Wk (k+2)).I "Wheel.__init__" = some (dA (Wk k) kA):=rfl
def aKH(k:Nat):(Wk (k+2)).I "Pair.__init__" = some (dA (Wk k) mJ):=rfl
def aKI(k:Nat):(Wk (k+2)).I "Heaps.__init__" = some (dA (Wk k) mK):=rfl
def dL{m:Md}{i:Int}{d:D}(h:atI ds i=some d):op2 ixD (.ok m (.lst ds)) (.ok m' (.int i))=okf d:=cA (by show(atI ds i).map _=_;rw[h];rfl)
def ix_t{m:Md}{i:Int}{d:D}(h:atI ds i=some d):op2 ixD (.ok m (.tup ds)) (.ok m' (.int i))=okf d:=cA (by show(atI ds i).map _=_;rw[h];rfl)
theorem pO(xs:List α)(v:Int)(n:Int)(hn:n=xs.length)(h:0<n):∃c,c∈xs/\atI xs (v % n)=some c:=by
 have h0:=aPV v (show n≠0 by lia)
 have h1:=aPW v h;obtain⟨j,hj⟩:=aPX h0;have hl:j<xs.length:=by lia
 exact⟨xs[j],List.getElem_mem hl,by rw[hj];exact eC (aOC hl)⟩
inductive Pl:Nat->D->Prop where
 |non {n:_}:Pl n .non
 |bl {n:_} (b:Bool):Pl n (.bl b)
 |int {n:_} (i:Int):Pl n (.int i)
 |str {n:_} (s:Str):Pl n (.str s)
 |tup {n:_}{ds:List D} (h:∀d∈ds,Pl n d) (hl:ds.length<=999):Pl (n+1) (.tup ds)
theorem Pl.mono{d:D}(h:Pl n d):∀{n':Nat},n<=n'->Pl n' d:=by
 induction h with
 |non=>intro _ _;exact .non
 |bl b=>intro _ _;exact .bl b
 |int b=>intro _ _;exact .int b
 |str b=>intro _ _;exact .str b
 |tup _ hl ih =>
  intro n' hn;cases n' with
  |zero=>lia
  |succ n'=>exact .tup (λd hd=>ih d hd (by lia)) hl
def pl2{x y:D}(h1:Pl n x)(h2:Pl n y):Pl (n+1) (.tup [x,y]):=.tup (λd hd=>by
 simp only[aLU,aPB,aOP]at hd;rcases hd with rfl|rfl
 . exact h1
 . exact h2) (show 2<=999 by decide)
def pl1{x:D}(h1:Pl n x):Pl (n+1) (.tup [x]):=.tup (λd hd=>by
 rw[aOM]at hd;rw[hd];exact h1) (show 1<=999 by decide)
def pl0:Pl (n+1) (.tup []):=.tup (λd hd=>nomatch hd) (by decide)
theorem wP:∀{n:Nat} (ds:List D),(∀d∈ds,∃p,aU d=some p/\p.depth<=n)->∃ps,cM ds=some ps/\PyData.depthAll ps<=n
 |n,[],_=>⟨[],by simp[cM],by simp[PyData.depthAll]⟩
 |n,d::ds,h=>by obtain⟨p,e,l⟩:=h d mcs;obtain⟨ps,e2,l2⟩:=wP ds λx hx=>h x (mcm hx);exact⟨p::ps,by simp[cM,e,e2],by simp only[PyData.depthAll];lia⟩
theorem wQ{d:D}(h:Pl n d):∃p,aU d=some p/\p.depth<=n:=by
 induction h with
 |non=>exact⟨.none,by simp[aU],by simp[PyData.depth]⟩
 |bl b=>exact⟨.bool b,by simp[aU],by simp[PyData.depth]⟩
 |int b=>exact⟨.int b,by simp[aU],by simp[PyData.depth]⟩
 |str b=>exact⟨.str b,by simp[aU],by simp[PyData.depth]⟩
 | @tup n ds h hl ih=>obtain⟨ps,e,l⟩:=wP ds ih;exact⟨.tuple ps,by simp[aU,e],by simp only[PyData.depth];lia⟩
def eqB(x y:D):Bool:=match aU x,aU y with
 |some p,some q=>PyData.eqv p q
 |_,_=>false
theorem wR{x y:D}{m:Md}(hx:Pl n x)(hy:Pl n y)(hn:n<=50):eqF neg m x m' y=some (.fz,.bl (if neg then !eqB x y else eqB x y)):=by obtain⟨p,ep,lp⟩:=wQ hx;obtain⟨q,eq,lq⟩:=wQ hy;unfold eqF eqB;rw[ep,eq];dsimp only;rw[if_pos (by unfold jQ;rw[aNI,aNZ,aNZ];lia)]
def x_eqD{x y:D}{m:Md}(hx:Pl n x)(hy:Pl n y)(hn:n<=50):op2 (bP .Eq) (.ok m x) (.ok m' y)=okf (.bl (eqB x y)):=cA (by
 show orO (eqF false) _ m x m' y=_;unfold orO;rw[wR hx hy hn];rfl)
def wS{x y:D}{m:Md}(hx:Pl n x)(hy:Pl n y)(hn:n<=50):op2 (bP .NotEq) (.ok m x) (.ok m' y)=okf (.bl (!eqB x y)):=cA (by
 show orO (eqF true) _ m x m' y=_;unfold orO;rw[wR hx hy hn];rfl)
def wT{xs:List (Md×D)}{d:D}(hl:ds.length=n)(ha:bU xs=some ds)(h:Φ ds=.ok .fr d):aM n Φ (.ok xs)=.ok .fr d:=by
 show(match bU xs with|some ds=>if ds.length=n then(match Φ ds with|.ok .bo _=>Res.stuck|r=>r)else .stuck|none=>.stuck)=_
 rw[ha];show(if ds.length=n then _ else _)=_;rw[if_pos hl,h]
def aKJ{a d:D}(h:Φ [a]=.ok .fr d):aM 1 Φ (.ok [(.fz,a)])=.ok .fr d:=wT (ds:=[a]) rfl rfl h
def wU{a b d:D}(h:Φ [a,b]=.ok .fr d):aM 2 Φ (.ok [(.fz,a),(.fz,b)])=.ok .fr d:=wT (ds:=[a,b]) rfl rfl h
def ix2_1{m:Md}{x y:D}:op2 ixD (.ok m (.tup [x,y])) (.ok m' (.int 1))=okf y:=ix_t rfl
def tup0:cU (.ok [])=okf (.tup []):=rfl
def tup1{x:D}:cU (.ok [(.fz,x)])=okf (.tup [x]):=rfl
def tup2{x y:D}:cU (.ok [(.fz,x),(.fz,y)])=okf (.tup [x,y]):=rfl
def tup3{x y z:D}:cU (.ok [(.fz,x),(.fz,y),(.fz,z)])=okf (.tup [x,y,z]):=rfl
def cI(k:Nat){d:D}{a b:Bool}(h1:bN [(.fz,d),(.fz,.ty "int")]=some (.fz,.bl a))(h2:bN [(.fz,d),(.fz,.ty "bool")]=some (.fz,.bl b)):(Wk (k+1)).Φ "is_whole" [d]=okf (.bl (a&&!b)):=by rw[aJN];refine cH rfl ?_;show evB _ lZ [sf d]=_;simp[lZ,h1,h2,Ty.id]
def aKK(k:Nat)(i:Int):(Wk (k+1)).Φ "is_whole" [.int i]=okf (.bl true):=cI k (d:=.int i) rfl rfl
theorem wV{α:Type}{enc:α->D}{p:α->Bool}{g:α->D}{k:D->Rho->Option Rho}{t e:Rho->Res}{ρ0:Rho}:∀{xs:List α},(∀x∈xs,∃ρ1 m,k (enc x) ρ0=some ρ1/\t ρ1=.ok m (.bl (p x))/\(p x=true->∃m',aG (e ρ1)=.ok m' (g x)))->fD k t e ρ0 (xs.map enc)=some ((xs.filter p).map g)
 |[],_=>rfl
 |x::xs,h=>by
  obtain⟨ρ1,m,e1,e2,e3⟩:=h x mcs;have ih:=wV λy hy=>h y (mcm hy);rw[aMI];unfold fD;rw[e1];dsimp only;rw[e2];cases q:p x with
  |true=>obtain⟨m',e3⟩:=e3 q;simp[e3,ih,List.filter_cons,q]
  |false=>simp[ih,List.filter_cons,q]
def wW{enc:α->D}(p:α->Bool)(g:α->D){k:D->Rho->Option Rho}{t e:Rho->Res}{m:Md}{xs:List α}(hl:xs.length<sizeLine)(h:∀x∈xs,∃ρ1 m,k (enc x) (bT caps ρ++List.replicate n none)=some ρ1/\t ρ1=.ok m (.bl (p x))/\(p x=true->∃m',aG (e ρ1)=.ok m' (g x))):eU (.ok m (.lst (xs.map enc))) ρ caps n k t e=.ok .fr (.lst ((xs.filter p).map g)):=by unfold eU;rw[Res.thn_ok];dsimp only;rw[if_pos (by simpa using hl),wV h]
def aKL{enc:α->D}(g:α->D){k:D->Rho->Option Rho}{t e:Rho->Res}{m:Md}{xs:List α}(hl:xs.length<sizeLine)(h:∀x∈xs,∃ρ1 m,k (enc x) (bT caps ρ++List.replicate n none)=some ρ1/\t ρ1=.ok m (.bl true)/\∃m',aG (e ρ1)=.ok m' (g x)):eU (.ok m (.lst (xs.map enc))) ρ caps n k t e=.ok .fr (.lst (xs.map g)):=by
 have:=wW (enc:=enc) (λ_=>true) g (ρ:=ρ) (caps:=caps) (n:=n) (k:=k) (t:=t) (e:=e) (m:=m) hl λx hx=>by obtain⟨ρ1,m,e1,e2,e3⟩:=h x hx;exact⟨ρ1,m,e1,e2,λ_=>e3⟩
 rw[this,List.filter_eq_self.mpr λ_ _=>rfl]
def ph1{key:Str}{b:List D3.S}{x d:D}(u:(Wk (k+1)).Φ key=phi 1 1 (evB (Wk k) b))(h:evB (Wk k) b [sf x]=.rt .fz d):aM 1 ((Wk (k+1)).Φ key) (.ok [(.fz,x)])=okf d:=call1 (by rw[u];exact cH rfl h)
theorem up{m:Nat}(h:n<m):∃k,m=k+1:=⟨m-1,by lia⟩
def cL{d:D}{as:List (Md×D)}:aJ (okf d) (.ok as)=.ok ((.fz,d)::as):=rfl
section
variable {W:WD}{s:D3.S}{r a b:List D3.S}{ρ':Rho}{x:aF}{e c:E}{m:Md}{d:D}{l:List D}
def nxt(h:evS W s ρ=.nx ρ')(h2:evB W r ρ'=x):evB W (s::r) ρ=x:=by rw[iA h];exact h2
def iB(h:evE W e ρ=okf d):evB W [.ret e] ρ=.rt .fz d:=by rw[dJ,vB,h];rfl
def ret_r(h:evE W e ρ=.ok .fr d):evB W [.ret e] ρ=.rt .fr d:=by rw[dJ,vB,h];rfl
def kC(h:evE W c ρ=.ok m (.bl false))(h2:evB W b ρ=x):evS W (.ite c a b) ρ=x:=by rw[vC,h,x_ifF,h2]
def wX(h:evE W c ρ=.ok m (.bl true))(h2:evB W a ρ=x):evS W (.ite c a b) ρ=x:=by rw[vC,h,x_ifT,h2]
def tupl(h:evE W e ρ=.ok m (.lst l)):evE W (.tcall .tuple [e]) ρ=okf (.tup l):=by show b0 _ (aJ (evE W e ρ) (.ok []))=_;rw[h];rfl
def setc(h:evE W e ρ=.ok .fr (.lst l)):evS W (.setC i true e) ρ=.nx (ρ.set i (sf (.lst l))):=by rw[aIS,h];rfl
variable {el it:E}{ts:List E}{en:α->D}{p:α->Bool}{g:α->D}{xs:List α}
theorem wY(hi:evE W it ρ=.ok m (.lst (xs.map en)))(hl:xs.length<=100000)(h:∀x∈xs,∃ρ1 m,aP t (en x) (bT caps ρ++List.replicate n none)=some ρ1/\evF W ts ρ1=.ok m (.bl (p x))/\(p x=true->∃m',aG (evE W el ρ1)=.ok m' (g x))):evE W (.comp el it ts caps t n) ρ=.ok .fr (.lst ((xs.filter p).map g)):=by rw[u9,hi];exact wW p g (by rw[aMC];lia) h
theorem kD(hi:evE W it ρ=.ok m (.lst (xs.map en)))(hl:xs.length<=100000)(h:∀x∈xs,∃ρ1,aP t (en x) (bT caps ρ++List.replicate n none)=some ρ1/\∃m',aG (evE W el ρ1)=.ok m' (g x)):evE W (.comp el it [] caps t n) ρ=.ok .fr (.lst (xs.map g)):=by rw[u9,hi];exact aKL g (by rw[aMC];lia) λx hx=>by obtain⟨ρ1,a,b⟩:=h x hx;exact⟨ρ1,.fz,a,rfl,b⟩
end
def ix_s{m:Md}{i:Int}{c:Nat}(h:atI z.cps.toList i=some c):op2 ixD (.ok m (.str z)) (.ok m' (.int i))=okf (.str ⟨#[c]⟩):=cA (by show(atI z.cps.toList i).map _=_;rw[h];rfl)
def ce(ns:List Int)(i:Int):Int:=if 0<=i then(ns[i.toNat]?).getD 0 else 0
theorem cell(k:Nat)(ns:List Int){i:Int}(h0:0<=i):(Wk (k+1)).Φ "_law_cell_at" [.lst (ns.map .int),.int i]=okf (.int (ce ns i)):=by
 rw[aJR];refine cH rfl ?_;show evB _ j8 [sf (.lst (ns.map .int)),si i]=_;obtain⟨j,rfl⟩:=aPX h0;unfold ce;rw[if_pos h0];by_cases h:j<ns.length
 . have hx:op2 ixD (okf (.lst (ns.map .int))) (okf (.int j))=okf (.int ns[j]):=dL (eC (by rw[aMY,aOC h];rfl))
   have h':((j:Int)<(ns.length:Int)):=by lia
   simp[j8,h',hx,h]
 . have h':¬ ((j:Int)<(ns.length:Int)):=by lia
   simp[j8,h',List.getElem?_eq_none (Nat.le_of_not_lt h)]
def mL(k:Nat)(ns:List Int){i:Int}(h0:0<=i):aM 2 ((Wk (k+1)).Φ "_law_cell_at") (.ok [(.fz,.lst (ns.map .int)),(.fz,.int i)])=okf (.int (ce ns i)):=lU (cell k ns h0)
theorem kE{n:Int}(h0:0<=n)(h1:n<=1000){m:Md}:gP (.ok [(m,.int n)])=okf (.lst (bD 0 n)):=by unfold gP;rw[aY.thn_ok];dsimp only;rw[if_pos];simp only[aNI,aNZ];lia
theorem mem_range{d:D}{n:Int}(h:d∈bD 0 n):∃i:Nat,(i:Int)<n/\d=.int i:=by simp only[bD,aPE,aLQ]at h;obtain⟨i,hi,rfl⟩:=h;exact⟨i,by lia,by simp⟩
def aKM(k:Nat):(Wk (k+1)).Φ "_law_alike" [.non,.non]=okf (.bl true):=by rw[kB];refine cH rfl ?_;show evB _ bQ [sf .non,sf .non,none]=_;simp[bQ]
def al_bl(k:Nat)(b:Bool):(Wk (k+1)).Φ "_law_alike" [.bl b,.bl b]=okf (.bl true):=by rw[kB];refine cH rfl ?_;show evB _ bQ [sf (.bl b),sf (.bl b),none]=_;have i1:bN [(.fz,.bl b),(.fz,.ty "bool")]=some (.fz,.bl true):=rfl;simp[bQ,i1,Ty.id]
def aKN(k:Nat)(i:Int):(Wk (k+1)).Φ "_law_alike" [.int i,.int i]=okf (.bl true):=by rw[kB];refine cH rfl ?_;show evB _ bQ [si i,si i,none]=_;have i1:bN [(.fz,.int i),(.fz,.ty "bool")]=some (.fz,.bl false):=rfl;have i2:bN [(.fz,.int i),(.fz,.ty "int")]=some (.fz,.bl true):=rfl;simp[bQ,i1,i2,Ty.id]
def aKO(k:Nat)(z:Str):(Wk (k+1)).Φ "_law_alike" [.str z,.str z]=okf (.bl true):=by rw[kB];refine cH rfl ?_;show evB _ bQ [sf (.str z),sf (.str z),none]=_;have i1:bN [(.fz,.str z),(.fz,.ty "bool")]=some (.fz,.bl false):=rfl;have i2:bN [(.fz,.str z),(.fz,.ty "int")]=some (.fz,.bl false):=rfl;have i3:bN [(.fz,.str z),(.fz,.ty "str")]=some (.fz,.bl true):=rfl;simp[bQ,i1,i2,i3,Ty.id]
theorem aKP(k:Nat){c:D}(hx:∀i:Nat,∀hi:i<ds.length,op2 ixD (okf c) (okf (.int (i:Int)))=okf ds[i])(hp:∀d∈ds,(Wk k).Φ "_law_alike" [d,d]=okf (.bl true)):∃x,dX (okf (.lst (bD 0 (ds.length:Int)))) [sf c,sf c,none] (aP (.nm 2)) (evB (Wk k) iZ)=.nx [sf c,sf c,x]:=by
 obtain⟨ρ',e,x,rfl⟩:=aIX (m:=.fz) (ds:=bD 0 (ds.length:Int)) (k:=aP (.nm 2)) (body:=evB (Wk k) iZ) (ρ:=[sf c,sf c,none])
  (λρ=>∃x,ρ=[sf c,sf c,x]) (λd hd ρ hρ=>by
   obtain⟨x,rfl⟩:=hρ;obtain⟨i,hi,rfl⟩:=mem_range hd;have hi':i<ds.length:=by lia
   have xx:=hx i hi';have a':aM 2 ((Wk k).Φ "_law_alike") (.ok [(.fz,ds[i]),(.fz,ds[i])])=okf (.bl true):=lU (hp ds[i] (List.getElem_mem hi'));refine⟨[sf c,sf c,si (i:Int)],[sf c,sf c,si (i:Int)],by simp,.inl ?_,_,rfl⟩
   simp[iZ,xx,a']) ⟨_,rfl⟩
 exact⟨x,e⟩
def aKQ{c:D}(h0:dD c=false)(i1:bN [(.fz,c),(.fz,.ty "bool")]=some (.fz,.bl false))(i2:bN [(.fz,c),(.fz,.ty "int")]=some (.fz,.bl false))(i3:bN [(.fz,c),(.fz,.ty "str")]=some (.fz,.bl false)):evB (Wk k) (bQ.take 4) [sf c,sf c,none]=.nx [sf c,sf c,none]:=by simp[bQ,h0,i1,i2,i3,Ty.id]
def aKR{c:D}{n:Int}{b:Bool}(i4:bN [(.fz,c),(.fz,.ty "list")]=some (.fz,.bl b))(i5:bN [(.fz,c),(.fz,.ty "tuple")]=some (.fz,.bl !b))(hn:eQ [(.fz,c)]=some (.fz,.int n)):evB (Wk k) ((bQ.drop 4).take 1) [sf c,sf c,none]=.nx [sf c,sf c,none]:=by
 cases b with
 |true=>simp[bQ,i4,hn,Ty.id]
 |false=>simp[bQ,i4,i5,hn,Ty.id]
theorem aKS{c:D}{x:Option (Bool×D)}(hn:eQ [(.fz,c)]=some (.fz,.int (n:Int)))(hl:n<=999)(e:dX (okf (.lst (bD 0 (n:Int)))) [sf c,sf c,none] (aP (.nm 2)) (evB (Wk k) iZ)=.nx [sf c,sf c,x]):evB (Wk k) (bQ.drop 5) [sf c,sf c,none]=.rt .fz (.bl true):=by
 have er:=kE (m:=.fz) (n:=(n:Int)) (by lia) (by lia)
 simp[bQ,hn,er,e]
def aKT{c:D}{b:Bool}{x:Option (Bool×D)}(h0:dD c=false)(i1:bN [(.fz,c),(.fz,.ty "bool")]=some (.fz,.bl false))(i2:bN [(.fz,c),(.fz,.ty "int")]=some (.fz,.bl false))(i3:bN [(.fz,c),(.fz,.ty "str")]=some (.fz,.bl false))(i4:bN [(.fz,c),(.fz,.ty "list")]=some (.fz,.bl b))(i5:bN [(.fz,c),(.fz,.ty "tuple")]=some (.fz,.bl !b))(hn:eQ [(.fz,c)]=some (.fz,.int (n:Int)))(hl:n<=999)(e:dX (okf (.lst (bD 0 (n:Int)))) [sf c,sf c,none] (aP (.nm 2)) (evB (Wk k) iZ)=.nx [sf c,sf c,x]):(Wk (k+1)).Φ "_law_alike" [c,c]=okf (.bl true):=by rw[kB];refine cH rfl ?_;show evB (Wk k) bQ [sf c,sf c,none]=_;have ea:bQ=bQ.take 4++((bQ.drop 4).take 1++bQ.drop 5):=rfl;rw[ea,hZ,aKQ h0 i1 i2 i3];show evB (Wk k) ((bQ.drop 4).take 1++bQ.drop 5) [sf c,sf c,none]=_;rw[hZ,aKR i4 i5 hn];exact aKS hn hl e
def aKU(k:Nat)(hl:ds.length<=999)(hp:∀d∈ds,(Wk k).Φ "_law_alike" [d,d]=okf (.bl true)):(Wk (k+1)).Φ "_law_alike" [.tup ds,.tup ds]=okf (.bl true):=by obtain⟨x,e⟩:=aKP k (c:=.tup ds) (λi hi=>ix_t (eC (aOC hi))) hp;exact aKT (b:=false) rfl rfl rfl rfl rfl rfl rfl hl e
theorem wZ:∀(n:Nat) {d:D},Pl n d->∀K,n<K->(Wk K).Φ "_law_alike" [d,d]=okf (.bl true):=by
 intro n d h
 induction h with
 |non=>intro K hk;obtain⟨K,rfl⟩:=up hk;exact aKM K
 |bl b=>intro K hk;obtain⟨K,rfl⟩:=up hk;exact al_bl K b
 |int i=>intro K hk;obtain⟨K,rfl⟩:=up hk;exact aKN K i
 |str z=>intro K hk;obtain⟨K,rfl⟩:=up hk;exact aKO K z
 |tup h hl ih=>intro K hk;obtain⟨K,rfl⟩:=up hk;exact aKU K hl λd hd=>ih d hd K (by lia)
def l0:dW (.ok [])=.ok .fr (.lst []):=by rfl
def w6{g:Nat}:(z++⟨#[g]⟩:Str).length=z.length+1:=by show(z.cps++#[g]).size=_;rw[Array.size_append];rfl
theorem pP{k:D->Rho->Option Rho}{body:Rho->aF}(I:Nat->Rho->Prop):∀(ds:List D) (i:Nat) {ρ:Rho},(∀j d,ds[j]? = some d->∀ρ,I (i+j) ρ->∃ρ1 ρ2,k d ρ=some ρ1/\body ρ1=.nx ρ2/\I (i+j+1) ρ2)->I i ρ->∃ρ',bI k body ds ρ=.nx ρ'/\I (i+ds.length) ρ'
 |[],i,ρ,_,h=>⟨ρ,rfl,h⟩
 |d::ds,i,ρ,hs,h=>by
  obtain⟨ρ1,ρ2,e1,e2,h2⟩:=hs 0 d rfl ρ h;obtain⟨ρ',e3,h3⟩:=pP (k:=k) (body:=body) I ds (i+1) (λj d hd ρ hρ=>by
   have:=hs (j+1) d (by rw[aPS];exact hd) ρ (by rw[show i+(j+1)=i+1+j by lia];exact hρ)
   rw[show i+(j+1)+1=i+1+j+1 by lia]at this
   exact this) h2
  refine⟨ρ',?_,by rw[show i+(d::ds).length=i+1+ds.length by rw[aMH];lia];exact h3⟩
  unfold bI;rw[e1];dsimp only;rw[e2];exact e3
theorem w8{d:D}(h:(bD 0 (n:Int))[j]? = some d):j<n/\d=.int (j:Int):=by
 simp only[bD,aMY]at h;by_cases hj:j<n
 . refine⟨hj,?_⟩;rw[aOA (by lia)]at h
   simp at h;exact h.symm
 . rw[List.getElem?_eq_none (by simp;lia)]at h
   cases h
def xA(n:Nat):(bD 0 (n:Int)).length=n:=by simp[bD]
def L36:Str:=Str.ofString "abcdefghijklmnopqrstuvwxyz0123456789"
def mst(j:Nat):Int:=if j=0 then 26 else 36
def m_l:dW (.ok [(.fz,.int 26),(.fz,.int 36)])=.ok .fr (.lst [.int 26,.int 36]):=by rfl
def xB(j:Nat):0<mst j/\mst j<=36:=by unfold mst;split <;> decide
def l36:(L36.cps.toList).length=36:=by decide +kernel
theorem xC(v:Int)(j:Nat):∃g,L36.cps.toList[(v % mst j).toNat]? = some g/\∀m m':Md,op2 ixD (.ok m (.str L36)) (.ok m' (.int (v % mst j)))=okf (.str ⟨#[g]⟩):=by
 obtain⟨p,q⟩:=xB j;have h0:=aPV v (show mst j≠0 by lia)
 have h1:=aPW v p;have hl:=l36;obtain⟨i,hi⟩:=aPX h0;have hx:i<L36.cps.toList.length:=by lia
 refine⟨L36.cps.toList[i],by rw[hi];exact aOC hx,λm m'=>?_⟩
 rw[hi];exact ix_s (eC (aOC hx))
def xD(j:Nat):op2 ixD (.ok .fr (.lst [.int 26,.int 36])) (okf (.int (if 0<j then 1 else 0)))=okf (.int (mst j)):=by
 cases j with
 |zero=>exact dL (eC (j:=0) rfl)
 |succ j=>rw[if_pos (Nat.succ_pos j)];exact dL (eC (j:=1) rfl)
theorem mM(K:Nat){c:Int}{a s:Nat}(hs:s<=40)(hk:k<8)(x1:Option (Bool×D))(x5:Option (Bool×D))(x8 x9 x10:Option (Bool×D)):∃z y8 y9 y10,z.length=s/\dX (okf (.lst (bD 0 (s:Int)))) [si c,x1,sf (.str L36),si (s:Int),si (a:Int),x5,si (k:Int),sf (.str (Str.ofString "")),x8,x9,x10] (aP (.nm 8)) (evB (Wk K) gI)=.nx [si c,x1,sf (.str L36),si (s:Int),si (a:Int),x5,si (k:Int),sf (.str z),y8,y9,y10]:=by
 obtain⟨ρ',e,I⟩:=pP (k:=aP (.nm 8)) (body:=evB (Wk K) gI)
  (λj ρ=>∃z y8 y9 y10,z.length=j/\ρ=[si c,x1,sf (.str L36),si (s:Int),si (a:Int),x5,si (k:Int),sf (.str z),y8,y9,y10])
  (bD 0 (s:Int)) 0 (ρ:=[si c,x1,sf (.str L36),si (s:Int),si (a:Int),x5,si (k:Int),sf (.str (Str.ofString "")),x8,x9,x10])
  (λj d hd ρ hρ=>by
   obtain⟨z,y8,y9,y10,hz,rfl⟩:=hρ;obtain⟨hj,rfl⟩:=w8 hd;rw[aOL]at hz ⊢;have d1:op2 (bK .FloorDiv) (okf (.int (c / 7))) (okf (.int ((j:Int)+1)))=okf (.int (c / 7 / ((j:Int)+1))):=o1 (by lia) (by lia)
   have m1:op2 (bK .Mult) (okf (.int 5)) (okf (.int (k:Int)))=okf (.int (5 * (k:Int))):=j6 (by decide)
   have hsz:sizeLine=16777216:=aMC;have mp:=(xB j).1;by_cases e:j=a
   . obtain⟨g,hg,eg⟩:=xC (c / 240+5 * (k:Int)) j;have hla:z.length+(⟨#[g]⟩:Str).length<=sizeLine:=by have:(⟨#[g]⟩:Str).length=1:=rfl;lia
     have eb:((j:Int)==(a:Int))=true:=by rw[e];exact aOG _
     refine⟨[si c,x1,sf (.str L36),si (s:Int),si (a:Int),x5,si (k:Int),sf (.str z),si (j:Int),y9,y10],[si c,x1,sf (.str L36),si (s:Int),si (a:Int),x5,si (k:Int),sf (.str (z++⟨#[g]⟩)),si (j:Int),si (mst j),si (c / 240+5 * (k:Int))],by simp,?_,_,_,_,_,by rw[w6,hz],rfl⟩
     have mm:=hX (m:=.fz) (n:=.fz) (i:=c / 240+5 * (k:Int)) mp;have mi:=xD j;simp[gI,Ty.f,m_l,mi,d1,m1,eb,mm,eg,o3 hla]
   . obtain⟨g,hg,eg⟩:=xC (c / 7 / ((j:Int)+1)) j;have hla:z.length+(⟨#[g]⟩:Str).length<=sizeLine:=by have:(⟨#[g]⟩:Str).length=1:=rfl;lia
     have eb:((j:Int)==(a:Int))=false:=aLJ.mpr (by lia)
     refine⟨[si c,x1,sf (.str L36),si (s:Int),si (a:Int),x5,si (k:Int),sf (.str z),si (j:Int),y9,y10],[si c,x1,sf (.str L36),si (s:Int),si (a:Int),x5,si (k:Int),sf (.str (z++⟨#[g]⟩)),si (j:Int),si (mst j),si (c / 7 / ((j:Int)+1))],by simp,?_,_,_,_,_,by rw[w6,hz],rfl⟩
     have mm:=hX (m:=.fz) (n:=.fz) (i:=c / 7 / ((j:Int)+1)) mp;have mi:=xD j;simp[gI,Ty.f,m_l,mi,d1,m1,eb,mm,eg,o3 hla])
  ⟨_,_,_,_,by decide +kernel,rfl⟩
 rw[aOL,xA]at I;obtain⟨z,y8,y9,y10,hz,rfl⟩:=I;exact⟨z,y8,y9,y10,hz,e⟩
theorem aKV{W:WD}{s:Nat}(hs:s<=40){x0 x1 x2 x4 x5 x6 x7 x8 x9 x10 y8 y9 y10:Option (Bool×D)}(e:dX (okf (.lst (bD 0 (s:Int)))) [x0,x1,x2,si (s:Int),x4,x5,x6,sf (.str (Str.ofString "")),x8,x9,x10] (aP (.nm 8)) (evB W gI)=.nx [x0,x1,x2,si (s:Int),x4,x5,x6,sf (.str z),y8,y9,y10]):evB W (cX.take 2) [x0,x1,x2,si (s:Int),x4,x5,x6,x7,x8,x9,x10]=.nx [x0,x1,x2,si (s:Int),x4,x5,x6,sf (.str z),y8,y9,y10]:=by
 have er:=kE (m:=.fz) (n:=(s:Int)) (by lia) (by lia)
 have ea:cX.take 2=[.set 7 (.str (Str.ofString "")),.for (.rng1 v3) (.nm 8) gI]:=rfl;rw[ea];generalize bD 0 (s:Int)=R at *;generalize gI=B at *;generalize Str.ofString "" = E0 at *;have st:[x0,x1,x2,si (s:Int),x4,x5,x6,x7,x8,x9,x10].set 7 (sf (D.str E0))=[x0,x1,x2,si (s:Int),x4,x5,x6,sf (.str E0),x8,x9,x10]:=rfl;have g3:aO [x0,x1,x2,si (s:Int),x4,x5,x6,sf (.str E0),x8,x9,x10] 3=okf (.int (s:Int)):=rfl;have c1:aJ (okf (.int (s:Int))) (.ok [])=.ok [(.fz,.int (s:Int))]:=rfl;rw[dJ,oZ,e_str,x_set,aF.thn_nx,st,dJ,hU,u8,iX,g3,c1,er,e,aF.thn_nx,eJ]
def aKW{a b:D}(t:Bool):op2 ixD (.ok .fr (.lst [a,b])) (okf (.int (if t=true then 1 else 0)))=okf (if t=true then b else a):=by
 cases t with
 |false=>exact dL (eC (j:=0) rfl)
 |true=>exact dL (eC (j:=1) rfl)
def aKX{W:WD}{c a n:Int}{x1 x2 x3 y8 y9 y10:Option (Bool×D)}(hl:ds.length<sizeLine)(ey:Txt.slice z none (some (a+1))=y):evB W (cX.drop 2) [si c,x1,x2,x3,si a,some (true,.lst ds),si n,sf (.str z),y8,y9,y10]=.nx [si c,x1,x2,x3,si a,some (true,.lst (ds++[if((c / 5 % 3==1)&&(n % 2==1))=true then .str y else .str z])),si n,sf (.str z),y8,y9,y10]:=by
 have sl:∀ρ:Rho,ρ[4]? = some (si a)->aG (slP (okf (.str z)) (evO W none) (evO W (some (.bin .Add v4 (.int 1)))) ρ)=okf (.str y):=by
  intro ρ h;simp only[evO,slP,Res.thn_ok,cS];have:evE W (.bin .Add v4 (.int 1)) ρ=okf (.int (a+1)):=by simp[aO,h]
  rw[this];simp only[Res.thn_ok,ey];rfl
 have ea:cX.drop 2=[.app 5 (.ix (.lst [v7,(.frz (.slice v7 none (some (.bin .Add v4 (.int 1)))))]) (.tcall .int [(.andL [(.cmp .Eq (.bin .Mod (.bin .FloorDiv v0 (.int 5)) (.int 3)) (.int 1)),(.cmp .Eq (.bin .Mod v6 (.int 2)) (.int 1))])]))]:=rfl;rw[ea,dJ,s_app,e_ix,e_lst,aIN,oY,oY,vA,iX,oW,u7,iX];show((dY _ 5 (op2 ixD (dW (aJ (okf (.str z)) (aJ (aG (slP (okf (.str z)) (evO W none) (evO W (some (.bin .Add v4 (.int 1)))) _)) (.ok [])))) _))).thn _=_;rw[sl _ rfl];have ei:b0 (Ty.f .int) (aZ W [(.andL [(.cmp .Eq (.bin .Mod (.bin .FloorDiv v0 (.int 5)) (.int 3)) (.int 1)),(.cmp .Eq (.bin .Mod v6 (.int 2)) (.int 1))])] [si c,x1,x2,x3,si a,some (true,.lst ds),si n,sf (.str z),y8,y9,y10])=okf (.int (if((c / 5 % 3==1)&&(n % 2==1))=true then 1 else 0)):=by
  clear sl ea ey hl
  generalize ds=ds';simp
 rw[ei];show((dY _ 5 (op2 ixD (.ok .fr (.lst [.str z,.str y])) _))).thn _=_;rw[aKW];generalize (if((c / 5 % 3==1)&&(n % 2==1))=true then D.str y else D.str z)=v;show(if ds.length<sizeLine then _ else _:aF).thn _=_;rw[if_pos hl];show evB W [] _=_;rw[eJ];rfl
theorem turn(K:Nat){c:Int}{a s:Nat}(hs:s<=40)(hk:zs.length<8)(x1 x7 x8 x9 x10:Option (Bool×D)):∃y y7 y8 y9 y10,evB (Wk K) cX [si c,x1,sf (.str L36),si (s:Int),si (a:Int),some (true,.lst (zs.map .str)),si (zs.length:Int),x7,x8,x9,x10]=.nx [si c,x1,sf (.str L36),si (s:Int),si (a:Int),some (true,.lst ((zs++[y]).map .str)),si (zs.length:Int),y7,y8,y9,y10]:=by
 obtain⟨z,y8,y9,y10,hi,e⟩:=mM K (c:=c) (a:=a) (k:=zs.length) hs hk x1 (some (true,.lst (zs.map .str))) x8 x9 x10;have hsz:sizeLine=16777216:=aMC;have hl:(zs.map D.str).length<sizeLine:=by rw[aMJ];lia
 refine⟨if((c / 5 % 3==1)&&((zs.length:Int) % 2==1))=true then Txt.slice z none (some ((a:Int)+1))else z,sf (.str z),y8,y9,y10,?_⟩;have ea:cX=cX.take 2++cX.drop 2:=rfl;rw[ea,hZ,aKV hs e];show evB (Wk K) (cX.drop 2) _=_;rw[aKX hl rfl];rw[aPY];cases((c / 5 % 3==1)&&((zs.length:Int) % 2==1)) <;> rfl
def six:List D:=[.int 1,.int 2,.int 3,.int 5,.int 8,.int 40]
def six_l:dW (.ok [(.fz,.int 1),(.fz,.int 2),(.fz,.int 3),(.fz,.int 5),(.fz,.int 8),(.fz,.int 40)])=.ok .fr (.lst six):=by rfl
def six_n{d:D}(h:d∈six):∃s:Nat,0<s/\s<=40/\d=.int (s:Int):=by
 simp only[six,aLU,aPB,aOP]at h;rcases h with rfl|rfl|rfl|rfl|rfl|rfl
 . exact⟨1,by decide,by decide,rfl⟩
 . exact⟨2,by decide,by decide,rfl⟩
 . exact⟨3,by decide,by decide,rfl⟩
 . exact⟨5,by decide,by decide,rfl⟩
 . exact⟨8,by decide,by decide,rfl⟩
 . exact⟨40,by decide,by decide,rfl⟩
theorem aKY{W:WD}(c:Int){n:Int}:∃s a:Nat,s<=40/\a<s/\evB W (eY.take 4) [si c,si n,none,none,none,none,none,none,none,none,none]=.nx [si c,si n,sf (.str L36),si (s:Int),si (a:Int),some (true,.lst []),none,none,none,none,none]:=by
 obtain⟨d,hd,ed⟩:=pO six c 6 rfl (by decide)
 obtain⟨s,h0,h1,rfl⟩:=six_n hd;have ex:=dL (m:=.fr) (m':=.fz) ed;have a0:=aPV (c / 6) (show(s:Int)≠0 by lia)
 have a1:=aPW (c / 6) (show(0:Int)<(s:Int) by lia)
 obtain⟨a,ha⟩:=aPX a0;have em:op2 (bK .Mod) (okf (.int (c / 6))) (okf (.int (s:Int)))=okf (.int (a:Int)):=by rw[hX (by lia),ha]
 refine⟨s,a,h1,by lia,?_⟩
 have ea : eY.take 4 = [.set 2 (.str L36),
     .set 3 (.ix (.lst [(.int 1),(.int 2),(.int 3),(.int 5),(.int 8),(.int 40)]) (.bin .Mod v0 (.int 6))),
     .set 4 (.frz (.bin .Mod (.bin .FloorDiv v0 (.int 6)) v3)),
     .set 5 (.lst [])]:=rfl
 rw[ea];generalize L36=l;simp[six_l,ex,em,l0]
theorem aKZ(K:Nat){c:Int}{a s:Nat}(hs:s<=40)(x1:Option (Bool×D))(hn:n<=8):∃(zs:List Str) (y6 y7 y8 y9 y10:Option (Bool×D)),zs.length=n/\dX (okf (.lst (bD 0 (n:Int)))) [si c,x1,sf (.str L36),si (s:Int),si (a:Int),some (true,.lst []),none,none,none,none,none] (aP (.nm 6)) (evB (Wk K) cX)=.nx [si c,x1,sf (.str L36),si (s:Int),si (a:Int),some (true,.lst (zs.map .str)),y6,y7,y8,y9,y10]:=by
 obtain⟨ρ',e,I⟩:=pP (k:=aP (.nm 6)) (body:=evB (Wk K) cX)
  (λj ρ=>∃(zs:List Str) (x6 x7 x8 x9 x10:Option (Bool×D)),zs.length=j/\ρ=[si c,x1,sf (.str L36),si (s:Int),si (a:Int),some (true,.lst (zs.map .str)),x6,x7,x8,x9,x10])
  (bD 0 (n:Int)) 0 (ρ:=[si c,x1,sf (.str L36),si (s:Int),si (a:Int),some (true,.lst []),none,none,none,none,none])
  (λj d hd ρ hρ=>by
   obtain⟨zs,x6,x7,x8,x9,x10,hz,rfl⟩:=hρ;obtain⟨hj,rfl⟩:=w8 hd;rw[aOL]at hz ⊢;subst hz;obtain⟨y,y7,y8,y9,y10,ey⟩:=turn K (c:=c) (a:=a) (zs:=zs) hs (by lia) x1 x7 x8 x9 x10
   refine⟨[si c,x1,sf (.str L36),si (s:Int),si (a:Int),some (true,.lst (zs.map .str)),si (zs.length:Int),x7,x8,x9,x10],_,by rw[sg_nm];rfl,ey,zs++[y],_,y7,y8,y9,y10,by rw[aM0];rfl,rfl⟩)
  ⟨[],none,none,none,none,none,rfl,rfl⟩
 rw[aOL,xA]at I;obtain⟨zs,y6,y7,y8,y9,y10,hz,rfl⟩:=I;exact⟨zs,y6,y7,y8,y9,y10,hz,e⟩
theorem aK0{W:WD}{x0 x2 x3 x4 y5 y6 y7 y8 y9 y10:Option (Bool×D)}{zs:List D}{n:Int}(h0:0<=n)(h1:n<=8)(e:dX (okf (.lst (bD 0 n))) [x0,si n,x2,x3,x4,y5,none,none,none,none,none] (aP (.nm 6)) (evB W cX)=.nx [x0,si n,x2,x3,x4,some (true,.lst zs),y6,y7,y8,y9,y10]):evB W (eY.drop 4) [x0,si n,x2,x3,x4,y5,none,none,none,none,none]=.rt .fr (.lst zs):=by
 have er:=kE (m:=.fz) (n:=n) h0 (by lia)
 have ea:eY.drop 4=[.for (.rng1 v1) (.nm 6) cX,.retV 5]:=rfl;rw[ea];generalize bD 0 n=R at *;generalize cX=B at *;rw[dJ,hU,u8,iX];show(dX (gP (.ok [(.fz,.int n)])) _ _ _).thn _=_;rw[er,e];rw[aF.thn_nx,dJ,aIQ];rfl
theorem names(K:Nat)(c:Int)(hn:n<=8):∃zs:List Str,zs.length=n/\(Wk (K+1)).Φ "_law_names" [.int c,.int (n:Int)]=.ok .fr (.lst (zs.map .str)):=by obtain⟨s,a,hs,ha,e1⟩:=aKY (W:=Wk K) c (n:=(n:Int));obtain⟨zs,y6,y7,y8,y9,y10,hz,e2⟩:=aKZ K (c:=c) (a:=a) hs (si (n:Int)) (n:=n) hn;refine⟨zs,hz,?_⟩;rw[aJS];refine cH rfl ?_;show evB (Wk K) eY [si c,si (n:Int),none,none,none,none,none,none,none,none,none]=_;have ea:eY=eY.take 4++eY.drop 4:=rfl;rw[ea,hZ,e1,aF.thn_nx];exact aK0 (by lia) (by lia) e2
def i6{k:D->Rho->Option Rho}{body:Rho->aF}{d:D}{ρ1 ρ2:Rho}(h1:k d ρ=some ρ1)(h2:body ρ1=.nx ρ2):bI k body (d::ds) ρ=bI k body ds ρ2:=by
 conv=>lhs;unfold bI
 rw[h1];dsimp only;rw[h2]
inductive bR:N->Prop
 |i (n:Int):bR (.i n)
 |s (x:Str):bR (.s x)
def rk:N->N
 |.i n=>.t [.i 0,.i n,.s ""]
 |.s x=>.t [.i 1,.i 0,.s x]
 |.t ks=>.t ks
def rkK:N->N
 |.t vs=>.t (vs.map rk)
 |k=>k
theorem xE(W:WD){A:Option (Bool×D)}:∀(vs acc:List N) (x:Option (Bool×D)),(∀v∈vs,bR v)->acc.length+vs.length<=10->∃y,bI (aP (.nm 2)) (evB W gJ) (vs.map nD) [A,some (true,.lst (acc.map nD)),x]=.nx [A,some (true,.lst ((acc++vs.map rk).map nD)),y]
 |[],acc,x,_,_=>⟨x,by simp[bI]⟩
 |v::vs,acc,x,h,hl=>by
  have hz:sizeLine=16777216:=aMC;have hl:acc.length+(vs.length+1)<=10:=hl;have la:acc.length<sizeLine:=by lia
  have b1:evB W gJ [A,some (true,.lst (acc.map nD)),sf (nD v)]=.nx [A,some (true,.lst ((acc++[rk v]).map nD)),sf (nD v)]:=by
   have e:(acc++[rk v]).map nD=acc.map nD++[nD (rk v)]:=by simp
   rw[e];cases h v mcs with
   |i n=>have i1:bN [(.fz,.int n),(.fz,.ty Ty.str.id)]=some (.fz,.bl false):=rfl;show evB W gJ [A,some (true,.lst (acc.map nD)),si n]=.nx [A,some (true,.lst (acc.map nD++[.tup [.int 0,.int n,.str ""]])),si n];unfold gJ;simp[Bn.f,i1,cL,tup3,dY,aG,la]
   |s y=>have i1:bN [(.fz,.str y),(.fz,.ty Ty.str.id)]=some (.fz,.bl true):=rfl;show evB W gJ [A,some (true,.lst (acc.map nD)),sf (.str y)]=.nx [A,some (true,.lst (acc.map nD++[.tup [.int 1,.int 0,.str y]])),sf (.str y)];unfold gJ;simp[Bn.f,i1,cL,tup3,dY,aG,la]
  rw[aMI,i6 (show aP (.nm 2) (nD v) [A,some (true,.lst (acc.map nD)),x]=some [A,some (true,.lst (acc.map nD)),sf (nD v)]from rfl) b1]
  obtain⟨y,e⟩:=xE W vs (acc++[rk v]) (sf (nD v)) (λu hu=>h u (mcm hu)) (by simp;lia)
  exact⟨y,by rw[e];simp⟩
def aK1(k:Nat){vs:List N}(h:∀v∈vs,bR v)(hl:vs.length<=10):(Wk (k+1)).Φ "_law_ranked" [nD (.t vs)]=.ok .fr (.lst (vs.map λv=>nD (rk v))):=by
 rw[aJU];refine cH rfl ?_;show evB _ l3 [sf (nD (.t vs)),none,none]=_;have it:evE (Wk k) (.items v0) [sf (nD (.t vs)),some (true,.lst []),none]=okf (.lst (vs.map nD)):=by show Res.ok .fz (.lst (nDL vs))=_;rw[iT]
 obtain⟨y,e⟩:=xE (Wk k) (A:=sf (nD (.t vs))) vs [] none h (by simpa using hl)
 unfold l3;have s1:evS (Wk k) (.set 1 (.lst [])) [sf (nD (.t vs)),none,none]=.nx [sf (nD (.t vs)),some (true,.lst []),none]:=rfl;have s2:evS (Wk k) (.for (.items v0) (.nm 2) gJ) [sf (nD (.t vs)),some (true,.lst []),none]=.nx [sf (nD (.t vs)),some (true,.lst ((vs.map rk).map nD)),y]:=by rw[hU,it];exact e
 rw[iA s1,iA s2,aPF];rfl
mutual
theorem aK2:∀(k:N),bJ (nD k)=some k
 |.i n=>by simp[nD,bJ]
 |.s x=>by simp[nD,bJ]
 |.t ks=>by rw[nD,bJ,mN ks];rfl
theorem mN:∀(ks:List N),cE (nDL ks)=some ks
 |[]=>by rw[nDL,cE]
 |k::ks=>by rw[nDL,cE,aK2 k,mN ks]
end
theorem xF:∀{vs:List N},(∀v∈vs,bR v)->N.dpL vs=0
 |[],_=>by rw[N.dpL]
 |v::vs,h=>by rw[N.dpL,xF λu hu=>h u (mcm hu)];cases h v mcs <;> simp[N.dp]
structure Row(k:N):Prop where
 ex:∃vs,k=.t vs/\(∀v∈vs,bR v)/\vs.length<=10
theorem Row.key{k:N}(h:Row k):f8 (nD k)=some k:=by
 obtain⟨vs,rfl,hv,_⟩:=h.ex;rw[nD];show(match cE (nDL vs)with|some ks=>if(N.t ks).dp<=8 then some (N.t ks)else none|none=>none)=_
 rw[mN];dsimp only;rw[N.dp,xF hv,if_pos (by lia)]
def fL(κ:α->N)(x:α):List α->List α
 |[]=>[x]
 |y::l=>if ltN (κ y) (κ x)=true then y::fL κ x l else x::y::l
def eK(κ:α->N)(l:List α):List α:=l.foldr (fL κ) []
theorem xG(κ:α->N)(f:α->D)(x:α):∀(l:List α),fM (κ x,f x) (l.map λe=>(κ e,f e))=(fL κ x l).map λe=>(κ e,f e)
 |[]=>rfl
 |y::l=>by
  rw[aMI];unfold fM fL;dsimp only;split
  . rw[xG κ f x l];rfl
  . rfl
theorem xH(κ:α->N)(f:α->D):∀(l:List α),eW (l.map λe=>(κ e,f e))=(eK κ l).map λe=>(κ e,f e)
 |[]=>rfl
 |x::l=>by show fM (κ x,f x) (eW (l.map λe=>(κ e,f e)))=(fL κ x (eK κ l)).map _;rw[xH κ f l,xG]
theorem xI(κ:α->N)(x:α):∀(l:List α),(fL κ x l).Perm (x::l)
 |[]=>aPC _
 |y::l=>by
  unfold fL;split
  . exact((xI κ x l).cons y).trans (List.Perm.swap x y l)
  . exact aPC _
theorem mO(κ:α->N):∀(l:List α),(eK κ l).Perm l
 |[]=>aPC _
 |x::l=>(xI κ x (eK κ l)).trans ((mO κ l).cons x)
theorem xJ{f:α->D}{κ:α->N}{kd:α->D}{Φ:D->Res}:∀{es:List α},(∀e∈es,aG (Φ (f e))=okf (kd e))->fN Φ (es.map f)=some (es.map kd)
 |[],_=>rfl
 |e::es,h=>by rw[aMI];unfold fN;rw[h e mcs,xJ (f:=f) (κ:=κ) (kd:=kd) λu hu=>h u (mcm hu)];rfl
theorem xK{κ:α->N}{kd:α->D}:∀{es:List α},(∀e∈es,dG (kd e)=some (false , κ e))->dZ false (es.map kd)=some (es.map κ)
 |[],_=>rfl
 |e::es,h=>by rw[aMI];unfold dZ;rw[h e mcs,xK (κ:=κ) λu hu=>h u (mcm hu)];rfl
def aK3{κ:α->N}{kd:α->D}{e:α}{es:List α}(h:dG (kd e)=some (false , κ e)):dZ true ((e::es).map kd)=none:=by rw[aMI];unfold dZ;rw[h];cases dZ true (es.map kd) <;> rfl
def aK4{f:α->D}{κ:α->N}{kd:α->D}{Φ:D->Res}{m:Md}{es:List α}(h1:∀e∈es,aG (Φ (f e))=okf (kd e))(h2:∀e∈es,dG (kd e)=some (false , κ e))(ok:okK (es.map κ)=true)(hl:es.length<fK):dH Φ (.ok m (.lst (es.map f)))=.ok .fr (.lst ((eK κ es).map f)):=by
 have k2:gC (es.map kd)=some (es.map κ):=by
  unfold gC;cases es with
  |nil=>rfl
  |cons e es=>rw[aK3 (κ:=κ) (h2 e mcs)];exact xK h2
 show(match seqD (.lst (es.map f))with
  |some ds=>(match fN Φ ds with
   |some kds=>(match gC kds with
    |some ks=>if(okK ks&&decide (ds.length<fK))=true then Res.ok .fr (.lst ((eW (ks.zip ds)).map λp:N×D=>p.2))else .stuck
    |none=>.stuck)
   |none=>.stuck)
  |none=>.stuck)=_
 have sq:seqD (.lst (es.map f))=some (es.map f):=rfl;rw[sq];dsimp only;rw[xJ (κ:=κ) h1];dsimp only;rw[k2];dsimp only;rw[ok,if_pos (by rw[aMJ];simpa using hl),List.zip_map',xH,aPF]
 rfl
def rk_dp{v:N}(h:bR v):(rk v).dp<=1:=by cases h <;> simp[rk,N.dp,N.dpL]
def aK5{u v:N}(hu:bR u)(hv:bR v)(e:rk u=rk v):u=v:=by cases hu <;> cases hv <;> simp_all[rk]
def rk_ok{u v:N}(hu:bR u)(hv:bR v):okN (rk u) (rk v)=true:=by
 cases hu with
 |i n=>cases hv with
  |i m =>
   simp only[rk,okN,dF];split
   . split
     . rfl
     . rfl
   . rfl
  |s y=>simp[rk,okN,dF]
 |s x=>cases hv with
  |i m=>simp[rk,okN,dF]
  |s y =>
   simp only[rk,okN,dF]
   repeat (first|rfl|split)
theorem xL:∀{us vs:List N},(∀u∈us,bR u)->(∀v∈vs,bR v)->dF (us.map rk) (vs.map rk)=true
 |[],_,_,_=>by rw[aNN,dF]
 |_::_,[],_,_=>by rw[aNN,aMI,dF]
 |u::us,v::vs,hu,hv=>by
  rw[aMI,aMI,dF];split
  . exact xL (λx hx=>hu x (mcm hx)) λx hx=>hv x (mcm hx)
  . exact rk_ok (hu u mcs) (hv v mcs)
theorem xM:∀{vs:List N},(∀v∈vs,bR v)->N.dpL (vs.map rk)<=1
 |[],_=>by rw[aNN,N.dpL];lia
 |v::vs,h=>by rw[aMI,N.dpL];have:=xM λu hu=>h u (mcm hu);have:=rk_dp (h v mcs);lia
theorem xN:∀{us vs:List N},(∀u∈us,bR u)->(∀v∈vs,bR v)->us.map rk=vs.map rk->us=vs
 |[],[],_,_,_=>rfl
 |[],_::_,_,_,e=>by cases e
 |_::_,[],_,_,e=>by cases e
 |u::us,v::vs,hu,hv,e=>by rw[aMI,aMI]at e;obtain⟨e1,e2⟩:=List.cons.inj e;rw[aK5 (hu u mcs) (hv v mcs) e1,xN (λx hx=>hu x (mcm hx)) (λx hx=>hv x (mcm hx)) e2]
theorem aK6(h:∀k∈ks,Row k)(nd:ks.Nodup):okK (ks.map rkK)=true:=by
 unfold okK;rw[aNI,aNI];refine⟨⟨aPG.mpr λk hk=>?_,aPG.mpr λk hk=>aPG.mpr λk' hk'=>?_⟩,aNO ?_⟩
 . obtain⟨r,hr,rfl⟩:=aPE.mp hk;obtain⟨vs,rfl,hv,_⟩:=(h r hr).ex;refine aNO ?_;show(N.t (vs.map rk)).dp<=8;rw[N.dp];have:=xM hv;lia
 . obtain⟨r,hr,rfl⟩:=aPE.mp hk;obtain⟨vs,rfl,hv,_⟩:=(h r hr).ex;obtain⟨r',hr',rfl⟩:=aPE.mp hk';obtain⟨us,rfl,hu,_⟩:=(h r' hr').ex;show okN (.t (vs.map rk)) (.t (us.map rk))=true;rw[okN];exact xL hv hu
 . refine List.pairwise_map.mpr (List.Pairwise.imp_of_mem ?_ nd);intro a b ha hb hab e;obtain⟨vs,rfl,hv,_⟩:=(h a ha).ex;obtain⟨us,rfl,hu,_⟩:=(h b hb).ex;have e:N.t (vs.map rk)=N.t (us.map rk):=e;injection e with e
   exact hab (by rw[xN hv hu e])
def aK7{k:N}(h:Row k):∃vs,k=.t vs/\dG (.lst (vs.map λv=>nD (rk v)))=some (false , rkK k):=by
 obtain⟨vs,rfl,hv,_⟩:=h.ex;refine⟨vs,rfl,?_⟩;have e:(vs.map λv=>nD (rk v))=nDL (vs.map rk):=by rw[iT,aPF];rfl
 rw[e];show(cE (nDL (vs.map rk))).map _=_;rw[mN];rfl
def aK8{W:WD}{f:Str}{a:E}(h:W.dp=true):evE W (.srtf f a) ρ=dH (λd=>W.Ψ f [d]) (evE W a ρ):=by show(if W.dp=true then _ else _)=_;rw[if_pos h]
def big:Int:=100000000000000000000000000000000000000000000000000
def pw{m:Md}:op2 (bK .Pow) (.ok m (.int 10)) (.ok m' (.int 50))=okf (.int big):=by rfl
def aK9:0<big:=by decide
def ls4{a b c d:D}:dW (.ok [(.fz,a),(.fz,b),(.fz,c),(.fz,d)])=.ok .fr (.lst [a,b,c,d]):=rfl
def eL:List Str:=["", "a", "Z z", "0", "b2c~"]
theorem pool(k:Nat)(c:Int):∃vs:List N,vs.length=4/\(∀v∈vs,bR v)/\(Wk (k+1)).Φ "_law_pool" [.int c]=.ok .fr (.lst (vs.map nD)):=by
 have bp:=aK9;have md:=hX (m:=.fz) (n:=.fz) (i:=c) bp;obtain⟨d,hd,ed⟩:=pO (eL.map D.str) (c / 42) 5 rfl (by decide)
 obtain⟨t,ht,rfl⟩:=aPE.mp hd;have ix:=dL (m:=.fz) (m':=.fz) ed;have zl:sizeLine=16777216:=aMC;have tl:t.length+(Str.ofString "a").length<=sizeLine:=by
  have:∀t∈eL,t.length+(Str.ofString "a").length<=10:=by decide +kernel
  have:=this t ht;lia
 have ca:=o3 (m:=.fz) (n:=.fz) tl;have go:∀a:Int,evB (Wk k) (eZ.drop 2) [si c,si a,none,none]=.rt .fr (.lst [.int a,.int (c / 6 % 7-2),.str t,.str (t++Str.ofString "a")]):=by
  intro a;have eb:eZ.drop 2=[.set 2 (.frz (.lst [(.str ""),(.str "a"),(.str "Z z"),(.str "0"),(.str "b2c~")])),
   .set 3 (.ix v2 (.bin .Mod (.bin .FloorDiv v0 (.int 42)) (.int 5))),
   .ret (.lst [v1,(.frz (.bin .Sub (.bin .Mod (.bin .FloorDiv v0 (.int 6)) (.int 7)) (.int 2))),v3,(.frz (.bin .Add v3 (.str "a")))])]:=rfl
  rw[eb];have s2:evS (Wk k) (.set 2 (.frz (.lst [(.str ""),(.str "a"),(.str "Z z"),(.str "0"),(.str "b2c~")]))) [si c,si a,none,none]=.nx [si c,si a,sf (.lst (eL.map D.str)),none]:=rfl;rw[iA s2];generalize eL.map D.str=TX at *;generalize Str.ofString "a" = aa at *;simp[ix,ca,ls4]
 have pre:∃a:Int,evB (Wk k) (eZ.take 2) [si c,none,none,none]=.nx [si c,si a,none,none]:=by
  have eb:eZ.take 2=[.set 1 (.frz (.bin .Add (.bin .Mod v0 (.bin .Pow (.int 10) (.int 50))) (.int 10))),
   .ite (.cmp .Eq (.bin .Mod (.bin .FloorDiv v0 (.int 3)) (.int 2)) (.int 1)) [.set 1 (.neg v1)] []]:=rfl
  rw[eb];have p:=pw (m:=.fz) (m':=.fz);generalize big=B at *;cases z:(c / 3 % 2==1)with
  |true=>exact⟨-(c % B+10),by simp[p,md,z]⟩
  |false=>exact⟨c % B+10,by simp[p,md,z]⟩
 obtain⟨a,e1⟩:=pre;refine⟨[.i a,.i (c / 6 % 7-2),.s t,.s (t++Str.ofString "a")],rfl,λv hv=>?_,?_⟩
 . simp only[aLU,aPB,aOP]at hv;rcases hv with rfl|rfl|rfl|rfl
   . exact .i _
   . exact .i _
   . exact .s _
   . exact .s _
 . rw[aJT];refine cH rfl ?_;show evB (Wk k) eZ [si c,none,none,none]=_;have ea:eZ=eZ.take 2++eZ.drop 2:=rfl;rw[ea,hZ,e1,aF.thn_nx];exact go a
theorem pQ:∀{V:List (N×D)},(V.map (·.1)).Nodup->∀e∈V,bF V e.1=some e.2
 |[],_,e,h=>by cases h
 |g::V,nd,e,he=>by
  rw[aMI,aMQ]at nd;rcases aLU.mp he with rfl|he
  . rw[lA (p:=e) rfl]
  . rw[lB (p:=g) (λz=>nd.1 (aPE.mpr ⟨e,he,z.symm⟩))];exact pQ nd.2 e he
def xO{V:List (N×D)}(nd:(V.map (·.1)).Nodup){e:N×D}(he:e∈V)(hr:Row e.1):op2 fJ (okf (.dtf V)) (okf (nD e.1))=okf e.2:=cA (by
 show fJ .fz (.dtf V) .fz (nD e.1)=_;unfold fJ;rw[hr.key];show(bF V e.1).map _=_;rw[pQ nd e he];rfl)
theorem pR{k:N}(h:Row k):Pl 1 (nD k):=by
 obtain⟨vs,rfl,hv,hl⟩:=h.ex;rw[nD];refine .tup (λd hd=>?_) (by rw[iT,aMJ];lia)
 rw[iT]at hd;obtain⟨v,hm,rfl⟩:=aPE.mp hd;cases hv v hm with
 |i n=>exact .int n
 |s x=>exact .str x
def q3:List D:=[.int 1,.int 4,.int 16]
def q3_l:dW (.ok [(.fz,.int 1),(.fz,.int 4),(.fz,.int 16)])=.ok .fr (.lst q3):=rfl
theorem q3_ix(h:i<3):∃q:Int,0<q/\q<=16/\∀m m':Md,op2 ixD (.ok m (.lst q3)) (.ok m' (.int (i:Int)))=okf (.int q):=by
 have:i=0\/i=1\/i=2:=by lia
 rcases this with rfl|rfl|rfl
 . exact⟨1,by decide,by decide,λm m'=>dL (eC (j:=0) rfl)⟩
 . exact⟨4,by decide,by decide,λm m'=>dL (eC (j:=1) rfl)⟩
 . exact⟨16,by decide,by decide,λm m'=>dL (eC (j:=2) rfl)⟩
theorem row(k:Nat){ps:List N}(h4:ps.length=4)(hp:∀v∈ps,bR v){w:Nat}(hw:w<=3)(c:Int):∃vs:List N,vs.length=w/\(∀v∈vs,bR v)/\(Wk (k+1)).Φ "_law_row" [.int c,.lst (ps.map nD),.int (w:Int)]=okf (nD (.t vs)):=by
 have one:∀i:Nat,∃v:N,bR v/\(i<3->evE (Wk k) (.ix v0 (.bin .Mod (.bin .FloorDiv v1 (.ix (.lst [(.int 1),(.int 4),(.int 16)]) v2)) (.int 4))) [sf (.lst (ps.map nD)),si c,si (i:Int)]=okf (nD v)):=by
  intro i;by_cases hi:i<3
  . obtain⟨q,q0,q1,qx⟩:=q3_ix hi;obtain⟨d,hd,ed⟩:=pO (ps.map nD) (c / q) 4 (by rw[aMJ,h4];rfl) (by decide)
    obtain⟨v,hv,rfl⟩:=aPE.mp hd;refine⟨v,hp v hv,λ_=>?_⟩;have ix:=dL (m:=.fz) (m':=.fz) ed;have dv:op2 (bK .FloorDiv) (okf (.int c)) (okf (.int q))=okf (.int (c / q)):=o1 q0 (by lia)
    have q2:=qx .fr .fz;have l6:=q3_l;generalize q3=S4 at *;generalize ps.map nD=PS at *;generalize nD v=V0 at *;simp[l6,q2,dv,ix,cL]
  . exact⟨.i 0,.i 0,λz=>absurd z hi⟩
 obtain⟨vf,hvf⟩:=aPZ one;refine⟨(List.range w).map λi=>vf i,by simp,λv hv=>?_,?_⟩
 . obtain⟨i,_,rfl⟩:=aPE.mp hv;exact(hvf i).1
 rw[aJV];refine cH rfl ?_;show evB _ pI [si c,sf (.lst (ps.map nD)),si (w:Int)]=_;rw[nD,iT,aPF];have er:=kE (m:=.fz) (n:=(w:Int)) (by lia) (by lia)
 rw[show bD 0 (w:Int)=(List.range w).map λi:Nat=>D.int (i:Int) by simp[bD]]at er
 exact iB (tupl (kD (n:=1) er (by rw[aPA];lia) λi hi=>⟨_,rfl,.fz,by
  show aG (evE (Wk k) _ [sf (.lst (ps.map nD)),si c,si (i:Int)])=_
  rw[(hvf i).2 (by have:=aLQ.mp hi;lia)];rfl⟩))
structure DV(sz:Int)(V:List (N×D))(n:Nat):Prop where
 len:V.length<=n
 nd:(V.map (·.1)).Nodup
 each:∀e∈V,Row e.1/\∃i:Int,1<=i/\i<sz/\e.2=.int i
theorem DV.put{sz:Int}{V:List (N×D)}(h:DV sz V n){k:N}{i:Int}(hk:Row k)(h1:1<=i)(h2:i<sz):DV sz (jW V k (.int i)) (n+1):=by
 unfold jW;split
 . refine⟨by rw[aMJ];have:=h.len;lia,?_,λe he=>?_⟩
   . rw[aPF,show((·.1) ∘ λkv:N×D=>if kv.1=k then(kv.1,.int i)else kv)=λkv:N×D=>kv.1 by funext kv;show(if kv.1=k then(kv.1,D.int i)else kv).1=_;split <;> rfl]
     exact h.nd
   . obtain⟨u,hu,rfl⟩:=aPE.mp he;have:=h.each u hu;split
     . exact⟨this.1,i,h1,h2,rfl⟩
     . exact this
 . rename_i hg;have hn:∀e∈V,e.1≠k:=λe he z=>hg (by rw[<- z,pQ h.nd e he];rfl)
   refine⟨by rw[aM0,aNM];have:=h.len;lia,?_,λe he=>?_⟩
   . rw[aPY,aPK];refine⟨h.nd,by simp,λa ha b hb=>?_⟩
     obtain⟨e,he,rfl⟩:=aPE.mp ha;rw[List.map_singleton,aOM]at hb;rw[hb];exact hn e he
   . rcases aLV.mp he with he|he
     . exact h.each e he
     . rw[aOM.mp he];exact⟨hk,i,h1,h2,rfl⟩
abbrev St(w:Nat)(sz:Int)(ps:List N)(V:List (N×D))(x0 x1 x4 x5 x6 x9:Option (Bool×D)):Rho :=
 [x0,x1,si (w:Int),si sz,x4,x5,x6,sf (.lst (ps.map nD)),some (true,.dtn V),x9,none,none,none,none,none,none,none,none,none,none]
theorem turn_(k:Nat){ps:List N}(h4:ps.length=4)(hp:∀v∈ps,bR v){w:Nat}(hw:w<=3){sz:Int}(h2:2<=sz)(h3:sz<=90){V:List (N×D)}(h:DV sz V n)(hn:n<=100)(c:Int)(x0 x1 x4 x5 x6:Option (Bool×D)):∃V',DV sz V' (n+1)/\evB (Wk (k+1)) lY (St w sz ps V x0 x1 x4 x5 x6 (si c))=.nx (St w sz ps V' x0 x1 x4 x5 x6 (si c)):=by
 obtain⟨vs,lv,hv,e1⟩:=row k h4 hp hw c;have hr:Row (.t vs):=⟨vs,rfl,hv,by lia⟩
 have m0:=aPV (c / 64) (show sz-1≠0 by lia)
 have m1:=aPW (c / 64) (show 0<sz-1 by lia)
 refine⟨_,h.put hr (show 1<=1+c / 64 % (sz-1) by lia) (by lia),?_⟩
 have lk:V.length<sizeLine:=by have:=h.len;have:sizeLine=16777216:=aMC;lia
 have ek:evE (Wk (k+1)) (.call "_law_row" 3 [v9,v7,v2]) (St w sz ps V x0 x1 x4 x5 x6 (si c))=okf (nD (.t vs)):=by show aM 3 ((Wk (k+1)).Φ "_law_row") (.ok [(.fz,.int c),(.fz,.lst (ps.map nD)),(.fz,.int (w:Int))])=_;exact lV e1
 have ev:evE (Wk (k+1)) (.bin .Add (.int 1) (.bin .Mod (.bin .FloorDiv v9 (.int 64)) (.bin .Sub v3 (.int 1)))) (St w sz ps V x0 x1 x4 x5 x6 (si c))=okf (.int (1+c / 64 % (sz-1))):=by
  have md:=hX (m:=.fz) (n:=.fz) (i:=c / 64) (show 0<sz-1 by lia)
  generalize ps.map nD=PS;simp[md]
 show evB _ [.nput 8 _ _] _=_;rw[dJ,aIR,ek,ev];show(match f8 (nD (.t vs))with|some k=>if V.length<sizeLine then aF.nx _ else .stuck|none=>.stuck).thn _=_
 rw[hr.key];dsimp only;rw[if_pos lk];rfl
theorem xP(k:Nat){ps:List N}(h4:ps.length=4)(hp:∀v∈ps,bR v){w:Nat}(hw:w<=3){sz:Int}(h2:2<=sz)(h3:sz<=90)(x0 x1 x4 x5 x6:Option (Bool×D)):∀(cs:List Int) (V:List (N×D)) (n:Nat) (x9:Option (Bool×D)),DV sz V n->n+cs.length<=60->∃V' y9,DV sz V' 60/\bI (aP (.nm 9)) (evB (Wk (k+1)) lY) (cs.map .int) (St w sz ps V x0 x1 x4 x5 x6 x9)=.nx (St w sz ps V' x0 x1 x4 x5 x6 y9)
 |[],V,n,x9,h,hl=>⟨V,x9,⟨by have:=h.len;rw[aOO]at hl;lia,h.nd,h.each⟩,rfl⟩
 |c::cs,V,n,x9,h,hl=>by
  rw[aMH]at hl;obtain⟨V1,hV,eb⟩:=turn_ k h4 hp hw h2 h3 h (by lia) c x0 x1 x4 x5 x6
  obtain⟨V',y9,a1,a2⟩:=xP k h4 hp hw h2 h3 x0 x1 x4 x5 x6 cs V1 (n+1) (si c) hV (by lia)
  exact⟨V',y9,a1,by rw[aMI,i6 (show aP (.nm 9) (.int c) (St w sz ps V x0 x1 x4 x5 x6 x9)=some (St w sz ps V x0 x1 x4 x5 x6 (si c))from rfl) eb];exact a2⟩
structure KN(Kd No:D):Prop where
 nought:∀k,cD TT.cl (Wk (k+2)).Φ "nought" (okf Kd) (.ok [])=okf No
 pln:Pl 3 No
structure KW(Kd No Cl:D)(τ:Int->D):Prop extends KN Kd No where
 way:∀k i,0<i->i<100->eX (Wk (k+3)).Cl (okf Cl) (.ok [(.fz,.int i)])=okf (τ i)
 plain:∀i,Pl 3 (τ i)
def i7{Θ:Str->Str->List (Str×D)->D->Res}{f n:Str}{fs:List (Str×D)}{i:Int}{d:D}(h:Θ f n fs (.int i)=okf d):eX Θ (okf (.clo f n fs)) (.ok [(.fz,.int i)])=okf d:=by
 show(match Θ f n fs (.int i)with|.ok .fz d'=>Res.ok .fz d'|_=>.stuck)=_
 rw[h]
def i8{caps:List Str}{g:Rho->aF}{fs:List (Str×D)}{dv d:D}(h1:fs.map (·.1)=caps)(h:g (bC n (fs.map (·.2)++[dv]))=.rt .fz d):d5 caps n g fs dv=okf d:=by unfold d5;rw[if_pos h1,h]
def C0(f o:Int):D:=.clo "_law_way" "_law_wheeled" [("_law_size", .int o),("_law_factor", .int f)]
def C1:D:=.clo "_law_way" "_law_whether" []
def C2(f:Int):D:=.clo "_law_way" "_law_priced" [("_law_factor", .int f)]
def C3(f:Int):D:=.clo "_law_way" "_law_halved" [("_law_factor", .int f)]
def C4(f:Int):D:=.clo "_law_way" "_law_paired" [("_law_priced", C2 f)]
def C5(f:Int):D:=.clo "_law_way" "_law_heaped" [("_law_factor", .int f)]
def t2(f i:Int):D:=if i % 4==0 then .non else .int ((i-5) * f)
def t5(f i:Int):D:=if i % 3==0 then .tup []else .tup (.tup [.int (i-40),.int (1+i % 4)]::if i % 2=0 then[]else[.tup [.int (i * f),.int f]])
theorem k0{f o:Int}(ho:2<=o):KW (.ins "Wheel" [("size", .int o)]) (.int 0) (C0 f o) λi=>.int (i * f % o) where
 nought k:=by rw[aKD rfl];exact ph1 (aJY (k+1)) (by simp[pL])
 pln:=.int _
 way k i h0 h1:=i7 (by
  rw[aJ2];refine i8 rfl ?_;show evB _ l7 [si o,si f,si i]=_;have m:=j6 (m:=.fz) (n:=.fz) (i:=i) (j:=f) (by lia)
  have d:=hX (m:=.fz) (n:=.fz) (i:=i * f) (show 0<o by lia)
  simp[l7,m,d])
 plain i:=.int _
def k1:KW (.ins "Truth" []) (.bl false) C1 λi=>.bl (decide (0<i % 3)) where
 nought k:=by rw[wN rfl];exact ph1 (wL (k+1)) (by simp[l4])
 pln:=.bl _
 way k i h0 h1:=i7 (by
  rw[aJ3];refine i8 rfl ?_;show evB _ l8 [si i]=_;simp[l8])
 plain i:=.bl _
theorem xQ(k:Nat){f i:Int}(h0:0<i)(h1:i<100):eX (Wk (k+1)).Cl (okf (C2 f)) (.ok [(.fz,.int i)])=okf (t2 f i):=i7 (by
 rw[aJ4];refine i8 rfl ?_;show evB _ l9 [si f,si i]=_;have m:=j6 (m:=.fz) (n:=.fz) (i:=i-5) (j:=f) (by lia)
 unfold t2;cases e:i % 4==0 <;> simp[l9,m,e])
def xR(f i:Int):Pl n (t2 f i):=by
 unfold t2;split
 . exact .non
 . exact .int _
def k2{f:Int}:KW (.ins "Costs" []) .non (C2 f) (t2 f) where
 nought k:=by rw[wO rfl];exact ph1 (wM (k+1)) (by simp[l5])
 pln:=.non
 way k i h0 h1:=xQ (k+2) h0 h1
 plain i:=xR f i
theorem k3{f:Int}:KW (.ins "Counts" []) (.int 0) (C3 f) λi=>.int (i / 2 * f) where
 nought k:=by rw[aJ9 rfl];exact ph1 (aJX (k+1)) (by simp[pK])
 pln:=.int _
 way k i h0 h1:=i7 (by
  rw[aJ5];refine i8 rfl ?_;show evB _ mD [si f,si i]=_;have m:=j6 (m:=.fz) (n:=.fz) (i:=i / 2) (j:=f) (by lia)
  simp[mD,m])
 plain i:=.int _
def KP:D:=.ins "Pair" [("first", .ins "Costs" []),("second", .ins "Truth" [])]
def k4{f:Int}:KW KP (.tup [.non,.bl false]) (C4 f) λi=>.tup [t2 f i,.bl (i % 3==1)] where
 nought k:=by
  show aM 1 ((Wk (k+2)).Φ "Pair.nought") (.ok [(.fz,KP)])=_;refine ph1 (aJZ (k+1)) (iB ?_);have a:=k2 (f:=0);have e1:cD (Wk (k+1)).cl (Wk (k+1)).Φ "nought" (fE (Wk (k+1)).cl "first" (okf KP)) (.ok [])=okf .non:=by rw[gG];refine(wO rfl).trans ?_;exact ph1 (wM k) (by simp[l5])
  have e2:cD (Wk (k+1)).cl (Wk (k+1)).Φ "nought" (fE (Wk (k+1)).cl "second" (okf KP)) (.ok [])=okf (.bl false):=by rw[gG];refine(wN rfl).trans ?_;exact ph1 (wL k) (by simp[l4])
  show cU (aJ (aG (cD (Wk (k+1)).cl (Wk (k+1)).Φ "nought" (fE (Wk (k+1)).cl "first" (okf KP)) (.ok []))) (aJ (aG (cD (Wk (k+1)).cl (Wk (k+1)).Φ "nought" (fE (Wk (k+1)).cl "second" (okf KP)) (.ok []))) (.ok [])))=_
  rw[e1,e2];rfl
 pln:=pl2 .non (.bl _)
 way k i h0 h1:=i7 (by
  rw[aJ6];refine i8 rfl ?_;show evB _ mH [sf (C2 f),si i]=_;have p:=xQ (k+1) (f:=f) h0 h1;generalize C2 f=c at *;generalize t2 f i=t at *;simp[mH,p,cL,tup2])
 plain i:=pl2 (xR f i) (.bl _)
theorem k5{f:Int}:KW (.ins "Heaps" [("kind", .ins "Counts" [])]) (.tup []) (C5 f) (t5 f) where
 nought k:=by rw[aKF rfl];exact ph1 (aJ0 (k+1)) (iB rfl)
 pln:=pl0
 way k i h0 h1:=i7 (by
  rw[aJ7];refine i8 rfl ?_;show evB _ j9 [si f,si i]=_;have m:=j6 (m:=.fz) (n:=.fz) (i:=i) (j:=f) (by lia)
  unfold t5;cases e:i % 3==0 with
  |true=>simp[j9,e,tup0]
  |false =>
   have q0:∀x:D,op2 mulT (okf (.tup [x])) (okf (.int 0))=okf (.tup []):=λx=>cA rfl;have q1:∀x:D,op2 mulT (okf (.tup [x])) (okf (.int 1))=okf (.tup [x]):=λx=>cA rfl;have q2:∀x:D,op2 (bK .Add) (okf (.tup [x])) (okf (.tup []))=okf (.tup [x]):=λx=>vD (by rw[aMC];exact(by decide:1<=16777216))
   have q3:∀x y:D,op2 (bK .Add) (okf (.tup [x])) (okf (.tup [y]))=okf (.tup [x,y]):=λx y=>vD (by rw[aMC];exact(by decide:2<=16777216))
   have:i % 2=0\/i % 2=1:=by lia
   rcases this with h|h <;> simp[j9,m,e,h,cL,tup2,tup1,q0,q1,q2,q3])
 plain i:=by
  unfold t5;have a:Pl 2 (.tup [.int (i-40),.int (1+i % 4)]):=pl2 (.int _) (.int _);have b:Pl 2 (.tup [.int (i * f),.int f]):=pl2 (.int _) (.int _);split
  . exact pl0
  . split
    . exact pl1 a
    . exact pl2 a b
mutual
theorem pS:∀k:N,aU (nD k)=some k.py
 |.i n=>by simp[nD,aU,N.py]
 |.s x=>by simp[nD,aU,N.py]
 |.t ks=>by rw[nD,aU,xS ks];simp[N.py]
theorem xS:∀ks:List N,cM (nDL ks)=some (N.pyL ks)
 |[]=>by simp[nDL,cM,N.pyL]
 |k::ks=>by rw[nDL,cM,pS k,xS ks];simp[N.pyL]
end
def xT{a b:N}(ha:Row a)(hb:Row b){m:Md}:op2 (bP .Eq) (.ok m (nD a)) (.ok m' (nD b))=okf (.bl (decide (a=b))):=by
 rw[x_eqD (pR ha) (pR hb) (by decide)]
 unfold eqB;rw[pS,pS];dsimp only;rw[N.py_eqv]
abbrev enc(e:N×D):D:=.tup [nD e.1,e.2]
def aLA{k:D->Rho->Option Rho}{body:Rho->aF}{d:D}{ρ1:Rho}{m:Md}{u:D}(h1:k d ρ=some ρ1)(h2:body ρ1=.rt m u):bI k body (d::ds) ρ=.rt m u:=by
 conv=>lhs;unfold bI
 rw[h1];dsimp only;rw[h2]
theorem xU(W:WD){kr:N}(hr:Row kr){x0 x1:Option (Bool×D)}:∀(R:List (N×D)) (x3 x4:Option (Bool×D)),(∀e∈R,Row e.1)->(bF R kr=none/\∃y3 y4,bI (aP (.tp [.nm 3,.nm 4])) (evB W pC) (R.map enc) [x0,x1,sf (nD kr),x3,x4]=.nx [x0,x1,sf (nD kr),y3,y4])\/∃d,bF R kr=some d/\bI (aP (.tp [.nm 3,.nm 4])) (evB W pC) (R.map enc) [x0,x1,sf (nD kr),x3,x4]=.rt .fz d
 |[],x3,x4,_=>.inl ⟨rfl,x3,x4,rfl⟩
 |e::R,x3,x4,h=>by
  have st:aP (.tp [.nm 3,.nm 4]) (enc e) [x0,x1,sf (nD kr),x3,x4]=some [x0,x1,sf (nD kr),sf (nD e.1),sf e.2]:=rfl;have q:=xT (h e mcs) hr (m:=.fz) (m':=.fz);by_cases he:e.1=kr
  . rw[aNO he]at q;have q:evE W (.cmp .Eq v3 v2) [x0,x1,sf (nD kr),sf (nD e.1),sf e.2]=okf (.bl true):=q;refine .inr ⟨e.2,lA he,?_⟩;rw[aMI];exact aLA st (by
      show evB W [.ite _ _ _] _=_;rw[dJ,wX q (show evB W [.retV 4] _=.rt .fz e.2 from rfl)];rfl)
  . rw[aLI he]at q;have q:evE W (.cmp .Eq v3 v2) [x0,x1,sf (nD kr),sf (nD e.1),sf e.2]=okf (.bl false):=q;rw[aMI,lB he,i6 st (by
      show evB W [.ite _ _ _] _=_;rw[iA (kC q (eJ)),eJ])]
    exact xU W hr R _ _ λu hu=>h u (mcm hu)
def aLB{Kd No:D}(K:KN Kd No)(k:Nat){C:D}{R:List (N×D)}{kr:N}(hR:∀e∈R,Row e.1)(hr:Row kr):(Wk (k+3)).Φ "note_of" [.tup [C,.tup (R.map enc)],Kd,nD kr]=okf ((bF R kr).getD No):=by
 rw[aJQ];refine cH rfl ?_;show evB _ pH [sf (.tup [C,.tup (R.map enc)]),sf Kd,sf (nD kr),none,none]=_;have n:=K.nought k;have it:evE (Wk (k+2)) (.items (.ix v0 (.int 1))) [sf (.tup [C,.tup (R.map enc)]),sf Kd,sf (nD kr),none,none]=okf (.lst (R.map enc)):=rfl;show evB _ [.for _ _ _,.ret _] _=_;rw[dJ,hU,it];rcases xU (Wk (k+2)) hr R none none hR (x0:=sf (.tup [C,.tup (R.map enc)])) (x1:=sf Kd)with⟨e1,y3,y4,e2⟩|⟨d,e1,e2⟩
 . rw[e1];show(bI _ _ _ _).thn _=_;rw[e2];refine iB ?_;show cD (Wk (k+2)).cl (Wk (k+2)).Φ "nought" (okf Kd) (.ok [])=_;rw[gG];exact n
 . rw[e1];show(bI _ _ _ _).thn _=_;rw[e2];rfl
theorem pT(W:WD){kr:N}(hr:Row kr){x0 x1 x2 x3:Option (Bool×D)}:∀(R:List (N×D)) (d:D) (x6 x7:Option (Bool×D)),(∀e∈R,Row e.1)->(R.map (·.1)).Nodup->∃y6 y7,bI (aP (.tp [.nm 6,.nm 7])) (evB W pD) (R.map enc) [x0,x1,x2,x3,sf (nD kr),sf d,x6,x7]=.nx [x0,x1,x2,x3,sf (nD kr),sf ((bF R kr).getD d),y6,y7]
 |[],d,x6,x7,_,_=>⟨x6,x7,rfl⟩
 |e::R,d,x6,x7,h,nd=>by
  rw[aMI,aMQ]at nd;have st:aP (.tp [.nm 6,.nm 7]) (enc e) [x0,x1,x2,x3,sf (nD kr),sf d,x6,x7]=some [x0,x1,x2,x3,sf (nD kr),sf d,sf (nD e.1),sf e.2]:=rfl;have q:=xT (h e mcs) hr (m:=.fz) (m':=.fz);have h':=λu hu=>h u (aLH e hu);by_cases he:e.1=kr
  . rw[aNO he]at q;have q:evE W (.cmp .Eq v6 v4) [x0,x1,x2,x3,sf (nD kr),sf d,sf (nD e.1),sf e.2]=okf (.bl true):=q;have gn:bF R kr=none:=by
      cases g:bF R kr with
      |none=>rfl
      |some u=>unfold bF at g;obtain⟨p,hp,rfl⟩:=aOU.mp g;have:=aOK hp;have h2:=aOJ hp;exact absurd (aPE.mpr ⟨p,this,by rw[he];simpa using h2⟩) nd.1
    obtain⟨y6,y7,g⟩:=pT W hr R e.2 (sf (nD e.1)) (sf e.2) h' nd.2;rw[gn]at g;refine⟨y6,y7,?_⟩;rw[aMI,lA he,i6 st (by
     show evB W [.ite _ _ _] _=_;rw[iA (wX q (show evB W [.set 5 v7] _=.nx [x0,x1,x2,x3,sf (nD kr),sf e.2,sf (nD e.1),sf e.2]from rfl)),eJ])]
    exact g
  . rw[aLI he]at q;have q:evE W (.cmp .Eq v6 v4) [x0,x1,x2,x3,sf (nD kr),sf d,sf (nD e.1),sf e.2]=okf (.bl false):=q;obtain⟨y6,y7,g⟩:=pT W hr R d (sf (nD e.1)) (sf e.2) h' nd.2;exact⟨y6,y7,by
      rw[aMI,lB he,i6 st (by
       show evB W [.ite _ _ _] _=_;rw[iA (kC q eJ),eJ])]
      exact g⟩
theorem xV(K:KN Kd No)(k:Nat){C:D}{L:List N}(hR:∀e∈R,Row e.1/\Pl 3 e.2)(nd:(R.map (·.1)).Nodup)(hL:∀r∈L,Row r):(Wk (k+6)).Φ "_law_noted" [.tup [C,.tup (R.map enc)],Kd,No,.lst (L.map nD)]=okf (.bl true):=by
 rw[aJW];refine cH rfl ?_;generalize hS:D.tup [C,.tup (R.map enc)]=S;show evB _ pJ [sf S,sf Kd,sf No,sf (.lst (L.map nD)),none,none,none,none]=_;have plX:∀kr,Pl 3 ((bF R kr).getD No):=λkr=>by
  cases g:bF R kr with
  |none=>exact K.pln
  |some u=>unfold bF at g;obtain⟨p,hp,rfl⟩:=aOU.mp g;exact(hR p (aOK hp)).2
 have go:∀(L:List N) (x3 x4 x5 x6 x7:Option (Bool×D)),(∀r∈L,Row r)->∃y4 y5 y6 y7,bI (aP (.nm 4)) (evB (Wk (k+5)) pE) (L.map nD) [sf S,sf Kd,sf No,x3,x4,x5,x6,x7]=.nx [sf S,sf Kd,sf No,x3,y4,y5,y6,y7]:=by
  intro L
  induction L with
  |nil=>exact λx3 x4 x5 x6 x7 _=>⟨x4,x5,x6,x7,rfl⟩
  |cons kr L ih =>
   intro x3 x4 x5 x6 x7 h;have hr:=h kr mcs;obtain⟨y6,y7,g⟩:=pT (Wk (k+5)) hr (x0:=sf S) (x1:=sf Kd) (x2:=sf No) (x3:=x3) R No x6 x7 (λe he=>(hR e he).1) nd;obtain⟨z4,z5,z6,z7,e⟩:=ih x3 (sf (nD kr)) (sf ((bF R kr).getD No)) y6 y7 λr hr=>h r (mcm hr);refine⟨z4,z5,z6,z7,?_⟩;rw[aMI,i6 (show aP (.nm 4) (nD kr) [sf S,sf Kd,sf No,x3,x4,x5,x6,x7]=some [sf S,sf Kd,sf No,x3,sf (nD kr),x5,x6,x7]from rfl) (ρ2:=[sf S,sf Kd,sf No,x3,sf (nD kr),sf ((bF R kr).getD No),y6,y7]) ?_]
   . exact e
   have no:=lV (aLB K (k+2) (C:=C) (λe he=>(hR e he).1) hr);have al:=lU (wZ 3 (plX kr) (k+5) (by lia))
   rw[hS]at no;have it:evE (Wk (k+5)) (.items (.ix v0 (.int 1))) [sf S,sf Kd,sf No,x3,sf (nD kr),sf No,x6,x7]=okf (.lst (R.map enc)):=by rw[<- hS];rfl
   have s2:evS (Wk (k+5)) (.for (.items (.ix v0 (.int 1))) (.tp [(.nm 6),(.nm 7)]) pD) [sf S,sf Kd,sf No,x3,sf (nD kr),sf No,x6,x7]=.nx [sf S,sf Kd,sf No,x3,sf (nD kr),sf ((bF R kr).getD No),y6,y7]:=by rw[hU,it];exact g
   show evB _ [.set 5 v2,.for _ _ _,.ite (.not (.tru (.call "_law_alike" 2 [(.frz (.call "note_of" 3 [v0,v1,v4])),v5]))) _ _] _=_;generalize (bF R kr).getD No=X at *;generalize nD kr=kd at *
   clear plX ih e g it
   refine nxt (ρ':=[sf S,sf Kd,sf No,x3,sf kd,sf No,x6,x7]) rfl (nxt s2 (nxt (kC (m:=.fz) ?_ eJ) eJ));show fW (fV (aM 2 ((Wk (k+5)).Φ "_law_alike") (aJ (aG (aM 3 ((Wk (k+5)).Φ "note_of") (.ok [(.fz,S),(.fz,Kd),(.fz,kd)]))) (.ok [(.fz,X)]))))=_;rw[no];show fW (fV (aM 2 ((Wk (k+5)).Φ "_law_alike") (.ok [(.fz,X),(.fz,X)])))=_;rw[al];rfl
 obtain⟨y4,y5,y6,y7,e⟩:=go L (sf (.lst (L.map nD))) none none none none hL;have s1:evS (Wk (k+5)) (.for (.items v3) (.nm 4) pE) [sf S,sf Kd,sf No,sf (.lst (L.map nD)),none,none,none,none]=.nx [sf S,sf Kd,sf No,sf (.lst (L.map nD)),y4,y5,y6,y7]:=by rw[hU];exact e
 exact nxt s1 (iB rfl)
theorem aLC(K:KN Kd No)(k:Nat){es:List (N×D)}(hl:es.length<=1000)(h:∀e∈es,Pl 3 e.2):(Wk (k+3)).Φ "without_noughts" [Kd,.lst (es.map enc)]=.ok .fr (.lst ((es.filter λe=>!eqB e.2 No).map enc)):=by
 rw[aJO];refine cH rfl ?_;show evB _ pF [sf Kd,sf (.lst (es.map enc)),none]=_;have n1:=K.nought k;refine nxt (ρ':=[sf Kd,sf (.lst (es.map enc)),sf No]) ?_ (ret_r (wY (m:=.fz) (en:=enc) rfl (by lia) λe he=>⟨[sf No,sf (nD e.1),sf e.2],.fz,rfl,?_,λ_=>⟨.fz,rfl⟩⟩))
 . rw[oZ];show dC _ 2 (aG (cD (Wk (k+2)).cl (Wk (k+2)).Φ "nought" (okf Kd) (.ok [])))=_;rw[gG,n1];rfl
 . have ne:op2 (bP .NotEq) (okf e.2) (okf No)=okf (.bl (!eqB e.2 No)):=wS (h e he) K.pln (by decide)
   simp[ne]
def tau(τ:Int->D):D->D
 |.int i=>τ i
 |d=>d
def tn(τ:Int->D)(e:N×D):N×D:=(e.1,tau τ e.2)
def mP(K:KW Kd No Cl τ)(k:Nat){d:D}(h:∃i:Int,0<i/\i<100/\d=.int i):eX (Wk (k+3)).Cl (okf Cl) (.ok [(.fz,d)])=okf (tau τ d)/\Pl 3 (tau τ d):=by obtain⟨i,h0,h1,rfl⟩:=h;exact⟨K.way k i h0 h1,K.plain i⟩
theorem turned{Kd No Cl:D}{τ:Int->D}(K:KW Kd No Cl τ)(k:Nat){C:D}{R:List (N×D)}(hl:R.length<=100)(hR:∀e∈R,∃i:Int,0<i/\i<100/\e.2=.int i):(Wk (k+4)).Φ "turned" [.tup [C,.tup (R.map enc)],Kd,Cl]=okf (.tup [C,.tup (((R.map (tn τ)).filter λe=>!eqB e.2 No).map enc)]):=by
 rw[aJP];refine cH rfl ?_;show evB _ pG [sf (.tup [C,.tup (R.map enc)]),sf Kd,sf Cl,none,none]=_;have cm:evE (Wk (k+3)) (.comp (.tup [v1,(.frz (.ccv 0 [v2]))]) (.items v4) [] [2] (.tp [(.nm 1),(.nm 2)]) 2) [sf (.tup [C,.tup (R.map enc)]),sf Kd,sf Cl,sf C,sf (.tup (R.map enc))]=.ok .fr (.lst (R.map λe=>enc (tn τ e))) :=
  kD (m:=.fz) (en:=enc) rfl (by lia) λe he=>⟨[sf Cl,sf (nD e.1),sf e.2],rfl,.fz,by
   have q:=(mP K k (hR e he)).1;show aG (cU (aJ (okf (nD e.1)) (aJ (aG (eX (Wk (k+3)).Cl (okf Cl) (.ok [(.fz,e.2)]))) (.ok []))))=_;rw[q];rfl⟩
 have w:=wU (aLC K.toKN k (es:=R.map (tn τ)) (by rw[aMJ];lia) λe he=>by
  obtain⟨u,hu,rfl⟩:=aPE.mp he;exact(mP K 0 (hR u hu)).2)
 rw[aPF]at w;refine nxt (ρ':=[sf (.tup [C,.tup (R.map enc)]),sf Kd,sf Cl,sf C,sf (.tup (R.map enc))]) rfl (iB ?_);show cU (aJ (okf C) (aJ (aG (b0 Ty.tuple.f (aJ (aM 2 ((Wk (k+3)).Φ "without_noughts") (aJ (okf Kd) (aJ (aG (evE (Wk (k+3)) _ _)) (.ok [])))) (.ok [])))) (.ok [])))=_;rw[cm];show cU (aJ (okf C) (aJ (aG (b0 Ty.tuple.f (aJ (aM 2 ((Wk (k+3)).Φ "without_noughts") (.ok [(.fz,Kd),(.fz,.lst (R.map λe=>enc (tn τ e)))])) (.ok [])))) (.ok [])))=_;rw[show(R.map λe=>enc (tn τ e))=R.map (enc ∘ tn τ)from rfl,w]
 rfl
def sll{W:WD}{e e':E}{m:Md}(h:evE W e ρ=.ok m (.int (i:Int)))(h':evE W e' ρ=.ok m' (.int (j:Int))){m0:Md}:slP (.ok m0 (.lst ds)) (evO W (some e)) (evO W (some e')) ρ=.ok .fr (.lst (eG ds (some (i:Int)) (some (j:Int)))):=by simp only[evO,slP,Res.thn_ok,cS,h,h']
theorem aLD{ns:List Int}(hns:ns.length<=63):∃cs:List Int,cs.length<=60/\eG (ns.map D.int) (some ((4:Nat):Int)) (some ((100:Nat):Int))=cs.map D.int:=by unfold eG;rw[HT.qT,HT.qT,<- List.map_drop,<- List.map_take];refine⟨_,?_,rfl⟩;rw[aMT,aNC];lia
def fR{W:WD}{e:E}{d:D}(h:evE W e ρ=okf d):evS W (.set i e) ρ=.nx (ρ.set i (sf d)):=by rw[oZ,h];rfl
def i9:Int:=10000000000000000000000000000000000000000
def pow40:op2 (bK .Pow) (okf (.int 10)) (okf (.int 40))=okf (.int i9):=by rfl
def z40:(0:Int)<i9:=by decide
abbrev Ev(L:D)(c:Int)(w:Nat)(sz o wy f:Int)(ps:List N)(x8 x9 x10 x11 x12 x13 x14 x15 x16 x17 x18 x19:Option (Bool×D)):Rho :=
 [sf L,si c,si (w:Int),si sz,si o,si wy,si f,sf (.lst (ps.map nD)),x8,x9,x10,x11,x12,x13,x14,x15,x16,x17,x18,x19]
def pre_{W:WD}{L:D}{h c1 c2:Int}{w:Nat}{sz o f:Int}{ps:List N}(eh:aM 2 (W.Φ "_law_cell_at") (.ok [(.fz,L),(.fz,.int 0)])=okf (.int h))(e1:aM 2 (W.Φ "_law_cell_at") (.ok [(.fz,L),(.fz,.int 1)])=okf (.int c1))(e2:aM 2 (W.Φ "_law_cell_at") (.ok [(.fz,L),(.fz,.int 2)])=okf (.int c2))(ep:aM 1 (W.Φ "_law_pool") (.ok [(.fz,.int c2)])=.ok .fr (.lst (ps.map nD)))(hw:h % 4=(w:Int))(hsz:2+h / 4 % 89=sz)(ho:2+c1 % 30=o)(hwy:c1 / 30 % 6=wy)(hf:1+c1 / 180 % i9=f):evB W (fQ.take 8) [sf L,none,none,none,none,none,none,none,none,none,none,none,none,none,none,none,none,none,none,none]=.nx (Ev L h w sz o wy f ps (some (true,.dtn [])) none none none none none none none none none none none):=by
 have eb : fQ.take 8 = [.set 1 (.frz (.call "_law_cell_at" 2 [v0, (.int 0)])),
     .set 2 (.frz (.bin .Mod v1 (.int 4))),
     .set 3 (.frz (.bin .Add (.int 2) (.bin .Mod (.bin .FloorDiv v1 (.int 4)) (.int 89)))),
     .set 4 (.frz (.bin .Add (.int 2) (.bin .Mod (.call "_law_cell_at" 2 [v0,(.int 1)]) (.int 30)))),
     .set 5 (.frz (.bin .Mod (.bin .FloorDiv (.call "_law_cell_at" 2 [v0,(.int 1)]) (.int 30)) (.int 6))),
     .set 6 (.frz (.bin .Add (.int 1) (.bin .Mod (.bin .FloorDiv (.call "_law_cell_at" 2 [v0,(.int 1)]) (.int 180)) (.bin .Pow (.int 10) (.int 40))))),
     .set 7 (.frz (.call "_law_pool" 1 [(.frz (.call "_law_cell_at" 2 [v0,(.int 2)]))])),
     .set 8 .nnew]:=rfl
 unfold Ev;rw[eb,<- hw,<- hsz,<- ho,<- hwy,<- hf];have p:=pow40;have md:=hX (m:=.fz) (n:=.fz) (i:=c1 / 180) z40;generalize i9=T at *;generalize D.lst (ps.map nD)=PP at *;simp[eh,e1,e2,ep,cL,p,md]
def aLE{sz:Int}{V:List (N×D)}(h:DV sz V 60):∀e∈eK (λe:N×D=>rkK e.1) V,e∈V:=λe he=>(mO _ V).mem_iff.mp he
theorem vv11(k:Nat){sz:Int}{V:List (N×D)}(h:DV sz V 60)(r8:ρ[8]? = some (sf (.dtf V))):evE (Wk (k+8)) (.frz (.srtf "_law_ranked" (.ndl v8))) ρ=okf (.lst ((eK (λe=>rkK e.1) V).map λe=>nD e.1)):=by
 have zl:sizeLine=16777216:=aMC;have hl:=h.len;have g8:aO ρ 8=okf (.dtf V):=by unfold aO;rw[r8]
 have ek:evE (Wk (k+8)) (.ndl v8) ρ=.ok .fr (.lst (V.map λe=>nD e.1)):=by show b0 jY (aJ (aO ρ 8) (.ok []))=_;rw[g8];show Res.of (if V.length<=sizeLine then some (Md.fr,D.lst (V.map λe=>nD e.1))else none)=_;rw[if_pos (by lia)];rfl
 have so:dH (λd=>(Wk (k+7)).Φ "_law_ranked" [d]) (.ok .fr (.lst (V.map λe=>nD e.1)))=.ok .fr (.lst ((eK (λe=>rkK e.1) V).map λe=>nD e.1)):=by
  have es:∀e∈V,Row e.1:=λe he=>(h.each e he).1;have kds:∀e:N×D,∃kd:D,e∈V->aG ((Wk (k+7)).Φ "_law_ranked" [nD e.1])=okf kd/\dG kd=some (false , rkK e.1):=λe=>by
   by_cases he:e∈V
   . obtain⟨vs,ev,e2⟩:=aK7 (es e he);obtain⟨vs',ev',hv,hn⟩:=(es e he).ex;have:vs'=vs:=by rw[ev]at ev';injection ev' with z;exact z.symm
     subst this;refine⟨_,λ_=>⟨?_,e2⟩⟩;rw[ev,aK1 (k+6) hv hn];rfl
   . exact⟨.non,λz=>absurd z he⟩
  obtain⟨kf,hk⟩:=aPZ kds;exact aK4 (f:=λe:N×D=>nD e.1) (κ:=λe:N×D=>rkK e.1) (kd:=kf) (λe he=>(hk e he).1) (λe he=>(hk e he).2) (by
   have:=aK6 (ks:=V.map λe=>e.1) (λk hk=>by obtain⟨e,he,rfl⟩:=aPE.mp hk;exact es e he) h.nd
   rw[aPF]at this
   exact this) (aLM (by lia:V.length<64) aFC)
 rw[oW,aK8 rfl,ek];show aG (dH (λd=>(Wk (k+7)).Φ "_law_ranked" [d]) _)=_;rw[so];rfl
def gS{d:D}(r:ρ[i]? = some (sf d)):aO ρ i=okf d:=by unfold aO;rw[r]
def vv10{W:WD}{L:D}{c:Int}{w:Nat}{zs:List D}(e3:aM 2 (W.Φ "_law_cell_at") (.ok [(.fz,L),(.fz,.int 3)])=okf (.int c))(en:aM 2 (W.Φ "_law_names") (.ok [(.fz,.int c),(.fz,.int (w:Int))])=.ok .fr (.lst zs))(r0:ρ[0]? = some (sf L))(r2:ρ[2]? = some (si (w:Int))):evE W (.frz (.tcall .tuple [(.call "_law_names" 2 [(.frz (.call "_law_cell_at" 2 [v0,(.int 3)])),v2])])) ρ=okf (.tup zs):=by show aG (b0 Ty.tuple.f (aJ (aM 2 (W.Φ "_law_names") (aJ (aG (aM 2 (W.Φ "_law_cell_at") (aJ (aO ρ 0) (.ok [(.fz,.int 3)])))) (aJ (aO ρ 2) (.ok [])))) (.ok [])))=_;rw[gS r0,gS r2,cL,e3];show aG (b0 Ty.tuple.f (aJ (aM 2 (W.Φ "_law_names") (.ok [(.fz,.int c),(.fz,.int (w:Int))])) (.ok [])))=_;rw[en];rfl
theorem vv12{W:WD}{sz:Int}{V:List (N×D)}{C:D}(h:DV sz V 60)(hR:∀e∈R,e∈V)(hl:R.length<=60)(r8:ρ[8]? = some (sf (.dtf V)))(r10:ρ[10]? = some (sf C))(r11:ρ[11]? = some (sf (.lst (R.map λe=>nD e.1)))):evE W (.tup [v10,(.frz (.tcall .tuple [(.comp (.tup [v1,(.nix v0 v1)]) (.items v11) [] [8] (.nm 1) 1)]))]) ρ=okf (.tup [C,.tup (R.map enc)]):=by
 have sub:bT [8] ρ++List.replicate 1 none=[sf (.dtf V),none]:=by simp[bT,r8]
 have cm:evE W (.comp (.tup [v1,(.nix v0 v1)]) (.items v11) [] [8] (.nm 1) 1) ρ=.ok .fr (.lst (R.map enc)):=kD (m:=.fz) (en:=λe:N×D=>nD e.1) (by
  show eT (aG (aO ρ 11))=_;rw[gS r11];rfl) (by lia) λe he=>⟨[sf (.dtf V),sf (nD e.1)],by rw[sub];rfl,.fz,by
   have q:=xO h.nd (hR e he) (h.each e (hR e he)).1;show aG (cU (aJ (okf (nD e.1)) (aJ (op2 fJ (okf (.dtf V)) (okf (nD e.1))) (.ok []))))=_;rw[q];rfl⟩
 show cU (aJ (aO ρ 10) (aJ (aG (b0 Ty.tuple.f (aJ (evE W _ ρ) (.ok [])))) (.ok [])))=_;rw[gS r10,cm];rfl
theorem aLF(k:Nat){s:Int}(h:2<=s):eV 1 (dA (Wk (k+1)) kA) (.ok [(.fz,.int s)])=.ok .fr (.ins "Wheel" [("size", .int s)]):=by
 have w:=aKK k s;have h':¬ s<2:=by lia
 have e:dA (Wk (k+1)) kA [.int s]=.ok .fr (.ins "Wheel" [("size", .int s)]):=by
  show(match dI (WT TT (k+1)) "Wheel" (.guard (.orL [(.not (.tru (.call "is_whole" 1 [v1]))),(.cmp .Lt v1 (.int 2))]) _ (.fset "size" v1 .done)) [none,si s] []with|.ok fs=>Res.ok .fr (.ins "Wheel" fs)|.exc c=>.exc c|.stuck=>.stuck)=_
  simp[dI,w,h'];rfl
 show(match dA (WT TT (k+1)) kA [.int s]with|.ok _ d=>Res.ok .fr d|r=>r)=_
 rw[e]
def evW(k:Nat){s:Int}(h:2<=s)(r:ρ[i]? = some (si s)):evE (Wk (k+8)) (.make "Wheel" "Wheel.__init__" 1 [(.var i)]) ρ=.ok .fr (.ins "Wheel" [("size", .int s)]):=by rw[oX (aKG (k+6)),oY,vA,iX,gS r];exact aLF (k+5) h
def evP(k:Nat)(ρ:Rho):evE (Wk (k+8)) (.make "Pair" "Pair.__init__" 2 [(.frz (.mk0 "Costs")),(.frz (.mk0 "Truth"))]) ρ=.ok .fr KP:=by
 have e:dA (Wk (k+6)) mJ [.ins "Costs" [],.ins "Truth" []]=.ok .fr KP:=by
  show(match dI (WT TT (k+6)) "Pair" (.fset "first" v1 (.fset "second" v2 .done)) [none,sf (.ins "Costs" []),sf (.ins "Truth" [])] []with|.ok fs=>Res.ok .fr (.ins "Pair" fs)|.exc c=>.exc c|.stuck=>.stuck)=_
  simp[dI];rfl
 rw[oX (aKH (k+6))];show(match dA (WT TT (k+6)) mJ [.ins "Costs" [],.ins "Truth" []]with|.ok _ d=>Res.ok .fr d|r=>r)=_
 rw[e]
def evH(k:Nat)(ρ:Rho):evE (Wk (k+8)) (.make "Heaps" "Heaps.__init__" 1 [(.frz (.mk0 "Counts"))]) ρ=.ok .fr (.ins "Heaps" [("kind", .ins "Counts" [])]):=by
 have e:dA (Wk (k+6)) mK [.ins "Counts" []]=.ok .fr (.ins "Heaps" [("kind", .ins "Counts" [])]):=by
  show(match dI (WT TT (k+6)) "Heaps" (.fset "kind" v1 .done) [none,sf (.ins "Counts" [])] []with|.ok fs=>Res.ok .fr (.ins "Heaps" fs)|.exc c=>.exc c|.stuck=>.stuck)=_
  simp[dI];rfl
 rw[oX (aKI (k+6))];show(match dA (WT TT (k+6)) mK [.ins "Counts" []]with|.ok _ d=>Res.ok .fr d|r=>r)=_
 rw[e]
def KL(o:Int):List D:=[.ins "Wheel" [("size", .int o)],.ins "Truth" [],.ins "Costs" [],.ins "Counts" [],KP,.ins "Heaps" [("kind", .ins "Counts" [])]]
def NL:List D:=[.int 0,.bl false,.non,.int 0,.tup [.non,.bl false],.tup []]
def vv13(k:Nat){o:Int}(h:2<=o){d:D}(r4:ρ[4]? = some (si o))(r5:ρ[5]? = some (si wy))(ed:atI (KL o) wy=some d):evE (Wk (k+8)) (.ix (.lst [(.frz (.make "Wheel" "Wheel.__init__" 1 [v4])),(.frz (.mk0 "Truth")),(.frz (.mk0 "Costs")),(.frz (.mk0 "Counts")),(.frz (.make "Pair" "Pair.__init__" 2 [(.frz (.mk0 "Costs")),(.frz (.mk0 "Truth"))])),(.frz (.make "Heaps" "Heaps.__init__" 1 [(.frz (.mk0 "Counts"))]))]) v5) ρ=okf d:=by show op2 ixD (dW (aJ (aG (evE (Wk (k+8)) _ ρ)) (aJ (aG (.ok .fr (.ins "Truth" []))) (aJ (aG (.ok .fr (.ins "Costs" []))) (aJ (aG (.ok .fr (.ins "Counts" []))) (aJ (aG (evE (Wk (k+8)) _ ρ)) (aJ (aG (evE (Wk (k+8)) _ ρ)) (.ok [])))))))) (aO ρ 5)=_;rw[evW k h r4,evP,evH,gS r5];exact dL (m:=.fr) ed
def vv14{W:WD}{d:D}(r5:ρ[5]? = some (si wy))(ed:atI NL wy=some d):evE W (.ix (.lst [(.int 0),(.bl false),.non,(.int 0),(.tup [.non,(.bl false)]),(.tup [])]) v5) ρ=okf d:=by show op2 ixD (.ok .fr (.lst NL)) (aO ρ 5)=_;rw[gS r5];exact dL ed
def vv15(k:Nat){f o:Int}(r4:ρ[4]? = some (si o))(r5:ρ[5]? = some (si wy))(r6:ρ[6]? = some (si f))(h:fP.out "_law_way" fP.ps [.int wy,.int f,.int o]=some Cl):evE (Wk (k+8)) (.frz (.mkw "_law_way" 3 [v5,v6,v4])) ρ=okf Cl:=by
 rw[oW,e_mkw rfl,aJ1];show aG (gZ "_law_way" (some fP) (aJ (aO ρ 5) (aJ (aO ρ 6) (aJ (aO ρ 4) (.ok [])))))=_;rw[gS r4,gS r5,gS r6];show aG (match fP.out "_law_way" fP.ps [.int wy,.int f,.int o]with|some d=>Res.ok .fz d|none=>.stuck)=_
 rw[h];rfl
theorem vv16(k:Nat)(K:KW Kd No Cl τ){sz:Int}(h3:sz<=90){V:List (N×D)}(h:DV sz V 60)(hR:∀e∈R,e∈V)(hl:R.length<=60)(r8:ρ[8]? = some (sf (.dtf V)))(r11:ρ[11]? = some (sf (.lst (R.map λe=>nD e.1))))(r15:ρ[15]? = some (sf Cl)):evE (Wk (k+8)) (.comp (.tup [v2,(.frz (.ccv 0 [(.nix v1 v2)]))]) (.items v11) [] [15,8] (.nm 2) 1) ρ=.ok .fr (.lst (R.map λe=>enc (tn τ e))):=by
 have sub:bT [15,8] ρ++List.replicate 1 none=[sf Cl,sf (.dtf V),none]:=by simp[bT,r8,r15]
 refine kD (m:=.fz) (en:=λe:N×D=>nD e.1) (by
  show eT (aG (aO ρ 11))=_
  rw[gS r11];rfl) (by lia) λe he=>⟨[sf Cl,sf (.dtf V),sf (nD e.1)],by rw[sub];rfl,.fz,?_⟩
 obtain⟨hr,i,i1,i2,ei⟩:=h.each e (hR e he);have q:=xO h.nd (hR e he) hr;have c:=(mP K (k+5) (d:=e.2) ⟨i,by lia,by lia,ei⟩).1
 show aG (cU (aJ (okf (nD e.1)) (aJ (aG (eX (Wk (k+8)).Cl (okf Cl) (aJ (op2 fJ (okf (.dtf V)) (okf (nD e.1))) (.ok [])))) (.ok []))))=_;rw[q,cL,c];rfl
theorem vv17{W:WD}{C:D}{P:List (N×D)}(hP:∀e∈P,Pl 3 e.2)(hn:Pl 3 No)(hl:P.length<=60)(r10:ρ[10]? = some (sf C))(r14:ρ[14]? = some (sf No))(r16:ρ[16]? = some (sf (.lst (P.map enc)))):evE W (.tup [v10,(.frz (.tcall .tuple [(.comp v1 (.items v16) [(.cmp .NotEq (.ix v1 (.int 1)) v0)] [14] (.nm 1) 1)]))]) ρ=okf (.tup [C,.tup ((P.filter λe=>!eqB e.2 No).map enc)]):=by
 have sub:bT [14] ρ++List.replicate 1 none=[sf No,none]:=by simp[bT,r14]
 have cm:evE W (.comp v1 (.items v16) [(.cmp .NotEq (.ix v1 (.int 1)) v0)] [14] (.nm 1) 1) ρ=.ok .fr (.lst ((P.filter λe=>!eqB e.2 No).map enc)):=wY (m:=.fz) (en:=enc) (by
  show eT (aG (aO ρ 16))=_;rw[gS r16];rfl) (by lia) λe he=>⟨[sf No,sf (enc e)],.fz,by rw[sub];rfl,by
   have ne:op2 (bP .NotEq) (okf e.2) (okf No)=okf (.bl (!eqB e.2 No)):=wS (hP e he) hn (by decide)
   have i1:op2 ixD (okf (enc e)) (okf (.int 1))=okf e.2:=ix2_1;generalize enc e=z at *;simp[i1,ne],λ_=>⟨.fz,rfl⟩⟩
 show cU (aJ (aO ρ 10) (aJ (aG (b0 Ty.tuple.f (aJ (evE W _ ρ) (.ok [])))) (.ok [])))=_;rw[gS r10,cm];rfl
theorem vv18(k:Nat){L:D}{c:Int}{ps:List N}(h4:ps.length=4)(hp:∀v∈ps,bR v){w:Nat}(hw:w<=3)(e3:aM 2 ((Wk (k+1)).Φ "_law_cell_at") (.ok [(.fz,L),(.fz,.int 3)])=okf (.int c)){R:List N}(hl:R.length<=60)(r0:ρ[0]? = some (sf L))(r2:ρ[2]? = some (si (w:Int)))(r7:ρ[7]? = some (sf (.lst (ps.map nD))))(r11:ρ[11]? = some (sf (.lst (R.map nD)))):∃L3:List N,(∀r∈L3,Row r)/\evE (Wk (k+1)) (.frz (.bin .Add v11 (.comp (.call "_law_row" 3 [(.frz (.bin .FloorDiv (.call "_law_cell_at" 2 [v2,(.int 3)]) (.bin .Add v3 (.int 1)))),v0,v1]) (.rng1 (.int 3)) [] [7,2,0] (.nm 3) 1))) ρ=okf (.lst ((R++L3).map nD)):=by
 have zl:sizeLine=16777216:=aMC;have sub:bT [7,2,0] ρ++List.replicate 1 none=[sf (.lst (ps.map nD)),si (w:Int),sf L,none]:=by simp[bT,r0,r2,r7]
 have one:∀i:Nat,∃r:N,Row r/\(i<3->evE (Wk (k+1)) (.call "_law_row" 3 [(.frz (.bin .FloorDiv (.call "_law_cell_at" 2 [v2,(.int 3)]) (.bin .Add v3 (.int 1)))),v0,v1]) [sf (.lst (ps.map nD)),si (w:Int),sf L,si (i:Int)]=okf (nD r)):=λi=>by
  obtain⟨vs,lv,hv,e⟩:=row k h4 hp hw (c / ((i:Int)+1));refine⟨.t vs,⟨vs,rfl,hv,by lia⟩,λhi=>?_⟩
  have dv:op2 (bK .FloorDiv) (okf (.int c)) (okf (.int ((i:Int)+1)))=okf (.int (c / ((i:Int)+1))):=o1 (by lia) (by lia)
  have e:=lV e;generalize D.lst (ps.map nD)=PP at *;generalize nD (.t vs)=z at *;simp[e3,dv,e,cL]
 obtain⟨rf,hrf⟩:=aPZ one;refine⟨(List.range 3).map rf,λr hr=>?_,?_⟩
 . obtain⟨i,_,rfl⟩:=aPE.mp hr;exact(hrf i).1
 have er:=kE (m:=.fz) (n:=((3:Nat):Int)) (by lia) (by lia)
 rw[show bD 0 ((3:Nat):Int)=(List.range 3).map λi:Nat=>D.int (i:Int) by simp[bD]]at er
 have cm:evE (Wk (k+1)) (.comp (.call "_law_row" 3 [(.frz (.bin .FloorDiv (.call "_law_cell_at" 2 [v2,(.int 3)]) (.bin .Add v3 (.int 1)))),v0,v1]) (.rng1 (.int 3)) [] [7,2,0] (.nm 3) 1) ρ=.ok .fr (.lst ((List.range 3).map λi=>nD (rf i))):=kD er (by decide) λi hi=>⟨[sf (.lst (ps.map nD)),si (w:Int),sf L,si (i:Int)],by rw[sub];rfl,.fz,by
  rw[(hrf i).2 (aLQ.mp hi)];rfl⟩
 show aG (op2 (bK .Add) (aO ρ 11) (evE (Wk (k+1)) _ ρ))=_;rw[gS r11,cm,aIW (by rw[aMJ,aMJ,aPA];lia),aPY,aPF]
 rfl
theorem aLG{P:List (N×D)}(hP:∀e∈P,Row e.1/\Pl 3 e.2)(hl:P.length<=60)(hz:zs.length<=60):Pl 6 (.tup [.tup (zs.map .str),.tup (P.map enc)]):=by
 refine pl2 (.tup (λd hd=>?_) (by rw[aMJ];lia)) (.tup (λd hd=>?_) (by rw[aMJ];lia))
 . obtain⟨z,_,rfl⟩:=aPE.mp hd;exact .str z
 . obtain⟨e,he,rfl⟩:=aPE.mp hd;exact pl2 ((pR (hP e he).1).mono (by decide)) (hP e he).2
def kk:Nat:=40
def ev4{W:WD}{f:Str}{l:Nat}{x y z u:D}{r:Res}(h1:aO ρ i=okf x)(h2:aO ρ j=okf y)(h3:aO ρ k=okf z)(h4:aO ρ l=okf u)(h:aM 4 (W.Φ f) (.ok [(.fz,x),(.fz,y),(.fz,z),(.fz,u)])=r):evE W (.call f 4 [.var i,.var j,.var k,.var l]) ρ=r:=by show aM 4 (W.Φ f) (aJ (aO ρ i) (aJ (aO ρ j) (aJ (aO ρ k) (aJ (aO ρ l) (.ok [])))))=_;rw[h1,h2,h3,h4];exact h
def evN(k:Nat){s:Int}(h:2<=s){x u:D}{r:Res}(h1:aO ρ i=okf x)(h3:ρ[3]? = some (si s))(h4:aO ρ j=okf u)(hh:aM 4 ((Wk (k+8)).Φ "_law_noted") (.ok [(.fz,x),(.fz,.ins "Wheel" [("size", .int s)]),(.fz,.int 0),(.fz,u)])=r):evE (Wk (k+8)) (.call "_law_noted" 4 [.var i,.frz (.make "Wheel" "Wheel.__init__" 1 [.var 3]),.int 0,.var j]) ρ=r:=by show aM 4 ((Wk (k+8)).Φ "_law_noted") (aJ (aO ρ i) (aJ (aG (evE (Wk (k+8)) (.make "Wheel" "Wheel.__init__" 1 [.var 3]) ρ)) (aJ (okf (.int 0)) (aJ (aO ρ j) (.ok [])))))=_;rw[evW k h h3,h1,h4];exact hh
def and2{W:WD}{a b:E}{d:D}(h1:evE W a ρ=okf (.bl true))(h2:evE W b ρ=okf d):evE W (.andL [a,b]) ρ=okf d:=by rw[aIL,aIP,aIO,h1,h2];rfl
theorem jA(K:KW Kd No Cl τ){ns:List Int}(hns:ns.length<=63){w:Nat}(hw3:w<=3){ps:List N}{h c1 c2 c3 sz o f:Int}(hz:zs.length=w)(h4:ps.length=4)(hp:∀v∈ps,bR v)(eh:aM 2 ((Wk (32+8)).Φ "_law_cell_at") (.ok [(.fz,.lst (ns.map .int)),(.fz,.int 0)])=okf (.int h))(e1:aM 2 ((Wk (32+8)).Φ "_law_cell_at") (.ok [(.fz,.lst (ns.map .int)),(.fz,.int 1)])=okf (.int c1))(e2:aM 2 ((Wk (32+8)).Φ "_law_cell_at") (.ok [(.fz,.lst (ns.map .int)),(.fz,.int 2)])=okf (.int c2))(e3:aM 2 ((Wk (32+8)).Φ "_law_cell_at") (.ok [(.fz,.lst (ns.map .int)),(.fz,.int 3)])=okf (.int c3))(ep:aM 1 ((Wk (32+8)).Φ "_law_pool") (.ok [(.fz,.int c2)])=.ok .fr (.lst (ps.map nD)))(en:aM 2 ((Wk (32+8)).Φ "_law_names") (.ok [(.fz,.int c3),(.fz,.int (w:Int))])=.ok .fr (.lst (zs.map .str)))(hw:h % 4=(w:Int))(hsz:2+h / 4 % 89=sz)(ho:2+c1 % 30=o)(hwy:c1 / 30 % 6=wy)(hf:1+c1 / 180 % i9=f)(k13:atI (KL o) wy=some Kd)(k14:atI NL wy=some No)(k15:fP.out "_law_way" fP.ps [.int wy,.int f,.int o]=some Cl):evB (Wk (32+8)) fQ [sf (.lst (ns.map .int)),none,none,none,none,none,none,none,none,none,none,none,none,none,none,none,none,none,none,none]=.rt .fz (.bl true):=by
 have s2:2<=sz:=by lia
 have s3:sz<=90:=by lia
 have o2:2<=o:=by lia
 rw[show fQ=fQ.take 8++fQ.drop 8 from rfl,hZ,pre_ eh e1 e2 ep hw hsz ho hwy hf,aF.thn_nx]
 obtain⟨cs,lc,ec⟩:=aLD hns;obtain⟨V,y9,hV,el⟩:=xP (32+7) h4 hp hw3 s2 s3 (sf (.lst (ns.map .int))) (si h) (si o) (si wy) (si f) cs [] 0 none ⟨aL7 _,List.nodup_nil,λe he=>nomatch he⟩ (by lia)
 have hR:=aLE hV;have lR:(eK (λe:N×D=>rkK e.1) V).length<=60:=by rw[(mO _ V).length_eq];exact hV.len
 have ndR:((eK (λe:N×D=>rkK e.1) V).map (·.1)).Nodup:=(((mO _ V).map _).nodup_iff).mpr hV.nd;have v11:=λρ r8=>vv11 32 hV (ρ:=ρ) r8;generalize eK (λe:N×D=>rkK e.1) V=R at *;have hRr:∀e∈R,Row e.1/\Pl 3 e.2:=λe he=>by obtain⟨a,i,_,_,b⟩:=hV.each e (hR e he);exact⟨a,by rw[b];exact .int _⟩
 have hRi:∀e∈R,∃i:Int,0<i/\i<100/\e.2=.int i:=λe he=>by obtain⟨a,i,b1,b2,b⟩:=hV.each e (hR e he);exact⟨i,by lia,by lia,b⟩
 have hP:∀e∈R.map (tn τ),Pl 3 e.2:=λe he=>by obtain⟨u,hu,rfl⟩:=aPE.mp he;exact(mP K 0 (hRi u hu)).2
 have hF:∀e∈(R.map (tn τ)).filter (λe=>!eqB e.2 No),Row e.1/\Pl 3 e.2:=λe he=>by have he:=(aLP.mp he).1;refine⟨?_,hP e he⟩;obtain⟨u,hu,rfl⟩:=aPE.mp he;exact(hRr u hu).1
 have ndF:(((R.map (tn τ)).filter λe=>!eqB e.2 No).map (·.1)).Nodup:=(List.Sublist.map (λe:N×D=>e.1) List.filter_sublist).nodup (by rw[aPF];exact ndR)
 have lF:((R.map (tn τ)).filter λe=>!eqB e.2 No).length<=60:=aLS (List.length_filter_le _ _) (by rw[aMJ];exact lR)
 have td:=lV (turned K (32+4) (C:=.tup (zs.map .str)) (R:=R) (by lia) hRi)
 have al:=lU (wZ 6 (aLG hF lF (zs:=zs) (by lia)) (32+8) (by decide))
 have e11:=v11 [sf (.lst (ns.map .int)),si h,si (w:Int),si sz,si o,si wy,si f,sf (.lst (ps.map nD)),sf (.dtf V),y9,sf (.tup (zs.map .str)),none,none,none,none,none,none,none,none,none] rfl;obtain⟨L3,hL3,e18⟩:=vv18 (32+7) h4 hp hw3 e3 (R:=R.map (·.1)) (by rw[aMJ];exact lR) (ρ:=Ev (.lst (ns.map .int)) h w sz o wy f ps (sf (.dtf V)) y9 (sf (.tup (zs.map .str))) (sf (.lst (R.map λe=>nD e.1))) (sf (.tup [.tup (zs.map .str),.tup (R.map enc)])) (sf Kd) (sf No) (sf Cl) (sf (.lst (R.map λe=>enc (tn τ e)))) (sf (.tup [.tup (zs.map .str),.tup (((R.map (tn τ)).filter λe=>!eqB e.2 No).map enc)])) none none) rfl rfl rfl (by rw[aPF];rfl)
 have hL:∀r∈R.map (·.1)++L3,Row r:=λr hr=>by
  rcases aLV.mp hr with hr|hr
  . obtain⟨e,he,rfl⟩:=aPE.mp hr;exact(hRr e he).1
  . exact hL3 r hr
 have n1:=vE (xV (k0 (f:=1) s2).toKN (32+2) (C:=.tup (zs.map .str)) hRr ndR hL);have n2:=vE (xV K.toKN (32+2) (C:=.tup (zs.map .str)) hF ndF hL);have sl:=sll (W:=Wk (32+8)) (ρ:=Ev (.lst (ns.map .int)) h w sz o wy f ps (some (true,.dtn [])) none none none none none none none none none none none) (ds:=ns.map D.int) (e:=.int 4) (e':=.int 100) (i:=4) (j:=100) (m:=.fz) (m':=.fz) rfl rfl (m0:=.fz);rw[ec]at sl;have s8:evS (Wk (32+8)) (.for (.items (.slice v0 (some (.int 4)) (some (.int 100)))) (.nm 9) lY) (Ev (.lst (ns.map .int)) h w sz o wy f ps (some (true,.dtn [])) none none none none none none none none none none none)=.nx (Ev (.lst (ns.map .int)) h w sz o wy f ps (some (true,.dtn V)) y9 none none none none none none none none none none):=by
  have it:evE (Wk (32+8)) (.items (.slice v0 (some (.int 4)) (some (.int 100)))) (Ev (.lst (ns.map .int)) h w sz o wy f ps (some (true,.dtn [])) none none none none none none none none none none none)=okf (.lst (cs.map .int)):=by rw[aIM,u7,iX];show eT (aG (slP (okf (.lst (ns.map .int))) _ _ _))=_;rw[sl];rfl
  rw[hU,it];exact el
 obtain⟨Fd,eFd⟩:∃x:D,x=.tup [.tup (zs.map .str),.tup (((R.map (tn τ)).filter λe=>!eqB e.2 No).map enc)]:=⟨_,rfl⟩;obtain⟨Sd,eS⟩:∃x:D,x=.tup [.tup (zs.map .str),.tup (R.map enc)]:=⟨_,rfl⟩;rw[show(32+2+6:Nat)=32+8 from rfl]at n1 n2
 rw[show(32+4+4:Nat)=32+8 from rfl]at td
 rw[<- eFd]at td al n2 e18;rw[<- eS]at td n1 e18;have eF:(R.map λe=>enc (tn τ e))=(R.map (tn τ)).map enc:=by rw[aPF];rfl
 refine nxt s8 (nxt (ρ':=Ev (.lst (ns.map .int)) h w sz o wy f ps (sf (.dtf V)) y9 none none none none none none none none none none) rfl (nxt (fR (vv10 e3 en rfl rfl)) (nxt (fR e11) (nxt (fR (d:=Sd) (by rw[eS];exact vv12 hV hR lR rfl rfl rfl)) (nxt (fR (vv13 32 o2 rfl rfl k13)) (nxt (fR (vv14 rfl k14)) (nxt (fR (vv15 32 rfl rfl rfl k15)) (nxt (setc (vv16 32 K s3 hV hR lR rfl rfl rfl)) (nxt (fR (d:=Fd) (by rw[eFd];exact vv17 hP K.pln (by rw[aMJ];exact lR) rfl rfl (by rw[<- eF];rfl))) (nxt (ρ':=Ev (.lst (ns.map .int)) h w sz o wy f ps (sf (.dtf V)) y9 (sf (.tup (zs.map .str))) (sf (.lst (R.map λe=>nD e.1))) (sf Sd) (sf Kd) (sf No) (sf Cl) (sf (.lst (R.map λe=>enc (tn τ e)))) (sf Fd) (sf (.lst ((R.map (·.1)++L3).map nD))) none) (fR e18) (nxt (kC (m:=.fz) ?_ eJ) (nxt (ρ':=Ev (.lst (ns.map .int)) h w sz o wy f ps (sf (.dtf V)) y9 (sf (.tup (zs.map .str))) (sf (.lst (R.map λe=>nD e.1))) (sf Sd) (sf Kd) (sf No) (sf Cl) (sf (.lst (R.map λe=>enc (tn τ e)))) (sf Fd) (sf (.lst ((R.map (·.1)++L3).map nD))) (sf Fd)) (fR (d:=Fd) ?_) (nxt (kC (m:=.fz) ?_ eJ) (iB ?_))))))))))))))
 . rw[e_not,e_tru,evN 32 s2 (x:=Sd) (u:=.lst ((R.map (·.1)++L3).map nD)) rfl rfl rfl n1];rfl
 . show aG (aM 3 ((Wk (32+8)).Φ "turned") (.ok [(.fz,Sd),(.fz,Kd),(.fz,Cl)]))=_;rw[td];rfl
 . show fW (fV (aM 2 ((Wk (32+8)).Φ "_law_alike") (.ok [(.fz,Fd),(.fz,Fd)])))=_;rw[al];rfl
 . refine and2 ?_ ?_
   . exact ev4 (x:=Fd) (y:=Kd) (z:=No) (u:=.lst ((R.map (·.1)++L3).map nD)) (by rfl) (by rfl) (by rfl) (by rfl) n2
   . exact evN 32 s2 (x:=Sd) (u:=.lst ((R.map (·.1)++L3).map nD)) (by rfl) (by rfl) (by rfl) n1
theorem main(ns:List Int)(hns:ns.length<=63):(Wk (kk+1)).Φ ("law":Str) (kU ns)=okf (.bl true):=by
 rw[u_law];refine cH rfl ?_;show evB (Wk (32+8)) fQ [sf (.lst (ns.map .int)),none,none,none,none,none,none,none,none,none,none,none,none,none,none,none,none,none,none,none]=_;have c0:=mL 39 ns (i:=0) (by decide)
 have c1:=mL 39 ns (i:=1) (by decide)
 have c2:=mL 39 ns (i:=2) (by decide)
 have c3:=mL 39 ns (i:=3) (by decide)
 generalize ce ns 0=h at *;generalize ce ns 1=n1 at *;generalize ce ns 2=n2 at *;generalize ce ns 3=n3 at *;obtain⟨w,hw⟩:=aPX (show 0<=h % 4 by lia)
 have hw:h % 4=((w:Nat):Int):=hw;have hw3:w<=3:=by lia
 obtain⟨zs,hz,en⟩:=names 39 n3 (n:=w) (by lia)
 obtain⟨ps,h4,hp,ep⟩:=pool 39 n2;have en:=wU en;have ep:=aKJ ep;have o2:2<=2+n1 % 30:=by lia
 have hc:n1 / 30 % 6=0\/n1 / 30 % 6=1\/n1 / 30 % 6=2\/n1 / 30 % 6=3\/n1 / 30 % 6=4\/n1 / 30 % 6=5:=by lia
 rcases hc with hc|hc|hc|hc|hc|hc
 . exact jA (k0 (f:=1+n1 / 180 % i9) o2) hns hw3 hz h4 hp c0 c1 c2 c3 ep en hw rfl rfl hc rfl rfl rfl rfl
 . exact jA k1 hns hw3 hz h4 hp c0 c1 c2 c3 ep en hw rfl rfl hc rfl rfl rfl rfl
 . exact jA k2 hns hw3 hz h4 hp c0 c1 c2 c3 ep en hw rfl rfl hc rfl rfl rfl rfl
 . exact jA k3 hns hw3 hz h4 hp c0 c1 c2 c3 ep en hw rfl rfl hc rfl rfl rfl rfl
 . exact jA k4 hns hw3 hz h4 hp c0 c1 c2 c3 ep en hw rfl rfl hc rfl rfl rfl rfl
 . exact jA k5 hns hw3 hz h4 hp c0 c1 c2 c3 ep en hw rfl rfl hc rfl rfl rfl rfl
end K33
namespace K33
open PySem.W Tp
def tw:Prod.fst (true,aP5)=true:=by k_qdec
noncomputable def as:List Addr:=[2,3,15,22,23,24,25,28,35,36,37,40,42,43,45,46,54,56,57,59,60,61,62,63,64,65,68,75,77,78,80,81,82,83,84,87,94,96,97,99,100,101,103,104,106,107,108,110,111,113,114,115,117,118,120,121,122,124,125,127,128,129,131,132,134,135,136,138,139,141,142,143,144,145,148,155,157,158,160,161,162,164,165,167,168,169,171,172,174,175,176,178,179,181,182,183,185,186,188,189,190,192,193,195,196,197,198,199,202,209,211,212,214,215,216,218,219,221,222,223,225,226,228,229,230,232,233,235,236,237,239,240,242,243,244,246,247,249,250,251,252,253,256,263,265,266,268,269,270,272,273,275,276,277,279,280,282,283,284,286,287,289,290,291,293,294,296,297,298,300,301,303,304,305,307,308,310,311,312,314,315,317,318,319,320,321,324,331,333,334,336,337,338,340,341,343,344,345,347,348,350,351,352,354,355,357,358,359,361,362,364,365,366,368,369,371,372,373,375,376,378,379,380,382,383,385,386,387,389,390,392,393,394,395,396,399,401,402,404,405,406,409,410,411,414,415,416,419,420,421,424,425,426,429,430,431,433,434,436,437,438,445,447,448,450,451,452,454,455,457,458,459,461,462,464,465,466,468,469,471,472,473,475,476,478,479,480,483,484,485,488,489,490,492,493,495,496,497,500,501,502,503,504,507,509,510,512,513,514,516,517,519,520,521,523,524,526,527,528,530,531,533,534,535,537,538,540,541,542,544,545,547,548,549,551,552,554,555,556,559,560,561,563,564,566,567,568,571,572]
noncomputable def ts:List Addr:=[41,55,76,95,102,109,116,123,130,137,156,163,170,177,184,191,210,217,224,231,238,245,264,271,278,285,292,299,306,313,332,339,346,353,360,367,374,381,388,400,407,412,417,422,427,432,446,453,460,467,474,481,486,491,498,508,515,522,529,536,543,550,557,562,569]
def pre(w:aP3)(os:OsState):topGo treeTable aP5 w 11 an 12 ⟨boot_heap w.params,#[],boot_drawn,boot_toks,os⟩ (topStub aP5)=some ((sh w.params (sA w.params) 15 187 os).abs,⟨denote treeTable (cd aP5),cd aP5,z0,[topFrame z0]⟩):=by
 rw[aP5,Fast.te1679988029586294815,Fast.te203182992438928480,Fast.te13144403056285818395,Fast.te15667345088766844465,Fast.te14364793385576792824,Fast.te11892475500146522536]
 kernel_rfl
def blk(w:aP3)(s:aP1):segRun treeTable aP5 w 11 an 1 1 s (blockOf aP5.main.body (ev aP5) (cd aP5) z0 [topFrame z0])=some (.next,s,cd aP5,z0):=by kernel_rfl
def run(w:aP3)(os:OsState):go treeTable aP5 w 1000 aP5.main.body (sh w.params (sA w.params) 15 187 os) (cd aP5) z0=some (sh w.params (lay w.params aP5.main.body (sA w.params)) 573 911 os,cd aP5,⟨307,0,332,126⟩):=by
 rw[aP5,Fast.te1679988029586294815,Fast.te203182992438928480,Fast.te13144403056285818395,Fast.te5678740263434597267,Fast.te14364793385576792824,Fast.te10212481707522018265]
 kernel_rfl
def pU(w:aP3):(λos=>((staticsOk (importedModules aP5.main.body) (boot_heap w.params) (H1 aP5.main.body 573 w.params)&&namesBound aP5 (H1 aP5.main.body 573 w.params)&&gensDone (S1 aP5.main.body 573 911 w.params os)&&laidKept (boot_heap w.params) (H1 aP5.main.body 573 w.params)),openSeen (vw aP5) (los aP5.main.body) (importedModules aP5.main.body) (xt PySem.Challenge.rw_whencewise_k33_turned.row) true (S1 aP5.main.body 573 911 w.params os),(hk aP5.main.body (as++ts)).obs (S1 aP5.main.body 573 911 w.params os)))=λ_=>(true,openGood (vw aP5) (los aP5.main.body),(hk aP5.main.body (as++ts)).val w):=by
 rw[aP5,Fast.te14387180822208032119,Fast.te1679988029586294815,Fast.te5923862056798008813,Fast.te9407923862454927560,Fast.te15884229538025494872,Fast.te4187177175401517315,Fast.te18076920544200396443,Fast.te9318435048543301240,Fast.te17808466708180730929,Fast.te2368527892694137696]
 kernel_rfl
def tb(P:Params):D3.lW (KK aP5.main.body as P) (KK aP5.main.body (as++ts) P)=true:=by
 kernel_rfl
def gf(P:Params):D3.pB (KK aP5.main.body as P) GG TT=true:=by
 kernel_rfl
abbrev dl:DefRec:=⟨"law", L2.iG pN,L2.cQ pN,L2.bA pN,⟨307,0,332,126⟩⟩
end K33
open PySem.W
set_option maxRecDepth 100000 in
set_option maxHeartbeats 0 in
theorem PySem.Challenge.cw_whencewise_k33_turned_holds : PySem.Challenge.rw_whencewise_k33_turned.Holds := by
 w_on;o_law
 exact Tp.head (p:=PySem.Challenge.rw_whencewise_k33_turned) (d:=K33.dl) (Tp.left (by kernel_rfl) K33.pre K33.blk K33.run (by kernel_rfl) (by kernel_rfl) (λ_=>by kernel_rfl) K33.pU) (by assumption) (by kernel_rfl) (by kernel_rfl) rfl rfl (by decide +kernel) ⟨rfl,rfl,rfl,rfl,rfl,by decide +kernel⟩ (by w_witness2)
  (D3.walkG (K:=Tp.KK PySem.Challenge.pw_whencewise_k33_turned.main.body K33.as) (Kf:=Tp.KK PySem.Challenge.pw_whencewise_k33_turned.main.body (K33.as++K33.ts)) (kk:=K33.kk) (e:=K33.pM) rfl rfl rfl (λw h Y=>W.kIn_of Y) (Tp.KK_sub _ _ _) (Tp.KK_nd _ _) K33.tb K33.gf (D3.aI3 (g:=K33.GG) (by decide +kernel)) rfl rfl ⟨rfl,by decide,by decide⟩ K33.main)
