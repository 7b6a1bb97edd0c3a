import PyProof.Rows.All
import Wide.All
import OpenK.AllK
import Wide.FinOn
import Lean
import PyProof.EqAt
import PyProof.EqKinds
import PyProof.TupleCall
import PySem.Challenge.RW_whencewise_k71_read_and_shown
set_option compiler.extract_closed false
set_option bootstrap.genMatcherCode false
set_option maxHeartbeats 0
set_option linter.all false
section
open PySem PySem.Spec PyProof.Rows
def aN2:=@decide_eq_false
def aN3:=@beq_eq_false_iff_ne
def aN4:=@Paired.length
def aN5:=@Option.some.inj
def aN6:=@Heap.get?_push_size
def aN7:=@Heap.lt_size
def aN8:=@Nat.lt_of_lt_of_le
def aN9:=@Nat.lt_irrefl
def aOA:=@Nat.ne_of_lt
def aOB:=@List.mem_filter
def aOC:=@List.mem_range
def aOD:=@Array.getElem?_eq_some_iff
def aOE:=@Nat.le_trans
def aOF:=@List.filterMap_cons
def aOG:=@List.mem_cons
def aOH:=@List.mem_append
def aOI:=@List.mem_append_left
def aOJ:=@List.getElem?_eq_some_iff
def aOK:=@List.getElem?_set_self
def aOL:=@List.getElem?_set_ne
def aOM:=@wpAny_mono
def aON:=@wpAny_Name
def aOO:=@Calls.Constant_str
def aOP:=@wpAny_truthy_bool
def aOQ:=@Array.length_toList
def aOR:=@wpAny_execs_nil
def aOS:=@wpAny_execs_cons
def aOT:=@wpAny_passesOwn
def aOU:=@Bool.false_ne_true
def aOV:=@wpAny_pure
def aOW:=@wpAny_bind
def aOX:=@wpAny_pyIter_list
def aOY:=@Nat.le_refl
def aOZ:=@PyProof.Rows.callWith_type1
def aO0:=@List.mem_filterMap
def aO1:=@List.mem_append_right
def aO2:=@Bool.eq_iff_iff
def aO3:=@sizeLine_eq
def aO4:=@List.size_toArray
def aO5:=@Calls.spliced_nil
def aO6:=@Calls.spliced_cons
def aO7:=@List.append_nil
def aO8:=@List.nodup_cons
def aO9:=@List.of_mem_zip
def aPA:=@List.length_take
def aPB:=@PySem.mem_of_lookup
def aPC:=@List.getElem?_append_right
def aPD:=@List.getElem?_replicate
def aPE:=@List.getElem?_append_left
def aPF:=@List.getElem?_map
def aPG:=@List.mem_of_getElem?
def aPH:=@List.length_append
def aPI:=@List.length_map
def aPJ:=@List.length_replicate
def aPK:=@codeAny_call_function
def aPL:=@wpAny_Call_Name_kw
def aPM:=@concat_meets
def aPN:=@noFill_tuple_add
def aPO:=@F.slot_tuple_add
def aPP:=@F.entry_tuple_add
def aPQ:=@F.args_tuple_add_2
def aPR:=@Int.toNat_natCast
def aPS:=@if_false
def aPT:=@if_true
def aPU:=@wpAny_field
def aPV:=@List.length_drop
def aPW:=@wpAny_holding
def aPX:=@PyProof.Rows.slot_tuple_getitem
def aPY:=@Bool.and_eq_true
def aPZ:=@wpAny_newObj_type
def aP0:=@typeIs_str
def aP1:=@Option.getD_none
def aP2:=@List.all_cons
def aP3:=@List.any_cons
def aP4:=@Calls.callWith_builtin
def aP5:=@wpAny_Call_method_late
def aP6:=@Calls.evalArgs_plain
def aP7:=@call_meets
def aP8:=@List.length_singleton
def aP9:=@List.find?_cons
def aQA:=@decide_eq_true
def aQB:=@List.length_cons
def aQC:=@List.length_nil
def aQD:=@List.map_cons
def aQE:=@List.map_nil
def aQF:=@Nat.zero_le
def aQG:=@Option.some.injEq
def aQH:=@decide_eq_true_eq
def aQI:=@of_decide_eq_true
def aQJ:=@Bool.or_eq_true
def aQK:=@Array.all_eq_true_iff_forall_mem
def aQL:=@Array.mem_toList_iff
def aQM:=@wpAny_getItem_str_slice
def aQN:=@post_val_or_str
def aQO:=@Txt.slice_le
def aQP:=@List.replicate_succ
def aQQ:=@List.foldl_cons
def aQR:=@Bool.or_eq_false_iff
def aQS:=@beq_iff_eq
def aQT:=@W.kia_one
def aQU:=@List.all_eq_true
def aQV:=@List.getElem_of_mem
def aQW:=@List.getD_eq_getElem?_getD
def aQX:=@List.getElem?_eq_getElem
def aQY:=@List.getElem_mem
def aQZ:=@List.length_set
def aQ0:=@List.getElem?_set
def aQ1:=@List.getElem?_range
def aQ2:=@Option.map_some
def aQ3:=@List.drop_eq_getElem_cons
def aQ4:=@List.drop_length
def aQ5:=@List.forIn_nil
def aQ6:=@List.forIn_cons
def aQ7:=@LawfulMonad.pure_bind
def aQ8:=@List.lookup_cons
def aQ9:=@beq_self_eq_true
def aRA:=@Bool.false_eq_true
def aRB:=@wpAny_newFunctionEnv
def aRC:=@List.drop_zero
def aRD:=@List.take_of_length_le
def aRE:=@Nat.zero_add
def aRF:=@List.mem_singleton
def aRG:=@List.take_length
def aRH:=@List.mem_of_mem_drop
def aRI:=@List.mem_of_mem_take
def aRJ:=@List.nil_append
def aRK:=@List.isEmpty_iff
def aRL:=@Option.isNone_iff_eq_none
def aRM:=@List.not_mem_nil
def aRN:=@bne_iff_ne
def aRO:=@Bool.not_eq_true'
def aRP:=@F.slot_str_split
def aRQ:=@F.entry_str_split
def aRR:=@F.args_str_split_2
def aRS:=@F.plainAttrs_str
def aRT:=@List.reverse_cons
def aRU:=@List.length_reverse
def aRV:=@List.map_append
def aRW:=@F.plainAttrs_list
def aRX:=@List.mem_nil_iff
def aRY:=@or_false
def aRZ:=@Nat.succ_le_succ
def aR0:=@Nat.lt_of_le_of_lt
def aR1:=@PyProof.Rows.signs_ofString
def aR2:=@List.map_map
def aR3:=@Array.eq_empty_of_size_eq_zero
def aR4:=@W.mg_of
def aR5:=@List.mem_map
def aR6:=@Int.emod_nonneg
def aR7:=@Int.emod_lt_of_pos
def aR8:=@Int.eq_ofNat_of_zero_le
def aR9:=@List.getElem?_eq_none
def aSA:=@List.any_eq_true
def aSB:=@List.append_assoc
def aSC:=@List.exists_cons_of_ne_nil
def aSD:=@List.flatMap_cons
def aSE:=@List.filter_cons_of_pos
def aSF:=@List.filter_map
def aSG:=@List.map_congr_left
def aSH:=@Bool.not_eq_true
def aSI:=@Nat.le_max_left
def aSJ:=@Nat.le_max_right
def aSK:=@List.sum_cons
def aSL:=@Nat.min_eq_left
def aSM:=@List.take_add_one
def aSN:=@List.mem_replicate
def aSO:=@List.map_take
def aSP:=@List.length_filter_le
end
abbrev aSV:=PySem.Challenge.pw_whencewise_k71_read_and_shown
abbrev aSQ:=PySem.Value
abbrev aSR:=PySem.Shared
abbrev aSS:=PySem.Around
abbrev aST:=PySem.World
abbrev aSU:=PySem.Program
abbrev VSP := PySem.Value -> PySem.Shared -> Prop
abbrev Fg := PySem.W.Frag
abbrev LAO := List (PySem.Addr × PySem.Obj)
abbrev SOV := PySem.Str -> Option PySem.Value
def mcm {α : Type} {a b : α} {l : List α} (h : a ∈ l) : a ∈ b :: l := List.mem_cons_of_mem _ h
def mcs {α : Type} {a : α} {l : List α} : a ∈ a :: l := List.mem_cons_self
def hps {h : PySem.Heap} {o p : PySem.Obj} {b : PySem.Addr} (e : h.get? b = some o) : (h.push p).get? b = some o := PySem.Heap.get?_push_of_some _ e
set_option Elab.async false
set_option maxRecDepth 100000
noncomputable section
open PySem PySem.Spec PyProof.Rows
namespace L2
abbrev Key:=Sum Int Str
def iN:Key->aSQ->Bool
 |.inl k,v=>Value.isInt k v
 |.inr x,v=>Value.isStrOf x v
def keyH(w:aST):Key->Int
 |.inl k=>hashInt k
 |.inr x=>hashStr w x
def fA:∀{k:Key}{v:aSQ},iN k v=true->(∃i t,k=Sum.inl i/\v=Value.int i t)\/(∃x t,k=Sum.inr x/\v=Value.str x t)
 |.inl i,v,h=>by obtain⟨t,e⟩:=Value.isInt_shape (k:=i) (v:=v) h;exact .inl ⟨i,t,rfl,e⟩
 |.inr x,v,h=>by obtain⟨t,e⟩:=Value.isStrOf_shape (x:=x) (v:=v) h;exact .inr ⟨x,t,rfl,e⟩
def aB1(i:Int)(t:Tok):iN (.inl i) (.int i t)=true:=by simp[iN,Value.isInt]
def aB2(x:Str)(t:Tok):iN (.inr x) (.str x t)=true:=by simp[iN,Value.isStrOf]
def aB3(a b:Int):decide ((Sum.inl a:Key)=Sum.inl b)=(a==b):=by
 by_cases e:a=b
 . subst e;simp
 . have h:¬ (Sum.inl a:Key)=Sum.inl b:=λq=>e (Sum.inl.inj q);rw[aN2 h];exact(aN3.mpr e).symm
def aB4(a b:Str):decide ((Sum.inr a:Key)=Sum.inr b)=decide (a=b):=by
 by_cases e:a=b
 . subst e;simp
 . have h:¬ (Sum.inr a:Key)=Sum.inr b:=λq=>e (Sum.inr.inj q);rw[aN2 h,aN2 e]
def aB5(a:Int)(b:Str):decide ((Sum.inl a:Key)=Sum.inr b)=false:=aN2 (λq=>nomatch q)
def aB6(a:Str)(b:Int):decide ((Sum.inr a:Key)=Sum.inl b)=false:=aN2 (λq=>nomatch q)
noncomputable def dB(prog:aSU)(w:aST):PySem.KeyKind prog w Key where
 is:=iN
 hash:=keyH w
 inj:=λv a b ha hb=>by
  rcases fA ha with⟨i,t,rfl,rfl⟩|⟨x,t,rfl,rfl⟩
  . rcases fA hb with⟨j,u,rfl,e⟩|⟨y,u,rfl,e⟩
    . injection e with e1 _;rw[e1]
    . exact nomatch e
  . rcases fA hb with⟨j,u,rfl,e⟩|⟨y,u,rfl,e⟩
    . exact nomatch e
    . injection e with e1 _;rw[e1]
 byValue:=λk v h=>by rcases fA h with⟨i,t,rfl,rfl⟩|⟨x,t,rfl,rfl⟩ <;> rfl
 pyHash:=λhv h=>by
  rcases fA hv with⟨i,t,rfl,rfl⟩|⟨x,t,rfl,rfl⟩
  . exact wpAny_pyHash_int h
  . exact wpAny_pyHash_str h
 eqBool:=λhu hv h=>by
  rcases fA hu with⟨i,t,rfl,rfl⟩|⟨x,t,rfl,rfl⟩
  . rcases fA hv with⟨j,u,rfl,rfl⟩|⟨y,u,rfl,rfl⟩
    . rw[aB3]at h;exact wpAny_eqBool_int h
    . rw[aB5]at h;exact SeqAt.EqAt.int_str i t y u _ _ _ _ h
  . rcases fA hv with⟨j,u,rfl,rfl⟩|⟨y,u,rfl,rfl⟩
    . rw[aB6]at h;exact SeqAt.EqAt.str_int x t j u _ _ _ _ h
    . rw[aB4]at h;exact wpAny_eqBool_str h
 «strs»:=λk x t v h=>by
  rcases fA h with⟨i,u,rfl,e⟩|⟨y,u,rfl,e⟩
  . exact nomatch e
  . injection e with e1 _
    subst e1;cases v <;> rfl
def aB7(prog:aSU)(w:aST)(i:Int)(t:Tok):(dB prog w).is (.inl i) (.int i t)=true:=aB1 i t
def aB8(prog:aSU)(w:aST)(x:Str)(t:Tok):(dB prog w).is (.inr x) (.str x t)=true:=aB2 x t
inductive V where
 |non|bl (b:Bool)|int (i:Int)|str (x:Str)|byt (b:Array UInt8)|flt (b:UInt64)|ref (a:Addr)|ty (n:String)
 deriving DecidableEq
def aM:V->aSQ->Prop
 |.non,u=>u=Value.none
 |.bl b,u=>u=Value.bool b
 |.int i,u=>∃t,u=Value.int i t
 |.str x,u=>∃t,u=Value.str x t
 |.byt b,u=>∃t,u=Value.bytes b t
 |.flt b,u=>∃t,u=Value.float b t
 |.ref a,u=>u=Value.ref a
 |.ty n,u=>u=Value.type n
abbrev aN:List V->List aSQ->Prop:=Paired aM
theorem aN.length{xs:List V}{us:List aSQ}(r:aN xs us):xs.length=us.length:=aN4 r
theorem aN.get:∀{xs:List V}{us:List aSQ}{i:Nat}{x:V},aN xs us->xs[i]? = some x->∃u,us[i]? = some u/\aM x u
 |_,_,_,_,.nil,e=>by simp at e
 |_,_,0,_,.cons r _,e=>by simp at e;subst e;exact⟨_,rfl,r⟩
 |_,_,i+1,x,.cons _ t,e=>by
  obtain⟨u,h1,h2⟩:=aN.get (i:=i) (x:=x) t (by simpa using e)
  exact⟨u,by simpa using h1,h2⟩
theorem aN.append:∀{xs ys:List V}{us ws:List aSQ},aN xs us->aN ys ws->aN (xs++ys) (us++ws)
 |_,_,_,_,.nil,s=>s
 |_,_,_,_,.cons r t,s=>.cons r (aN.append t s)
theorem aN.take:∀{xs:List V}{us:List aSQ} (n:Nat),aN xs us->aN (xs.take n) (us.take n)
 |_,_,0,_=>.nil
 |_,_,_+1,.nil=>.nil
 |_,_,n+1,.cons r t=>.cons r (aN.take n t)
theorem aN.drop:∀{xs:List V}{us:List aSQ} (n:Nat),aN xs us->aN (xs.drop n) (us.drop n)
 |_,_,0,r=>r
 |_,_,_+1,.nil=>.nil
 |_,_,n+1,.cons _ t=>aN.drop n t
def eP:Option V->Option aSQ->Prop
 |some v,some u=>aM v u
 |none,none=>True
 |_,_=>False
def KV{κ:Type}:List (κ×V)->List (κ×aSQ)->Prop:=Paired λ(p:κ×V) (q:κ×aSQ)=>p.1=q.1/\aM p.2 q.2
def kV:Key->V
 |.inl i=>.int i
 |.inr x=>.str x
inductive N where|i (n:Int)|s (x:Str)|t (xs:List N)
mutual
def jZ(w:aST):N->Int
 |.i n=>hashInt n
 |.s x=>hashStr w x
 |.t xs=>reduceHash (Builtin.Tuple.tupleHashOf (uL w xs))
def uL(w:aST):List N->List Int
 |[]=>[]
 |x::xs=>jZ w x::uL w xs
end
def aB9(w:aST)(x:N×Addr×aSQ):DictEntry:=⟨jZ w x.1,.ref x.2.1,x.2.2⟩
inductive HO where
 /-- a list -/
 |lst (xs:List V)
 /-- a tuple (never changes) -/
 |tup (xs:List V)
 /-- a dict whose keys are ints and texts;one whose keys are tuples of ints and texts (the empty one is both) -/
 |dK (kvs:List (Key×V))|dT (kvs:List (List Key×V))
 |dN (kvs:List (N×Addr×V))
 /-- a set of ints: its members,its size -/
 |set (S:Key->Bool) (n:Nat)
 /-- an instance of the class at C,its dict at dx,its attributes -/
 |ins (C dx:Addr) (fs:List (Str×V))
 /-- the dict of the instance at x -/
 |own (x:Addr)
 /-- the dict of an exception -/
 |xd (fs:List (Str×V))
 /-- a bound method,f of x -/
 |met (f x:Addr)
 /-- a range object lo,lo+1,.. below hi -/
 |rng (lo hi:Int)
 /-- a thing that is known to the object (the script;a dict while a loop walks it): read,never written while it is so -/
 |frz (o:Obj) (u:HO)
 /-- a code object's table -/
 |tbl (ps:Array aSQ)
 /-- a code record of that name -/
 |crec (q:Str)
 /-- any other thing,by what is true of its one object (a def of one's own: SetO a S n:=HO.ext λh=>..) -/
 |ext (φ:Heap->Prop)
abbrev Hp:=Addr->Option HO
noncomputable def aCA(q:Str):Option Str:=if q="valued.<locals>." then some "worth" else if q="lifted.<locals>." then some "lift" else none
end L2
open L2
variable {α κ:Type}{xs:List L2.V}{us:List (List Nat)}{H H' F' F1 F0 H0:L2.Hp}{b it I:Addr}{u cdv:aSQ}{h h' base hp:Heap}{items:Array aSQ}{P prog:aSU}{x q qual z tn key:Str}{e tg bI elt ke ea:Expr}{K:Fg}{aA:LAO}{t' i j c k n ep:Nat}{v y:L2.V}{Q:Unit->aSR->Prop}{s':aSR}{st:Stmt}{pos' p apos p2 cpos q' ap cp p1 q1:Pos}{body sts:List Stmt}{lo hi:Option Int}{fp:List Addr}{mg:SOV}{fd:FuncData}{ps ws loose aT tgN:List Str}{sc scope:Scope}{outer:List Env}{osl:Array (Option aSQ)}{kvs:List (List L2.Key×L2.V)}{XP:(Str->Option aSQ)->Heap->Prop}{YP:aST->Heap->Prop}{env:Env}{ifs:List Expr}{caps:List Nat}{neg:Bool}{cl:List (Str×Addr)}{fa:Str->Addr}
namespace L2
def aCB(q:Str)(l:Nat):Str:=match aCA q with
 |some n=>n
 |none=>if q="_law_way.<locals>." then(([(274,"_law_wheeled"),(277,"_law_whether"),(280,"_law_priced"),(285,"_law_halved"),(288,"_law_paired"),(291,"_law_heaped")]:List (Nat×Str)).lookup l).getD "<lambda>" else "<lambda>"
inductive HT where|tup (xs:List V)|crec (q:Str)
def HT.ho:HT->HO|.tup xs=>.tup xs|.crec q=>.crec q
noncomputable def upd(H:Hp)(a:Addr)(o:HO):Hp:=λb=>if b=a then some o else H b
def bE{a:Addr}{o:HO}:upd H a o a=some o:=by unfold upd;rw[if_pos rfl]
def aP{a:Addr}{o:HO}(h:b≠a):upd H a o b=H b:=by unfold upd;rw[if_neg h]
def ne_of{a:Addr}{o u:HO}(h:H a=some o)(h':H b=some u)(d:o≠u):a≠b:=by intro e;subst e;rw[h]at h';exact d (aN5 h')
def bV{a:Addr}{o:HO}(h:H a=some o)(h':H b=none):a≠b:=by intro e;subst e;rw[h]at h';cases h'
def fM(h:Heap)(a:Addr)(items:Array aSQ):Prop:=∃o,h.get? a=some o/\o.cls=.type "tuple" /\ o.dict=none/\∃n,o.data=.seq items n
def fM.isTup{a:Addr}(x:fM h a items):IsTup h a items:=by obtain⟨o,e,c,_,n,d⟩:=x;exact⟨o,e,c,n,d⟩
def fM.new(h:Heap)(items:Array aSQ):fM (h.push { cls:=.type "tuple", data:=.seq items }) h.objs.size items:=⟨_,aN6 _ rfl,rfl,rfl,_,rfl⟩
section
variable (P:aSU)(w:aST)
def bO(H:Hp)(h:Heap)(a:Addr):HO->Prop
 |.lst xs=>xs.length<=sizeLine/\∃(its:List aSQ) (n:Nat),aN xs its/\h.get? a=some { cls:=.type "list", data:=.seq its.toArray n }
 |.tup xs=>xs.length<=sizeLine/\∃its:List aSQ,aN xs its/\fM h a its.toArray
 |.dK kvs=>kvs.length<=sizeLine/\(a==sysModules)=false/\∃vs,KV kvs vs/\h.DictOf (dB P w) a vs
 | .dT kvs => kvs.length ≤ sizeLine ∧ (a == sysModules) = false ∧ ∃ xs : List (List Key × Addr × aSQ),
     Paired (λ(p:List Key×V) (q:List Key×Addr×aSQ)=>p.1=q.1/\H q.2.1=some (.tup (p.1.map kV))/\aM p.2 q.2.2) kvs xs /\
     ∃o es ep,h.get? a=some o/\o.ExactDict/\o.data=.dict es ep/\es.toList=xs.map (entryOfKey (tupleKind (dB P w)))/\(xs.map (·.1)).Nodup
 | .dN kvs => kvs.length ≤ sizeLine ∧ (a == sysModules) = false ∧ ∃ xs : List (N × Addr × aSQ), Paired (fun (p : N × Addr × V) (q : N × Addr × aSQ) => p.1 = q.1 ∧ p.2.1 = q.2.1 ∧ aM p.2.2 q.2.2) kvs xs ∧
     ∃o es ep,h.get? a=some o/\o.ExactDict/\o.data=.dict es ep/\es.toList=xs.map (aB9 w)/\(xs.map (·.1)).Nodup
 |.set S n=>h.SetOf (dB P w) a S n
 | .ins C dx fs => H dx = some (.own a) ∧ fs.length ≤ 1000 ∧ dx ≠ a ∧ h.get? a = some (W.instObj C dx) ∧
     ∃mA,h.Ns1 dx mA/\(∀f,eP (fs.lookup f) (mA f))/\PySem.Within mA (fs.map (·.1))
 |.own _=>∃o,h.get? a=some o
 |.xd fs=>∃mA,h.Ns1 a mA/\∀f,eP (fs.lookup f) (mA f)
 |.rng lo hi=>∃t u v,h.get? a=some { cls:=.type "range", data:=.fields #[.int lo t,.int hi u,.int 1 v] }
 |.frz o u=>h.get? a=some o/\bO H h a u
 |.tbl ps=>∃(q:Str) (m:Array aSQ),ps[0]? = some (.str q 0)/\h.get? a=some ⟨.none,none,.fields m,#[]⟩/\TriplesOk m.toList/\∀z cv,codeAmong z m.toList=some cv->∃c,cv=.ref c/\H c=some (.crec (q++aCB q z.line))
 |.crec q=>∃oc vs t,h.get? a=some oc/\oc.data=.fields vs/\vs[1]? = some (.str q t)
 |.met f x=>h.get? a=some (W.methodObj (.ref f) (.ref x))
 |.ext φ=>φ h/\(∃o,h.get? a=some o)/\∀h1 h2:Heap,φ h1->(∀o,h1.get? a=some o->h2.get? a=some o)->φ h2
def HOk(H:Hp)(h:Heap):Prop:=∀a o,H a=some o->bO P w H h a o
end
section
variable {w:aST}{a:Addr}{o:HO}
theorem bO.lt(x:bO P w H h a o):a<h.objs.size:=by
 cases o with
 |lst xs=>obtain⟨_,_,_,_,e⟩:=x;exact aN7 e
 |tup xs=>obtain⟨_,_,_,p⟩:=x;exact p.isTup.lt
 |dK kvs=>obtain⟨_,_,_,_,o,_,_,e,_⟩:=x;exact aN7 e
 |dT kvs=>obtain⟨_,_,_,_,o,_,_,e,_⟩:=x;exact aN7 e
 |dN kvs=>obtain⟨_,_,_,_,o,_,_,e,_⟩:=x;exact aN7 e
 |set S n=>obtain⟨o,_,_,_,e,_⟩:=x;exact aN7 e
 |ins C dx fs=>obtain⟨_,_,_,e,_⟩:=x;exact aN7 e
 |own y=>obtain⟨_,e⟩:=x;exact aN7 e
 |xd fs=>obtain⟨_,⟨_,_,_,e,_⟩,_⟩:=x;exact aN7 e
 |rng lo hi=>obtain⟨_,_,_,e⟩:=x;exact aN7 e
 |frz ob u=>obtain⟨e,_⟩:=x;exact aN7 e
 |tbl ps=>obtain⟨_,_,_,e,_⟩:=x;exact aN7 e
 |crec q=>obtain⟨_,_,_,e,_⟩:=x;exact aN7 e
 |met f y=>exact aN7 (show h.get? a=some _ from x)
 |ext φ=>obtain⟨_,⟨_,e⟩,_⟩:=x;exact aN7 e
theorem Paired.mapP{α β:Type}{F G:α->β->Prop}:∀{l₁:List α}{l₂:List β},Paired F l₁ l₂->(∀a b,F a b->G a b)->Paired G l₁ l₂
 |_,_,.nil,_=>.nil
 |_,_,.cons r t,f=>.cons (f _ _ r) (Paired.mapP t f)
def bO.stay(x:bO P w H h a o)(k:∀b u,(b=a\/H b=some (.own a))->h.get? b=some u->h'.get? b=some u)(ho:∀b,H b=some (.own a)->H' b=some (.own a))(ht:∀(b:Addr) (u:HT),H b=some u.ho->H' b=some u.ho):bO P w H' h' a o:=by
 induction o with
 |lst xs=>obtain⟨z,its,n,r,e⟩:=x;exact⟨z,its,n,r,k _ _ (.inl rfl) e⟩
 |tup xs=>obtain⟨z,its,r,ob,e,c⟩:=x;exact⟨z,its,r,ob,k _ _ (.inl rfl) e,c⟩
 |dK kvs=>obtain⟨z,y,vs,r,ob,es,ep,e,c⟩:=x;exact⟨z,y,vs,r,ob,es,ep,k _ _ (.inl rfl) e,c⟩
 |dT kvs=>obtain⟨z,y,xs,r,ob,es,ep,e,c⟩:=x;exact⟨z,y,xs,Paired.mapP r λp q z=>⟨z.1,ht _ (.tup _) z.2.1,z.2.2⟩,ob,es,ep,k _ _ (.inl rfl) e,c⟩
 |dN kvs=>obtain⟨z,y,xs,r,ob,es,ep,e,c⟩:=x;exact⟨z,y,xs,r,ob,es,ep,k _ _ (.inl rfl) e,c⟩
 |set S n=>obtain⟨ob,es,ep,t,e,c⟩:=x;exact⟨ob,es,ep,t,k _ _ (.inl rfl) e,c⟩
 |ins C dx fs=>obtain⟨d,z,ne,e,mA,⟨od,es,ep,e2,c⟩,r⟩:=x;exact⟨ho _ d,z,ne,k _ _ (.inl rfl) e,mA,⟨od,es,ep,k _ _ (.inr d) e2,c⟩,r⟩
 |own y=>obtain⟨ob,e⟩:=x;exact⟨ob,k _ _ (.inl rfl) e⟩
 |xd fs=>obtain⟨mA,⟨od,es,ep,e,c⟩,r⟩:=x;exact⟨mA,⟨od,es,ep,k _ _ (.inl rfl) e,c⟩,r⟩
 |rng lo hi=>obtain⟨t,u,v,e⟩:=x;exact⟨t,u,v,k _ _ (.inl rfl) e⟩
 |frz ob u ih=>obtain⟨e,q⟩:=x;exact⟨k _ _ (.inl rfl) e,ih q⟩
 |tbl ps =>
  obtain⟨q,m,e1,e2,e3,e4⟩:=x;exact⟨q,m,e1,k _ _ (.inl rfl) e2,e3,λz cv f=>by
   obtain⟨c,g1,g2⟩:=e4 z cv f;exact⟨c,g1,ht _ (.crec _) g2⟩⟩
 |crec q=>obtain⟨oc,vs,t,e,r⟩:=x;exact⟨oc,vs,t,k _ _ (.inl rfl) e,r⟩
 |met f y=>have e:h.get? a=some (W.methodObj (.ref f) (.ref y)):=x;show h'.get? a=some (W.methodObj (.ref f) (.ref y));exact k a _ (.inl rfl) e
 |ext φ=>obtain⟨p,⟨o,e⟩,st⟩:=x;exact⟨st _ _ p λo q=>k _ _ (.inl rfl) q,⟨o,k _ _ (.inl rfl) e⟩,st⟩
theorem HOk.lt(x:HOk P w H h)(e:H a=some o):a<h.objs.size:=(x a o e).lt
def HOk.fresh(x:HOk P w H h)(e:h.objs.size<=a):H a=none:=by
 cases q:H a with
 |none=>rfl
 |some u=>exact absurd (aN8 (x.lt q) e) (aN9 _)
def HOk.kept(x:HOk P w H h)(k:∀b u,h.get? b=some u->h'.get? b=some u):HOk P w H h':=λa o e =>
 (x a o e).stay (λb u _ q=>k b u q) (λ_ q=>q) λ_ _ q=>q
def HOk.laid(x:HOk P w H h)(k:∀b u,h.get? b=some u->h'.get? b=some u)(hp:h.objs.size<=a)(new:bO P w (upd H a o) h' a o):HOk P w (upd H a o) h':=λb u e=>by
 have hn:=x.fresh hp;by_cases hb:b=a
 . subst hb;rw[bE]at e;cases e;exact new
 . rw[aP hb]at e;exact(x b u e).stay (λc v _ q=>k c v q) (λc q=>by rw[aP (bV q hn)];exact q) λc xs q=>by rw[aP (bV q hn)];exact q
end
def Rd(H:Hp)(a:Addr)(u:HO):Prop:=H a=some u\/∃o,H a=some (.frz o u)
def Rd.ok{w:aST}{a:Addr}{u:HO}(r:Rd H a u)(x:HOk P w H h):bO P w H h a u:=by
 rcases r with r|⟨o,r⟩
 . exact x a u r
 . obtain⟨_,q⟩:=x a _ r;exact q
def Mut:Option HO->Prop
 |some (.lst _)=>True
 |some (.dK _)=>True
 |some (.dT _)=>True
 |some (.dN _)=>True
 |some (.set _ _)=>True
 |some (.ins _ _ _)=>True
 |some (.ext _)=>True
 |_=>False
section
variable {w:aST}{x e:Addr}{o':HO}
def HOk.write(ok:HOk P w H h)(mu:Mut (H x))(he:e=x\/H e=some (.own x))(k:∀b u,b≠e->h.get? b=some u->h'.get? b=some u)(heo:∃u,h'.get? e=some u)(new:bO P w (upd H x o') h' x o'):HOk P w (upd H x o') h':=λb u q=>by
 have nown:∀c y,H c=some (.own y)->c≠x:=λc y r z=>by subst z;rw[r]at mu;exact mu
 have ntup:∀(c:Addr) (u:HT),H c=some u.ho->c≠x:=λc u r z=>by subst z;rw[r]at mu;cases u <;> exact mu
 by_cases hb:b=x
 . subst hb;rw[bE]at q;cases q;exact new
 . rw[aP hb]at q;by_cases hbe:b=e
   . have q':H b=some (.own x):=by
       rcases he with z|z
       . exact absurd (hbe.trans z) hb
       . rw[hbe];exact z
     rw[q]at q';cases q';obtain⟨v,hv⟩:=heo;exact⟨v,by rw[hbe];exact hv⟩
   . refine(ok b u q).stay (λc v hc r=>k c v ?_ r) (λc r=>by rw[aP (nown c b r)];exact r) λc xs r=>by rw[aP (ntup c xs r)];exact r
     rcases hc with rfl|hc
     . exact hbe
     . rintro rfl;rcases he with z|z
       . exact nown c b hc z
       . rw[hc]at z;cases z;exact hb rfl
end
structure Un(fs ex:List Addr)(H H':Hp)(h h':Heap):Prop where
 keep:∀b o,h.get? b=some o->H b=none->b∉fs->b∉ex->h'.get? b=some o
 slot:∀b o,h.get? b=some o->H b=none->b∈fs->b∉ex->∃sl,h'.get? b=some {o with slots:=sl}
 free:∀b o,h.get? b=some o->H b=none->b∉ex->H' b=none
 there:∀b o,h.get? b=some o->b∉ex->∃o',h'.get? b=some o'
 tups:∀b xs,H b=some (.tup xs)->H' b=some (.tup xs)
 frzs:∀b o u,H b=some (.frz o u)->H' b=some (.frz o u)
 tbls:∀b ps,H b=some (.tbl ps)->∃more,H' b=some (.tbl (ps++more))
section
variable {fs fs' ex ex':List Addr}{H1 H2:Hp}{h1 h2:Heap}{a x e:Addr}{o:HO}
def Un.any(u:Un fs ex H H1 h h1){ob:Obj}(q:h.get? b=some ob)(n:H b=none)(hx:b∉ex):∃sl,h1.get? b=some {ob with slots:=sl}:=by
 by_cases hb:b∈fs
 . exact u.slot b ob q n hb hx
 . exact⟨ob.slots,u.keep b ob q n hb hx⟩
def Un.kept(k:∀b u,h.get? b=some u->h'.get? b=some u):Un fs ex H H h h' :=
 ⟨λb ob q _ _ _=>k b ob q,λb ob q _ _ _=>⟨ob.slots,k b ob q⟩,λ_ _ _ n _=>n,λb ob q _=>⟨ob,k b ob q⟩,λ_ _ q=>q,λ_ _ _ q=>q,λ_ ps q=>⟨#[],by rw[q];simp⟩⟩
def Un.refl:Un fs ex H H h h:=Un.kept λ_ _ q=>q
def Un.laid(k:∀b u,h.get? b=some u->h'.get? b=some u)(hp:h.objs.size<=a)(hn:H a=none):Un fs ex H (upd H a o) h h' where
 keep:=λb u q _ _ _=>k b u q
 slot:=λb u q _ _ _=>⟨u.slots,k b u q⟩
 free:=λb u q n _=>by rw[aP (aOA (aN8 (aN7 q) hp))];exact n
 there:=λb u q _=>⟨u,k b u q⟩
 tups:=λb xs q=>by rw[aP (bV q hn)];exact q
 frzs:=λb u xs q=>by rw[aP (bV q hn)];exact q
 tbls:=λb ps q=>⟨#[],by rw[aP (bV q hn),q];simp⟩
def Un.write(mu:Mut (H x))(he:e=x\/H e=some (.own x))(k:∀b u,b≠e->h.get? b=some u->h'.get? b=some u)(heo:∃u,h'.get? e=some u):Un fs ex H (upd H x o) h h':=by
 have hx:∀b,H b=none->b≠x:=λb n z=>by subst z;rw[n]at mu;exact mu
 have hb:∀b,H b=none->b≠e:=λb n z=>by
  subst z;rcases he with r|r
  . exact hx b n r
  . rw[n]at r;cases r
 have hm:∀b u,H b=some u -> ¬ Mut (some u)->b≠x:=λb u q nm z=>by subst z;rw[q]at mu;exact nm mu
 refine⟨λb u q n _ _=>k b u (hb b n) q,λb u q n _ _=>⟨u.slots,k b u (hb b n) q⟩,λb u q n _=>by rw[aP (hx b n)];exact n,λb u q _=>?_,
  λb xs q=>by rw[aP (hm b _ q λz=>z)];exact q,λb u xs q=>by rw[aP (hm b _ q λz=>z)];exact q,λb ps q=>⟨#[],by rw[aP (hm b _ q λz=>z),q];simp⟩⟩
 by_cases hbe:b=e
 . subst hbe;exact heo
 . exact⟨u,k b u hbe q⟩
end
def trk(h:Heap)(H:Hp):List Addr:=(List.range h.objs.size).filter λa=>(H a).isSome
def fB(h:Heap)(H:Hp):Heap:=W.hideAll h (trk h H)
def aCC(h:Heap)(H:Hp):(fB h H).objs.size=h.objs.size:=W.hideAll_size _ _
def oR{o:Obj}(e:h.get? b=some o)(n:H b=none):(fB h H).get? b=some o :=
 W.hideAll_get _ e λhm=>by have q:(H b).isSome=true:=(aOB.mp hm).2;rw[n]at q;simp at q
def aCD{o:Obj}(e:(fB h H).get? b=some o):h.get? b=some o/\H b=none:=by
 have e':h.get? b=some o:=W.of_hideAll (trk h H) e;refine⟨e',?_⟩;cases q:H b with
 |none=>rfl
 |some x =>
  have hm:b∈trk h H:=aOB.mpr ⟨aOC.mpr (aN7 e'),by simp[q]⟩
  have z:(fB h H).get? b=none:=W.hideAll_none (trk h H) hm;rw[z]at e;cases e
def aCE(g h:Heap)(L:Addr):LAO:=(List.range h.objs.size).filterMap λa=>if a=L\/(g.get? a).isSome=true then none else(h.get? a).map λo=>(a,o)
def rest(g h:Heap)(L d:Addr):LAO:=(aCE g h L).filter λp=>decide (p.1≠d)
structure Mod(K:Fg)(mg:SOV)(base:Heap):Prop where
 kin:K.In base
 glob:base.Ns mainGlobals mg
 blt:∃mb,base.Ns builtinsNs mb/\∀x:Str,x ≠ "__name__" -> mb x=bootBuiltins x
 nolimit:base.NoLimit
 bmod:∃bm ob,mg "__builtins__" = some (.ref bm)/\bm≠builtinsNs/\base.get? bm=some ob/\ob.cls=.type "module" /\ ob.dict=some builtinsNs/\ob.data=.plain
def CdT(base:Heap)(H:Hp)(q:Str)(cd:aSQ):Prop:=∃c T ps,cd=.ref c/\W.CodeHd base c T/\H T=some (.tbl ps)/\ps[0]? = some (.str (q ++ ".<locals>.") 0)
def CdT.mono{cd:aSQ}(x:CdT base H q cd)(t:∀b ps,H b=some (.tbl ps)->∃more,H' b=some (.tbl (ps++more))):CdT base H' q cd:=by
 obtain⟨c,T,ps,e1,e2,e3,e4⟩:=x;obtain⟨m,e5⟩:=t T ps e3;refine⟨c,T,_,e1,e2,e5,?_⟩;rw[Array.getElem?_append_left (by have:=(aOD.mp e4).1;exact this)]
 exact e4
def iO(K:Fg)(base:Heap)(H:Hp):Prop:=∀cd q,W.codeIn K cd q=true->CdT base H q cd
theorem iO.mono(x:iO K base H)(t:∀b ps,H b=some (.tbl ps)->∃more,H' b=some (.tbl (ps++more))):iO K base H':=λcd q e=>(x cd q e).mono t
structure Cx where
 prog:aSU
 w:aST
 K:Fg
 mg:SOV
 base:Heap
 A:aSS
 N:List Str
 s₀:aSR
 H₀:Hp
 env:Env
 outer:List Env
 stack:List Env
 ex:List Addr
 fn:Str->Bool
 calm:Bool
 pn:LAO
 xe:VSP
def frs(l:List Env):List Addr:=l.filterMap (·.frame)
end L2
variable {X:L2.Cx}
namespace L2
abbrev Cx.fs(X:Cx):List Addr:=frs X.outer
def Vis(sc:Scope)(x:Str):Prop:=sc.names.lookup x=some .local\/sc.names.lookup x=some .cell\/sc.names.lookup x=some .free
def Loc(sc:Scope)(x:Str):Prop:=sc.names.lookup x=some .local\/sc.names.lookup x=some .cell
def Look(env:Env)(h:Heap)(m:SOV)(x:Str)(u:aSQ):Prop :=
 (env.kindOf x=some .local/\m x=some u)\/((env.kindOf x=some .cell\/env.kindOf x=some .free)/\∃c,env.cells.lookup x=some c/\h.IsCell c (some u))
structure Cx.Ok(X:Cx):Prop where
 mod:Mod X.K X.mg X.base
 kind:X.env.scope.kind=.function
 glob:X.env.globals=mainGlobals
 blt:X.env.builtins=builtinsNs
 above:X.s₀.heap.objs.size<=X.env.locals
 inj:∀x y c,X.env.cells.lookup x=some c->X.env.cells.lookup y=some c->x=y
 has:∀x,(X.env.kindOf x=some .cell\/X.env.kindOf x=some .free)->∃c,X.env.cells.lookup x=some c
 cab:∀x c,X.fn x=true->X.env.cells.lookup x=some c->X.s₀.heap.objs.size<=c
 hd:X.calm=true->X.A.handled=none
 frames:X.A.frames=some X.stack
 stk:X.stack=X.outer\/(X.stack=X.env::X.outer/\X.env.frame=some X.env.locals)
 exf:∀b∈X.ex,b≠X.env.locals/\∀x c,X.env.cells.lookup x=some c->c≠b
 bs:∀b o,X.base.get? b=some o->X.s₀.heap.get? b=some o/\X.H₀ b=none
 bsz:X.base.objs.size<=X.s₀.heap.objs.size
 noex:∀b o,X.base.get? b=some o->b∉X.ex
 exfs:∀b∈X.ex,b∉X.fs
 funs:X.s₀.heap.FunFrames X.base X.outer
 frf:∀b∈X.fs,X.H₀ b=none
 tabs:iO X.K X.base X.H₀
structure Inv(X:Cx)(aA:LAO)(σ:List (Option V))(H:Hp)(s:aSR):Prop where
 ok:X.Ok
 os:s.os=X.s₀.os
 bare:AllBare s.gens
 base:Un X.fs X.ex X.H₀ H X.s₀.heap s.heap
 loc:∃m,s.heap.Ns X.env.locals m/\∀(i:Nat) (x:Str) (v:V),X.N[i]? = some x->σ[i]? = some (some v)->Vis X.env.scope x->∃u,aM v u/\Look X.env s.heap m x u
 cell:∀x c,X.env.cells.lookup x=some c->∃v,s.heap.IsCell c v
 free:H X.env.locals=none
 freeC:∀x c,X.env.cells.lookup x=some c->H c=none
 pin:∀p∈X.pn++aA,s.heap.get? p.1=some p.2/\H p.1=none/\p.1≠X.env.locals/\p.1∉X.fs/\∀v,p.2.data ≠ .cell v
 hok:HOk X.prog X.w H s.heap
 len:σ.length=X.N.length
section
variable {σ:List (Option V)}{s:aSR}
def Cx.Ok.nofr(ok:X.Ok){o:Obj}(e:X.base.get? b=some o):b∉X.fs:=λhb=>by have:=(ok.funs.mem hb).1;rw[e]at this;cases this
theorem Inv.bs(I:Inv X aA σ H s):∀b o,X.base.get? b=some o->s.heap.get? b=some o/\H b=none:=λb o e =>
 ⟨I.base.keep b o (I.ok.bs b o e).1 (I.ok.bs b o e).2 (I.ok.nofr e) (I.ok.noex b o e),I.base.free b o (I.ok.bs b o e).1 (I.ok.bs b o e).2 (I.ok.noex b o e)⟩
def Inv.bk(I:Inv X aA σ H s):∀b o,X.base.get? b=some o->s.heap.get? b=some o:=λb o e=>(I.bs b o e).1
theorem Inv.mod(I:Inv X aA σ H s):Mod X.K X.mg X.base:=I.ok.mod
def Inv.kIn(I:Inv X aA σ H s):X.K.In s.heap:=I.ok.mod.kin.keeps I.bk
theorem Inv.lt(I:Inv X aA σ H s):X.env.locals<s.heap.objs.size:=let⟨_,hn,_⟩:=I.loc;hn.lt
def Inv.sz(I:Inv X aA σ H s):X.s₀.heap.objs.size<=s.heap.objs.size:=aOE I.ok.above (Nat.le_of_lt I.lt)
def Inv.nofs(I:Inv X aA σ H s){a:Addr}(h:s.heap.objs.size<=a):a∉X.fs:=λhb=>by obtain⟨_,o,ho,_⟩:=I.ok.funs.mem hb;exact absurd (aN8 (aN7 ho) (aOE I.sz h)) (aN9 _)
def Inv.cne(I:Inv X aA σ H s):∀x c,X.env.cells.lookup x=some c->c≠X.env.locals:=λx c e z=>by obtain⟨v,o,ho,hd⟩:=I.cell x c e;obtain⟨m,⟨o',es,ep,ho',hd',_⟩,_⟩:=I.loc;rw[z,ho']at ho;cases ho;rw[hd']at hd;cases hd
theorem Inv.funs(I:Inv X aA σ H s):s.heap.FunFrames X.base X.outer:=by
 have all:∀(l:List Env),(∀b∈frs l,b∈X.fs)->X.s₀.heap.FunFrames X.base l->s.heap.FunFrames X.base l:=by
  intro l
  induction l with
  |nil=>intro _ _;trivial
  |cons env r ih =>
   intro hs hl;obtain⟨hk,⟨L,o,hf,hn,ho,hd⟩,hr⟩:=hl;have hL:L∈X.fs:=hs L (by unfold frs;rw[aOF,hf];exact mcs)
   obtain⟨sl,e⟩:=I.base.slot L o ho (I.ok.frf L hL) hL λz=>I.ok.exfs L z hL;exact⟨hk,⟨L,_,hf,hn,e,hd⟩,ih (λb hb=>hs b (by unfold frs;rw[aOF,hf];exact mcm hb)) hr⟩
 exact all X.outer (λ_ hb=>hb) I.ok.funs
theorem Inv.stack(I:Inv X aA σ H s):s.heap.FunFrames X.base X.stack:=by
 rcases I.ok.stk with e|⟨e,hf⟩
 . rw[e];exact I.funs
 . rw[e];obtain⟨m,hn,_⟩:=I.loc;refine .cons (by rw[I.ok.kind];decide) hf hn ?_ I.funs
   exact Heap.get?_none_of_le (aOE I.ok.bsz I.ok.above)
def Inv.stkSub(I:Inv X aA σ H s):∀b∈frs X.stack,b∈X.env.locals::X.fs:=λb hb=>by
 rcases I.ok.stk with e|⟨e,hf⟩
 . rw[e]at hb;exact mcm hb
 . rw[e]at hb;unfold frs at hb;rw[aOF,hf]at hb;exact hb
def Inv.stkFree(I:Inv X aA σ H s):∀b∈frs X.stack,H b=none:=λb hb=>by
 rcases aOG.mp (I.stkSub b hb)with e|hb
 . rw[e];exact I.free
 . obtain⟨_,o,ho,_⟩:=I.ok.funs.mem hb;exact I.base.free b o ho (I.ok.frf b hb) λz=>I.ok.exfs b z hb
def Inv.step{g':Array GenState}{d':Drawn}{ch:List Addr}(I:Inv X aA σ H s)(hch:∀b∈ch,(b∈X.ex\/X.s₀.heap.objs.size<=b)/\b≠X.env.locals/\(∀x c,X.env.cells.lookup x=some c->c≠b)/\∀p∈X.pn++aA,p.1≠b)(keep:∀b o,b≠X.env.locals->b∉X.fs->b∉ch->s.heap.get? b=some o->H b=none->h'.get? b=some o)(slot:∀b o,b≠X.env.locals->b∈X.fs->b∉ch->s.heap.get? b=some o->H b=none->∃sl,h'.get? b=some {o with slots:=sl})(free:∀b o,b∉ch->s.heap.get? b=some o->H b=none->H' b=none)(there:∀b o,b∉ch->s.heap.get? b=some o->∃o',h'.get? b=some o')(tups:∀b xs,H b=some (.tup xs)->H' b=some (.tup xs))(frzs:∀b o u,H b=some (.frz o u)->H' b=some (.frz o u))(tbls:∀b ps,H b=some (.tbl ps)->∃more,H' b=some (.tbl (ps++more)))(ns:∀m,s.heap.Ns X.env.locals m->h'.Ns X.env.locals m)(hok:HOk X.prog X.w H' h')(hg:AllBare g'):Inv X aA σ H' {s with heap:=h',gens:=g',drawn:=d',toks:=t'}:=by
 have neL:∀b o,X.s₀.heap.get? b=some o->b≠X.env.locals:=λb o e=>aOA (aN8 (aN7 e) I.ok.above);have neC:∀b o,X.s₀.heap.get? b=some o->b∉X.ex->b∉ch:=λb o e hx hb=>by
  rcases(hch b hb).1 with z|z
  . exact hx z
  . exact absurd (aN8 (aN7 e) z) (aN9 _)
 have cellK:∀x c,X.env.cells.lookup x=some c->∀v,s.heap.IsCell c v->h'.IsCell c v:=λx c e v ⟨o,ho,hd⟩=>by
  have nch:c∉ch:=λz=>(hch c z).2.2.1 x c e rfl;by_cases hc:c∈X.fs
  . obtain⟨sl,q⟩:=slot c o (I.cne x c e) hc nch ho (I.freeC x c e);exact⟨_,q,hd⟩
  . exact⟨o,keep c o (I.cne x c e) hc nch ho (I.freeC x c e),hd⟩
 refine⟨I.ok,I.os,hg,⟨λb o e n hb hx=>?_,λb o e n hb hx=>?_,λb o e n hx=>?_,λb o e hx=>?_,λb xs e=>tups b xs (I.base.tups b xs e),λb o xs e=>frzs b o xs (I.base.frzs b o xs e),λb ps e=>?_⟩,?_,λx c e=>?_,?_,λx c e=>?_,λp hp=>?_,hok,I.len⟩
 . exact keep b o (neL b o e) hb (neC b o e hx) (I.base.keep b o e n hb hx) (I.base.free b o e n hx)
 . obtain⟨sl,e1⟩:=I.base.slot b o e n hb hx;obtain⟨sl',e2⟩:=slot b _ (neL b o e) hb (neC b o e hx) e1 (I.base.free b o e n hx);exact⟨sl',e2⟩
 . obtain⟨o',e1⟩:=I.base.there b o e hx;exact free b o' (neC b o e hx) e1 (I.base.free b o e n hx)
 . obtain⟨o',e1⟩:=I.base.there b o e hx;exact there b o' (neC b o e hx) e1
 . obtain⟨m1,e1⟩:=I.base.tbls b ps e;obtain⟨m2,e2⟩:=tbls b _ e1;exact⟨m1++m2,by rw[e2,Array.append_assoc]⟩
 . obtain⟨m,hn,hl⟩:=I.loc;refine⟨m,ns m hn,λi x v e1 e2 e3=>?_⟩;obtain⟨u,r,l⟩:=hl i x v e1 e2 e3;refine⟨u,r,?_⟩;rcases l with l|⟨k,c,e,z⟩
   . exact .inl l
   . exact .inr ⟨k,c,e,cellK x c e _ z⟩
 . obtain⟨v,z⟩:=I.cell x c e;exact⟨v,cellK x c e v z⟩
 . obtain⟨m,⟨o,_,_,ho,_⟩,_⟩:=I.loc;exact free _ o (λz=>(hch _ z).2.1 rfl) ho I.free
 . obtain⟨v,o,ho,hd⟩:=I.cell x c e;exact free c o (λz=>(hch c z).2.2.1 x c e rfl) ho (I.freeC x c e)
 . obtain⟨e,n,ne,nf,d⟩:=I.pin p hp;have nch:p.1∉ch:=λz=>(hch p.1 z).2.2.2 p hp rfl;exact⟨keep p.1 p.2 ne nf nch e n,free p.1 p.2 nch e n,ne,nf,d⟩
def Inv.un(I:Inv X aA σ H s)(u:Un X.fs [] H H' s.heap h')(hok:HOk X.prog X.w H' h'):Inv X aA σ H' {s with heap:=h',toks:=t'}:=by
 obtain⟨m,⟨o,es,ep,ho,r⟩,_⟩:=id I.loc;obtain⟨sl,hL⟩:=u.any ho I.free (by simp)
 exact I.step (g':=s.gens) (d':=s.drawn) (ch:=[]) (λ_ z=>nomatch z) (λb o _ hb _ e n=>u.keep b o e n hb (by simp)) (λb o _ hb _ e n=>u.slot b o e n hb (by simp)) (λb o _ e n=>u.free b o e n (by simp)) (λb o _ e=>u.there b o e (by simp)) u.tups u.frzs u.tbls (λm' hm=>by
  obtain⟨o',es',ep',ho',r'⟩:=hm;rw[ho]at ho';cases ho';exact⟨_,es',ep',hL,r'⟩) hok I.bare
def Inv.call{g':Array GenState}{d':Drawn}{ch:List Addr}(I:Inv X aA σ H s)(u:Un (frs X.stack) ch H H' s.heap h')(hok:HOk X.prog X.w H' h')(hg:AllBare g')(hch:∀b∈ch,(b∈X.ex\/X.s₀.heap.objs.size<=b)/\b≠X.env.locals/\(∀x c,X.env.cells.lookup x=some c->c≠b)/\∀p∈X.pn++aA,p.1≠b):Inv X aA σ H' {s with heap:=h',gens:=g',drawn:=d',toks:=t'}:=by
 obtain⟨m,⟨o,es,ep,ho,r⟩,_⟩:=id I.loc;obtain⟨sl,hL⟩:=u.any ho I.free λz=>(hch _ z).2.1 rfl;exact I.step (ch:=ch) hch (λb o hL hb hc e n=>u.keep b o e n (λz=>(aOG.mp (I.stkSub b z)).elim hL hb) hc) (λb o _ _ hc e n=>u.any e n hc) (λb o hc e n=>u.free b o e n hc) (λb o hc e=>u.there b o e hc) u.tups u.frzs u.tbls (λm' hm=>by
  obtain⟨o',es',ep',ho',r'⟩:=hm;rw[ho]at ho';cases ho';exact⟨_,es',ep',hL,r'⟩) hok hg
def Inv.turned(I:Inv X aA σ H s)(k:∀b o,b≠it->s.heap.get? b=some o->h'.get? b=some o)(hn:H it=none)(hL:it≠X.env.locals)(h1:it∈X.ex\/X.s₀.heap.objs.size<=it)(h2:∀x c,X.env.cells.lookup x=some c->c≠it)(h3:∀p∈X.pn++aA,p.1≠it):Inv X aA σ H {s with heap:=h',toks:=t'}:=by
 have nit:∀b u,H b=some u->b≠it:=λb u e z=>by rw[z,hn]at e;cases e
 refine I.step (g':=s.gens) (d':=s.drawn) (ch:=[it]) (λb hb=>?_) (λb o _ _ hc e _=>k b o (λz=>hc (by simp[z])) e) (λb o _ _ hc e _=>⟨o.slots,k b o (λz=>hc (by simp[z])) e⟩) (λ_ _ _ _ n=>n)
  (λb o hc e=>⟨o,k b o (λz=>hc (by simp[z])) e⟩) (λ_ _ e=>e) (λ_ _ _ e=>e) (λb ps e=>⟨#[],by rw[e];simp⟩) (λm hm=>?_) (λb u e=>?_) I.bare
 . have e:b=it:=by simpa using hb
   subst e;exact⟨h1,hL,h2,h3⟩
 . obtain⟨o,es,ep,ho,r⟩:=hm;exact⟨o,es,ep,k _ o (Ne.symm hL) ho,r⟩
 . refine(I.hok b u e).stay (λc v hc q=>k c v ?_ q) (λ_ q=>q) λ_ _ q=>q;rcases hc with z|z
   . rw[z];exact nit b u e
   . exact nit c _ z
def Inv.tok(I:Inv X aA σ H s)(t:Nat):Inv X aA σ H {s with toks:=t}:=I.un (h':=s.heap) (t':=t) Un.refl I.hok
theorem Inv.kept(I:Inv X aA σ H s)(k:∀b u,s.heap.get? b=some u->h'.get? b=some u):Inv X aA σ H {s with heap:=h',toks:=t'}:=I.un (Un.kept k) (I.hok.kept k)
theorem Inv.laid{a:Addr}{o:HO}(I:Inv X aA σ H s)(k:∀b u,s.heap.get? b=some u->h'.get? b=some u)(hp:s.heap.objs.size<=a)(new:bO X.prog X.w (upd H a o) h' a o):Inv X aA σ (upd H a o) {s with heap:=h',toks:=t'}:=I.un (Un.laid k hp (I.hok.fresh hp)) (I.hok.laid k hp new)
theorem Inv.write{x e:Addr}{o:HO}(I:Inv X aA σ H s)(mu:Mut (H x))(he:e=x\/H e=some (.own x))(k:∀b u,b≠e->s.heap.get? b=some u->h'.get? b=some u)(heo:∃u,h'.get? e=some u)(new:bO X.prog X.w (upd H x o) h' x o):Inv X aA σ (upd H x o) {s with heap:=h',toks:=t'}:=I.un (Un.write mu he k heo) (I.hok.write mu he k heo new)
def Inv.weak{σ':List (Option V)}(I:Inv X aA σ H s)(hl:σ'.length=σ.length)(w:∀(i:Nat) v,σ'[i]? = some (some v)->σ[i]? = some (some v)):Inv X aA σ' H s :=
 ⟨I.ok,I.os,I.bare,I.base,let⟨m,hn,hl'⟩:=I.loc;⟨m,hn,λi x v e1 e2 e3=>hl' i x v e1 (w i v e2) e3⟩,I.cell,I.free,I.freeC,I.pin,I.hok,hl.trans I.len⟩
def Inv.pins_of{pins':LAO}(I:Inv X aA σ H s)(h:∀p∈pins',s.heap.get? p.1=some p.2/\H p.1=none/\p.1≠X.env.locals/\p.1∉X.fs/\∀v,p.2.data ≠ .cell v):Inv X pins' σ H s :=
 ⟨I.ok,I.os,I.bare,I.base,I.loc,I.cell,I.free,I.freeC,λp hp=>(aOH.mp hp).elim (λz=>I.pin p (aOI _ z)) (h p),I.hok,I.len⟩
def uM{N:List Str}(hN:N.Nodup)(a:N[i]? = some x)(b:N[j]? = some x):i=j:=by obtain⟨h1,e1⟩:=aOJ.mp a;obtain⟨h2,e2⟩:=aOJ.mp b;exact(List.getElem_inj hN).mp (e1.trans e2.symm)
def aCF{M:Model}{A:aSS}{E:VSP}(I:Inv X aA σ H s)(hN:X.N.Nodup)(hi:X.N[i]? = some x)(hx:Loc X.env.scope x)(r:aM v u)(h:∀s',Inv X aA (σ.set i (some v)) H s'->(∃a,Heap.SameBut a s.heap s'.heap/\(a=X.env.locals\/X.env.cells.lookup x=some a))->Q () s')(hf:X.fn x=true\/X.env.scope.names.lookup x=some .local:=by first|exact .inl rfl|exact .inr rfl|assumption):wpAny M A (storeName X.env x u) Q E s:=by
 obtain⟨m,hn,hl⟩:=id I.loc;have hcls:(X.env.scope.kind == .class||(X.env.scope.kind == .module&&X.env.locals != X.env.globals))=false:=by rw[I.ok.kind];rfl
 have hiσ:i<σ.length:=by rw[I.len];exact(aOJ.mp hi).1
 have cne:=I.cne;have tracked:∀{a:Addr}{h':Heap},(∃o,s.heap.get? a=some o/\H a=none)->Heap.SameBut a s.heap h'->HOk X.prog X.w H h':=λ{a h'} ha hs b ob e=>by
  obtain⟨_,_,eO⟩:=ha;refine(I.hok b ob e).stay (λc w' hc q=>(hs.2 c ?_).trans q) (λ_ q=>q) λ_ _ q=>q;rintro rfl;rcases hc with rfl|hc
  . rw[eO]at e;cases e
  . rw[eO]at hc;cases hc
 rcases hx with hk|hk
 . refine wpAny_storeName_local hk hn (λh' hn' hs=>?_) hcls;obtain⟨oL,_,_,hoL,_⟩:=id hn;refine h _ ⟨I.ok,I.os,I.bare,⟨λb o e n hb hx=>?_,λb o e n hb hx=>?_,I.base.free,λb o e hx=>?_,I.base.tups,I.base.frzs,I.base.tbls⟩,⟨_,hn',λj y v' e1 e2 e3=>?_⟩,λy c e=>?_,I.free,I.freeC,λp hp=>?_,tracked ⟨oL,hoL,I.free⟩ hs,by simpa using I.len⟩ ⟨_,hs,.inl rfl⟩
   . exact(hs.2 b (aOA (aN8 (aN7 e) I.ok.above))).trans (I.base.keep b o e n hb hx)
   . obtain⟨sl,e1⟩:=I.base.slot b o e n hb hx;exact⟨sl,(hs.2 b (aOA (aN8 (aN7 e) I.ok.above))).trans e1⟩
   . obtain⟨o',e1⟩:=I.base.there b o e hx;exact⟨o',(hs.2 b (aOA (aN8 (aN7 e) I.ok.above))).trans e1⟩
   . by_cases hj:j=i
     . subst hj;rw[hi]at e1;cases e1;rw[aOK hiσ]at e2;cases e2;exact⟨u,r,.inl ⟨hk,by simp⟩⟩
     . rw[aOL (Ne.symm hj)]at e2;obtain⟨u',r',q⟩:=hl j y v' e1 e2 e3;refine⟨u',r',?_⟩;rcases q with⟨k,e⟩|⟨k,c,e,z⟩
       . refine .inl ⟨k,?_⟩;have:y≠x:=λe=>hj (uM hN e1 (e ▸ hi));simp[this,e]
       . exact .inr ⟨k,c,e,z.sameBut hs (cne y c e)⟩
   . obtain⟨w',z⟩:=I.cell y c e;exact⟨w',z.sameBut hs (cne y c e)⟩
   . obtain⟨e,n,ne,nf,d⟩:=I.pin p hp;exact⟨(hs.2 p.1 ne).trans e,n,ne,nf,d⟩
 . have hfn:X.fn x=true:=by
     rcases hf with z|z
     . exact z
     . rw[z]at hk;cases hk
   obtain⟨c,hc⟩:=I.ok.has x (.inl hk);obtain⟨w',z⟩:=I.cell x c hc;refine wpAny_storeName_cell I.ok.kind hk hc z (λh' hc' hs=>?_);obtain⟨oc,hoc,hocd⟩:=id z;refine h {s with heap:=h'} ⟨I.ok,I.os,I.bare,⟨λb o e n hb hx=>?_,λb o e n hb hx=>?_,I.base.free,λb o e hx=>?_,I.base.tups,I.base.frzs,I.base.tbls⟩,⟨m,hn.sameBut hs (Ne.symm (cne x c hc)),λj y v' e1 e2 e3=>?_⟩,λy c' e=>?_,I.free,I.freeC,λp hp=>?_,tracked ⟨oc,hoc,I.freeC x c hc⟩ hs,by simpa using I.len⟩ ⟨c,hs,.inr hc⟩
   . exact(hs.2 b (aOA (aN8 (aN7 e) (I.ok.cab x c hfn hc)))).trans (I.base.keep b o e n hb hx)
   . obtain⟨sl,e1⟩:=I.base.slot b o e n hb hx;exact⟨sl,(hs.2 b (aOA (aN8 (aN7 e) (I.ok.cab x c hfn hc)))).trans e1⟩
   . obtain⟨o',e1⟩:=I.base.there b o e hx;exact⟨o',(hs.2 b (aOA (aN8 (aN7 e) (I.ok.cab x c hfn hc)))).trans e1⟩
   . by_cases hj:j=i
     . subst hj;rw[hi]at e1;cases e1;rw[aOK hiσ]at e2;cases e2;exact⟨u,r,.inr ⟨.inl hk,c,hc,hc'⟩⟩
     . rw[aOL (Ne.symm hj)]at e2;obtain⟨u',r',q⟩:=hl j y v' e1 e2 e3;refine⟨u',r',?_⟩;rcases q with q|⟨k,c',e,z'⟩
       . exact .inl q
       . refine .inr ⟨k,c',e,z'.sameBut hs ?_⟩;rintro rfl;exact hj (uM hN e1 (I.ok.inj _ _ _ e hc ▸ hi))
   . by_cases hcc:c'=c
     . subst hcc;exact⟨_,hc'⟩
     . obtain⟨w2,z2⟩:=I.cell y c' e;exact⟨w2,z2.sameBut hs hcc⟩
   . obtain⟨e,n,ne,nf,d⟩:=I.pin p hp;refine⟨(hs.2 p.1 ?_).trans e,n,ne,nf,d⟩;intro q;rw[q,hoc]at e;have q':oc=p.2:=aN5 e;exact d w' (by rw[<- q'];exact hocd)
def oS{M:Model}{A:aSS}{E:VSP}(I:Inv X aA σ H s)(hN:X.N.Nodup)(hi:X.N[i]? = some x)(hx:Loc X.env.scope x)(r:aM v u)(h:∀s',Inv X aA (σ.set i (some v)) H s'->Q () s')(hf:X.fn x=true\/X.env.scope.names.lookup x=some .local:=by first|exact .inl rfl|exact .inr rfl|assumption):wpAny M A (storeName X.env x u) Q E s :=
 aCF I hN hi hx r (λs' I' _=>h s' I') hf
def Inv.call'{ch:List Addr}(I:Inv X aA σ H s)(ho:s'.os=s.os)(u:Un (frs X.stack) ch H H' s.heap s'.heap)(hok:HOk X.prog X.w H' s'.heap)(hg:AllBare s'.gens)(hch:∀b∈ch,(b∈X.ex\/X.s₀.heap.objs.size<=b)/\b≠X.env.locals/\(∀x c,X.env.cells.lookup x=some c->c≠b)/\∀p∈X.pn++aA,p.1≠b):Inv X aA σ H' s':=by obtain⟨h',g',d',t',o'⟩:=s';have e:o'=s.os:=ho;subst e;exact I.call (g':=g') (t':=t') (d':=d') u hok hg hch
end
abbrev XK:=aSQ->Option Addr->Hp->Prop
abbrev St:=List (Option V)
abbrev VK:=V->Hp->Prop
abbrev TE:=St->Hp->VK->Prop
abbrev TT:=St->Hp->(Bool->Hp->Prop)->Prop
end L2
variable {σ:L2.St}{ta te tl td:L2.TE}
namespace L2
abbrev TA:=St->Hp->(List V->Hp->Prop)->Prop
structure dI where
 nx:St->Hp->Prop
 rt:VK
 bk:St->Hp->Prop:=λ_ _=>False
 ct:St->Hp->Prop:=λ_ _=>False
abbrev TS:=dI->St->Hp->Prop
def EP(X:Cx)(aA:LAO)(σ:St)(Q:VK)(u:aSQ)(s':aSR):Prop:=∃v H',Inv X aA σ H' s'/\aM v u/\Q v H'
def TP(X:Cx)(aA:LAO)(σ:St)(Q:Bool->Hp->Prop)(b:Bool)(s':aSR):Prop:=∃H',Inv X aA σ H' s'/\Q b H'
def AP(X:Cx)(aA:LAO)(σ:St)(Q:List V->Hp->Prop)(us:List aSQ)(s':aSR):Prop:=∃vs H',Inv X aA σ H' s'/\aN vs us/\Q vs H'
def SP(X:Cx)(aA:LAO)(D:dI)(f:Flow)(s':aSR):Prop :=
 match f with
 |.next=>∃σ' H',Inv X aA σ' H' s'/\D.nx σ' H'
 |.brk=>∃σ' H',Inv X aA σ' H' s'/\D.bk σ' H'
 |.cont=>∃σ' H',Inv X aA σ' H' s'/\D.ct σ' H'
 |.ret u=>∃v σ' H',Inv X aA σ' H' s'/\aM v u/\D.rt v H'
def PE(X:Cx)(e:Expr)(t:TE):Prop :=
 ∀(aA:LAO) (s:aSR) (σ:St) (H:Hp) (Q:VK),Inv X aA σ H s->t σ H Q->wpAny (model X.prog X.w) X.A (eval e X.env) (EP X aA σ Q) X.xe s
def PT(X:Cx)(e:Expr)(t:TT):Prop :=
 ∀(aA:LAO) (s:aSR) (σ:St) (H:Hp) (Q:Bool->Hp->Prop),Inv X aA σ H s->t σ H Q->wpAny (model X.prog X.w) X.A (isTrue e X.env (eval e X.env)) (TP X aA σ Q) X.xe s
def PW(X:Cx)(e:Expr)(t:TT):Prop :=
 ∀(whole:Sem aSQ) (aA:LAO) (s:aSR) (σ:St) (H:Hp) (Q:Bool->Hp->Prop),Inv X aA σ H s->t σ H Q->wpAny (model X.prog X.w) X.A (isTrue e X.env whole) (TP X aA σ Q) X.xe s
def PW.pt{t:TT}(h:PW X e t):PT X e t:=h _
def PA(X:Cx)(es:List Expr)(t:TA):Prop :=
 ∀(pos:Pos) (aA:LAO) (s:aSR) (σ:St) (H:Hp) (Q:List V->Hp->Prop),Inv X aA σ H s->t σ H Q->wpAny (model X.prog X.w) X.A (spliced (backTo pos (starEach es X.env))) (AP X aA σ Q) X.xe s
def PS(X:Cx)(st:Stmt)(t:TS):Prop :=
 ∀(aA:LAO) (s:aSR) (σ:St) (H:Hp) (D:dI),Inv X aA σ H s->t D σ H->wpAny (model X.prog X.w) X.A (exec st X.env) (SP X aA D) X.xe s
def PSs(X:Cx)(st:List Stmt)(t:TS):Prop :=
 ∀(aA:LAO) (s:aSR) (σ:St) (H:Hp) (D:dI),Inv X aA σ H s->t D σ H->wpAny (model X.prog X.w) X.A (execs st X.env) (SP X aA D) X.xe s
def thn{t:Sem α}{Q Q':α->aSR->Prop}{M:Model}{A:aSS}{E:VSP}{s:aSR}(h:wpAny M A t Q E s)(hQ:∀a s,Q a s->Q' a s):wpAny M A t Q' E s:=aOM h hQ λ_ _ x=>x
section
def cG(i:Nat):TE:=λσ H Q=>∃v,σ[i]? = some (some v)/\Q v H
def tC(v:V):TE:=λ_ H Q=>Q v H
def lZ{pos:Pos}(hN:X.N[i]? = some x)(hv:Vis X.env.scope x)(hd:(x==("__debug__":Str))=false:=by decide)(hcd:(x==("__classdict__":Str))=false:=by decide):PE X (.Name x pos) (cG i):=by
 intro aA s σ H Q I h;obtain⟨v,e,h⟩:=h;obtain⟨m,hn,hl⟩:=I.loc;obtain⟨u,r,l⟩:=hl i x v hN e hv;have fin:EP X aA σ Q u s:=⟨v,H,I,r,h⟩;rcases l with⟨hk,hm⟩|⟨hk,c,hc,bY⟩
 . exact aON (wpAny_loadName_local I.ok.kind hk hn hm fin) hd
 . rcases hk with hk|hk
   . exact aON (wpAny_loadName_cell I.ok.kind hk hc bY fin) hd
   . exact aON (wpAny_loadName_free I.ok.kind hk hc bY fin hcd) hd
def fN{i j pos:_}:PE X (.Constant (.int i) j pos) (tC (.int i)):=λ_ _ _ H _ I h=>wpAny_Constant_int ⟨.int i,H,I.tok _,⟨_,rfl⟩,h⟩
def pe_bl{b j pos:_}:PE X (.Constant (.bool b) j pos) (tC (.bl b)):=λ_ _ _ H _ I h=>Constant_bool ⟨.bl b,H,I,rfl,h⟩
def aCG{j pos:_}:PE X (.Constant .none j pos) (tC .non):=λ_ _ _ H _ I h=>Constant_none ⟨.non,H,I,rfl,h⟩
def uN{x j pos:_}:PE X (.Constant (.str x) j pos) (tC (.str x)):=λ_ _ _ H _ I h=>aOO ⟨.str x,H,I.tok _,⟨_,rfl⟩,h⟩
def Gl(X:Cx)(x:Str):Prop:=X.env.kindOf x=some .globalImplicit
def uO{E:VSP}{s:aSR}{σ:St}{pos:Pos}{Q:VSP}(I:Inv X aA σ H s)(hg:Gl X x)(hm:X.mg x=some u)(h:Q u s)(hd:(x==("__debug__":Str))=false:=by decide):wpAny (model X.prog X.w) X.A (eval (.Name x pos) X.env) Q E s :=
 Calls.Name_function_global I.ok.kind hg (Calls.loadGlobal_global (by rw[I.ok.glob];exact I.mod.glob.keeps I.bk) hm h) hd
def j0{E:VSP}{s:aSR}{σ:St}{pos:Pos}{Q:VSP}(I:Inv X aA σ H s)(hg:Gl X x)(hm:X.mg x=none)(hv:bootBuiltins x=some u)(h:Q u s)(hn:x ≠ "__name__" := by decide)(hd:(x==("__debug__":Str))=false:=by decide):wpAny (model X.prog X.w) X.A (eval (.Name x pos) X.env) Q E s:=by obtain⟨mb,h1,h2⟩:=I.mod.blt;exact Calls.Name_function_global I.ok.kind hg (Calls.loadGlobal_builtin (by rw[I.ok.glob];exact I.mod.glob.keeps I.bk) hm (by rw[I.ok.blt];exact h1.keeps I.bk) ((h2 x hn).trans hv) h) hd
def uP{pos:Pos}(hg:Gl X x)(hm:X.mg x=some u)(r:aM v u)(hd:(x==("__debug__":Str))=false:=by decide):PE X (.Name x pos) (tC v) :=
 λ_ _ _ H _ I h=>uO I hg hm ⟨v,H,I,r,h⟩ hd
def aCH{pos:Pos}(hg:Gl X x)(hm:X.mg x=none)(hv:bootBuiltins x=some u)(r:aM v u)(hn:x ≠ "__name__" := by decide)(hd:(x==("__debug__":Str))=false:=by decide):PE X (.Name x pos) (tC v) :=
 λ_ _ _ H _ I h=>j0 I hg hm hv ⟨v,H,I,r,h⟩ hn hd
variable {a b:Expr}{tb:TE}{pos:Pos}
def aCI(b:Expr){op:CmpOp}(h:op ≠ .In)(h2:op ≠ .NotIn):behindInMarks op b=false:=by
 have e1:(op==CmpOp.In)=false:=by cases op <;> first|rfl|exact absurd rfl h
 have e2:(op==CmpOp.NotIn)=false:=by cases op <;> first|rfl|exact absurd rfl h2
 cases b <;> simp[behindInMarks,e1,e2]
variable {tA tB':TT}{rest:List Expr}
def oU(t u:TT):TT:=λσ H Q=>t σ H λc H1=>if c=true then u σ H1 Q else Q false H1
def tOr(t u:TT):TT:=λσ H Q=>t σ H λc H1=>if c=true then Q true H1 else u σ H1 Q
def tNot(t:TT):TT:=λσ H Q=>t σ H λc H1=>Q (!c) H1
def aCJ(ha:PT X a tA):PW X (.BoolOp .And [a] pos) tA:=by
 intro wh aA s σ H Q I h;refine isTrue_and (thn (ha aA s σ H Q I h) λc s1 e=>?_);cases c with
 |true=>exact isTrue_and_nil e
 |false=>exact e
def uQ(ha:PT X a tA):PW X (.BoolOp .Or [a] pos) tA:=by
 intro wh aA s σ H Q I h;refine isTrue_or (thn (ha aA s σ H Q I h) λc s1 e=>?_);cases c with
 |false=>exact isTrue_or_nil e
 |true=>exact e
def aCK(ha:PT X a tA)(hb:PW X (.BoolOp .And (b::rest) pos) tB'):PW X (.BoolOp .And (a::b::rest) pos) (oU tA tB'):=by
 intro wh aA s σ H Q I h;refine isTrue_and (thn (ha aA s σ H _ I h) λc s1 ⟨H1,I1,q1⟩=>?_);cases c with
 |true=>exact hb wh aA s1 σ H1 Q I1 q1
 |false=>exact⟨H1,I1,q1⟩
def uR(ha:PT X a tA)(hb:PW X (.BoolOp .Or (b::rest) pos) tB'):PW X (.BoolOp .Or (a::b::rest) pos) (tOr tA tB'):=by
 intro wh aA s σ H Q I h;refine isTrue_or (thn (ha aA s σ H _ I h) λc s1 ⟨H1,I1,q1⟩=>?_);cases c with
 |true=>exact⟨H1,I1,q1⟩
 |false=>exact hb wh aA s1 σ H1 Q I1 q1
def aCL(ha:PT X a tA):PT X (.UnaryOp .Not a pos) (tNot tA):=by intro aA s σ H Q I h;exact isTrue_not (ha aA s σ H (λc H1=>Q (!c) H1) I h)
def uS(ta tb:TE):TE:=λσ H Q=>ta σ H λx H1=>∃c,x=.bl c/\if c=true then tb σ H1 Q else Q (.bl false) H1
def tOrV(ta tb:TE):TE:=λσ H Q=>ta σ H λx H1=>∃c,x=.bl c/\if c=true then Q (.bl true) H1 else tb σ H1 Q
def uT(ta:TE):TE:=λσ H Q=>ta σ H λx H1=>∃c,x=.bl c/\Q (.bl (!c)) H1
def aCM{op}{t:TE}(h:PE X a t):PE X (.BoolOp op [a] pos) t:=λaA s σ H Q I hw=>BoolOp_one (h aA s σ H Q I hw)
def aCN(ha:PE X a ta)(hb:PE X (.BoolOp .And (b::rest) pos) tb):PE X (.BoolOp .And (a::b::rest) pos) (uS ta tb):=by
 intro aA s σ H Q I h;refine BoolOp_and (thn (ha aA s σ H _ I h) λv s1 ⟨x,H1,I1,r1,q1⟩=>?_);obtain⟨c,rfl,q1⟩:=q1;cases r1;refine aOP ?_;cases c with
 |true=>exact hb aA s1 σ H1 Q I1 q1
 |false=>exact⟨.bl false,H1,I1,rfl,q1⟩
def pe_or(ha:PE X a ta)(hb:PE X (.BoolOp .Or (b::rest) pos) tb):PE X (.BoolOp .Or (a::b::rest) pos) (tOrV ta tb):=by
 intro aA s σ H Q I h;refine BoolOp_or (thn (ha aA s σ H _ I h) λv s1 ⟨x,H1,I1,r1,q1⟩=>?_);obtain⟨c,rfl,q1⟩:=q1;cases r1;refine aOP ?_;cases c with
 |false=>exact hb aA s1 σ H1 Q I1 q1
 |true=>exact⟨.bl true,H1,I1,rfl,q1⟩
def aCO(ha:PE X a ta):PE X (.UnaryOp .Not a pos) (uT ta):=by intro aA s σ H Q I h;refine UnaryOp_ (thn (ha aA s σ H _ I h) λv s1 ⟨x,H1,I1,r1,q1⟩=>?_);obtain⟨c,rfl,q1⟩:=q1;cases r1;exact not_of (aOP ⟨.bl (!c),H1,I1,rfl,q1⟩)
end
def SqL(K:Fg)(H:Hp)(a:Addr)(xs:List V):Prop :=
 Rd H a (.lst xs) \/
  ∃(o:Obj) (its:Array aSQ) (n:Nat),K.lookup a=some o/\o.cls=.type "list" /\ o.dict=none/\o.data=.seq its n/\its.size<=sizeLine/\aN xs its.toList
def SqT(K:Fg)(H:Hp)(a:Addr)(xs:List V):Prop :=
 Rd H a (.tup xs) \/
  ∃(o:Obj) (its:Array aSQ) (n:Nat),K.lookup a=some o/\o.cls=.type "tuple" /\ o.dict=none/\o.data=.seq its n/\its.size<=sizeLine/\aN xs its.toList
def absV:aSQ->Option V
 |.none=>some .non
 |.bool b=>some (.bl b)
 |.int i _=>some (.int i)
 |.str x _=>some (.str x)
 |.bytes b _=>some (.byt b)
 |.float b _=>some (.flt b)
 |.ref a=>some (.ref a)
 |.type n=>some (.ty n)
 |_=>none
def aM.abs{x:V}(r:aM x u):absV u=some x:=by
 cases x with
 |non=>cases r;rfl
 |bl _=>cases r;rfl
 |int _=>obtain⟨t,rfl⟩:=r;rfl
 |str _=>obtain⟨t,rfl⟩:=r;rfl
 |byt _=>obtain⟨t,rfl⟩:=r;rfl
 |flt _=>obtain⟨t,rfl⟩:=r;rfl
 |ref _=>cases r;rfl
 |ty _=>cases r;rfl
def aM.inj{x:V}(r:aM x u)(q:aM y u):x=y:=aN5 (r.abs.symm.trans q.abs)
theorem aN.inj:∀{xs ys:List V}{us:List aSQ},aN xs us->aN ys us->xs=ys
 |_,_,_,.nil,.nil=>rfl
 |_,_,_,.cons r t,.cons r' t'=>by rw[r.inj r',aN.inj t t']
section
variable {σ:St}{s:aSR}{a:Addr}{ys:List V}
def SqL.of(h:H a=some (.lst xs)):SqL K H a xs:=.inl (.inl h)
def SqT.of(h:H a=some (.tup xs)):SqT K H a xs:=.inl (.inl h)
theorem Inv.list(I:Inv X aA σ H s)(h:SqL X.K H a xs):∃its:List aSQ,aN xs its/\PlainL s.heap a its.toArray/\xs.length<=sizeLine:=by
 rcases h with h|⟨o,its,n,hk,hc,hd,hs,hz,r⟩
 . obtain⟨z,its,n,r,e⟩:=h.ok I.hok;exact⟨its,r,⟨_,n,e,rfl,rfl,rfl⟩,z⟩
 . refine⟨its.toList,r,⟨o,n,I.kIn a o hk,hc,hd,by simpa using hs⟩,?_⟩
   have e:=r.length;simp only[aOQ]at e;lia
theorem Inv.tuple(I:Inv X aA σ H s)(h:SqT X.K H a xs):∃its:List aSQ,aN xs its/\IsTup s.heap a its.toArray/\xs.length<=sizeLine:=by
 rcases h with h|⟨o,its,n,hk,hc,hdt,hs,hz,r⟩
 . obtain⟨z,its,r,p⟩:=h.ok I.hok;exact⟨its,r,p.isTup,z⟩
 . refine⟨its.toList,r,⟨o,I.kIn a o hk,hc,n,by simpa using hs⟩,?_⟩
   have e:=r.length;simp only[aOQ]at e;lia
def Inv.list_inj(I:Inv X aA σ H s)(h:SqL X.K H a xs)(h':SqL X.K H a ys):xs=ys:=by
 obtain⟨its,r,⟨o,n,e,_,_,d⟩,_⟩:=I.list h;obtain⟨its',r',⟨o',n',e',_,_,d'⟩,_⟩:=I.list h';rw[e]at e';cases e';rw[d]at d';injection d' with d1 _
 have:its=its':=by simpa using congrArg Array.toList d1
 subst this;exact r.inj r'
def Inv.tuple_inj(I:Inv X aA σ H s)(h:SqT X.K H a xs)(h':SqT X.K H a ys):xs=ys:=by
 obtain⟨its,r,⟨o,e,_,n,d⟩,_⟩:=I.tuple h;obtain⟨its',r',⟨o',e',_,n',d'⟩,_⟩:=I.tuple h';rw[e]at e';cases e';rw[d]at d';injection d' with d1 _
 have:its=its':=by simpa using congrArg Array.toList d1
 subst this;exact r.inj r'
end
abbrev Cx.wish(X:Cx)(E:VSP):Cx:={X with xe:=E}
section
variable {σ:St}{s:aSR}{E:VSP}
end
section
variable {rest:List Stmt}{t u:TS}{pos:Pos}
def tNext:TS:=λD σ H=>D.nx σ H
def tSeq(t u:TS):TS:=λD σ H=>t {D with nx:=u D} σ H
def uU:PSs X [] tNext:=λ_ _ σ H _ I h=>aOR ⟨σ,H,I,h⟩
def j6(h1:PS X st t)(h2:PSs X rest u):PSs X (st::rest) (tSeq t u):=by
 intro aA s σ H D I h;refine aOS (thn (h1 aA s σ H {D with nx:=u D} I h) λf s1 q=>?_)
 cases f with
 |next=>obtain⟨σ',H',I',q⟩:=q;exact h2 aA s1 σ' H' D I' q
 |ret v=>exact q
 |brk=>exact q
 |cont=>exact q
def uV(h1:PS X st t):PSs X [st] t:=by
 intro aA s σ H D I h;refine aOS (thn (h1 aA s σ H D I h) λf s1 q=>?_);cases f with
 |next=>exact aOR q
 |ret v=>exact q
 |brk=>exact q
 |cont=>exact q
def Inv.quiet{σ:St}{s:aSR}(I:Inv X aA σ H s):interactive X.env=false:=by simp[interactive,I.ok.kind]
def tDrop(te:TE):TS:=λD σ H=>te σ H λ_ H1=>D.nx σ H1
def oV(he:PE X e te)(hs:swapsWith e none pos.line X.env=pure false:=by rfl):PS X (.Expr e pos) (tDrop te):=by intro aA s σ H D I h;exact wpAny_Expr_any (thn (he aA s σ H _ I h) λv s1 ⟨x,H1,I1,r1,q1⟩=>⟨σ,H1,I1,q1⟩) I.quiet hs
def tRet(te:TE):TS:=λD σ H=>te σ H D.rt
def oW(he:PE X e te):PS X (.Return (some e) pos) (tRet te):=by intro aA s σ H D I h;exact wpAny_Return_some (thn (he aA s σ H _ I h) λv s1 ⟨x,H1,I1,r1,q1⟩=>⟨x,σ,H1,I1,r1,q1⟩)
def tIfS(c:TT)(t u:TS):TS:=λD σ H=>c σ H λb H1=>if b=true then t D σ H1 else u D σ H1
def uW{c:Expr}{a b:List Stmt}{tc:TT}(hc:PT X c tc)(ha:PSs X a t)(hb:PSs X b u):PS X (.If c a b pos) (tIfS tc t u):=by
 intro aA s σ H D I h;refine wpAny_If (thn (hc aA s σ H _ I h) λd s1 ⟨H1,I1,q1⟩=>?_);cases d with
 |true=>exact ha aA s1 σ H1 D I1 q1
 |false=>exact hb aA s1 σ H1 D I1 q1
end
abbrev TG:=V->St->Hp->(St->Hp->Prop)->Prop
abbrev TGs:=List V->St->Hp->(St->Hp->Prop)->Prop
def PG(X:Cx)(target:Expr)(t:TG):Prop :=
 ∀(aA:LAO) (s:aSR) (σ:St) (H:Hp) (v:V) (u:aSQ) (Q:St->Hp->Prop),Inv X aA σ H s->aM v u->t v σ H Q ->
  wpAny (model X.prog X.w) X.A (assign target X.env u) (λ_ s'=>∃σ' H',Inv X aA σ' H' s'/\Q σ' H') X.xe s
def PGs(X:Cx)(ts:List Expr)(t:TGs):Prop :=
 ∀(aA:LAO) (s:aSR) (σ:St) (H:Hp) (vs:List V) (us:List aSQ) (Q:St->Hp->Prop),Inv X aA σ H s->aN vs us->t vs σ H Q ->
  wpAny (model X.prog X.w) X.A (assignInOrder ((assignEach ts X.env).map (·.2)) us) (λ_ s'=>∃σ' H',Inv X aA σ' H' s'/\Q σ' H') X.xe s
section
variable {pos:Pos}
def l4(i:Nat):TG:=λv σ H Q=>Q (σ.set i (some v)) H
def aCP(hN:X.N.Nodup)(hi:X.N[i]? = some x)(hx:Loc X.env.scope x)(hf:X.fn x=true\/X.env.scope.names.lookup x=some .local:=by first|exact .inl rfl|exact .inr rfl|assumption):PG X (.Name x pos) (l4 i):=by intro aA s σ H v u Q I r h;exact wpAny_assign_Name (oS I hN hi hx r (λs' I'=>⟨_,H,I',h⟩) hf)
def gNil:TGs:=λvs σ H Q=>vs=[]/\Q σ H
def uX(t:TG)(u:TGs):TGs:=λvs σ H Q=>∃v r,vs=v::r/\t v σ H λσ' H'=>u r σ' H' Q
def aCQ:PGs X [] gNil:=by intro aA s σ H vs us Q I r h;obtain⟨e,h⟩:=h;subst e;cases r;exact assignInOrder_nil ⟨σ,H,I,h⟩
def aCR{es:List Expr}{t:TG}{u:TGs}(h1:PG X e t)(h2:PGs X es u)(hs:(assignEach (e::es) X.env).map (·.2)=assign e X.env::(assignEach es X.env).map (·.2):=by rfl):PGs X (e::es) (uX t u):=by
 intro aA s σ H vs us Q I r h;obtain⟨v,vr,e1,h⟩:=h;subst e1;cases r with
 |cons r rr=>rw[hs];refine assignInOrder_cons (thn (h1 aA s σ H _ _ _ I r h) λ_ s1 ⟨σ1,H1,I1,q1⟩=>?_);exact h2 aA s1 σ1 H1 _ _ Q I1 rr q1
def gTup(K:Fg)(n:Nat)(t:TGs):TG:=λv σ H Q=>∃a xs,v=.ref a/\SqT K H a xs/\xs.length=n/\t xs σ H Q
def aCS{es:List Expr}{t:TGs}(hc:X.calm=true)(h:PGs X es t)(hn:(assignEach es X.env).length=n:=by rfl)(hst:(assignEach es X.env).findIdx? (·.1)=none:=by rfl):PG X (.Tuple es k pos) (gTup X.K n t):=by
 intro aA s σ H v u Q I r hw;obtain⟨a,xs,e1,hq,hl,hw⟩:=hw;subst e1;cases r;obtain⟨its,rv,ht,hz⟩:=I.tuple hq;refine assign_Tuple_tuple (I.ok.hd hc) ht (by simp[hn,<- hl,rv.length]) hst λh' hx=>?_
 have I1:Inv X aA σ H {s with heap:=h'}:=I.kept (t':=s.toks) λb o e=>hx b o (aOA (aN7 e)) e
 exact h aA _ σ H xs _ Q I1 (by simpa using rv) hw
def oX(te:TE)(g:TG):TS:=λD σ H=>te σ H λx H1=>g x σ H1 D.nx
def aCT{g:TG}(he:PE X e te)(hg:PG X tg g)(hs:swapsWithSole [tg] e pos.line X.env=pure false:=by rfl)(hw:swappedStores [tg] e X.env=pure none:=by rfl)(h1:(assignEach [tg] X.env).map (·.2)=[assign tg X.env]:=by rfl):PS X (.Assign [tg] e pos) (oX te g):=by intro aA s σ H D I h;refine wpAny_Assign_stores (thn (he aA s σ H _ I h) λv s1 ⟨x,H1,I1,r1,q1⟩=>?_) hs hw;rw[h1];exact thn (hg aA s1 σ H1 x v _ I1 r1 q1) λ_ s2 q=>q
def oY(hN:X.N.Nodup)(hi:X.N[i]? = some x)(hx:Loc X.env.scope x)(he:PE X e te)(hs:swapsWith e (some (.Name x pos')) pos.line X.env=pure false:=by rfl)(hf:X.fn x=true\/X.env.scope.names.lookup x=some .local:=by first|exact .inl rfl|exact .inr rfl|assumption):PS X (.Assign [.Name x pos'] e pos) (oX te (l4 i)):=by intro aA s σ H D I h;refine wpAny_Assign_Name (thn (he aA s σ H _ I h) λv s1 ⟨y,H1,I1,r1,q1⟩=>?_) hs;exact oS I1 hN hi hx r1 (λs2 I2=>⟨_,H1,I2,q1⟩) hf
end
section
variable {pos:Pos}
def aCU(c:TT)(tb:TS):TS:=λD σ H=>∃W:Nat->St->Hp->Prop,(∃m,W m σ H)/\∀m σ H,W m σ H ->
 c σ H λb H1=>if b=true then ∃N:St->Hp->Prop,(∀σ' H',N σ' H'->∃m',m'<m/\W m' σ' H')/\tb {D with nx:=N,ct:=N,bk:=D.nx} σ H1 else D.nx σ H1
def aCV{c:Expr}{tc:TT}{tb:TS}(hp:PassesOwn (model X.prog X.w) X.A X.env X.xe)(hc:PT X c tc)(hb:PSs X body tb):PS X (.While c body [] pos) (aCU tc tb):=by
 intro aA s σ H D I h;obtain⟨W,⟨m0,w0⟩,turn⟩:=h;refine wpAny_While (codeAny_whileLoop (λn s'=>∃σ' H',Inv X aA σ' H' s'/\W n σ' H') ?_ m0 ⟨σ,H,I,w0⟩);rintro n s1 ⟨σ1,H1,I1,w1⟩;refine aOT hp (thn (hc aA s1 σ1 H1 _ I1 (turn n σ1 H1 w1)) λb s2 ⟨H2,I2,q2⟩=>?_);cases b with
 |true =>
  obtain⟨N,hN,q2⟩:=q2;rw[if_pos rfl];refine aOT hp (thn (hb aA s2 σ1 H2 _ I2 q2) λf s3 q3=>?_);cases f with
  |next=>obtain⟨σ3,H3,I3,n3⟩:=q3;obtain⟨m',hm,w3⟩:=hN σ3 H3 n3;exact⟨m',hm,σ3,H3,I3,w3⟩
  |cont=>obtain⟨σ3,H3,I3,n3⟩:=q3;obtain⟨m',hm,w3⟩:=hN σ3 H3 n3;exact⟨m',hm,σ3,H3,I3,w3⟩
  |brk=>exact q3
  |ret v=>exact q3
 |false=>rw[if_neg aOU];exact aOR ⟨σ1,H2,I2,q2⟩
end
structure It where
 go:Nat->Hp->Prop
 yld:Nat->Hp->V->Hp->Prop
 stop:Nat->Hp->Prop
def fO(X:Cx)(aA:LAO)(H:Hp)(b:Addr):Prop :=
 H b=none/\b≠X.env.locals/\b∉X.fs/\(b∈X.ex\/X.s₀.heap.objs.size<=b)/\(∀x c,X.env.cells.lookup x=some c->c≠b)/\∀p∈X.pn++aA,p.1≠b
def Inv.fpOk{σ:St}{s:aSR}(I:Inv X aA σ H s)(hb:s.heap.objs.size<=b)(hn:H' b=none):fO X aA H' b:=by
 refine⟨hn,Nat.ne_of_gt (aN8 I.lt hb),I.nofs hb,.inr (aOE I.sz hb),λx c e z=>?_,λp hp z=>?_⟩
 . obtain⟨v,q⟩:=I.cell x c e;exact absurd (aN8 q.lt (by rw[z];exact hb)) (aN9 _)
 . exact absurd (aN8 (aN7 (I.pin p hp).1) (by rw[z];exact hb)) (aN9 _)
structure j7(P:aSU)(w:aST)(K:Fg)(tg:Expr)(J:It)(fp:List Addr)(it:Addr)(tn:Nat->Heap->Prop):Prop where
 mem:it∈fp
 obj:∀i h,tn i h->∀b∈fp,∃o,h.get? b=some o/\∀v,o.data ≠ .cell v
 keep:∀i h h',tn i h->(∀b∈fp,∀o,h.get? b=some o->h'.get? b=some o)->tn i h'
 item:∀(X:Cx),X.prog=P->X.w=w->X.K=K->X.calm=true->∀(i:Nat) (aA:LAO) (s:aSR) (σ:St) (H:Hp) (E:VSP),Inv X aA σ H s->(∀b∈fp,fO X aA H b)->tn i s.heap->J.go i H ->
  wpAny (model P w) X.A (pyNext (.ref it)) (λr s1=>∃u,r=some u /\
   wpAny (model P w) X.A (letOwnedTupleGo tg (.ref it) u) (λ_ s2=>∃x H',Inv X aA σ H' s2/\aM x u/\J.yld i H x H'/\tn (i+1) s2.heap/\∀b∈fp,H' b=none) E s1) E s
 done:∀(X:Cx),X.prog=P->X.w=w->X.K=K->X.calm=true->∀(i:Nat) (aA:LAO) (s:aSR) (σ:St) (H:Hp) (E:VSP),Inv X aA σ H s->(∀b∈fp,fO X aA H b)->tn i s.heap->J.stop i H ->
  wpAny (model P w) X.A (pyNext (.ref it)) (λr s1=>r=none/\Inv X aA σ H s1) E s
 self:∀(A:aSS) (i:Nat) (s:aSR) (Q:VSP) (E:VSP),tn i s.heap->Q (.ref it) s->wpAny (model P w) A (pyIter (.ref it)) Q E s
abbrev TI:=St->Hp->(It->Hp->Prop)->Prop
def PIE(X:Cx)(aA:LAO)(σ:St)(tg:Expr)(R:It->Hp->Prop)(itv:aSQ)(s2:aSR):Prop :=
 ∃(it:Addr) (fp:List Addr) (tn:Nat->Heap->Prop) (J:It) (H':Hp),itv=.ref it/\Inv X aA σ H' s2/\j7 X.prog X.w X.K tg J fp it tn/\tn 0 s2.heap/\(∀b∈fp,fO X aA H' b)/\R J H'
def PI(X:Cx)(tg bI:Expr)(wi:TI):Prop :=
 ∀(aA:LAO) (s:aSR) (σ:St) (H:Hp) (R:It->Hp->Prop),Inv X aA σ H s->wi σ H R ->
  wpAny (model X.prog X.w) X.A (eval bI X.env) (λv s1=>wpAny (model X.prog X.w) X.A (pyIter v) (PIE X aA σ tg R) X.xe s1) X.xe s
def l5{M:Model}{A:aSS}{E:VSP}{s:aSR}{o:Obj}{n:String}{vs:Array aSQ}(ho:s.heap.get? it=some o)(hc:o.cls=.type n)(hd:o.data=.fields vs)(hn:["enumerate", "zip", "dict_itemiterator", "dict_reverseitemiterator", "odict_iterator", "itertools.zip_longest", "itertools.pairwise"].contains n=false)(hQ:Q () s):wpAny M A (letOwnedTupleGo tg (.ref it) u) Q E s:=by
 unfold letOwnedTupleGo;cases tg <;> first
  |exact aOV hQ
  | (cases u <;> first
      |exact aOV hQ
      | (refine aOW (wpAny_load ho ?_)
         rw[hc,hd];show wpAny M A (if(["enumerate", "zip", "dict_itemiterator", "dict_reverseitemiterator", "odict_iterator", "itertools.zip_longest", "itertools.pairwise"].contains n&&vs[0]?==some (rawInt _))=true then _ else _) Q E s;rw[if_neg (by intro h;rw[hn,Bool.false_and]at h;cases h)]
         exact aOV hQ))
def Itl(K:Fg)(a:Addr):It :=
 ⟨λi H=>∃xs x,SqL K H a xs/\xs[i]? = some x,λi H x H'=>H'=H/\∀xs,SqL K H a xs->xs[i]? = some x,λi H=>∃xs,SqL K H a xs/\xs.length<=i⟩
def Itt(K:Fg)(a:Addr):It :=
 ⟨λi H=>∃xs x,SqT K H a xs/\xs[i]? = some x,λi H x H'=>H'=H/\∀xs,SqT K H a xs->xs[i]? = some x,λi H=>∃xs,SqT K H a xs/\xs.length<=i⟩
def Itr(lo:Int)(n:Nat):It:=⟨λi _=>i<n,λi H x H'=>H'=H/\x=.int (lo+i),λi _=>n<=i⟩
end L2
variable {wi:L2.TI}
namespace L2
theorem aCW{w:aST}(a it:Addr):j7 P w K tg (Itl K a) [it] it (λi h=>h.IsListIter it a i) where
 mem:=by simp
 obj:=λi h st b hb=>by
  have e:b=it:=by simpa using hb
  subst e;obtain⟨o,e,c,d⟩:=st;exact⟨o,e,λv z=>by rw[d]at z;cases z⟩
 keep:=λi h h' st k=>st.at λo e=>k it (by simp) o e
 item:=by
  intro X hP hw hK hc i aA s σ H E I hf st hg;subst hP hw hK;obtain⟨xs,x,hq,hx⟩:=hg;obtain⟨its,rv,p,hz⟩:=I.list hq;obtain⟨u,hu,ru⟩:=rv.get hx;obtain⟨f0,f1,f2,f3,f4,f5⟩:=hf it (by simp)
  refine wpAny_pyNext_list_item st p.isList (x:=u) (by simpa using hu) λh' st' sb=>?_
  have I1:Inv X aA σ H {s with heap:=h'}:=I.turned (t':=s.toks) (λb o hb e=>(sb.2 b hb).trans e) f0 f1 f3 f4 f5
  obtain⟨o,e,c,d⟩:=id st';exact⟨u,rfl,l5 (s:={s with heap:=h'}) e c d (by decide) ⟨x,H,I1,ru,⟨rfl,λys hy=>by rw[I.list_inj hy hq];exact hx⟩,st',λb hb=>(hf b hb).1⟩⟩
 done:=by
  intro X hP hw hK hc i aA s σ H E I hf st hg;subst hP hw hK;obtain⟨xs,hq,hx⟩:=hg;obtain⟨its,rv,p,hz⟩:=I.list hq;obtain⟨f0,f1,f2,f3,f4,f5⟩:=hf it (by simp)
  have hl:=rv.length;exact wpAny_pyNext_list_end (I.ok.hd hc) st p.isList (by simp;lia) λh' eb=>⟨rfl,I.turned (t':=s.toks) (λb o hb e=>eb b o hb e) f0 f1 f3 f4 f5⟩
 self:=λ_ _ _ _ _ st h=>wpAny_pyIter_listiter st h
theorem aCX{w:aST}(a it:Addr):j7 P w K tg (Itt K a) [it] it (λi h=>h.IsTupleIter it a i) where
 mem:=by simp
 obj:=λi h st b hb=>by
  have e:b=it:=by simpa using hb
  subst e;obtain⟨o,e,c,d⟩:=st;exact⟨o,e,λv z=>by rw[d]at z;cases z⟩
 keep:=λi h h' st k=>st.at λo e=>k it (by simp) o e
 item:=by
  intro X hP hw hK hc i aA s σ H E I hf st hg;subst hP hw hK;obtain⟨xs,x,hq,hx⟩:=hg;obtain⟨its,rv,p,hz⟩:=I.tuple hq;obtain⟨u,hu,ru⟩:=rv.get hx;obtain⟨f0,f1,f2,f3,f4,f5⟩:=hf it (by simp)
  refine wpAny_pyNext_tuple_item st (show s.heap.IsTuple a its.toArray from p) (x:=u) (by simpa using hu) λh' st' sb=>?_
  have I1:Inv X aA σ H {s with heap:=h'}:=I.turned (t':=s.toks) (λb o hb e=>(sb.2 b hb).trans e) f0 f1 f3 f4 f5
  obtain⟨o,e,c,d⟩:=id st';exact⟨u,rfl,l5 (s:={s with heap:=h'}) e c d (by decide) ⟨x,H,I1,ru,⟨rfl,λys hy=>by rw[I.tuple_inj hy hq];exact hx⟩,st',λb hb=>(hf b hb).1⟩⟩
 done:=by
  intro X hP hw hK hc i aA s σ H E I hf st hg;subst hP hw hK;obtain⟨xs,hq,hx⟩:=hg;obtain⟨its,rv,p,hz⟩:=I.tuple hq;obtain⟨f0,f1,f2,f3,f4,f5⟩:=hf it (by simp)
  have hl:=rv.length;exact wpAny_pyNext_tuple_end (I.ok.hd hc) st (show s.heap.IsTuple a its.toArray from p) (by simp;lia) λh' eb=>⟨rfl,I.turned (t':=s.toks) (λb o hb e=>eb b o hb e) f0 f1 f3 f4 f5⟩
 self:=λ_ _ _ _ _ st h=>wpAny_pyIter_tupleiter st h
theorem aCY{w:aST}(it:Addr)(lo:Int)(n:Nat):j7 P w K tg (Itr lo n) [it] it (λi h=>IsRangeIter h it (lo+(i:Nat) * 1) ((n:Int)-(i:Nat)) 1) where
 mem:=by simp
 obj:=λi h st b hb=>by
  have e:b=it:=by simpa using hb
  subst e;exact⟨_,st,λv z=>by
   have z':Data.fields _=Data.cell v:=z;cases z'⟩
 keep:=λi h h' st k=>k it (by simp) _ st
 item:=by
  intro X hP hw hK hc i aA s σ H E I hf st hg;subst hP hw hK;obtain⟨f0,f1,f2,f3,f4,f5⟩:=hf it (by simp)
  have W:=Walks.range (prog:=X.prog) (w:=X.w) (I.ok.hd hc) it lo 1 n;refine W.item i s _ _ hg st λv h' tk hv st' kk=>?_;obtain⟨t,rfl⟩:=hv;have I1:Inv X aA σ H {s with heap:=h',toks:=tk}:=I.turned (λb o hb e=>kk b o (by simpa using hb) e) f0 f1 f3 f4 f5
  refine⟨_,rfl,l5 (s:={s with heap:=h',toks:=tk}) (n := "range_iterator") st' rfl rfl (by decide) ⟨.int (lo+i),H,I1,⟨t,?_⟩,⟨rfl,rfl⟩,st',λb hb=>(hf b hb).1⟩⟩
  rw[Int.mul_one]
 done:=by
  intro X hP hw hK hc i aA s σ H E I hf st hg;subst hP hw hK;obtain⟨f0,f1,f2,f3,f4,f5⟩:=hf it (by simp)
  exact wpAny_pyNext_range_end (I.ok.hd hc) st (by have:n<=i:=hg;lia) λh' eb=>⟨rfl,I.turned (t':=s.toks) (λb o hb e=>eb b o hb e) f0 f1 f3 f4 f5⟩
 self:=λ_ _ _ _ _ st h=>wpAny_pyIter_rangeiter st h
def oZ(K:Fg)(tl:TE):TI:=λσ H R=>tl σ H λx H1=>∃a,x=.ref a/\(∃xs,SqL K H1 a xs)/\R (Itl K a) H1
def iTup(K:Fg)(tl:TE):TI:=λσ H R=>tl σ H λx H1=>∃a,x=.ref a/\(∃xs,SqT K H1 a xs)/\R (Itt K a) H1
def aCZ{l:Expr}(hl:PE X l tl):PI X tg l (oZ X.K tl):=by
 intro aA s σ H R I h;refine thn (hl aA s σ H _ I h) λv s1 ⟨x,H1,I1,r1,q1⟩=>?_;obtain⟨a,e,⟨xs,hq⟩,q⟩:=q1;subst e;cases r1;obtain⟨its,rv,p,hz⟩:=I1.list hq;refine aOX p.isList ?_;refine⟨s1.heap.objs.size,[s1.heap.objs.size],_,_,H1,rfl,I1.kept (t':=s1.toks) λb o e=>hps e,aCW a _,⟨_,aN6 _ rfl,rfl,rfl⟩,λb hb=>?_,q⟩;have e:b=s1.heap.objs.size:=by simpa using hb
 subst e;exact I1.fpOk (aOY _) (I1.hok.fresh (aOY _))
def aC0{l:Expr}(hl:PE X l tl):PI X tg l (iTup X.K tl):=by
 intro aA s σ H R I h;refine thn (hl aA s σ H _ I h) λv s1 ⟨x,H1,I1,r1,q1⟩=>?_;obtain⟨a,e,⟨xs,hq⟩,q⟩:=q1;subst e;cases r1;obtain⟨its,rv,p,hz⟩:=I1.tuple hq;refine wpAny_pyIter_tuple (show s1.heap.IsTuple a its.toArray from p) ?_
 refine⟨s1.heap.objs.size,[s1.heap.objs.size],_,_,H1,rfl,I1.kept (t':=s1.toks) λb o e=>hps e,aCX a _,⟨_,aN6 _ rfl,rfl,rfl⟩,λb hb=>?_,q⟩;have e:b=s1.heap.objs.size:=by simpa using hb
 subst e;exact I1.fpOk (aOY _) (I1.hok.fresh (aOY _))
theorem uY{σ:St}{s:aSR}{R:It->Hp->Prop}{E:VSP}{lo hi:Int}{t u v:Tok}{tk:Nat}(I:Inv X aA σ H s)(h1:-(2 ^ 62)<=lo)(h2:lo<2 ^ 62)(h3:-(2 ^ 62)<=hi)(h4:hi<2 ^ 62)(q:R (Itr lo (hi-lo).toNat) H):wpAny (model X.prog X.w) X.A (pyIter (.ref s.heap.objs.size)) (PIE X aA σ tg R) E { s with heap:=s.heap.push { cls:=.type "range", data:=.fields #[.int lo t,.int hi u,.int 1 v] },toks:=tk }:=by
 refine wpAny_pyIter_range (IsRange.new ..) (small_one h1 h2 h3 h4) ?_;have I1:Inv X aA σ H { s with heap:=s.heap.push { cls:=.type "range", data:=.fields #[.int lo t,.int hi u,.int 1 v] },toks:=tk }:=I.kept λb o e=>hps e
 refine⟨(s.heap.push { cls:=.type "range", data:=.fields #[.int lo t,.int hi u,.int 1 v] }).objs.size,[(s.heap.push { cls:=.type "range", data:=.fields #[.int lo t,.int hi u,.int 1 v] }).objs.size],_,_,H,rfl,
  I1.kept (t':=tk) λb o e=>hps e,aCY _ lo (hi-lo).toNat,?_,λb hb=>?_,q⟩
 . have e1:lo+((0:Nat):Int) * 1=lo:=by simp
   have e2:(((hi-lo).toNat:Nat):Int)-((0:Nat):Int)=Builtin.Range.rangeSize lo hi 1:=by rw[rangeSize_one];split <;> lia
   show IsRangeIter _ _ (lo+((0:Nat):Int) * 1) ((((hi-lo).toNat:Nat):Int)-((0:Nat):Int)) 1;rw[e1,e2];exact aN6 _ rfl
 . have e:b=(s.heap.push { cls:=.type "range", data:=.fields #[.int lo t,.int hi u,.int 1 v] }).objs.size:=by simpa using hb
   subst e;exact I1.fpOk (aOY _) (I1.hok.fresh (aOY _))
def uZ(ta:TA):TI:=λσ H R=>ta σ H λvs H1=>∃j:Int,vs=[.int j] /\ -(2 ^ 62)<=j/\j<2 ^ 62/\R (Itr 0 j.toNat) H1
def u5(ta:TA):TI:=λσ H R=>ta σ H λvs H1=>∃i j:Int,vs=[.int i,.int j]/\(-(2 ^ 62)<=i/\i<2 ^ 62 /\ -(2 ^ 62)<=j/\j<2 ^ 62)/\R (Itr i (j-i).toNat) H1
theorem aC1{a:Expr}{ta:TA}{pos:Pos}(hg:Gl X "range")(hm:X.mg "range" = none)(ha:PA X [a] ta)(hs:starEach [a] X.env=[(false,eval a X.env)]:=by rfl):PI X tg (.Call (.Name "range" p) [a] [] pos) (uZ ta):=by
 intro aA s σ H R I h;refine Call_ (j0 I hg hm boot_range (aOZ (thn (ha pos aA s σ H _ I h) λus s1 ⟨vs,H1,I1,r1,q1⟩=>?_) hs rfl));obtain⟨j,e,q1,q2,q⟩:=q1;subst e;cases r1 with
 |cons r rr=>cases rr;obtain⟨t,rfl⟩:=r;exact call_range_1 (uY I1 (by lia) (by lia) q1 q2 (by simpa using q))
def aC2{a b:Expr}{ta:TA}{pos:Pos}(hg:Gl X "range")(hm:X.mg "range" = none)(ha:PA X [a,b] ta)(hs:starEach [a,b] X.env=[(false,eval a X.env),(false,eval b X.env)]:=by rfl)(hs2:starEach [b] X.env=[(false,eval b X.env)]:=by rfl):PI X tg (.Call (.Name "range" p) [a,b] [] pos) (u5 ta):=by
 intro aA s σ H R I h;refine Call_ (j0 I hg hm boot_range (aOZ (thn (ha pos aA s σ H _ I h) λus s1 ⟨vs,H1,I1,r1,q1⟩=>?_) (by rw[hs,hs2]) (by rw[hs2];rfl)))
 obtain⟨i,j,e,⟨q1,q2,q3,q4⟩,q⟩:=q1;subst e;cases r1 with
 |cons r rr =>
  cases rr with
  |cons r' rr=>cases rr;obtain⟨t,rfl⟩:=r;obtain⟨t',rfl⟩:=r';exact call_range_2 (uY I1 q1 q2 q3 q4 q)
def o7(wi:TI)(g:TG)(tb:TS):TS:=λD σ H=>wi σ H λJ H1=>∃W:Nat->Nat->St->Hp->Prop,(∃m,W 0 m σ H1)/\∀i m σ H,W i m σ H ->
 (J.stop i H/\D.nx σ H)\/(J.go i H/\∃N:St->Hp->Prop,(∀σ' H',N σ' H'->∃m',m'<m/\W (i+1) m' σ' H')/\∀x H',J.yld i H x H'->g x σ H' λσ2 H2=>tb {D with nx:=N,ct:=N,bk:=D.nx} σ2 H2)
def j8(fp:List Addr)(h:Heap):LAO:=fp.filterMap λb=>(h.get? b).map λo=>(b,o)
def o8{o:Obj}(hb:b∈fp)(e:h.get? b=some o):(b,o)∈j8 fp h:=aO0.mpr ⟨b,hb,by rw[e];rfl⟩
def aC3{p:Addr×Obj}(hp:p∈j8 fp h):p.1∈fp/\h.get? p.1=some p.2:=by
 obtain⟨b,hb,e⟩:=aO0.mp hp;cases q:h.get? b with
 |none=>rw[q]at e;cases e
 |some o=>rw[q]at e;have e':(b,o)=p:=aN5 e;subst e';exact⟨hb,q⟩
def Inv.pinned{σ:St}{s:aSR}(I:Inv X aA σ H s)(hf:∀b∈fp,fO X aA H b)(ho:∀b∈fp,∃o,s.heap.get? b=some o/\∀v,o.data ≠ .cell v):Inv X (aA++j8 fp s.heap) σ H s :=
 I.pins_of λp hp=>(aOH.mp hp).elim (λz=>I.pin p (aO1 _ z)) λz=>by obtain⟨hb,e⟩:=aC3 z;obtain⟨f0,f1,f2,_⟩:=hf p.1 hb;obtain⟨o,e',d⟩:=ho p.1 hb;rw[e]at e';cases e';exact⟨e,f0,f1,f2,d⟩
def Inv.unpinned{pl:LAO}{σ:St}{s:aSR}(I:Inv X (aA++pl) σ H s):Inv X aA σ H s:=I.pins_of λp hp=>I.pin p (aO1 _ (aOI _ hp))
def u6{g:TG}{tb:TS}{pos:Pos}(hp:PassesOwn (model X.prog X.w) X.A X.env X.xe)(hc:X.calm=true)(hi:PI X tg bI wi)(hg:PG X tg g)(hb:PSs X body tb)(hs:∀x,foldedSetIterable bI X.env x=pure x:=by intro _;rfl):PS X (.For tg bI body [] pos) (o7 wi g tb):=by
 intro aA s σ H D I h;refine wpAny_For (thn (hi aA s σ H _ I h) λv s1 h1=>thn h1 λitv s2 h2=>?_) hs;obtain⟨it,fp,tn,J,H2,e,I2,T,st2,f2,W,⟨m0,w0⟩,turn⟩:=h2;subst e;have stat:∀{H':Hp},(∀b∈fp,H' b=none)->∀b∈fp,fO X aA H' b:=λhn b hb=>⟨hn b hb,(f2 b hb).2⟩;refine codeAny_forLoop_any (λn s'=>∃i σ' H',Inv X aA σ' H' s'/\tn i s'.heap/\(∀b∈fp,H' b=none)/\W i n σ' H') ?_ m0 ⟨0,σ,H2,I2,st2,λb hb=>(f2 b hb).1,w0⟩;rintro n s3 ⟨i,σ3,H3,I3,st3,fr3,w3⟩;rcases turn i n σ3 H3 w3 with⟨stop,qn⟩|⟨go,N,hN,step⟩
 . refine aOT hp (thn (T.done X rfl rfl rfl hc i aA s3 σ3 H3 X.xe I3 (stat fr3) st3 stop) λr s4 ⟨hr,I4⟩=>?_);subst hr;exact aOR ⟨σ3,H3,I4,qn⟩
 . refine aOT hp (thn (T.item X rfl rfl rfl hc i aA s3 σ3 H3 X.xe I3 (stat fr3) st3 go) λr s4 ⟨u,hr,h4⟩=>?_);subst hr;refine aOT hp (thn h4 λ_ s5 ⟨x,H5,I5,r5,y5,st5,fr5⟩=>?_);have I5':=I5.pinned (stat fr5) (T.obj _ _ st5);refine aOT hp (thn (hg _ s5 σ3 H5 x u _ I5' r5 (step x H5 y5)) λ_ s6 ⟨σ6,H6,I6,q6⟩=>?_);refine aOT hp (thn (hb _ s6 σ6 H6 _ I6 q6) λf s7 q7=>?_);have again:∀{σ7:St}{H7:Hp},Inv X (aA++j8 fp s5.heap) σ7 H7 s7->N σ7 H7->∃m,m<n/\∃i σ' H',Inv X aA σ' H' s7/\tn i s7.heap/\(∀b∈fp,H' b=none)/\W i m σ' H':=λ{σ7 H7} I7 n7=>by obtain⟨m',hm,w7⟩:=hN σ7 H7 n7;refine⟨m',hm,i+1,σ7,H7,I7.unpinned,T.keep _ _ _ st5 λb hb o e=>(I7.pin (b,o) (aO1 _ (aO1 _ (o8 hb e)))).1,λb hb=>?_,w7⟩;obtain⟨o,e,d⟩:=T.obj _ _ st5 b hb;exact(I7.pin (b,o) (aO1 _ (aO1 _ (o8 hb e)))).2.1
   cases f with
   |next=>obtain⟨σ7,H7,I7,n7⟩:=q7;exact again I7 n7
   |cont=>obtain⟨σ7,H7,I7,n7⟩:=q7;exact again I7 n7
   |brk=>obtain⟨σ7,H7,I7,q7⟩:=q7;exact⟨σ7,H7,I7.unpinned,q7⟩
   |ret v=>obtain⟨x7,σ7,H7,I7,r7,q7⟩:=q7;exact⟨x7,σ7,H7,I7.unpinned,r7,q7⟩
abbrev R2:=V->V->Hp->VK->Prop
def OpR(X:Cx)(f:aSQ->aSQ->Sem aSQ)(r:R2):Prop :=
 ∀(aA:LAO) (s:aSR) (σ:St) (H:Hp) (x y:V) (v u:aSQ) (Q:VK),Inv X aA σ H s->aM x v->aM y u->r x y H Q ->
  wpAny (model X.prog X.w) X.A (f v u) (EP X aA σ Q) X.xe s
def UnR(X:Cx)(f:aSQ->Sem aSQ)(r:V->Hp->VK->Prop):Prop :=
 ∀(aA:LAO) (s:aSR) (σ:St) (H:Hp) (x:V) (v:aSQ) (Q:VK),Inv X aA σ H s->aM x v->r x H Q ->
  wpAny (model X.prog X.w) X.A (f v) (EP X aA σ Q) X.xe s
def eQ(X:Cx)(f:aSQ)(r:List V->Hp->VK->Prop):Prop :=
 ∀(aA:LAO) (s:aSR) (σ:St) (H:Hp) (xs:List V) (us:List aSQ) (Q:VK),Inv X aA σ H s->aN xs us->r xs H Q ->
  wpAny (model X.prog X.w) X.A (call f us) (EP X aA σ Q) X.xe s
def TruR(X:Cx)(r:V->Hp->(Bool->Hp->Prop)->Prop):Prop :=
 ∀(aA:LAO) (s:aSR) (σ:St) (H:Hp) (x:V) (v:aSQ) (Q:Bool->Hp->Prop),Inv X aA σ H s->aM x v->r x H Q ->
  wpAny (model X.prog X.w) X.A (truthy v) (TP X aA σ Q) X.xe s
def tOp(r:R2)(ta tb:TE):TE:=λσ H Q=>ta σ H λx H1=>tb σ H1 λy H2=>r x y H2 Q
def tUn(r:V->Hp->VK->Prop)(ta:TE):TE:=λσ H Q=>ta σ H λx H1=>r x H1 Q
def rI(C:Int->Int->Prop)(g:Int->Int->V):R2:=λx y H Q=>∃i j,x=.int i/\y=.int j/\C i j/\Q (g i j) H
def rI0(g:Int->Int->V):R2:=λx y H Q=>∃i j,x=.int i/\y=.int j/\Q (g i j) H
def rU(g:Int->V):V->Hp->VK->Prop:=λx H Q=>∃i,x=.int i/\Q (g i) H
section
variable {a b c:Expr}{tb tc:TE}{pos:Pos}
def o9(ha:PE X a ta)(hb:PE X b tb){s:aSR}{σ:St}{R:V->V->Hp->Prop}(I:Inv X aA σ H s)(h:ta σ H λx H1=>tb σ H1 λy H2=>R x y H2){Q:VSP}{f:aSQ->aSQ->Sem aSQ}(hf:∀v u s2 x y H2,Inv X aA σ H2 s2->aM x v->aM y u->R x y H2->wpAny (model X.prog X.w) X.A (f v u) Q X.xe s2):wpAny (model X.prog X.w) X.A (eval a X.env) (λv s₁=>wpAny (model X.prog X.w) X.A (eval b X.env) (λu s₂=>wpAny (model X.prog X.w) X.A (f v u) Q X.xe s₂) X.xe s₁) X.xe s:=by refine thn (ha aA s σ H _ I h) λv s1 ⟨x,H1,I1,r1,q1⟩=>?_;refine thn (hb aA s1 σ H1 _ I1 q1) λu s2 ⟨y,H2,I2,r2,q2⟩=>?_;exact hf v u s2 x y H2 I2 r1 r2 q2
def pe_op{op:Operator}{r:R2}(ho:OpR X (binaryOp op) r)(ha:PE X a ta)(hb:PE X b tb):PE X (.BinOp a op b pos) (tOp r ta tb):=by intro aA s σ H Q I h;exact wpAny_BinOp (o9 ha hb I h λv u s2 x y H2 I2 rx ry q=>ho aA s2 σ H2 x y v u Q I2 rx ry q)
def pe_un{op:UnaryOp}{r:V->Hp->VK->Prop}(ho:UnR X (unaryOp op) r)(ha:PE X a ta):PE X (.UnaryOp op a pos) (tUn r ta):=by intro aA s σ H Q I h;exact UnaryOp_ (thn (ha aA s σ H _ I h) λv s1 ⟨x,H1,I1,r1,q1⟩=>ho aA s1 σ H1 x v Q I1 r1 q1)
def opI{f:aSQ->aSQ->Sem aSQ}{C:Int->Int->Prop}{g:Int->Int->Int}(rule:∀(i j:Int) (t u:Tok) (s:aSR) (Q:VSP) (E:VSP),C i j->Q (.int (g i j) s.toks) {s with toks:=s.toks+1} -> wpAny (model X.prog X.w) X.A (f (.int i t) (.int j u)) Q E s):OpR X f (rI C λi j=>.int (g i j)):=by intro aA s σ H x y v u Q I rx ry h;obtain⟨i,j,rfl,rfl,hc,q⟩:=h;obtain⟨t,rfl⟩:=rx;obtain⟨t',rfl⟩:=ry;exact rule i j t t' s _ _ hc ⟨.int (g i j),H,I.tok _,⟨_,rfl⟩,q⟩
def opI0{f:aSQ->aSQ->Sem aSQ}{g:Int->Int->Int}(rule:∀(i j:Int) (t u:Tok) (s:aSR) (Q:VSP) (E:VSP),Q (.int (g i j) s.toks) {s with toks:=s.toks+1} -> wpAny (model X.prog X.w) X.A (f (.int i t) (.int j u)) Q E s):OpR X f (rI0 λi j=>.int (g i j)):=by intro aA s σ H x y v u Q I rx ry h;obtain⟨i,j,rfl,rfl,q⟩:=h;obtain⟨t,rfl⟩:=rx;obtain⟨t',rfl⟩:=ry;exact rule i j t t' s _ _ ⟨.int (g i j),H,I.tok _,⟨_,rfl⟩,q⟩
def l6{f:aSQ->aSQ->Sem aSQ}{g:Int->Int->Bool}(rule:∀(i j:Int) (t u:Tok) (s:aSR) (Q:VSP) (E:VSP),Q (.bool (g i j)) s->wpAny (model X.prog X.w) X.A (f (.int i t) (.int j u)) Q E s):OpR X f (rI0 λi j=>.bl (g i j)):=by intro aA s σ H x y v u Q I rx ry h;obtain⟨i,j,rfl,rfl,q⟩:=h;obtain⟨t,rfl⟩:=rx;obtain⟨t',rfl⟩:=ry;exact rule i j t t' s _ _ ⟨.bl (g i j),H,I,rfl,q⟩
def CPow(i j:Int):Prop:=0<=j/\j<=1000000/\i.natAbs<2 ^ 64
def aC4:OpR X (binaryOp .Add) (rI0 λi j=>.int (i+j)):=opI0 λ_ _ _ _ _ _ _ q=>add_int q
def aC5:OpR X (binaryOp .Sub) (rI0 λi j=>.int (i-j)):=opI0 λ_ _ _ _ _ _ _ q=>sub_int q
theorem aC6:OpR X (binaryOp .Mod) (rI (λ_ j=>0<j) λi j=>.int (i % j)):=opI λi j _ _ _ _ _ hc q=>by have h1:(0:Int)<j:=hc;exact mod_int' (by lia) (by rw[Int.fmod_eq_emod_of_nonneg i (by lia)];exact q)
def aC7:OpR X (binaryOp .Pow) (rI CPow λi j=>.int (i ^ j.toNat)):=opI λ_ _ _ _ _ _ _ hc q=>pow_int_small hc.1 hc.2.1 hc.2.2 q
def unI{f:aSQ->Sem aSQ}{g:Int->Int}(rule:∀(i:Int) (t:Tok) (s:aSR) (Q:VSP) (E:VSP),Q (.int (g i) s.toks) {s with toks:=s.toks+1} -> wpAny (model X.prog X.w) X.A (f (.int i t)) Q E s):UnR X f (rU λi=>.int (g i)):=by intro aA s σ H x v Q I rx h;obtain⟨i,rfl,q⟩:=h;obtain⟨t,rfl⟩:=rx;exact rule i t s _ _ ⟨.int (g i),H,I.tok _,⟨_,rfl⟩,q⟩
def aC8:UnR X (unaryOp .USub) (rU λi=>.int (-i)):=unI λ_ _ _ _ _ q=>neg_int q
end
def scal:V->V->Bool
 |.non,.non=>true|.non,.int _=>true|.int _,.non=>true|.non,.bl _=>true|.bl _,.non=>true|.non,.str _=>true|.str _,.non=>true
 |.int _,.int _=>true|.bl _,.bl _=>true|.str _,.str _=>true|.byt _,.byt _=>true
 |.int _,.str _=>true|.str _,.int _=>true|.bl _,.str _=>true|.str _,.bl _=>true
 |_,_=>false
def rEq:R2:=λx y H Q=>scal x y=true/\Q (.bl (decide (x=y))) H
def rNe:R2:=λx y H Q=>scal x y=true/\Q (.bl (!decide (x=y))) H
def pA{i j:Int}:decide (V.int i=V.int j)=(i==j):=by rw[aO2];simp
def u7{i j:Bool}:decide (V.bl i=V.bl j)=(i==j):=by rw[aO2];simp
def u8{i j:Str}:decide (V.str i=V.str j)=(i==j):=by rw[aO2];simp
def u9{i j:Array UInt8}:decide (V.byt i=V.byt j)=(i.toList==j.toList):=by rw[aO2];cases i;cases j;simp
section
variable {a b c:Expr}{tb tc:TE}{pos:Pos}
def a8{σ:St}{s:aSR}{Q:VK}{k k':Bool}(I:Inv X aA σ H s)(q:Q (.bl k) H)(e:k=k'):EP X aA σ Q (.bool k') s:=by subst e;exact⟨.bl k,H,I,rfl,q⟩
def vA:OpR X (compareOp .Eq) rEq:=by
 intro aA s σ H x y v u Q I rx ry h;obtain⟨hs,q⟩:=h;cases x with
 |non =>
  cases rx;cases y with
  |non=>cases ry;exact PySem.EqNone.eq_none_none (a8 I q (by simp))
  |bl j=>cases ry;exact PySem.EqNone.eq_none_bool (a8 I q (by simp))
  |int j=>obtain⟨t',rfl⟩:=ry;exact PySem.EqNone.eq_none_int (a8 I q (by simp))
  |str j=>obtain⟨t',rfl⟩:=ry;exact PySem.EqNone.eq_none_str (a8 I q (by simp))
  |_=>exact absurd (show false=true from hs) aOU
 |bl i =>
  cases rx;cases y with
  |non=>cases ry;exact PySem.EqNone.eq_bool_none (a8 I q (by simp))
  |bl j=>cases ry;exact eq_bool (a8 I q u7)
  |str j=>obtain⟨t',rfl⟩:=ry;exact PySem.EqMixed.eq_bool_str (a8 I q (by simp))
  |_=>exact absurd (show false=true from hs) aOU
 |int i =>
  obtain⟨t,rfl⟩:=rx;cases y with
  |non=>cases ry;exact PySem.EqNone.eq_int_none (a8 I q (by simp))
  |int j=>obtain⟨t',rfl⟩:=ry;exact eq_int (a8 I q pA)
  |str j=>obtain⟨t',rfl⟩:=ry;exact PySem.EqMixed.eq_int_str (a8 I q (by simp))
  |_=>exact absurd (show false=true from hs) aOU
 |str i =>
  obtain⟨t,rfl⟩:=rx;cases y with
  |non=>cases ry;exact PySem.EqNone.eq_str_none (a8 I q (by simp))
  |bl j=>cases ry;exact PySem.EqMixed.eq_str_bool (a8 I q (by simp))
  |int j=>obtain⟨t',rfl⟩:=ry;exact PySem.EqMixed.eq_str_int (a8 I q (by simp))
  |str j=>obtain⟨t',rfl⟩:=ry;exact eq_str (a8 I q u8)
  |_=>exact absurd (show false=true from hs) aOU
 |byt i =>
  obtain⟨t,rfl⟩:=rx;cases y with
  |byt j=>obtain⟨t',rfl⟩:=ry;exact W.eq_bytes (a8 I q u9)
  |_=>exact absurd (show false=true from hs) aOU
 |_=>cases y <;> exact absurd (show false=true from hs) aOU
def vB:OpR X (compareOp .NotEq) rNe:=by
 intro aA s σ H x y v u Q I rx ry h;obtain⟨hs,q⟩:=h;cases x with
 |non =>
  cases rx;cases y with
  |non=>cases ry;exact PySem.EqNone.ne_none_none (a8 I q (by simp))
  |bl j=>cases ry;exact PySem.EqNone.ne_none_bool (a8 I q (by simp))
  |int j=>obtain⟨t',rfl⟩:=ry;exact PySem.EqNone.ne_none_int (a8 I q (by simp))
  |str j=>obtain⟨t',rfl⟩:=ry;exact PySem.EqNone.ne_none_str (a8 I q (by simp))
  |_=>exact absurd (show false=true from hs) aOU
 |bl i =>
  cases rx;cases y with
  |non=>cases ry;exact PySem.EqNone.ne_bool_none (a8 I q (by simp))
  |bl j=>cases ry;exact ne_bool (a8 I q (congrArg not u7))
  |str j=>obtain⟨t',rfl⟩:=ry;exact PySem.EqMixed.ne_bool_str (a8 I q (by simp))
  |_=>exact absurd (show false=true from hs) aOU
 |int i =>
  obtain⟨t,rfl⟩:=rx;cases y with
  |non=>cases ry;exact PySem.EqNone.ne_int_none (a8 I q (by simp))
  |int j=>obtain⟨t',rfl⟩:=ry;exact ne_int (a8 I q (congrArg not pA))
  |str j=>obtain⟨t',rfl⟩:=ry;exact PySem.EqMixed.ne_int_str (a8 I q (by simp))
  |_=>exact absurd (show false=true from hs) aOU
 |str i =>
  obtain⟨t,rfl⟩:=rx;cases y with
  |non=>cases ry;exact PySem.EqNone.ne_str_none (a8 I q (by simp))
  |bl j=>cases ry;exact PySem.EqMixed.ne_str_bool (a8 I q (by simp))
  |int j=>obtain⟨t',rfl⟩:=ry;exact PySem.EqMixed.ne_str_int (a8 I q (by simp))
  |str j=>obtain⟨t',rfl⟩:=ry;exact ne_str (a8 I q (congrArg not u8))
  |_=>exact absurd (show false=true from hs) aOU
 |byt i =>
  obtain⟨t,rfl⟩:=rx;cases y with
  |byt j=>obtain⟨t',rfl⟩:=ry;exact W.ne_bytes (a8 I q (congrArg not u9))
  |_=>exact absurd (show false=true from hs) aOU
 |_=>cases y <;> exact absurd (show false=true from hs) aOU
def op_lt:OpR X (compareOp .Lt) (rI0 λi j=>.bl (decide (i<j))):=l6 λ_ _ _ _ _ _ _ q=>lt_int q
def op_le:OpR X (compareOp .LtE) (rI0 λi j=>.bl (decide (i<=j))):=l6 λ_ _ _ _ _ _ _ q=>le_int q
def vC:OpR X (compareOp .Gt) (rI0 λi j=>.bl (decide (j<i))):=l6 λ_ _ _ _ _ _ _ q=>gt_int q
def op_ge:OpR X (compareOp .GtE) (rI0 λi j=>.bl (decide (j<=i))):=l6 λ_ _ _ _ _ _ _ q=>ge_int q
def aC9:OpR X (compareOp .In) (λx y H Q=>∃i j,x=.str i/\y=.str j/\Q (.bl (!(Builtin.Str.occurrences j i 0 j.length 1).isEmpty)) H):=by intro aA s σ H x y v u Q I rx ry h;obtain⟨i,j,rfl,rfl,q⟩:=h;obtain⟨t,rfl⟩:=rx;obtain⟨t',rfl⟩:=ry;exact in_str (a8 I q rfl)
def aDA:OpR X (compareOp .Is) (λx y H Q=>y=.non/\Q (.bl (decide (x=.non))) H):=by
 intro aA s σ H x y v u Q I rx ry h;obtain⟨rfl,q⟩:=h;cases ry;refine is_none_gen (a8 I q ?_);cases x <;> first
  |(cases rx;rfl)
  |(obtain⟨t,rfl⟩:=rx;rfl)
def aDB:OpR X (compareOp .IsNot) (λx y H Q=>y=.non/\Q (.bl (!decide (x=.non))) H):=by
 intro aA s σ H x y v u Q I rx ry h;obtain⟨rfl,q⟩:=h;cases ry;refine isnot_none_gen (a8 I q ?_);cases x <;> first
  |(cases rx;rfl)
  |(obtain⟨t,rfl⟩:=rx;rfl)
def aDC:OpR X (compareOp .NotIn) (λx y H Q=>∃i j,x=.str i/\y=.str j/\Q (.bl (!(!(Builtin.Str.occurrences j i 0 j.length 1).isEmpty))) H):=by intro aA s σ H x y v u Q I rx ry h;obtain⟨i,j,rfl,rfl,q⟩:=h;obtain⟨t,rfl⟩:=rx;obtain⟨t',rfl⟩:=ry;exact notIn_str (a8 I q rfl)
def OpR.or{f:aSQ->aSQ->Sem aSQ}{r r':R2}(h:OpR X f r)(h':OpR X f r'):OpR X f (λx y H Q=>r x y H Q\/r' x y H Q):=by
 intro aA s σ H x y v u Q I rx ry q;rcases q with q|q
 . exact h aA s σ H x y v u Q I rx ry q
 . exact h' aA s σ H x y v u Q I rx ry q
def aDD{op:CmpOp}{r:R2}(ho:OpR X (compareOp op) r)(ha:PE X a ta)(hb:PE X b tb)(hm:behindInMarks op b=false):PE X (.Compare a [op] [b] pos) (tOp r ta tb):=by intro aA s σ H Q I h;exact wpAny_Compare1 (o9 ha hb I h λv u s2 x y H2 I2 rx ry q=>ho aA s2 σ H2 x y v u Q I2 rx ry q) hm
def vD(t:TE):TT:=λσ H Q=>t σ H λx H'=>∃k,x=.bl k/\Q k H'
def iP{op:CmpOp}{r:R2}(ho:OpR X (compareOp op) r)(ha:PE X a ta)(hb:PE X b tb)(hm:behindInMarks op b=false):PT X (.Compare a [op] [b] pos) (vD (tOp r ta tb)):=by
 intro aA s σ H Q I h;refine wpAny_isTrue_Compare1 (thn (ha aA s σ H _ I h) λv s1 ⟨x,H1,I1,r1,q1⟩=>thn (hb aA s1 σ H1 _ I1 q1) λu s2 ⟨y,H2,I2,r2,q2⟩ =>
  thn (ho aA s2 σ H2 x y v u _ I2 r1 r2 q2) λc s3 ⟨z,H3,I3,r3,k,e,q3⟩=>?_) hm
 subst e;cases r3;exact aOP ⟨H3,I3,q3⟩
def pB(K:Fg)(x:V)(H:Hp)(k:Bool):Prop :=
 match x with
 |.non=>k=false
 |.bl b=>k=b
 |.int i=>k=(i != 0)
 |.str y=>y.length<=sizeLine/\k=((y.length:Int) != 0)
 |.byt y=>y.size<=sizeLine/\k=((y.size:Int) != 0)
 |.ref p=>(∃xs,SqL K H p xs/\k = !xs.isEmpty)\/(∃xs,SqT K H p xs/\k = !xs.isEmpty)\/∃kvs,H p=some (.dK kvs)/\k = !kvs.isEmpty
 |_=>False
def aDE{kvs:List (κ×V)}{vs:List (κ×aSQ)}(r:KV kvs vs):(!vs.isEmpty) = !kvs.isEmpty:=by cases r <;> rfl
def vE{its:List aSQ}(r:aN xs its):(!its.toArray.isEmpty) = !xs.isEmpty:=by cases r <;> simp
def iQ:(sizeLine:Nat)<2 ^ 63:=by rw[aO3];decide
theorem aDF:TruR X (λx H Q=>∃k,pB X.K x H k/\Q k H):=by
 intro aA s σ H x v Q I rx h;obtain⟨k,e,q⟩:=h;have hl:=iQ;have hs:sizeLine=16777216:=aO3;cases x with
 |non=>cases rx;have e':k=false:=e;subst e';exact truthy_none ⟨H,I,q⟩
 |bl b=>cases rx;have e':k=b:=e;subst e';exact aOP ⟨H,I,q⟩
 |int i=>obtain⟨t,rfl⟩:=rx;have e':k=(i != 0):=e;subst e';exact PySem.P.truthy_int ⟨H,I,q⟩
 |str y=>obtain⟨t,rfl⟩:=rx;obtain⟨hy,e'⟩:y.length<=sizeLine/\k=((y.length:Int) != 0):=e;subst e';exact PySem.P.truthy_str (by lia) ⟨H,I.tok _,q⟩
 |byt y=>obtain⟨t,rfl⟩:=rx;obtain⟨hy,e'⟩:y.size<=sizeLine/\k=((y.size:Int) != 0):=e;subst e';exact W.truthy_bytes (by lia) ⟨H,I.tok _,q⟩
 |ref p =>
  cases rx;have e':(∃xs,SqL X.K H p xs/\k = !xs.isEmpty)\/(∃xs,SqT X.K H p xs/\k = !xs.isEmpty)\/∃kvs,H p=some (.dK kvs)/\k = !kvs.isEmpty:=e;rcases e' with⟨xs,hx,e'⟩|⟨xs,hx,e'⟩|⟨kvs,hx,e'⟩
  . subst e';obtain⟨its,r,pl,hz⟩:=I.list hx;have hlen:=r.length;exact wpAny_truthy_list pl.isList (by simp only[aO4];lia) ⟨H,I.tok _,by rw[vE r];exact q⟩
  . subst e';obtain⟨its,r,pl,hz⟩:=I.tuple hx;have hlen:=r.length;exact truthy_tuple pl (by simp only[aO4];lia) ⟨H,I.tok _,by rw[vE r];exact q⟩
  . subst e';obtain⟨hz,hS,vs,r,m⟩:kvs.length<=sizeLine/\(p==sysModules)=false/\∃vs,KV kvs vs/\s.heap.DictOf (dB X.prog X.w) p vs:=I.hok p _ hx;have hlen:kvs.length=vs.length:=aN4 r;exact wpAny_truthy_dict hS m (by lia) ⟨H,I.tok _,by rw[aDE r];exact q⟩
 |_=>exact(show False from e).elim
def aDG (ha : PE X a ta) (he : ∀ whole, isTrue a X.env whole = (do let v ← whole; standAt a.pos; holding [v] (truthy v))) :
    PT X a (λσ H Q=>ta σ H λx H'=>∃k,pB X.K x H' k/\Q k H'):=by
 intro aA s σ H Q I h;exact isTrue_plain (thn (ha aA s σ H _ I h) λv s1 ⟨x,H1,I1,r1,q1⟩=>aDF aA s1 σ H1 x v Q I1 r1 q1) (he _)
def aDH:OpR X (binaryOp .Add) (λx y H Q=>∃i j,x=.str i/\y=.str j/\i.length+j.length<=sizeLine/\Q (.str (i++j)) H):=by intro aA s σ H x y v u Q I rx ry h;obtain⟨i,j,rfl,rfl,hz,q⟩:=h;obtain⟨t,rfl⟩:=rx;obtain⟨t',rfl⟩:=ry;exact add_str (λt' tk=>⟨.str (i++j),H,I.tok _,⟨_,rfl⟩,q⟩) hz
def dY{x:V}{us:List aSQ}(r:aN [x] us):∃u,us=[u]/\aM x u:=by
 cases r with
 |cons r1 r2=>cases r2;exact⟨_,rfl,r1⟩
def vF{x:V}{us:List aSQ}(r:aN [x,y] us):∃u w',us=[u,w']/\aM x u/\aM y w':=by
 cases r with
 |cons r1 r2 =>
  cases r2 with
  |cons r3 r4=>cases r4;exact⟨_,_,rfl,r1,r3⟩
def aDI(hc:X.calm=true):eQ X (.builtin "max") (λxs H Q=>∃i j,xs=[.int i,.int j]/\Q (.int (if j > i then j else i)) H):=by
 intro aA s σ H xs us Q I r h;obtain⟨i,j,rfl,q⟩:=h;obtain⟨u,w',rfl,⟨t,rfl⟩,⟨t',rfl⟩⟩:=vF r;refine max_two_ints (I.ok.hd hc) λh' tk k=>⟨_,H,I.kept k,?_,q⟩;by_cases hj:j > i
 . rw[if_pos hj,if_pos hj];exact⟨_,rfl⟩
 . rw[if_neg hj,if_neg hj];exact⟨_,rfl⟩
def aDJ:eQ X (.type "int") (λxs H Q=>(∃i,xs=[.int i]/\Q (.int i) H)\/∃k,xs=[.bl k]/\Q (.int (if k then 1 else 0)) H):=by
 intro aA s σ H xs us Q I r h;rcases h with⟨i,rfl,q⟩|⟨k,rfl,q⟩
 . obtain⟨u,rfl,t,rfl⟩:=dY r;exact call_int_int ⟨.int i,H,I,⟨_,rfl⟩,q⟩
 . obtain⟨u,rfl,r1⟩:=dY r;cases r1;exact call_int_bool ⟨.int (if k then 1 else 0),H,I.tok _,⟨_,rfl⟩,q⟩
def aDK:eQ X (.type "str") (λxs H Q=>∃i,xs=[.int i]/\i.natAbs.log2<1920/\Q (.str (toString i)) H):=by intro aA s σ H xs us Q I r h;obtain⟨i,rfl,hz,q⟩:=h;obtain⟨u,rfl,t,rfl⟩:=dY r;exact PySem.P.str_of_int hz ⟨.str _,H,I.tok _,⟨_,rfl⟩,q⟩
def LenV(K:Fg)(x:V)(H:Hp)(n:Nat):Prop :=
 match x with
 |.str y=>y.length<=sizeLine/\n=y.length
 |.byt y=>y.size<=sizeLine/\n=y.size
 |.ref p=>(∃xs,SqL K H p xs/\n=xs.length)\/∃xs,SqT K H p xs/\n=xs.length
 |_=>False
theorem aDL:eQ X (.builtin "len") (λxs H Q=>∃x n,xs=[x]/\LenV X.K x H n/\Q (.int n) H):=by
 intro aA s σ H xs us Q I r h;obtain⟨x,n,rfl,e,q⟩:=h;obtain⟨u,rfl,rx⟩:=dY r;have hl:=iQ;have hs:sizeLine=16777216:=aO3;cases x with
 |str y=>obtain⟨t,rfl⟩:=rx;obtain⟨hy,e'⟩:y.length<=sizeLine/\n=y.length:=e;subst e';exact len_str (by lia) ⟨.int _,H,I.tok _,⟨_,rfl⟩,q⟩
 |byt y=>obtain⟨t,rfl⟩:=rx;obtain⟨hy,e'⟩:y.size<=sizeLine/\n=y.size:=e;subst e';exact W.len_bytes (by lia) ⟨.int _,H,I.tok _,⟨_,rfl⟩,q⟩
 |ref p =>
  cases rx;have e':(∃xs,SqL X.K H p xs/\n=xs.length)\/∃xs,SqT X.K H p xs/\n=xs.length:=e;rcases e' with⟨xs,hx,e'⟩|⟨xs,hx,e'⟩
  . subst e';obtain⟨its,r',pl,hz⟩:=I.list hx;have hlen:=r'.length;exact Calls.call_len_list pl.isList (by simp only[aO4];lia) ⟨.int xs.length,H,I.tok _,⟨_,by simp only[aO4];rw[hlen]⟩,q⟩
  . subst e';obtain⟨its,r',pl,hz⟩:=I.tuple hx;have hlen:=r'.length;exact len_tuple pl (by simp only[aO4];lia) ⟨.int xs.length,H,I.tok _,⟨_,by simp only[aO4];rw[hlen]⟩,q⟩
 |_=>exact(show False from e).elim
end
section
variable {w:aST}{A:aSS}{E:VSP}{s:aSR}{x dx C f:Addr}{mA:SOV}{name:Str}{v:aSQ}
end
def eP.some_of{o:Option aSQ}(r:eP (some v) o):∃u,o=some u/\aM v u:=by
 cases o with
 |none=>exact(show False from r).elim
 |some u=>exact⟨u,rfl,r⟩
section
variable {w:aST}{a C dx:Addr}{fs fs':List (Str×V)}
end
structure Cls(K:Fg)(C:Addr):Prop where
 pg:W.plainGet K C Str.empty=true
 hd:W.hasDictIn K C=true
 po:W.plainOver K C=true
 sa:W.findIn K (.ref C) "__setattr__" = some (some (.builtin "object.__setattr__"))
def pC(K:Fg)(C:Addr)(f:Str):Prop:=W.findIn K (.ref C) f=some none
structure pD(K:Fg)(C:Addr)(m:Str)(f:Addr):Prop where
 at_:W.findIn K (.ref C) m=some (some (.ref f))
 fn:W.isFn K (.ref f)=true
 kp:W.keepIn K (.ref f)=true
section
variable {σ:St}{s:aSR}{a C dx:Addr}{fs:List (Str×V)}{f:Str}{A:aSS}{E:VSP}
end
section
variable  {o value:Expr}{f:Str}{pos tpos:Pos}{tv:TE}
end
section
variable {σ:St}{s:aSR}{A:aSS}{E:VSP}{Q:VSP}{c:aSQ}{b:Bool}
end
structure bL(k:Nat)(A:aSS):Prop where
 hd:A.handled=none
 dp:A.depth+3 * k+5<recursionLimit
 un:A.units+16 * k+200<cLine
theorem bL.deeper{A:aSS}(r:bL (k+1) A)(env:Env):bL k (A.deeper env) :=
 ⟨r.hd,by have:=r.dp;show A.depth+1+3 * k+5<_;lia,by have:=r.un;show A.units+3+16 * k+200<_;lia⟩
theorem bL.depth{A:aSS}(r:bL k A):A.depth<recursionLimit:=by have:=r.dp;lia
theorem bL.units{A:aSS}(r:bL k A):A.units+64<cLine:=by have:=r.un;lia
def tNil:TA:=λ_ H Q=>Q [] H
def vG(ta:TE)(tr:TA):TA:=λσ H Q=>ta σ H λx H1=>tr σ H1 λxs H2=>Q (x::xs) H2
section
variable {es:List Expr}{t:TA}{pos:Pos}
def eR:PA X [] tNil:=λ_ _ _ _ H Q I h=>aO5 ⟨[],H,I,.nil,h⟩
def fP(ha:PE X e te)(hr:PA X es t)(hs:starEach (e::es) X.env=(false,eval e X.env)::starEach es X.env:=by rfl):PA X (e::es) (vG te t):=by intro pos aA s σ H Q I h;rw[hs];show wpAny _ _ (spliced ((false,eval e X.env)::backTo pos (starEach es X.env))) _ _ s;refine aO6 (thn (ha aA s σ H _ I h) λu s1 ⟨x,H1,I1,r1,q1⟩=>?_);exact thn (hr pos aA s1 σ H1 _ I1 q1) λus s2 ⟨xs,H2,I2,r2,q2⟩=>⟨x::xs,H2,I2,.cons r1 r2,q2⟩
def tTup(t:TA):TE:=λσ H Q=>t σ H λxs H1=>xs.length<=sizeLine/\∀p,H1 p=none->Q (.ref p) (upd H1 p (.tup xs))
def tLst(t:TA):TE:=λσ H Q=>t σ H λxs H1=>xs.length<=sizeLine/\∀p,H1 p=none->Q (.ref p) (upd H1 p (.lst xs))
def aDM{x1}(h:PA X es t):PE X (.Tuple es x1 pos) (tTup t):=by
 intro aA s σ H Q I hq;refine wpAny_Tuple_spliced (thn (h pos aA s σ H _ I hq) λus s1 ⟨xs,H1,I1,r,z,q⟩=>⟨by rw[<- r.length];exact z,?_⟩)
 have hf:H1 s1.heap.objs.size=none:=I1.hok.fresh (aOY _);refine⟨.ref s1.heap.objs.size,upd H1 s1.heap.objs.size (.tup xs),I1.laid (t':=s1.toks) (λb u e=>hps e) (aOY _) ?_,rfl,q _ hf⟩;exact⟨z,us,r,⟨_,aN6 _ rfl,rfl,rfl,_,rfl⟩⟩
def l8(h:PA X es t):PE X (.List es pos) (tLst t):=by
 intro aA s σ H Q I hq;refine wpAny_List_spliced (thn (h pos aA s σ H _ I hq) λus s1 ⟨xs,H1,I1,r,z,q⟩=>⟨by rw[<- r.length];exact z,?_⟩)
 have hf:H1 s1.heap.objs.size=none:=I1.hok.fresh (aOY _);refine⟨.ref s1.heap.objs.size,upd H1 s1.heap.objs.size (.lst xs),I1.laid (t':=s1.toks) (λb u e=>hps e) (aOY _) ?_,rfl,q _ hf⟩;exact⟨z,us,0,r,aN6 _ rfl⟩
end
abbrev Sp:=List V->Hp->VK->XK->Prop
abbrev CXT:=List Env->Hp->aSR->XK->aSQ->aSR->Prop
structure iR(P:aSU)(w:aST)(K:Fg)(mg:SOV)(base:Heap)(A:aSS)(outer:List Env)(s:aSR)(H:Hp):Prop where
 frames:A.frames=some outer
 mod:Mod K mg base
 bs:∀b o,base.get? b=some o->s.heap.get? b=some o/\H b=none
 bsz:base.objs.size<=s.heap.objs.size
 funs:s.heap.FunFrames base outer
 frf:∀b∈frs outer,H b=none
 hok:HOk P w H s.heap
 bare:AllBare s.gens
 tabs:iO K base H
def CE(outer:List Env)(P:aSU)(w:aST)(H:Hp)(s:aSR)(Q:VK)(u:aSQ)(s':aSR):Prop :=
 ∃v H',s'.os=s.os/\AllBare s'.gens/\Un (frs outer) [] H H' s.heap s'.heap/\HOk P w H' s'.heap/\aM v u/\Q v H'
def CR(CX:CXT)(outer:List Env)(P:aSU)(w:aST)(H:Hp)(s:aSR)(Q:VK)(E:XK)(r:Result)(s':aSR):Prop :=
 match r with
 |.ok (.ret u)=>CE outer P w H s Q u s'
 |.ok _=>False
 |.error e=>CX outer H s E e s'
structure bM(P:aSU)(w:aST)(K:Fg)(mg:SOV)(base:Heap)(CX:CXT)(k:Nat)(f:Addr)(fd:FuncData)(ps:List Str)(sp:Sp):Prop where
 len:∀vs H Q E,sp vs H Q E->vs.length=ps.length
 run:∀(A:aSS) (outer:List Env) (s:aSR) (H:Hp) (args:Args) (us:List aSQ) (vs:List V) (Q:VK) (E:XK),bL k A->iR P w K mg base A outer s H->BindsTo s fd args (ps.zip us)->aN vs us->sp vs H Q E ->
  codeAny (model P w) A (.call (.ref f) args) (CR CX outer P w H s Q E) s
def bM.imp{w:aST}{CX:CXT}{f:Addr}{sp sp':Sp}(F:bM P w K mg base CX k f fd ps sp)(h:∀vs H Q E,sp' vs H Q E->sp vs H Q E):bM P w K mg base CX k f fd ps sp' :=
 ⟨λvs H Q E q=>F.len vs H Q E (h _ _ _ _ q),λA outer s H args us vs Q E hr he hb hv hs=>F.run A outer s H args us vs Q E hr he hb hv (h _ _ _ _ hs)⟩
section
variable {σ:St}{s:aSR}
def Inv.env0(I:Inv X aA σ H s):iR X.prog X.w X.K X.mg X.base X.A X.stack s H :=
 ⟨I.ok.frames,I.ok.mod,I.bs,aOE I.ok.bsz I.sz,I.stack,I.stkFree,I.hok,I.bare,I.ok.tabs.mono I.base.tbls⟩
def Inv.after{Q:VK}(I:Inv X aA σ H s)(h:CE X.stack X.prog X.w H s Q u s'):EP X aA σ Q u s':=by obtain⟨v,H',os,bare,un,hok,r,q⟩:=h;obtain⟨hh,g,d,t,os'⟩:=s';obtain rfl:os'=s.os:=os;exact⟨v,H',I.call (h':=hh) (g':=g) (d':=d) (t':=t) (ch:=[]) un hok bare (λb z=>absurd z (by simp)),r,q⟩
end
end L2
variable {CX:L2.CXT}
namespace L2
def cV(K:Fg)(fd:FuncData)(ps:List Str)(ds:List aSQ):Prop :=
 ∀(s:aSR) (us:List aSQ),K.In s.heap->(us++ds).length=ps.length->BindsTo s fd ⟨us,[]⟩ (ps.zip (us++ds))
def cV.all(h:∀us:List aSQ,us.length=ps.length->bindArgs fd ⟨us,[]⟩=pure (ps.zip us)):cV K fd ps []:=λs us _ hl=>by rw[aO7]at hl ⊢;exact .of_eq (h us hl)
section
variable {f C:Addr}{sp:Sp}{dvs:List V}{ds:List aSQ}{E:XK}{m:Str}{pos:Pos}{o:Expr}{es:List Expr}{t:TA}
structure Mk(K:Fg)(C f:Addr):Prop where
 makes:W.makesIn K C=true
 init:W.findIn K (.ref C) "__init__" = some (some (.ref f))
 fn:W.isFn K (.ref f)=true
 kp:W.keepIn K (.ref C)=true
end
section
variable {f C:Addr}{ks:List Str}{sp:Sp}{E:XK}{m:Str}{pos kpos:Pos}{o:Expr}{es:List Expr}{kws:List Keyword}{t tk:TA}{nm:Option Str}
variable {g:List aSQ->List aSQ->List aSQ}{gV:List V->List V->List V}
end
structure iS(N P:List Str)(sc:Scope):Prop where
 kind:sc.kind=.function
 co:sc.isCoroutine=false
 gen:sc.isGenerator=false
 nd:N.Nodup
 pre:N.take P.length=P
 par:∀x∈P,sc.names.lookup x=some .local\/sc.names.lookup x=some .cell
 nofree:∀y∈sc.names,y.2 ≠ .free
theorem vH{kindOf:Str->Option NameKind}{x:Str}:∀{binds:List (Str×aSQ)}{m:SOV},(∀v,(x,v)∉binds)->bindL kindOf binds m x=m x
 |[],_,_=>rfl
 |(n,v)::r,m,h=>by
  unfold bindL;rw[vH λw hw=>h w (mcm hw)];split
  . have:x≠n:=by rintro rfl;exact h v mcs
    simp[this]
  . rfl
theorem vI{kindOf:Str->Option NameKind}{x:Str}:∀{binds:List (Str×aSQ)}{m:SOV},(∀v,(x,v)∉binds)->bindC kindOf binds m x=m x
 |[],_,_=>rfl
 |(n,v)::r,m,h=>by
  unfold bindC;rw[vI λw hw=>h w (mcm hw)];split
  . rfl
  . have:x≠n:=by rintro rfl;exact h v mcs
    simp[this]
theorem vJ{kindOf:Str->Option NameKind}{x:Str}{v:aSQ}:∀{P:List Str}{vs:List aSQ}{i:Nat}{m:SOV},P.Nodup->P[i]? = some x->vs[i]? = some v->kindOf x=some .local->bindL kindOf (P.zip vs) m x=some v
 |[],_,_,_,_,h,_,_=>by simp at h
 |_::_,[],_,_,_,_,h,_=>by simp at h
 |p::P,w::vs,0,m,nd,h1,h2,hk=>by simp at h1 h2;subst h1;subst h2;show bindL kindOf ((p,w)::P.zip vs) m p=_;unfold bindL;rw[vH λv hv=>(aO8.mp nd).1 (aO9 hv).1,if_pos hk];simp
 |p::P,w::vs,i+1,m,nd,h1,h2,hk=>by show bindL kindOf ((p,w)::P.zip vs) m x=_;unfold bindL;exact vJ (i:=i) (aO8.mp nd).2 (by simpa using h1) (by simpa using h2) hk
theorem vK{kindOf:Str->Option NameKind}{x:Str}{v:aSQ}:∀{P:List Str}{vs:List aSQ}{i:Nat}{m:SOV},P.Nodup->P[i]? = some x->vs[i]? = some v->kindOf x≠some .local->bindC kindOf (P.zip vs) m x=some v
 |[],_,_,_,_,h,_,_=>by simp at h
 |_::_,[],_,_,_,_,h,_=>by simp at h
 |p::P,w::vs,0,m,nd,h1,h2,hk=>by simp at h1 h2;subst h1;subst h2;show bindC kindOf ((p,w)::P.zip vs) m p=_;unfold bindC;rw[vI λv hv=>(aO8.mp nd).1 (aO9 hv).1,if_neg hk];simp
 |p::P,w::vs,i+1,m,nd,h1,h2,hk=>by show bindC kindOf ((p,w)::P.zip vs) m x=_;unfold bindC;exact vK (i:=i) (aO8.mp nd).2 (by simpa using h1) (by simpa using h2) hk
def cO(N:List Str)(vs:List V):St:=vs.map some++List.replicate (N.length-vs.length) none
noncomputable def bZ(CX:CXT)(P:aSU)(w:aST)(K:Fg)(mg:SOV)(base:Heap)(N:List Str)(qual:Str)(scope:Scope)(f:Addr)(cd:aSQ)(A:aSS)(outer:List Env)(s:aSR)(H:Hp)(E:XK):Cx where
 prog:=P
 w:=w
 K:=K
 mg:=mg
 base:=base
 A:=A.deeper (envOfC qual scope s.heap.objs.size f cd)
 N:=N
 s₀:=s
 H₀:=H
 env:=envOfC qual scope s.heap.objs.size f cd
 outer:=outer
 stack:=envOfC qual scope s.heap.objs.size f cd::outer
 ex:=[]
 calm:=true
 fn:=λ_=>true
 pn:=[]
 xe:=λe s'=>wpAny (model P w) (A.deeper (envOfC qual scope s.heap.objs.size f cd)) (leaving (envOfC qual scope s.heap.objs.size f cd) e) (λ_ s''=>CX outer H s E e s'') (λe' s''=>CX outer H s E e' s'') s'
def vL(h:sc.names.lookup x=some .cell):∃c,(cellsFrom n sc.names []).lookup x=some c:=by have q:=W.cellsFrom_some sc.names n [] (.inl h);exact Option.isSome_iff_exists.mp q
theorem vM{w:aST}{N:List Str}{f:Addr}{cd:aSQ}{A:aSS}{s s1:aSR}{E:XK}{us:List aSQ}{vs:List V}(S:iS N ps scope)(hd:A.handled=none)(e0:iR P w K mg base A outer s H)(hl:vs.length=ps.length)(r:aN vs us)(x:InCallC s s.heap.objs.size (bindL (envOfC qual scope s.heap.objs.size f cd).kindOf (ps.zip us) λ_=>none) (cellsFrom (s.heap.objs.size+1) scope.names []) (bindC (envOfC qual scope s.heap.objs.size f cd).kindOf (ps.zip us) λ_=>none) s1):Inv (bZ CX P w K mg base N qual scope f cd A outer s H E) [] (cO N vs) H s1:=by
 have hpl:ps.length<=N.length:=by have:=congrArg List.length S.pre;rw[aPA]at this;lia
 obtain⟨h1,tk,rfl,hk⟩:=x.done;have noA:∀b:Addr,b∉(bZ CX P w K mg base N qual scope f cd A outer s H E).ex:=λb z=>absurd (show b∈([]:List Addr)from z) (by simp)
 refine⟨⟨e0.mod,S.kind,rfl,rfl,aOY _,λy z c h1 h2=>?_,λy hy=>?_,λy c _ h=>?_,λ_=>hd,Around.frames_deeper e0.frames,.inr ⟨rfl,rfl⟩,λb z=>absurd z (noA b),e0.bs,e0.bsz,λb _ _=>noA b,λb z=>absurd z (noA b),e0.funs,e0.frf,e0.tabs⟩,
  rfl,e0.bare,Un.kept hk,⟨_,x.toInCall.ns,λi y v h1 h2 h3=>?_⟩,λy c h=>⟨_,x.cell y c h⟩,e0.hok.fresh (aOY _),λy c h=>?_,λp hp=>absurd (show p∈([]:LAO)from hp) (by simp),e0.hok.kept hk,?_⟩
 . exact name_of_addr x.apart (aPB h1) (aPB h2)
 . have hy:scope.names.lookup y=some .cell\/scope.names.lookup y=some .free:=hy;rcases hy with hy|hy
   . exact vL hy
   . exact absurd rfl (S.nofree _ (aPB hy))
 . exact Nat.le_of_lt (x.above y c (aPB h))
 . have hi:i<vs.length:=by
     unfold cO at h2;by_cases hi:i<vs.length
     . exact hi
     . rw[aPC (by simpa using hi)]at h2
       rw[aPD]at h2;split at h2 <;> cases h2
   have ha:vs[i]? = some v:=by
    unfold cO at h2;rw[aPE (by simpa using hi),aPF]at h2
    cases e:vs[i]? with
    |none=>rw[e]at h2;cases h2
    |some a=>rw[e]at h2;cases h2;rfl
   obtain⟨u,hu,rv⟩:=r.get ha;have hp:ps[i]? = some y:=by rw[<- S.pre,List.getElem?_take_of_lt (by lia)];exact h1
   have ndP:ps.Nodup:=by rw[<- S.pre];exact S.nd.sublist (List.take_sublist _ _)
   refine⟨u,rv,?_⟩;rcases S.par y (aPG hp)with k|k
   . exact .inl ⟨k,vJ ndP hp hu k⟩
   . obtain⟨c,e⟩:=vL (n:=s.heap.objs.size+1) k;refine .inr ⟨.inl k,c,e,?_⟩;have q:=x.cell y c e;rw[vK ndP hp hu (by show scope.names.lookup y≠_;rw[k];decide)]at q
     exact q
 . exact e0.hok.fresh (Nat.le_of_lt (x.above y c (aPB h)))
 . unfold cO;show _=N.length;rw[aPH,aPI,aPJ];lia
def fn_of{w:aST}{f:Addr}{name:Str}{params:Arguments}{dV kV doc pm ct oc:aSQ}{an od:Option Addr}{N:List Str}{sp:Sp}(lk:K.lookup f=some ⟨oc,od,.func (W.fnOf name qual params body scope dV kV doc pm an cdv ct),osl⟩)(hcd:W.codeIn K cdv qual=true)(S:iS N ps scope)(len:∀vs H Q E,sp vs H Q E->vs.length=ps.length)(hbody:∀(A:aSS) (outer:List Env) (s:aSR) (H:Hp) (vs:List V) (Q:VK) (E:XK),bL k (A.deeper (envOfC qual scope s.heap.objs.size f cdv))->sp vs H Q E->∃t,PSs (bZ CX P w K mg base N qual scope f cdv A outer s H E) body t/\t {nx:=λ_ H'=>Q .non H',rt:=Q} (cO N vs) H):bM P w K mg base CX (k+1) f (W.fnOf name qual params body scope dV kV doc pm an cdv ct) ps sp:=by
 refine⟨len,λA outer s H args us vs Q E hr e0 hb r hsp=>?_⟩;have hl:=len _ _ _ _ hsp;have KX:K.In s.heap:=e0.mod.kin.keeps λb o e=>(e0.bs b o e).1;have lim:s.heap.NoLimit:=e0.mod.nolimit.keeps λb o e=>(e0.bs b o e).1;have eN:∀y∈ps.zip us,scope.names.lookup y.1=some .local\/(scope.names.lookup y.1=some .cell/\((cellsFrom (s.heap.objs.size+1) scope.names []).lookup y.1).isSome=true):=λ⟨n,v⟩ hy=>by
  rcases S.par n (aO9 hy).1 with q|q
  . exact .inl q
  . exact .inr ⟨q,W.cellsFrom_some _ _ _ (.inl q)⟩
 refine aPK hr.depth (KX _ _ lk) rfl S.co S.gen rfl (W.codeRec_of KX hcd) (hb _ _ _ _ ?_);refine wpAny_newFunctionEnv_cells S.kind eN λenv he s1 x=>?_;subst he;refine⟨lim.keeps x.toInCall.keep,codeAny_func ?_⟩;obtain⟨t,ht,hq⟩:=hbody A outer s H vs Q E (hr.deeper _) hsp;have I:Inv (bZ CX P w K mg base N qual scope f cdv A outer s H E) [] (cO N vs) H s1:=vM S hr.hd e0 hl r x;refine aOM (ht [] s1 (cO N vs) H _ I hq) (λfl s' hs=>?_) λe s' hs=>hs;have fin:∀{σ':St}{H':Hp}{v:V}{u:aSQ},Inv (bZ CX P w K mg base N qual scope f cdv A outer s H E) [] σ' H' s'->aM v u->Q v H'->CE outer P w H s Q u s' :=
  λ{σ' H' v u} J rv q=>⟨v,H',J.os,J.bare,J.base,J.hok,rv,q⟩
 cases fl with
 |ret u=>obtain⟨v,σ',H',J,rv,q⟩:=hs;exact fin J rv q
 |next=>obtain⟨σ',H',J,q⟩:=hs;exact fin (v:=V.non) (u:=Value.none) J rfl q
 |brk=>obtain⟨_,_,_,q⟩:=hs;exact False.elim q
 |cont=>obtain⟨_,_,_,q⟩:=hs;exact False.elim q
section
variable  {pos:Pos}{es:List Expr}{t:TA}{id T:String}{r:List V->Hp->VK->Prop}
def tCB(r:List V->Hp->VK->Prop)(t:TA):TE:=λσ H Q=>t σ H λvs H1=>r vs H1 Q
def j9(hc:eQ X (.builtin id) r)(hg:Gl X x)(hm:X.mg x=none)(hv:bootBuiltins x=some (.builtin id))(ha:PA X (e::es) t)(hn:x ≠ "__name__" := by decide)(hdb:(x==("__debug__":Str))=false:=by decide)(he:starEach (e::es) X.env=(false,eval e X.env)::starEach es X.env:=by rfl)(hpl:(backTo pos (starEach es X.env)).any (·.1)=false:=by rfl):PE X (.Call (.Name x p) (e::es) [] pos) (tCB r t):=by intro aA s σ H Q I h;refine aPL (j0 I hg hm hv ?_ hn hdb);exact PyProof.Rows.callWith_builtin1 (thn (ha pos aA s σ H _ I h) λus s1 ⟨vs,H1,I1,r1,q1⟩=>hc aA s1 σ H1 vs us Q I1 r1 q1) he hpl
def aDN(hc:eQ X (.type T) r)(hg:Gl X x)(hm:X.mg x=none)(hv:bootBuiltins x=some (.type T))(ha:PA X (e::es) t)(hn:x ≠ "__name__" := by decide)(hdb:(x==("__debug__":Str))=false:=by decide)(he:starEach (e::es) X.env=(false,eval e X.env)::starEach es X.env:=by rfl)(hpl:(backTo pos (starEach es X.env)).any (·.1)=false:=by rfl):PE X (.Call (.Name x p) (e::es) [] pos) (tCB r t):=by intro aA s σ H Q I h;refine aPL (j0 I hg hm hv ?_ hn hdb);exact aOZ (thn (ha pos aA s σ H _ I h) λus s1 ⟨vs,H1,I1,r1,q1⟩=>hc aA s1 σ H1 vs us Q I1 r1 q1) he hpl
end
end L2
namespace HT
section
open PySem.SeqAt
open PySem.AutoSeq1 (wpAny_loadPart')
open PySem.MeetsSeq PySem.MeetsSeq2 PySem.MeetsSeq3
end
section
variable {w:aST}{A:aSS}{E:VSP}{s:aSR}
def aDO{t:Addr}{vs ws:List aSQ}{Q:VSP}(ht:IsTup s.heap t vs.toArray)(hb:IsTup s.heap b ws.toArray)(hv:vs≠[])(h1:ws=[]->Q (.ref t) s)(h2:ws≠[]->Q (.ref s.heap.objs.size) { s with heap:=s.heap.push { cls:=.type "tuple", data:=.seq (vs++ws).toArray } })(hsz:vs.length+ws.length<=sizeLine):wpAny (model prog w) A (binaryOp .Add (.ref t) (.ref b)) Q E s:=by
 obtain⟨⟨cls,dd,data,sl⟩,ho,hc,n,hd⟩:=id ht;obtain⟨⟨cls2,dd2,data2,sl2⟩,ho2,hc2,n2,hd2⟩:=id hb;simp only at hc hd hc2 hd2;subst hc hd hc2 hd2;have e:vs.toArray++ws.toArray=(vs++ws).toArray:=by simp
 by_cases hw:ws=[]
 . exact aPM ⟨_,ho,rfl⟩ ⟨_,ho2,rfl⟩ aPN seq_tuple_add aPO aPP (aPQ _ _)
     (tuple_addW1 t b vs.toArray ws.toArray n n2 dd dd2 sl sl2 (by simpa using hv) (by simp[hw])) ⟨ho,ho2,h1 hw⟩
 . refine aPM ⟨_,ho,rfl⟩ ⟨_,ho2,rfl⟩ aPN seq_tuple_add aPO aPP (aPQ _ _)
     (tuple_addW2 t b vs.toArray ws.toArray n n2 dd dd2 sl sl2 (by simpa using hv) (by simpa using hw) (by rw[aO4,aO4];exact hsz)) ⟨ho,ho2,?_⟩
   rw[e];exact h2 hw
def sIx(n d:Nat):Option Int->Nat
 |none=>d
 |some v=>if v<0 then(v+(n:Int)).toNat else min v.toNat n
def vN(n d:Nat):sIx n d none=d:=rfl
theorem kA(n d k:Nat):sIx n d (some (k:Int))=min k n:=by show(if(k:Int)<0 then((k:Int)+(n:Int)).toNat else min (k:Int).toNat n)=min k n;rw[if_neg (by lia),aPR]
theorem aDP(n d:Nat)(hd:d<=n)(o:Option Int):sIx n d o<=n:=by
 cases o with
 |none=>exact hd
 |some v =>
  show(if v<0 then(v+(n:Int)).toNat else min v.toNat n)<=n;by_cases hv:v<0
  . rw[if_pos hv];lia
  . rw[if_neg hv];exact Nat.min_le_right _ _
theorem vO(v:Int)(n d:Nat):(if v<0 then max (v+(n:Int)) 0 else min v (n:Int))=((sIx n d (some v):Nat):Int):=by
 show(if v<0 then max (v+(n:Int)) 0 else min v (n:Int))=(((if v<0 then(v+(n:Int)).toNat else min v.toNat n):Nat):Int);by_cases hv:v<0
 . simp only[if_pos hv];lia
 . simp only[if_neg hv];lia
theorem aDQ(lo hi:Option Int)(n:Nat):Builtin.Slice.sliceAdjust lo hi 1 (n:Int)=(((sIx n 0 lo:Nat):Int),((sIx n n hi:Nat):Int)):=by
 have h1:¬ ((1:Int)<0):=by lia
 unfold Builtin.Slice.sliceAdjust;simp only[h1,aPS];refine Prod.ext ?_ ?_
 . cases lo with
   |none=>rfl
   |some v=>exact vO v n 0
 . cases hi with
   |none=>rfl
   |some v=>exact vO v n n
theorem aDR(i j:Nat):Builtin.Slice.slicePlaces (i:Int) (j:Int) 1=j-i:=by
 unfold Builtin.Slice.slicePlaces;have h1:(1:Int) > 0:=by lia
 simp only[h1,aPT,Int.ediv_one];split <;> lia
def vP{v:aSQ}{o:Option Int}{Q:Option Int->aSR->Prop}(p:IsPart v o)(h:Q o s):wpAny (model prog w) A (Builtin.Slice.slicePartIndex v) Q E s:=by
 cases p with
 |none=>exact slicePart_none h
 |int i t=>exact slicePart_int h
def vQ{sl:Addr}{vl vu:aSQ}{Q:Int×Int×Nat->aSR->Prop}(hs:s.heap.IsSliceOf sl vl vu .none)(pl:IsPart vl lo)(pu:IsPart vu hi)(h:Q (((sIx n 0 lo:Nat):Int),1,sIx n n hi-sIx n 0 lo) s):wpAny (model prog w) A (Builtin.Slice.sliceApplied (.ref sl) (pure (n:Int))) Q E s:=by
 obtain⟨os,hos,hcs,hds⟩:=id hs;unfold Builtin.Slice.sliceApplied Builtin.Slice.sliceFields;refine aOW (aOW (aPU hos hds (x:=vl) rfl (aOW (aPU hos hds (x:=vu) rfl (aOW (aPU hos hds (x:=.none) rfl (aOV ?_)))))));refine aOW (slicePart_none ?_);show wpAny _ _ (if((1:Int)==0)=true then _ else _) _ _ s;rw[if_neg (by decide)]
 refine aOW (vP pl (aOW (vP pu (aOW (aOV ?_)))));show wpAny _ _ (match Builtin.Slice.sliceAdjust lo hi 1 (n:Int)with|(lo,hi)=>pure (lo,(1:Int),Builtin.Slice.slicePlaces lo hi 1)) _ _ s
 rw[aDQ lo hi n];show wpAny _ _ (pure (((sIx n 0 lo:Nat):Int),(1:Int),Builtin.Slice.slicePlaces ((sIx n 0 lo:Nat):Int) ((sIx n n hi:Nat):Int) 1)) _ _ s;rw[aDR];exact aOV h
theorem aDS(xs:Array aSQ)(i k:Nat):((List.range k).filterMap λ(m:Nat)=>xs[((i:Int)+(m:Int) * 1).toNat]?).toArray=((xs.toList.drop i).take k).toArray:=by
 have e:(λ(m:Nat)=>xs[((i:Int)+(m:Int) * 1).toNat]?)=λm=>xs[i+m]?:=by
  funext m;have:((i:Int)+(m:Int) * 1).toNat=i+m:=by lia
  rw[this]
 rw[e];have:=pick_run xs i k;rw[List.filterMap_map]at this;have e2:((λx=>xs[x]?) ∘ λx=>i+x)=λm=>xs[i+m]?:=rfl;rw[e2]at this;rw[this]
theorem aDT{t sl:Addr}{vl vu:aSQ}{Q:VSP}(ht:IsTup s.heap t items)(hs:s.heap.IsSliceOf sl vl vu .none)(pl:IsPart vl lo)(pu:IsPart vu hi)(hw:¬ (sIx items.size 0 lo=0/\sIx items.size items.size hi=items.size))(h:Q (.ref s.heap.objs.size) { s with heap:=s.heap.push { cls:=.type "tuple", data:=.seq ((items.toList.drop (sIx items.size 0 lo)).take (sIx items.size items.size hi-sIx items.size 0 lo)).toArray } })(hsz:items.size<=sizeLine):wpAny (model prog w) A (getItem (.ref t) (.ref sl)) Q E s:=by
 have htake:sizeOk (.seq ((items.toList.drop (sIx items.size 0 lo)).take (sIx items.size items.size hi-sIx items.size 0 lo)).toArray):=by show((items.toList.drop (sIx items.size 0 lo)).take (sIx items.size items.size hi-sIx items.size 0 lo)).toArray.size<=sizeLine;rw[aO4,aPA,aPV,aOQ];lia
 have hj:sIx items.size items.size hi<=items.size:=aDP _ _ (aOY _) hi;obtain⟨os,hos,hcs,hds⟩:=id hs;have hTs:s.TypeIs (.ref sl) "slice" := ⟨os,hos,hcs⟩;unfold getItem
 try with_reducible refine aPW ?_
 first|refine aOW (aOV ?_)|skip
 refine aOW (wpAny_sequenceKey ht.typeIs (by decide) ?_)
 refine aOW (wpAny_callSpecial?_slot (name:=Str.ofString "__getitem__") ht.typeIs aPX
  (wpAny_call_entry aPX ht.typeIs entry_tuple_getitem ?_ (args_tuple_getitem _ _)))
 show wpAny _ _ (Builtin.Tuple.tupleItemsOf (.ref t)>>=_) _ _ s;refine aOW (tupleItemsOf_ ht ?_);refine aOW (wpAny_typeOf hTs ?_);rw[if_pos (by decide)]
 refine aOW (vQ hs pl pu ?_);have hno:¬ ((((sIx items.size 0 lo:Nat):Int)==0&&(1:Int)==1&&(sIx items.size items.size hi-sIx items.size 0 lo)==items.size)=true):=by intro q;rw[aPY,aPY]at q;have q1:((sIx items.size 0 lo:Nat):Int)=0:=eq_of_beq q.1.1;have q2:sIx items.size items.size hi-sIx items.size 0 lo=items.size:=eq_of_beq q.2;exact hw ⟨by lia,by lia⟩
 show wpAny _ _ (if(((sIx items.size 0 lo:Nat):Int)==0&&(1:Int)==1&&(sIx items.size items.size hi-sIx items.size 0 lo)==items.size)=true then _ else _) _ _ s;rw[if_neg hno,aDS]
 first
  |exact aOW (m:=Builtin.Tuple.tupleExact _) (aPZ (aOV ⟨_,rfl,aOV h⟩) htake)
  |exact aOW (m:=Builtin.Tuple.tupleExact _) (aPZ (aOW (aOV (aOV ⟨_,rfl,aOV h⟩))) htake)
  |exact aOW (aOW (m:=Builtin.Tuple.tupleExact _) (aPZ (aOV (aOV ⟨_,rfl,aOV h⟩)) htake))
  |exact aOW (aOW (m:=Builtin.Tuple.tupleExact _) (aPZ (aOV ⟨_,rfl,aOV h⟩) htake))
end
end HT
namespace L2
abbrev TO:=St->Hp->(Option Int->Hp->Prop)->Prop
def PO(X:Cx)(e:Option Expr)(t:TO):Prop :=
 ∀(aA:LAO) (s:aSR) (σ:St) (H:Hp) (Q:Option Int->Hp->Prop),Inv X aA σ H s->t σ H Q ->
  wpAny (model X.prog X.w) X.A (evalPart e X.env) (λu s'=>∃o H',Inv X aA σ H' s'/\IsPart u o/\Q o H') X.xe s
def vR:TO:=λ_ H Q=>Q none H
def mC(t:TE):TO:=λσ H Q=>t σ H λx H1=>∃i,x=.int i/\Q (some i) H1
section
variable {lo hi:Option Expr}{tl th:TO}{pos:Pos}
def aDU:PO X none vR:=by intro aA s σ H Q I h;rw[evalPart_none];exact aOV ⟨none,H,I,.none,h⟩
def aDV(h:PE X e te):PO X (some e) (mC te):=by intro aA s σ H Q I hw;rw[evalPart_some];refine thn (h aA s σ H _ I hw) λu s1 ⟨x,H1,I1,r1,q1⟩=>?_;obtain⟨i,rfl,q⟩:=q1;obtain⟨t,rfl⟩:=r1;exact⟨some i,H1,I1,.int i t,q⟩
def SlR(X:Cx)(r:V->Option Int->Option Int->Hp->VK->Prop):Prop :=
 ∀(aA:LAO) (s:aSR) (σ:St) (H:Hp) (x:V) (v vl vu:aSQ) (lo hi:Option Int) (sl:Addr) (Q:VK),Inv X aA σ H s->aM x v->s.heap.IsSliceOf sl vl vu .none->IsPart vl lo->IsPart vu hi->r x lo hi H Q ->
  ∃T id,typeLookup (.type T) "__getitem__" = pure (some (.builtin id))/\s.TypeIs v T/\wpAny (model X.prog X.w) X.A (getItem v (.ref sl)) (EP X aA σ Q) X.xe s
def SlR.or{r r':V->Option Int->Option Int->Hp->VK->Prop}(h:SlR X r)(h':SlR X r'):SlR X (λx lo hi H Q=>r x lo hi H Q\/r' x lo hi H Q):=by
 intro aA s σ H x v vl vu lo hi sl Q I rx hs pl pu q;rcases q with q|q
 . exact h aA s σ H x v vl vu lo hi sl Q I rx hs pl pu q
 . exact h' aA s σ H x v vl vu lo hi sl Q I rx hs pl pu q
def tSl(r:V->Option Int->Option Int->Hp->VK->Prop)(te:TE)(tl th:TO):TE:=λσ H Q=>te σ H λx H1=>tl σ H1 λl H2=>th σ H2 λu H3=>r x l u H3 Q
def aDW{r:V->Option Int->Option Int->Hp->VK->Prop}(hr:SlR X r)(he:PE X e te)(hl:PO X lo tl)(hu:PO X hi th):PE X (.Subscript e (.Slice lo hi none p2) pos) (tSl r te tl th):=by
 intro aA s σ H Q I h;refine Subscript_ (thn (he aA s σ H _ I h) λv s1 ⟨x,H1,I1,r1,q1⟩=>?_);refine wpAny_Slice (thn (hl aA s1 σ H1 _ I1 q1) λvl s2 ⟨l,H2,I2,pl,q2⟩=>thn (hu aA s2 σ H2 _ I2 q2) λvu s3 ⟨u,H3,I3,pu,q3⟩=>?_);rw[evalPart_none];refine aOV ?_;have I4:Inv X aA σ H3 { s3 with heap:=s3.heap.push { cls:=.type "slice", data:=.fields #[vl,vu,.none] } }:=I3.kept (t':=s3.toks) λb ob q=>hps q
 obtain⟨T,id,hT,ht,hg⟩:=hr aA { s3 with heap:=s3.heap.push { cls:=.type "slice", data:=.fields #[vl,vu,.none] } } σ H3 x v vl vu l u s3.heap.objs.size Q I4 r1 (Heap.IsSliceOf.new ..) pl pu q3
 show wpAny (model X.prog X.w) X.A (subscriptTail e (.Slice lo hi none p2) v (.ref s3.heap.objs.size)) (EP X aA σ Q) X.xe { s3 with heap:=s3.heap.push { cls:=.type "slice", data:=.fields #[vl,vu,.none] } }
 exact tail_any (ops:=[.ref s3.heap.objs.size,v]) ht hT hg (by with_unfolding_all rfl)
def fC(xs:List V)(lo hi:Option Int):List V:=(xs.drop (HT.sIx xs.length 0 lo)).take (HT.sIx xs.length xs.length hi-HT.sIx xs.length 0 lo)
theorem vS(xs:List V)(lo hi:Option Int):(fC xs lo hi).length<=xs.length:=by unfold fC;rw[aPA,aPV];lia
def rSlT(K:Fg):V->Option Int->Option Int->Hp->VK->Prop:=λx lo hi H Q=>∃a xs,x=.ref a/\SqT K H a xs /\
 ¬ (HT.sIx xs.length 0 lo=0/\HT.sIx xs.length xs.length hi=xs.length)/\∀p,H p=none->Q (.ref p) (upd H p (.tup (fC xs lo hi)))
def aDX:SlR X (rSlT X.K):=by
 intro aA s σ H x v vl vu lo hi sl Q I rx hs pl pu h;obtain⟨a,xs,rfl,hx,hw,q⟩:=h;cases rx;obtain⟨its,r,ht,hz⟩:=I.tuple hx;have hlen:its.toArray.size=xs.length:=by rw[aO4];exact r.length.symm
 refine⟨"tuple", _,PyProof.Rows.slot_tuple_getitem.lookup,ht.typeIs,?_⟩;refine HT.aDT ht hs pl pu (by rw[hlen];exact hw) ?_ (by rw[hlen];exact hz)
 rw[hlen];refine⟨.ref s.heap.objs.size,_,I.laid (t':=s.toks) (o:=.tup (fC xs lo hi)) (λb ob q=>hps q) (aOY _) ?_,rfl,q _ (I.hok.fresh (aOY _))⟩;exact⟨aOE (vS xs lo hi) hz,_,(r.drop (HT.sIx xs.length 0 lo)).take (HT.sIx xs.length xs.length hi-HT.sIx xs.length 0 lo),fM.new _ _⟩
def aN.nil_iff{us:List aSQ}(r:aN xs us):us=[]↔xs=[]:=by
 cases r with
 |nil=>simp
 |cons _ _=>simp
end
def ixN(n:Nat)(i:Int):Option Nat:=if 0<=i then(if i<n then some i.toNat else none)else if -(n:Int)<=i then some (i+n).toNat else none
noncomputable def atI(xs:List α)(i:Int):Option α:=(ixN xs.length i).bind λj=>xs[j]?
theorem aDY{i:Int}(h:ixN n i=some j):seqIndex? i n=some j/\j<n /\ -(n:Int)<=i/\i<n:=by
 unfold ixN at h;by_cases h0:0<=i
 . rw[if_pos h0]at h;by_cases h1:i<n
   . rw[if_pos h1]at h;have e:i.toNat=j:=aN5 h;exact⟨by rw[seqIndex_of h0 h1,e],by lia,by lia,h1⟩
   . rw[if_neg h1]at h;cases h
 . rw[if_neg h0]at h;by_cases h1:-(n:Int)<=i
   . rw[if_pos h1]at h;have e:(i+n).toNat=j:=aN5 h;exact⟨by rw[seqIndex_neg (by lia) h1,e],by lia,h1,by lia⟩
   . rw[if_neg h1]at h;cases h
def mD{xs:List α}{i:Int}{v:α}(h:atI xs i=some v):∃j,seqIndex? i xs.length=some j/\xs[j]? = some v/\j<xs.length /\ -(xs.length:Int)<=i/\i<xs.length:=by
 unfold atI at h;cases e:ixN xs.length i with
 |none=>rw[e]at h;cases h
 |some j=>rw[e]at h;obtain⟨h1,h2,h3,h4⟩:=aDY e;exact⟨j,h1,h,h2,h3,h4⟩
theorem cW{xs:List α}{v:α}(h:xs[j]? = some v):atI xs (j:Int)=some v:=by
 have hj:j<xs.length:=(aOJ.mp h).1;have e:ixN xs.length (j:Int)=some j:=by unfold ixN;rw[if_pos (by lia),if_pos (by lia)];simp
 unfold atI;rw[e];exact h
def mH(b:Expr):Prop:=∀o i,subscripted b false o i=operate [o,i] (getItem o i)
def IxR(X:Cx)(r:R2):Prop :=
 ∀(value slice:Expr) (aA:LAO) (s:aSR) (σ:St) (H:Hp) (x y:V) (v u:aSQ) (Q:VK),Inv X aA σ H s->aM x v->aM y u->r x y H Q ->
  subscripted slice false v u=operate [v,u] (getItem v u)->wpAny (model X.prog X.w) X.A (subscriptTail value slice v u) (EP X aA σ Q) X.xe s
def MtR(X:Cx)(id:String)(r:V->List V->Hp->VK->Prop):Prop :=
 ∀(aA:LAO) (s:aSR) (σ:St) (H:Hp) (x:V) (xs:List V) (v:aSQ) (us:List aSQ) (Q:VK),Inv X aA σ H s->aM x v->aN xs us->r x xs H Q ->
  wpAny (model X.prog X.w) X.A (call (.builtin id) (v::us)) (EP X aA σ Q) X.xe s
section
variable {a b:Expr}{tb:TE}{pos:Pos}
def IxR.or{r r':R2}(h:IxR X r)(h':IxR X r'):IxR X (λx y H Q=>r x y H Q\/r' x y H Q):=by
 intro value slice aA s σ H x y v u Q I rx ry q hs;rcases q with q|q
 . exact h value slice aA s σ H x y v u Q I rx ry q hs
 . exact h' value slice aA s σ H x y v u Q I rx ry q hs
def iT{r:R2}(hr:IxR X r)(ha:PE X a ta)(hb:PE X b tb)(hs:mH b):PE X (.Subscript a b pos) (tOp r ta tb):=by intro aA s σ H Q I h;exact Subscript_ (o9 ha hb I h λv u s2 x y H2 I2 rx ry q=>hr a b aA s2 σ H2 x y v u Q I2 rx ry q (hs _ _))
def pE(K:Fg):R2:=λx y H Q=>∃p xs i v,x=.ref p/\y=.int i/\SqL K H p xs/\atI xs i=some v/\Q v H
def rIxT(K:Fg):R2:=λx y H Q=>∃p xs i v,x=.ref p/\y=.int i/\SqT K H p xs/\atI xs i=some v/\Q v H
def rIxS:R2:=λx y H Q=>∃z i c,x=.str z/\y=.int i/\z.length<=sizeLine/\atI z.cps.toList i=some c/\Q (.str ⟨#[c]⟩) H
theorem kB:IxR X (pE X.K):=by
 intro value slice aA s σ H x y v u Q I rx ry h hs;obtain⟨p,xs,i,z,rfl,rfl,hq,he,q⟩:=h;cases rx;obtain⟨t,rfl⟩:=ry;obtain⟨its,r,pl,hz⟩:=I.list hq;obtain⟨j,h1,h2,h3,h4,h5⟩:=mD he;obtain⟨w,ew,rw'⟩:=r.get h2;have hl:=r.length;have hn:=iQ;have fin:EP X aA σ Q w s:=⟨z,H,I,rw',q⟩;by_cases h0:0<=i
 . have hj:i.toNat=j:=by rw[seqIndex_of h0 h5]at h1;exact aN5 h1
   exact item_listR pl.isList h0 (by lia) (by rw[hj];simpa using ew) fin hs
 . have hj:(i+(its.toArray.size:Int)).toNat=j:=by
     rw[seqIndex_neg (by lia) h4]at h1
     rw[aO4,<- hl];exact aN5 h1
   exact subscriptTail_builtinR (x:=w) pl.isList.typeIs slot_list_getitem.lookup
    (wpAny_getItem_list_neg (Q:=λr s'=>r=w/\EP X aA σ Q r s') pl.isList (by lia) (by rw[aO4] <;> lia) (by lia) (by rw[hj];simpa using ew) ⟨rfl,fin⟩) hs
theorem aDZ:IxR X (rIxT X.K):=by
 intro value slice aA s σ H x y v u Q I rx ry h hs;obtain⟨p,xs,i,z,rfl,rfl,hq,he,q⟩:=h;cases rx;obtain⟨t,rfl⟩:=ry;obtain⟨its,r,pl,hz⟩:=I.tuple hq;obtain⟨j,h1,h2,h3,h4,h5⟩:=mD he;obtain⟨w,ew,rw'⟩:=r.get h2;have hl:=r.length;have hn:=iQ;have fin:EP X aA σ Q w s:=⟨z,H,I,rw',q⟩;exact subscriptTail_builtinR (x:=w) pl.typeIs slot_tuple_getitem.lookup
  (getItem_tuple (j:=j) (Q:=λr s'=>r=w/\EP X aA σ Q r s') pl (by lia) (by lia) (by rw[aO4,<- hl];exact h1) (by simpa using ew) ⟨rfl,fin⟩) hs
theorem aD0:IxR X rIxS:=by
 intro value slice aA s σ H x y v u Q I rx ry h hs;obtain⟨z,i,c,rfl,rfl,hz,he,q⟩:=h;obtain⟨t,rfl⟩:=rx;obtain⟨t',rfl⟩:=ry;obtain⟨j,h1,h2,h3,h4,h5⟩:=mD he;have hl:z.cps.toList.length=z.length:=by simp[Str.length]
 rw[hl]at h1 h4 h5;have hn:=iQ;exact tail_any (aP0 s z t) slot_str_getitem.lookup (getItem_str (c:=c) (by
  have e1:decide (i < -(2 ^ 63:Int))=false:=aN2 (by lia)
  have e2:decide (i ≥ 2 ^ 63)=false:=aN2 (by lia)
  rw[e1,e2,Bool.or_false]) (by rw[h1];simpa using h2) ⟨.str ⟨#[c]⟩,H,I.tok _,⟨_,rfl⟩,q⟩) hs
def rIx(K:Fg):R2:=λx y H Q=>pE K x y H Q\/rIxT K x y H Q\/rIxS x y H Q
def aD1:IxR X (rIx X.K):=kB.or (aDZ.or aD0)
theorem aD2(lo hi:Option Int)(n:Nat):(sliceBounds lo hi none n).1=((HT.sIx n 0 lo:Nat):Int)/\(sliceBounds lo hi none n).2.1=((HT.sIx n n hi:Nat):Int)/\(sliceBounds lo hi none n).2.2=1:=by
 refine⟨?_,?_,rfl⟩
 . cases lo with
   |none=>simp[sliceBounds,HT.sIx]
   |some i =>
    simp only[sliceBounds,HT.sIx,aP1,show(1:Int) > 0 by decide,aPT]
    by_cases h:i<0
    . simp only[h,aPT] <;> lia
    . simp only[h,aPS] <;> lia
 . cases hi with
   |none=>simp[sliceBounds,HT.sIx]
   |some i =>
    simp only[sliceBounds,HT.sIx,aP1,show(1:Int) > 0 by decide,aPT]
    by_cases h:i<0
    . simp only[h,aPT] <;> lia
    . simp only[h,aPS] <;> lia
def aD3(its:List aSQ)(lo hi:Option Int):slicePick its.toArray lo hi none=((its.drop (HT.sIx its.length 0 lo)).take (HT.sIx its.length its.length hi-HT.sIx its.length 0 lo)).toArray:=by obtain⟨h1,h2,h3⟩:=aD2 lo hi its.toArray.size;unfold slicePick;rw[h1,h2,h3];simp only[sliceRange_one,pick_run,aO4] <;> rfl
def rSlL(K:Fg):V->Option Int->Option Int->Hp->VK->Prop:=λx lo hi H Q=>∃a xs,x=.ref a/\SqL K H a xs/\∀p,H p=none->Q (.ref p) (upd H p (.lst (fC xs lo hi)))
theorem aD4:SlR X (rSlL X.K):=by
 intro aA s σ H x v vl vu lo hi sl Q I rx hs pl pu h;obtain⟨a,xs,rfl,hx,q⟩:=h;cases rx;obtain⟨its,r,ht,hz⟩:=I.list hx;have hlen:=r.length;refine⟨"list", _,slot_list_getitem.lookup,ht.isList.typeIs,?_⟩;refine wpAny_getItem_list_slice ht.isList hs pl pu .none (by simp) ?_ (by rw[aO4] <;> lia)
 rw[aD3,<- hlen];refine⟨.ref s.heap.objs.size,_,I.laid (t':=s.toks) (o:=.lst (fC xs lo hi)) (λb ob q=>hps q) (aOY _) ?_,rfl,q _ (I.hok.fresh (aOY _))⟩;exact⟨aOE (vS xs lo hi) hz,_,0,(r.drop (HT.sIx xs.length 0 lo)).take (HT.sIx xs.length xs.length hi-HT.sIx xs.length 0 lo),aN6 _ rfl⟩
def eS:V->Bool
 |.non=>true
 |.bl _=>true
 |.int _=>true
 |.str _=>true
 |_=>false
noncomputable def eqV:V->V->Bool
 |.non,.non=>true
 |.bl a,.bl b=>a==b
 |.bl a,.int b=>(if a then 1 else 0)==b
 |.int a,.bl b=>a==(if b then 1 else 0)
 |.int a,.int b=>a==b
 |.str a,.str b=>a==b
 |_,_=>false
def aD5{A:aSS}{s:aSR}{x:V}{v:aSQ}(ry:aM y u)(rx:aM x v)(fy:eS y=true)(fx:eS x=true):SeqAt.EqAt A s u v (eqV y x):=by
 cases y with
 |non =>
  cases ry;cases x with
  |non=>cases rx;exact SeqAt.EqAt.same _
  |bl b=>cases rx;exact SeqAt.EqAt.none_bool b
  |int b=>obtain⟨t,rfl⟩:=rx;exact SeqAt.EqAt.none_int b t
  |str b=>obtain⟨t,rfl⟩:=rx;exact SeqAt.EqAt.none_str b t
  |_=>exact absurd (show false=true from fx) aOU
 |bl a =>
  cases ry;cases x with
  |non=>cases rx;exact SeqAt.EqAt.bool_none a
  |bl b=>cases rx;exact SeqAt.EqAt.bool_bool a b
  |int b=>obtain⟨t,rfl⟩:=rx;exact SeqAt.EqAt.bool_int a b t
  |str b=>obtain⟨t,rfl⟩:=rx;exact SeqAt.EqAt.bool_str a b t
  |_=>exact absurd (show false=true from fx) aOU
 |int a =>
  obtain⟨t',rfl⟩:=ry;cases x with
  |non=>cases rx;exact SeqAt.EqAt.int_none a t'
  |bl b=>cases rx;exact SeqAt.EqAt.int_bool a t' b
  |int b=>obtain⟨t,rfl⟩:=rx;exact SeqAt.EqAt.int_int a t' b t
  |str b=>obtain⟨t,rfl⟩:=rx;exact SeqAt.EqAt.int_str a t' b t
  |_=>exact absurd (show false=true from fx) aOU
 |str a =>
  obtain⟨t',rfl⟩:=ry;cases x with
  |non=>cases rx;exact SeqAt.EqAt.str_none a t'
  |bl b=>cases rx;exact SeqAt.EqAt.str_bool a t' b
  |int b=>obtain⟨t,rfl⟩:=rx;exact SeqAt.EqAt.str_int a t' b t
  |str b=>obtain⟨t,rfl⟩:=rx;exact SeqAt.EqAt.str_str a t' b t
  |_=>exact absurd (show false=true from fx) aOU
 |_=>exact absurd (show false=true from fy) aOU
def eqU(x:V)(u:aSQ):Bool:=match u with
 |.none=>eqV .non x
 |.bool b=>eqV (.bl b) x
 |.int i _=>eqV (.int i) x
 |.str z _=>eqV (.str z) x
 |_=>false
def vT{x:V}(r:aM y u)(f:eS y=true):eqU x u=eqV y x:=by
 cases y with
 |non=>cases r;rfl
 |bl b=>cases r;rfl
 |int i=>obtain⟨t,rfl⟩:=r;rfl
 |str z=>obtain⟨t,rfl⟩:=r;rfl
 |_=>exact absurd (show false=true from f) aOU
theorem kC{x:V}:∀{xs:List V}{us:List aSQ},aN xs us->xs.all eS=true->us.any (eqU x)=xs.any λy=>eqV y x
 |_,_,.nil,_=>rfl
 |y::xs,u::us,.cons r t,f=>by rw[aP2,aPY]at f;rw[aP3,aP3,vT r f.1,kC t f.2]
theorem kD{A:aSS}{s:aSR}{x:V}{v:aSQ}(rx:aM x v)(fx:eS x=true):∀{xs:List V}{us:List aSQ},aN xs us->xs.all eS=true->∀u∈us,SeqAt.EqAt A s u v (eqU x u)
 |_,_,.nil,_=>λu hu=>by cases hu
 |y::xs,u::us,.cons r t,f=>λu' hu=>by
  rw[aP2,aPY]at f;rcases aOG.mp hu with rfl|hu
  . rw[vT r f.1];exact aD5 r rx f.1 fx
  . exact kD rx fx t f.2 u' hu
def inV(x:V)(xs:List V):Bool:=xs.any λy=>eqV y x
def rIn(K:Fg)(neg:Bool):R2:=λx y H Q=>∃p xs,y=.ref p/\(SqL K H p xs\/SqT K H p xs)/\eS x=true/\xs.all eS=true/\Q (.bl (if neg then !inV x xs else inV x xs)) H
def aD6:OpR X (compareOp .In) (rIn X.K false):=by
 intro aA s σ H x y v u Q I rx ry h;obtain⟨p,xs,rfl,hq,fx,fs,q⟩:=h;cases ry;rcases hq with hq|hq
 . obtain⟨its,r,pl,hz⟩:=I.list hq;refine SeqAt.in_listAt (eqU x) pl.isList (λw hw=>kD rx fx r fs w (by simpa using hw)) ⟨.bl _,H,I,rfl,?_⟩
   rw[show its.toArray.any (eqU x)=its.any (eqU x) by simp,kC r fs]
   exact q
 . obtain⟨its,r,pl,hz⟩:=I.tuple hq;refine SeqAt.in_tupleAt (eqU x) pl (λw hw=>kD rx fx r fs w (by simpa using hw)) ⟨.bl _,H,I,rfl,?_⟩
   rw[show its.toArray.any (eqU x)=its.any (eqU x) by simp,kC r fs]
   exact q
def aD7:OpR X (compareOp .NotIn) (rIn X.K true):=by
 intro aA s σ H x y v u Q I rx ry h;obtain⟨p,xs,rfl,hq,fx,fs,q⟩:=h;cases ry;rcases hq with hq|hq
 . obtain⟨its,r,pl,hz⟩:=I.list hq;refine SeqAt.notIn_listAt (eqU x) pl.isList (λw hw=>kD rx fx r fs w (by simpa using hw)) ⟨.bl _,H,I,rfl,?_⟩
   rw[show its.toArray.any (eqU x)=its.any (eqU x) by simp,kC r fs]
   exact q
 . obtain⟨its,r,pl,hz⟩:=I.tuple hq;refine SeqAt.notIn_tupleAt (eqU x) pl (λw hw=>kD rx fx r fs w (by simpa using hw)) ⟨.bl _,H,I,rfl,?_⟩
   rw[show its.toArray.any (eqU x)=its.any (eqU x) by simp,kC r fs]
   exact q
theorem mJ:eQ X (.builtin "len") (λxs H Q=>∃p ys,xs=[.ref p]/\(SqL X.K H p ys\/SqT X.K H p ys)/\Q (.int ys.length) H):=by
 intro aA s σ H xs us Q I r h;obtain⟨p,ys,rfl,hq,q⟩:=h;obtain⟨u,rfl,rx⟩:=dY r;cases rx;have hn:=iQ;rcases hq with hq|hq
 . obtain⟨its,r',pl,hz⟩:=I.list hq;have hlen:=r'.length;exact Calls.call_len_list pl.isList (by simp only[aO4] <;> lia) ⟨.int ys.length,H,I.tok _,⟨s.toks+1,by rw[aO4,hlen]⟩,q⟩
 . obtain⟨its,r',pl,hz⟩:=I.tuple hq;have hlen:=r'.length;exact len_tuple pl (by simp only[aO4] <;> lia) ⟨.int ys.length,H,I.tok _,⟨s.toks+1,by rw[aO4,hlen]⟩,q⟩
theorem aD8:eQ X (.type "list") (λxs H Q=>∃p ys,xs=[.ref p]/\(SqL X.K H p ys\/SqT X.K H p ys)/\∀l,H l=none->Q (.ref l) (upd H l (.lst ys))):=by
 intro aA s σ H xs us Q I r h; obtain ⟨p, ys, rfl, hq, q⟩ := h; obtain ⟨u, rfl, rx⟩ := dY r; cases rx; have fin : ∀ (its : List aSQ), aN ys its → ys.length ≤ sizeLine → ∀ (h' : Heap) (c' : Nat), (∀ b o', s.heap.get? b = some o' → h'.get? b = some o') →
     h'.get? s.heap.objs.size=some { cls:=.type "list", dict:=none,data:=.seq its.toArray c',slots:=#[] } -> EP X aA σ Q (.ref s.heap.objs.size) {s with heap:=h'}:=λits r' hz h' c' kp e =>
  ⟨.ref s.heap.objs.size,_,I.laid (t':=s.toks) kp (aOY _) (show bO X.prog X.w _ h' _ (.lst ys)from⟨hz,its,c',r',e⟩),rfl,q _ (I.hok.fresh (aOY _))⟩
 rcases hq with hq|hq
 . obtain⟨its,r',pl,hz⟩:=I.list hq;have hlen:=r'.length;obtain⟨o,ho,hc,n,hd⟩:=pl.isList;exact call_list_seq p (.inl rfl) ho hc hd (λh' c' kp e=>fin its r' hz h' c' kp e) (by simp only[aO4] <;> lia)
 . obtain⟨its,r',pl,hz⟩:=I.tuple hq;have hlen:=r'.length;obtain⟨o,ho,hc,n,hd⟩:=pl;exact call_list_seq p (.inr rfl) ho hc hd (λh' c' kp e=>fin its r' hz h' c' kp e) (by simp only[aO4] <;> lia)
theorem aD9:eQ X (.type "tuple") (λxs H Q=>∃p ys,xs=[.ref p]/\((SqL X.K H p ys/\∀l,H l=none->Q (.ref l) (upd H l (.tup ys)))\/(SqT X.K H p ys/\Q (.ref p) H))):=by
 intro aA s σ H xs us Q I r h;obtain⟨p,ys,rfl,h⟩:=h;obtain⟨u,rfl,rx⟩:=dY r;cases rx;rcases h with⟨hq,q⟩|⟨hq,q⟩
 . obtain⟨its,r',pl,hz⟩:=I.list hq;have hlen:=r'.length;refine call_tuple_list pl.isList (λh' kp=>?_) (by simp only[aO4] <;> lia)
   have I1:Inv X aA σ H {s with heap:=h'}:=I.kept (t':=s.toks) kp
   have I2:Inv X aA σ (upd H h'.objs.size (.tup ys)) { s with heap:=h'.push { cls:=.type "tuple", data:=.seq its.toArray } } :=
    I1.laid (t':=s.toks) (λb o e=>hps e) (aOY _) (show bO X.prog X.w _ _ _ (.tup ys)from⟨hz,its,r',fM.new _ _⟩)
   exact⟨.ref h'.objs.size,_,I2,rfl,q _ (I1.hok.fresh (aOY _))⟩
 . obtain⟨its,r',pl,hz⟩:=I.tuple hq;exact call_tuple_same pl ⟨.ref p,H,I,rfl,q⟩
def tyV(K:Fg)(T:String)(x:V)(H:Hp):Prop:=match x with
 |.str _=>T="str"
 |.int _=>T="int"
 | .ref p => (T = "list" ∧ ∃ xs, SqL K H p xs) ∨ (T = "tuple" ∧ ∃ o, K.lookup p = some o ∧ o.cls = .type "tuple" ∧ o.dict = none) ∨
     (T="dict" /\ ((∃kvs,H p=some (.dK kvs))\/∃kvs,H p=some (.dT kvs)))\/(T="set" /\ ∃S n,H p=some (.set S n))
 |_=>False
def vU{σ:St}{s:aSR}{T:String}{x:V}{v:aSQ}(I:Inv X aA σ H s)(r:aM x v)(ty:tyV X.K T x H):s.TypeIs v T/\∀a,v=.ref a->∃ob,s.heap.get? a=some ob/\ob.dict=none:=by
 cases x with
 |str z =>
  obtain⟨t,rfl⟩:=r;cases(show T="str" from ty)
  exact⟨aP0 s z t,λ_ e=>nomatch e⟩
 |int i =>
  obtain⟨t,rfl⟩:=r;cases(show T="int" from ty)
  exact⟨typeIs_int s i t,λ_ e=>nomatch e⟩
 |ref p =>
  cases r;rcases ty with⟨rfl,xs,hq⟩|⟨rfl,o,hk,hc,hd⟩|⟨rfl,hk⟩|⟨rfl,S,n,hk⟩
  . obtain⟨its,_,pl,_⟩:=I.list hq;refine⟨pl.isList.typeIs,λa e=>?_⟩;cases e;obtain⟨o,n,e,c,hd,_⟩:=pl;exact⟨o,e,hd⟩
  . refine⟨⟨o,I.kIn p o hk,hc⟩,λa e=>?_⟩;cases e;exact⟨o,I.kIn _ o hk,hd⟩
  . have z:∃o,s.heap.get? p=some o/\o.ExactDict:=by
      rcases hk with⟨kvs,hk⟩|⟨kvs,hk⟩
      . obtain⟨_,_,_,_,o,_,_,e,ex,_⟩:=I.hok p _ hk;exact⟨o,e,ex⟩
      . obtain⟨_,_,_,_,o,_,_,e,ex,_⟩:=I.hok p _ hk;exact⟨o,e,ex⟩
    obtain⟨o,e,ex⟩:=z;refine⟨⟨o,e,ex.1⟩,λa e2=>?_⟩;cases e2;exact⟨o,e,ex.2.1⟩
  . obtain⟨o,_,_,_,e,ex,_⟩:=I.hok p _ hk;refine⟨⟨o,e,ex.1⟩,λa e2=>?_⟩;cases e2;exact⟨o,e,ex.2.1⟩
 |_=>exact False.elim ty
def tBM0(K:Fg)(T:String)(r:V->List V->Hp->VK->Prop)(to:TE):TE:=λσ H Q=>to σ H λx H1=>tyV K T x H1/\r x [] H1 Q
def tBM(K:Fg)(T:String)(r:V->List V->Hp->VK->Prop)(to:TE)(t:TA):TE:=λσ H Q=>to σ H λx H1=>tyV K T x H1/\t σ H1 λxs H2=>r x xs H2 Q
variable  {o:Expr}{es:List Expr}{to:TE}{t:TA}{name:Str}{T id:String}{r:V->List V->Hp->VK->Prop}
def aEA(pa:PlainAttrs T)(slot:Slot T name id)(hty:typeOf (.builtin id)=pure (.type "method_descriptor"))(hm:MtR X id r)(ho:PE X o to)(hbase:attributeBase o name X.env (eval o X.env)=eval o X.env:=by rfl)(hline:(apos.endLine==cpos.line)=true:=by rfl):PE X (.Call (.Attribute o name apos) [] [] cpos) (tBM0 X.K T r to):=by intro aA s σ H Q I h;refine wpAny_Call_method0_late hbase hline (thn (ho aA s σ H _ I h) λv s1 ⟨x,H1,I1,r1,ty,q1⟩=>?_);obtain⟨h1,h2⟩:=vU I1 r1 ty;exact⟨T,id,pa,slot,hty,h1,h2,aP4 rfl (PySem.evalArgs_none (hm aA s1 σ H1 x [] v [] Q I1 r1 .nil q1))⟩
def pF(pa:PlainAttrs T)(slot:Slot T name id)(hty:typeOf (.builtin id)=pure (.type "method_descriptor"))(hm:MtR X id r)(ho:PE X o to)(ha:PA X (e::es) t)(hbase:attributeBase o name X.env (eval o X.env)=eval o X.env:=by rfl)(hfew:((backTo cpos (starEach (e::es) X.env)).all (λx=>!x.1)&&(backToKw cpos (keywordEach [] X.env)).all (λx=>x.1.isSome)&&decide ((e::es).length+([]:List Keyword).length+(if([]:List Keyword).isEmpty then 0 else 1)<30))=true:=by rfl)(hline:(apos.endLine==cpos.line)=true:=by rfl)(hs:starEach (e::es) X.env=(false,eval e X.env)::starEach es X.env:=by rfl)(hplain:(backTo cpos (starEach es X.env)).any (·.1)=false:=by rfl):PE X (.Call (.Attribute o name apos) (e::es) [] cpos) (tBM X.K T r to t):=by
 intro aA s σ H Q I h;refine aP5 hbase hfew hline rfl (thn (ho aA s σ H _ I h) λv s1 ⟨x,H1,I1,r1,ty,q1⟩=>?_);obtain⟨h1,h2⟩:=vU I1 r1 ty;refine⟨T,id,pa,slot,hty,h1,h2,?_⟩;have hA:=ha cpos aA s1 σ H1 _ I1 q1;rw[hs]at hA ⊢;refine aP4 (by show(false||(backTo cpos (starEach es X.env)).any (·.1))=false;rw[hplain] <;> rfl) (aP6 ?_)
 exact thn hA λus s2 ⟨vs,H2,I2,r2,q2⟩=>hm aA s2 σ H2 x vs v us Q I2 r1 r2 q2
end
def MtM(X:Cx)(id:String)(r:V->List V->Hp->VK->Prop):Prop :=
 ∀(aA:LAO) (s:aSR) (σ:St) (H:Hp) (x:V) (xs:List V) (v:aSQ) (us:List aSQ) (Q:VK),Inv X aA σ H s->aM x v->aN xs us->r x xs H Q ->
  wpAny (model X.prog X.w) X.A (call (.builtin id) (v::us)) (EP X aA σ Q) X.xe s
def aN.one:∀{x:V}{us:List aSQ},aN [x] us->∃u,us=[u]/\aM x u
 |_,_,.cons r .nil=>⟨_,rfl,r⟩
def aN.zero:∀{us:List aSQ},aN [] us->us=[]
 |_,.nil=>rfl
theorem aN.dropLast{us:List aSQ}(h:aN xs us):aN xs.dropLast us.dropLast:=by
 induction h with
 |nil=>exact .nil
 |cons r t ih =>
  cases t with
  |nil=>exact .nil
  |cons q t'=>exact .cons r ih
theorem aEB(l:List α):l.eraseIdx (l.length-1)=l.dropLast:=by
 induction l with
 |nil=>rfl
 |cons a r ih =>
  cases r with
  |nil=>rfl
  |cons b r =>
   have e:(a::b::r).length-1=((b::r).length-1)+1:=by have h1:(a::b::r).length=r.length+2:=rfl;have h2:(b::r).length=r.length+1:=rfl;lia
   rw[e,List.eraseIdx_cons_succ,ih]
   all_goals rfl
section
variable {σ:St}{s:aSR}{l:Addr}{ys zs:List V}
def Inv.lset{its its':List aSQ}{f:Array aSQ->Array aSQ}(I:Inv X aA σ H s)(hH:H l=some (.lst xs))(e:s.heap.get? l=some { cls:=.type "list", data:=.seq its.toArray n })(hf:f its.toArray=its'.toArray)(hv:aN ys its')(hz:ys.length<=sizeLine):Inv X aA σ (upd H l (.lst ys)) {s with heap:=s.heap.update l (Obj.mapSeq f),toks:=t'}:=by
 have q:=PySem.IsL.update e f;rw[hf]at q;refine I.write (x:=l) (e:=l) (by rw[hH];exact trivial) (.inl rfl) (λb' u hb hu=>(Heap.get?_update_other s.heap (Obj.mapSeq f) (Ne.symm hb)).trans hu) ⟨_,q⟩ ?_
 exact⟨hz,its',_,hv,q⟩
def Inv.lstM(I:Inv X aA σ H s)(hH:H l=some (.lst xs)):xs.length<=sizeLine/\∃(its:List aSQ) (n:Nat),aN xs its/\xs.length=its.length/\s.heap.get? l=some { cls:=.type "list", data:=.seq its.toArray n }:=by obtain⟨z,its,n,r,e⟩:=I.hok l _ hH;exact⟨z,its,n,r,r.length,e⟩
end
def aEC:V->List V->Hp->VK->Prop:=λx vs H Q=>∃l xs y,x=.ref l/\vs=[y]/\H l=some (.lst xs)/\xs.length<sizeLine/\Q .non (upd H l (.lst (xs++[y])))
theorem pG:MtM X "list.append" aEC:=by
 intro aA s σ H x vs v us Q I rx rv h;obtain⟨l,xs,y,rfl,rfl,hH,hz,q⟩:=h;cases rx;obtain⟨u,rfl,ru⟩:=rv.one;obtain⟨z,its,n,r,hl,e⟩:=I.lstM hH;refine aP7 F.slot_list_append ⟨_,e,rfl⟩ F.entry_list_append (F.args_list_append_2 _ _) (PySem.list_append l its.toArray n u (by rw[aO4];lia)) ⟨e,?_⟩
 refine⟨.non,_,I.lset (its':=its++[u]) hH e (by simp) (r.append (.cons ru .nil)) ?_,rfl,q⟩
 rw[aPH,aP8];lia
def rPop:V->List V->Hp->VK->Prop:=λx vs H Q=>∃l xs y,x=.ref l/\vs=[]/\H l=some (.lst xs)/\xs[xs.length-1]? = some y/\Q y (upd H l (.lst xs.dropLast))
theorem aED:MtM X "list.pop" rPop:=by
 intro aA s σ H x vs v us Q I rx rv h;obtain⟨l,xs,y,rfl,rfl,hH,hy,q⟩:=h;cases rx;have hus:=rv.zero;subst hus;obtain⟨z,its,n,r,hl,e⟩:=I.lstM hH;obtain⟨u,hu,ru⟩:=r.get hy;have hy':its.toArray[its.toArray.size-1]? = some u:=by show its.toArray[its.length-1]? = some u;rw[<- Array.getElem?_toList,<- hl];exact hu
 refine aP7 F.slot_list_pop ⟨_,e,rfl⟩ F.entry_list_pop (F.args_list_pop_1 _) (MeetsSeq.list_pop_last l its.toArray n u hy' (by rw[aO4];lia)) ⟨e,?_⟩
 refine⟨y,_,I.lset (its':=its.dropLast) hH e ?_ r.dropLast ?_,ru,q⟩
 . show its.toArray.eraseIdxIfInBounds (its.toArray.size-1)=its.dropLast.toArray;rw[aO4,List.eraseIdxIfInBounds_toArray,aEB]
 . rw[List.length_dropLast];lia
section
variable {w:aST}{A:aSS}{E:VSP}{s:aSR}
end
section
variable [DecidableEq κ]
noncomputable def dJ(kvs:List (κ×V))(k:κ):Option V:=(kvs.find? λkv=>decide (kv.1=k)).map (·.2)
noncomputable def dZ(kvs:List (κ×V))(k:κ)(v:V):List (κ×V) :=
 if(kvs.any λkv=>decide (kv.1=k))=true then kvs.map (λkv=>if kv.1=k then(kv.1,v)else kv)else kvs++[(k,v)]
def mK{p:κ×V}{r:List (κ×V)}{k:κ}(e:p.1=k):dJ (p::r) k=some p.2:=by simp[dJ,aP9,e]
def mL{p:κ×V}{r:List (κ×V)}{k:κ}(e:¬ p.1=k):dJ (p::r) k=dJ r k:=by simp[dJ,aP9,e]
theorem vV(k:κ):∀kvs:List (κ×V),(kvs.any λkv=>decide (kv.1=k))=(dJ kvs k).isSome
 |[]=>rfl
 |p::r=>by
  rw[aP3];by_cases e:p.1=k
  . simp only[mK e,aQA e,Bool.true_or,Option.isSome_some]
  . rw[mL e,aN2 e,Bool.false_or];exact vV k r
theorem vW(kvs:List (κ×V))(k:κ)(v:V):(dZ kvs k v).length<=kvs.length+1:=by
 unfold dZ;split
 . rw[aPI];lia
 . rw[aPH,aQB,aQC];lia
def eP.isSome_eq{o:Option V}{u:Option aSQ}(r:eP o u):o.isSome=u.isSome:=by
 cases o with
 |none=>cases u with
  |none=>rfl
  |some _=>exact(show False from r).elim
 |some _=>cases u with
  |none=>exact(show False from r).elim
  |some _=>rfl
def KV.val{kvs:List (κ×V)}{vs:List (κ×aSQ)}(r:KV kvs vs)(k:κ):eP (dJ kvs k) (valueAt vs k):=by
 unfold KV at r
 induction r with
 |nil=>exact True.intro
 | @cons p q ps qs h t ih =>
  obtain⟨h1,h2⟩:=h;by_cases e:p.1=k
  . have e':q.1=k:=h1.symm.trans e;have b:valueAt (q::qs) k=some q.2:=by simp[valueAt,aP9,e']
    rw[mK e,b];exact h2
  . have e':¬ q.1=k:=λz=>e (h1.trans z);have b:valueAt (q::qs) k=valueAt qs k:=by simp[valueAt,aP9,e']
    rw[mL e,b];exact ih
theorem KV.any{kvs:List (κ×V)}{vs:List (κ×aSQ)}(r:KV kvs vs)(k:κ):(kvs.any λkv=>decide (kv.1=k))=vs.any λkv=>decide (kv.1=k):=by
 unfold KV at r
 induction r with
 |nil=>rfl
 |cons h t ih=>rw[aP3,aP3,ih,h.1]
def KV.repl{kvs:List (κ×V)}{vs:List (κ×aSQ)}(r:KV kvs vs)(k:κ)(ry:aM y u):KV (kvs.map λkv=>if kv.1=k then(kv.1,y)else kv) (vs.map λkv=>if kv.1=k then(kv.1,u)else kv):=by
 unfold KV at r ⊢
 induction r with
 |nil=>exact .nil
 | @cons p q ps qs h t ih =>
  rw[aQD,aQD];refine .cons ?_ ih;obtain⟨h1,h2⟩:=h;by_cases e:p.1=k
  . rw[if_pos e,if_pos (h1.symm.trans e)];exact⟨h1,ry⟩
  . rw[if_neg e,if_neg (λz=>e (h1.trans z))];exact⟨h1,h2⟩
def KV.put{kvs:List (κ×V)}{vs:List (κ×aSQ)}(r:KV kvs vs)(k:κ)(ry:aM y u):KV (dZ kvs k y) (stored vs k u):=by
 unfold dZ stored;rw[r.any k];by_cases e:(vs.any λkv=>decide (kv.1=k))=true
 . rw[if_pos e,if_pos e];exact r.repl k ry
 . rw[if_neg e,if_neg e];exact Paired.snoc r ⟨rfl,ry⟩
theorem KV.length{kvs:List (κ×V)}{vs:List (κ×aSQ)}(r:KV kvs vs):kvs.length=vs.length:=aN4 r
end
def pH{w:aST}{k:Key}(r:aM (kV k) u):(dB P w).is k u=true:=by
 cases k with
 |inl i=>obtain⟨t,e⟩:=(show ∃t,u=Value.int i t from r);subst e;exact aB7 P w i t
 |inr x=>obtain⟨t,e⟩:=(show ∃t,u=Value.str x t from r);subst e;exact aB8 P w x t
theorem vX{P:aSU}{w:aST}:∀{ks:List Key}{us:List aSQ},aN (ks.map kV) us->ItemsAre (dB P w) ks us
 |[],_,r=>by rw[aQE]at r;cases r;exact .nil
 |k::ks,_,r=>by
  rw[aQD]at r;cases r with
  |cons h t=>exact .cons (pH h) (vX t)
abbrev KT(H:Hp):List (List Key×V)->List (List Key×Addr×aSQ)->Prop:=Paired λp q=>p.1=q.1/\H q.2.1=some (.tup (p.1.map kV))/\aM p.2 q.2.2
def KT.val{xs:List (List Key×Addr×aSQ)}(r:KT H kvs xs)(k:List Key):eP (dJ kvs k) ((atKey xs k).map (·.2)):=by
 induction r with
 |nil=>exact True.intro
 | @cons p q ps qs h t ih =>
  obtain⟨h1,_,h2⟩:=h;by_cases e:p.1=k
  . have e':q.1=k:=h1.symm.trans e;have b:atKey (q::qs) k=some q.2:=by simp[atKey,aP9,e']
    rw[mK e,b];exact h2
  . have e':¬ q.1=k:=λz=>e (h1.trans z);have b:atKey (q::qs) k=atKey qs k:=by simp[atKey,aP9,e']
    rw[mL e,b];exact ih
def KT.repl{xs:List (List Key×Addr×aSQ)}(r:KT H kvs xs)(k:List Key)(ry:aM y u):KT H (kvs.map λkv=>if kv.1=k then(kv.1,y)else kv) (xs.map (putAt k u)):=by
 induction r with
 |nil=>exact .nil
 | @cons p q ps qs h t ih =>
  rw[aQD,aQD];refine .cons ?_ ih;obtain⟨h1,h2,h3⟩:=h;unfold putAt;by_cases e:p.1=k
  . rw[if_pos e,if_pos (h1.symm.trans e)];exact⟨h1,h2,ry⟩
  . rw[if_neg e,if_neg (λz=>e (h1.trans z))];exact⟨h1,h2,h3⟩
def KT.put{xs:List (List Key×Addr×aSQ)}(r:KT H kvs xs)(k:List Key)(hb:H b=some (.tup (k.map kV)))(ry:aM y u):KT H (dZ kvs k y) (storedH xs k b u):=by
 have e:(kvs.any λkv=>decide (kv.1=k))=(atKey xs k).isSome:=by rw[vV,(r.val k).isSome_eq,Option.isSome_map]
 unfold dZ storedH;rw[e];by_cases q:(atKey xs k).isSome=true
 . rw[if_pos q,if_pos q];exact r.repl k ry
 . rw[if_neg q,if_neg q];exact Paired.snoc r ⟨rfl,hb,ry⟩
def KT.keeps{xs:List (List Key×Addr×aSQ)}(r:KT H kvs xs)(ht:∀b ys,H b=some (.tup ys)->H' b=some (.tup ys)):KT H' kvs xs :=
 Paired.mapP r λ_ _ z=>⟨z.1,ht _ _ z.2.1,z.2.2⟩
section
variable {w:aST}{a:Addr}
def vY{u:HO}(ok:HOk P w H h)(e:Rd H a u):bO P w H h a u:=e.ok ok
def pI{kvs:List (Key×V)}(ok:HOk P w H h)(e:Rd H a (.dK kvs)):kvs.length<=sizeLine/\(a==sysModules)=false/\∃vs,KV kvs vs/\h.DictOf (dB P w) a vs :=
 show bO P w H h a (.dK kvs)from vY ok e
def dk_of{kvs:List (Key×V)}(ok:HOk P w H h)(e:H a=some (.dK kvs)):kvs.length<=sizeLine/\(a==sysModules)=false/\∃vs,KV kvs vs/\h.DictOf (dB P w) a vs:=pI ok (.inl e)
def pJ{ks:List Key}(ok:HOk P w H h)(e:H a=some (.tup (ks.map kV))):(tupleKind (dB P w)).is h ks a:=by
 obtain⟨_,its,r,o,h1,h2,_,n,h3⟩:=(show bO P w H h a (.tup (ks.map kV))from ok a _ e)
 exact⟨o,its.toArray,n,h1,h2,h3,by simpa using vX r⟩
def pK(ok:HOk P w H h)(e:Rd H a (.dT kvs)):kvs.length<=sizeLine/\(a==sysModules)=false/\∃xs,KT H kvs xs/\h.DictOfH (tupleKind (dB P w)) a xs:=by
 obtain⟨z,y,xs,r,o,es,ep,h1,h2,h3,h4,h5⟩:=(show bO P w H h a (.dT kvs)from vY ok e)
 refine⟨z,y,xs,r,o,es,ep,h1,h2,h3,h4,λx hx=>?_,h5⟩;have all:∀{l:List (List Key×V)}{m:List (List Key×Addr×aSQ)},KT H l m->∀x∈m,(tupleKind (dB P w)).is h x.1 x.2.1:=by
  intro l m q
  induction q with
  |nil=>intro x hx;exact nomatch hx
  | @cons p q ps qs hq t ih =>
   intro x hx;rcases aOG.mp hx with e|hx
   . subst e;exact pJ ok (by rw[<- hq.1];exact hq.2.1)
   . exact ih x hx
 exact all r x hx
def dt_of(ok:HOk P w H h)(e:H a=some (.dT kvs)):kvs.length<=sizeLine/\(a==sysModules)=false/\∃xs,KT H kvs xs/\h.DictOfH (tupleKind (dB P w)) a xs:=pK ok (.inl e)
end
def kE(H:Hp)(a:Addr)(y:V)(r:Option V):Prop :=
 (∃kvs k,Rd H a (.dK kvs)/\y=kV k/\r=dJ kvs k)\/∃kvs k b,Rd H a (.dT kvs)/\y=.ref b/\H b=some (.tup (k.map kV))/\r=dJ kvs k
def DPut(H:Hp)(a:Addr)(y v:V)(H':Hp):Prop :=
 (∃kvs k,H a=some (.dK kvs)/\y=kV k/\kvs.length<sizeLine/\H'=upd H a (.dK (dZ kvs k v))) \/
 ∃kvs k b,H a=some (.dT kvs)/\y=.ref b/\H b=some (.tup (k.map kV))/\kvs.length<sizeLine/\H'=upd H a (.dT (dZ kvs k v))
section
variable {σ:St}{s:aSR}{a:Addr}{r:aSQ}{o:Option V}{A:aSS}{E:VSP}
def Inv.big(I:Inv X aA σ H s):sysModules<s.heap.objs.size:=by have h:mainGlobals<s.heap.objs.size:=(I.mod.glob.keeps I.bk).lt;exact Nat.lt_trans (by decide) h
def aEE{Q:VSP}(hu:A.units+1<cLine)(I:Inv X aA σ H s)(g:kE H a y (some v))(ry:aM y u)(h:∀w' s',Inv X aA σ H s'->aM v w'->Q w' s'):wpAny (model X.prog X.w) A (getItem (.ref a) u) Q E s:=by
 rcases g with⟨kvs,k,e,ey,l⟩|⟨kvs,k,b,e,ey,eb,l⟩
 . subst ey;obtain⟨z,hd,vs,rel,dd⟩:=pI I.hok e;obtain⟨w',hw,rw'⟩:=eP.some_of (v:=v) (o:=valueAt vs k) (by rw[l];exact rel.val k)
   exact wpAny_getItem_of (pH ry) dd.mapOf hw (h w' _ (I.tok _) rw')
 . subst ey;cases(show u=Value.ref b from ry)
   obtain⟨z,hd,xs,rel,dd⟩:=pK I.hok e;obtain⟨w',hw,rw'⟩:=eP.some_of (v:=v) (o:=(atKey xs k).map (·.2)) (by rw[l];exact rel.val k)
   obtain⟨p,hp,hp2⟩:=Option.map_eq_some_iff.mp hw;refine wpAny_getItem_heap (tupleKind_room_in1 hu) (pJ I.hok eb) dd hp ?_;rw[hp2];exact h w' _ (I.tok _) rw'
def vZ{ob:HO}(I:Inv X aA σ H s)(mu:Mut (H a))(hs:Heap.SameBut a s.heap h')(he:∃q,h'.get? a=some q)(new:bO X.prog X.w (upd H a ob) h' a ob):Inv X aA σ (upd H a ob) {s with heap:=h',toks:=t'} :=
 I.write (x:=a) (e:=a) mu (.inl rfl) (λb q hb z=>(hs.2 b hb).trans z) he new
def aEF{w:aST}{kvs:List (Key×V)}{vs:List (Key×aSQ)}(z:kvs.length<=sizeLine)(hd:(a==sysModules)=false)(rel:KV kvs vs)(dd:h'.DictOf (dB P w) a vs):bO P w H' h' a (.dK kvs):=⟨z,hd,vs,rel,dd⟩
theorem aEG(hu:A.units+1<cLine)(I:Inv X aA σ H s)(g:DPut H a y v H')(ry:aM y u)(rv:aM v r)(h:∀s',Inv X aA σ H' s'->Q () s'):wpAny (model X.prog X.w) A (setItem (.ref a) u r) Q E s:=by
 rcases g with⟨kvs,k,e,ey,l,eH⟩|⟨kvs,k,b,e,ey,eb,l,eH⟩
 . subst ey eH;obtain⟨z,hd,vs,rel,dd⟩:=dk_of I.hok e;have hz:vs.length<=sizeLine:=by rw[<- rel.length];exact z
   have hl:(dZ kvs k v).length<=sizeLine:=by have:=vW kvs k v;lia
   refine wpAny_setItem_pairs (hsz:=hz) (pH ry) dd λh' dd' hs=>h _ ?_;have he:∃q,h'.get? a=some q:=let⟨q,_,_,hq,_⟩:=dd';⟨q,hq⟩
   exact vZ I (by rw[e];exact True.intro) hs he (aEF hl hd (rel.put k rv) dd')
 . subst ey eH;cases(show u=Value.ref b from ry)
   obtain⟨z,hd,xs,rel,dd⟩:=dt_of I.hok e;have hz:xs.length<=sizeLine:=by rw[<- aN4 rel];exact z
   have hl:(dZ kvs k v).length<=sizeLine:=by have:=vW kvs k v;lia
   refine wpAny_setItem_heap (hsz:=hz) (tupleKind_room_in1 hu) (pJ I.hok eb) dd λh' dd' hs=>h _ ?_;obtain⟨q,es,ep,hq,h2,h3,h4,_,h5⟩:=dd';refine vZ I (by rw[e];exact True.intro) hs ⟨q,hq⟩ ⟨hl,hd,_,(rel.put k eb rv).keeps λc ys ec=>?_,q,es,ep,hq,h2,h3,h4,h5⟩
   rw[aP (ne_of ec e (λz=>nomatch z))];exact ec
end
section
variable {σ:St}{s:aSR}{a:Addr}{kvs:List (Key×V)}{k:Key}{A:aSS}{E:VSP}
end
def aEH{σ:St}{s:aSR}{a:Addr}{o:Option V}(I:Inv X aA σ H s)(g:kE H a y o):s.TypeIs (.ref a) "dict" := by
 rcases g with⟨kvs,k,e,_,_⟩|⟨kvs,k,b,e,_,_,_⟩
 . obtain⟨_,_,vs,_,dd⟩:=pI I.hok e;exact dd.typeIs
 . obtain⟨_,_,xs,_,dd⟩:=pK I.hok e;exact dd.typeIs
def wA(td ty tv:TE):TS:=λD σ H=>tv σ H λv H1=>td σ H1 λx H2=>ty σ H2 λy H3=>∃a H4,x=.ref a/\DPut H3 a y v H4/\D.nx σ H4
section
variable  {o i value:Expr}{pos tpos:Pos}{ty tv:TE}
def aEI(hu:X.A.units+1<cLine)(ho:PE X o td)(hi:PE X i ty)(hv:PE X value tv)(hs:swapsWith value (some (.Subscript o i pos')) pos.line X.env=pure false):PS X (.Assign [.Subscript o i pos'] value pos) (wA td ty tv):=by intro aA s σ H D I h;refine wpAny_Assign_Subscript (thn (hv aA s σ H _ I h) λr s1 ⟨v,H1,I1,rv,q1⟩=>thn (ho aA s1 σ H1 _ I1 q1) λu s2 ⟨x,H2,I2,rx,q2⟩=>thn (hi aA s2 σ H2 _ I2 q2) λiv s3 ⟨y,H3,I3,ry,a,H4,ex,g,q3⟩=>?_) hs;subst ex;obtain rfl:u=Value.ref a:=rx;exact aEG hu I3 g ry rv λs4 I4=>⟨σ,H4,I4,q3⟩
end
def aEJ{w:aST}(h:Heap)(hb:sysModules<h.objs.size):bO P w H (h.push { cls:=.type "dict", data:=.dict #[] }) h.objs.size (.dK []) :=
 ⟨aQF _,aN3.mpr (Ne.symm (aOA hb)),[],.nil,Heap.DictOf.new h⟩
def aEK:TE:=λ_ H Q=>∀p,H p=none->Q (.ref p) (upd H p (.dK []))
section
variable {pos:Pos}
def aEL:PE X (.Dict [] [] pos) aEK:=λaA s σ H Q I h =>
 wpAny_Dict_empty ⟨.ref s.heap.objs.size,_,I.laid (a:=s.heap.objs.size) (o:=.dK []) (t':=s.toks) (λ_ _ q=>hps q) (aOY _) (aEJ s.heap I.big),rfl,h _ (I.hok.fresh (aOY _))⟩
end
section
variable {σ:St}{s:aSR}{a:Addr}{d:V}{r:aSQ}{o:Option V}{A:aSS}{E:VSP}
end
section
variable  {o f:Expr}{ty tx:TE}
end
section
variable {σ:St}{s:aSR}{a:Addr}{kvs:List (Key×V)}{A:aSS}{E:VSP}
end
section
variable {σ:St}{s:aSR}{a:Addr}{A:aSS}{E:VSP}
end
end L2
namespace Att
open PySem.W PySem.Calls
def aEM{P:Params}:∀(ns:List Int) (vs:List aSQ),WellAll P h vs (ns.map WData.int)->IntsAre vs ns:=by
 intro ns
 induction ns with
 |nil=>intro vs w;rw[aQE]at w;cases w;exact .nil
 |cons n ns ih =>
  intro vs w;rw[aQD]at w;cases w with
  |cons a b=>cases a;exact .cons _ _ (ih _ b)
theorem aEN{l:OpenLaw}(hn:l.most=some n){P:Params}{args:List WData}{vals:List aSQ}(hpre:l.row.toRowW.claim.pre args=true)(hwl:WellAll P h vals args):∃a vs ns,vals=[Value.ref a]/\args=[WData.list (ns.map WData.int)]/\h.get? a=some { cls:=.type "list", data:=.seq vs.toArray }/\IntsAre vs ns/\ns.length<=n:=by
 have hsh:WShape.hasAll [] args [.list .int]=true:=(pre_splitW hpre).1;have hc:l.pre.holds [] {args:=args}=true:=(pre_splitW hpre).2;obtain⟨d,r,rfl,h1,h2⟩:=hasAllW_cons hsh;obtain rfl:=hasAllW_nil h2;obtain⟨xs,rfl,h3⟩:=hasW_list h1;obtain⟨ns,rfl⟩:=items_int h3;have hlen:ns.length<=n:=by
  unfold OpenLaw.pre at hc;have h4:(WTm.not (.lt (.lit (.int (n:Int))) (.len (.arg 0)))).holds [] {args:=[.list (ns.map .int)]}=true:=by have h4:=(holds_andW hc).1;rw[hn]at h4;exact h4
  have h5:=condW_of h4 (w_not (w_lt w_lit (w_len_list (w_arg rfl))));rw[aPI]at h5;refine Nat.le_of_not_lt λq=>?_;have q':(n:Int)<((ns.length:Nat):Int):=by lia
  first
   |(rw[aQA q']at h5;exact absurd h5 (by decide))
   |(simp at h5;lia)
 cases hwl with
 |cons w1 w2 =>
  cases w2;cases w1 with
  |list ho hall=>exact⟨_,_,ns,rfl,rfl,ho,aEM ns _ hall,hlen⟩
def aEO(l:OpenLaw)(args:List WData):l.row.toRowW.claim.post args (.bool true) args=true :=
 postW_of (r:=l.row.toRowW) (X:=(true==true))
  (show WShape.has [] (.bool true) .bool=true by first|rfl|decide|simp[WShape.has,WShape.arms,WShape.armsAll])
  (show(WTm.eq .res (.lit (.bool true))).value [] {args:=args,res:=some (.bool true),after:=args}=some (.bool (true==true))from w_eq_bool (w_res rfl) w_lit) rfl
def aEP{l:OpenLaw}{q:aSU}{d:DefRec}(hn:l.most=some n)(hdf:d.params.defaults=[])(call:∀(w:aST) (s₀ s₁:aSR) (mg mb:SOV) (fa:Addr) (o:Obj) (pm cd doc:aSQ) (a:Addr) (vs:List aSQ) (ns:List Int),Ground q loose [] XP w s₀ mg mb s₁.heap->YP w s₁.heap->s₁.heap.get? fa=some o->o.data=.func (docDef d.name d.params d.body d.scope pm cd doc)->s₁.heap.CodeRec cd d.name->mg d.name=some (.ref fa)->s₁.heap.get? a=some { cls:=.type "list", data:=.seq vs.toArray } -> IntsAre vs ns->ns.length<=n->s₁.gens = #[]->codeAny (model l.prog w) callerA (.call (.ref fa) ⟨[.ref a],[]⟩) (λr s'=>r=.ok (.ret (.bool true))/\OldK s₁.heap s'.heap/\s'.os=s₁.os/\AllBare s'.gens) s₁):WalkO q loose XP YP l.row.toRowW d [] (λf vs=>PySem.call f vs):=by intro w s₀ s₁ mg mb G Y fa o pm cd doc dV kV ho hd hcd hD hmg hg args vals as hpre hlay hrd hwl hlo;obtain rfl:dV=.none:=Dflts.none hD hdf;obtain rfl:kV=.none:=Dflts.noKw hD;obtain⟨a,vs,ns,rfl,rfl,hobj,hints,hlen⟩:=aEN hn hpre hwl;refine enter_call (codeAny_mono (call w s₀ s₁ mg mb fa o pm cd doc a vs ns G Y ho (fd_plain hd) hcd hmg hobj hints hlen hg) λr s' hq=>?_);obtain⟨rfl,h2,h3,h4⟩:=hq;exact⟨.inl ⟨.bool true,.bool true,[],rfl,λ_=>rfl,.bool true,aEO l _,λ_=>⟨List.Pairwise.nil,λ_ hm=>(nomatch hm)⟩⟩,h2,h3,h4⟩
section
variable {w:aST}{A:aSS}{E:VSP}{s:aSR}{K:Frag}
def ledger(h:Heap)(L d:Addr):LAO:=(List.range h.objs.size).filterMap λa=>if a=L\/a=d then none else(h.get? a).map λo=>(a,o)
end
end Att
namespace L2
noncomputable abbrev KOf(_:K.In h):Fg:=K
def kG(s:Stmt):Arguments:=match s with
 |.FunctionDef _ a _ _ _ _ _ _ _ _=>a
 |_=>{posonlyargs:=[],args:=[],vararg:=none,kwonlyargs:=[],kw_defaults:=[],kwarg:=none,defaults:=[]}
def d5(s:Stmt):List Stmt:=match s with
 |.FunctionDef _ _ b _ _ _ _ _ _ _=>b
 |_=>[]
def bS(s:Stmt):Scope:=match s with
 |.FunctionDef _ _ _ _ _ _ sc _ _ _=>sc
 |_=>{kind:=.function,names:=[],isGenerator:=false,isCoroutine:=false}
abbrev CX0:CXT:=λ_ _ _ _ _ _=>False
structure Fun(K:Fg)(x qual:Str)(st:Stmt)(f:Addr)(fd:FuncData):Prop where
 ex:∃(oc:aSQ) (od:Option Addr) (kV doc pm:aSQ) (an:Option Addr) (cdv ct:aSQ) (osl:Array (Option aSQ)),
  fd=W.fnOf x qual (kG st) (d5 st) (bS st) .none kV doc pm an cdv ct/\K.lookup f=some ⟨oc,od,.func fd,osl⟩/\W.codeIn K cdv qual=true
 kp:W.keepIn K (.ref f)=true
section
variable {w:aST}
def aEQ{f:Addr}{oc:aSQ}{od an:Option Addr}{kV doc pm ct:aSQ}(l:K.lookup f=some ⟨oc,od,.func (W.fnOf x qual (kG st) (d5 st) (bS st) .none kV doc pm an cdv ct),osl⟩)(c:W.codeIn K cdv qual=true)(k:W.keepIn K (.ref f)=true):Fun K x qual st f (W.fnOf x qual (kG st) (d5 st) (bS st) .none kV doc pm an cdv ct):=⟨⟨oc,od,kV,doc,pm,an,cdv,ct,osl,rfl,l,c⟩,k⟩
end
def aD(H H':Hp):Prop:=∀b o,H b=some o->H' b=some o
def aD.refl(H:Hp):aD H H:=λ_ _ h=>h
def aD.trans{H1 H2:Hp}(a:aD H H1)(b:aD H1 H2):aD H H2:=λc o h=>b c o (a c o h)
def aD.free(e:aD H H'){l:Addr}(h:H' l=Option.none):H l=Option.none:=by
 cases q:H l with
 |none=>rfl
 |some o=>rw[e l o q]at h;cases h
def aD.seq{a:Addr}(e:aD H H')(h:SqL K H a xs):SqL K H' a xs:=by
 rcases h with(h|⟨o,h⟩)|h
 . exact .inl (.inl (e _ _ h))
 . exact .inl (.inr ⟨o,e _ _ h⟩)
 . exact .inr h
section
variable [DecidableEq κ]
end
def N.ind{P:N->Prop}(hi:∀n,P (.i n))(hs:∀x,P (.s x))(ht:∀xs,(∀x∈xs,P x)->P (.t xs))(k:N):P k :=
 N.rec (motive_1:=P) (motive_2:=λxs=>∀x∈xs,P x) hi hs ht (λ_ h=>nomatch h) (λa l h1 h2 x hx=>by
  rcases aOG.mp hx with rfl|hx
  . exact h1
  . exact h2 x hx) k
mutual
def N.eq:N->N->Bool
 |.i n,.i m=>n==m
 |.s x,.s y=>x==y
 |.t xs,.t ys=>N.eqL xs ys
 |_,_=>false
def N.eqL:List N->List N->Bool
 |[],[]=>true
 |x::xs,y::ys=>N.eq x y&&N.eqL xs ys
 |_,_=>false
end
mutual
def N.py:N->PyData
 |.i n=>.int n
 |.s x=>.str x
 |.t xs=>.tuple (N.pyL xs)
def N.pyL:List N->List PyData
 |[]=>[]
 |x::xs=>N.py x::N.pyL xs
end
mutual
def N.dp:N->Nat
 |.i _=>0
 |.s _=>0
 |.t xs=>N.dpL xs+1
def N.dpL:List N->Nat
 |[]=>0
 |x::xs=>max (N.dp x) (N.dpL xs)
end
mutual
def IsN(h:Heap):N->aSQ->Prop
 |.i n,v=>∃t,v=.int n t
 |.s x,v=>(∃t,v=.str x t)/\PyData.strOk x=true
 |.t xs,v=>∃a o items n,v=.ref a/\h.get? a=some o/\o.cls=.type "tuple" /\ o.data=.seq items n/\IsNL h xs items.toList
def IsNL(h:Heap):List N->List aSQ->Prop
 |[],vs=>vs=[]
 |x::xs,vs=>∃v us,vs=v::us/\IsN h x v/\IsNL h xs us
end
section
variable {w:aST}{A:aSS}{E:VSP}{s:aSR}
end
def mM(f:Addr)(o:Obj):HO:=.ext λh=>h.get? f=some o
def aER{w:aST}{f:Addr}{o:Obj}(ok:HOk P w H h)(e:H f=some (mM f o)):h.get? f=some o:=(ok f _ e).1
def aES{w:aST}{c:Addr}(ok:HOk P w H h)(e:H c=some (.crec q)):h.CodeRec (.ref c) q:=by obtain⟨oc,vs,t,e1,e2,e3⟩:=ok c _ e;exact⟨c,oc,vs,t,rfl,e1,e2,e3⟩
section
variable {σ:St}{s:aSR}{E:VSP}
end
end L2
namespace D3
inductive D where
 |non|bl (b:Bool)|int (i:Int)|str (x:Str)|tup (xs:List D)|lst (xs:List D)|dct (kvs:List (Key×D))|ty (n:String)|ob (a:Addr)|ins (c:Str) (fs:List (Str×D))|fn (x:Str)|exn (c:Str)|set (ks:List Key)|dtn (kvs:List (N×D))|dtf (kvs:List (N×D))|dcf (kvs:List (Key×D))|clo (f n:Str) (fs:List (Str×D))
inductive Md where|fz|fr|bo
 deriving DecidableEq
inductive Res where
 |ok (m:Md) (d:D)|exc (c:Str)|stuck
def fQ(c:Addr)(y:V):HO:=.ext λh=>∃u,h.IsCell c (some u)/\aM y u
end D3
variable {vs ds:List D3.D}{m m':D3.Md}{Φ:List D3.D->D3.Res}{M:List (L2.Key×D3.D)}
namespace D3
def pL:Stmt->Str
 |.FunctionDef n _ _ _ _ _ _ _ _ _=>n
 |_ => ""
def iU(K:Fg)(f0 n q:Str)(st:Stmt):Prop:=∃x qual st0 f fd,W.nsIn K mainGlobals f0=some (some (.ref f))/\Fun K x qual st0 f fd/\(if n="" then(d5 st0)[1]? else(d5 st0).find? λs=>pL s==n)=some st/\q=qual ++ ".<locals>." ++ pL st
def iU.one{f0 i q':Str}{st':Stmt}(h:iU K f0 i q st)(h':iU K f0 i q' st'):q=q'/\st=st':=by obtain⟨x,qual,st0,f,fd,n,F,b,rfl⟩:=h;obtain⟨x',qual',st0',f',fd',n',F',b',rfl⟩:=h';rw[n]at n';cases n';obtain⟨_,_,_,_,_,_,_,_,_,rfl,lk,_⟩:=F.ex;obtain⟨_,_,_,_,_,_,_,_,_,rfl,lk',_⟩:=F'.ex;rw[lk]at lk';simp only[aQG,Obj.mk.injEq,Data.func.injEq,FuncData.mk.injEq,FuncBody.stmts.injEq]at lk';obtain⟨_,_,⟨_,e1,_,e2,_⟩,_⟩:=lk';rw[e2,b']at b;cases b;exact⟨by rw[e1],rfl⟩
def bC(as:List Addr)(H:Hp):Hp:=λb=>if b∈as then none else H b
def aET{as:List Addr}{F:Hp}(h:aD F F'):aD (bC as F) (bC as F'):=λb o e=>by
 by_cases hb:b∈as
 . rw[show bC as F b=none from if_pos hb]at e;cases e
 . rw[show bC as F b=F b from if_neg hb]at e
   rw[show bC as F' b=F' b from if_neg hb]
   exact h b o e
def clA(cl:List (Str×Addr)):List Addr:=cl.filterMap λz=>cl.lookup z.1
def ClOk(fs:List (Str×D))(cl:List (Str×Addr)):Prop:=(∀x c,cl.lookup x=some c->x∈fs.map (·.1))/\∀x y c,cl.lookup x=some c->cl.lookup y=some c->x=y
def xobj(a C:Addr):HO:=.ext λh=>∃o,h.get? a=some o/\o.cls=.ref C
mutual
def NAt(K:Fg)(F:Hp):N->V->Prop
 |.i n,v=>v=.int n
 |.s x,v=>v=.str x/\x.length<=sizeLine/\PyData.strOk x=true
 |.t xs,v=>∃a ys,v=.ref a/\SqT K F a ys/\gN K F xs ys
def gN(K:Fg)(F:Hp):List N->List V->Prop
 |[],ys=>ys=[]
 |x::xs,ys=>∃y zs,ys=y::zs/\NAt K F x y/\gN K F xs zs
end
def wB(S:Key->Bool)(ks:List Key):Prop:=ks.Nodup/\∀k,S k=true↔k∈ks
mutual
def aB(K:Fg)(F:Hp):D->V->Prop
 |.non,v=>v=.non
 |.bl b,v=>v=.bl b
 |.int i,v=>v=.int i
 |.str x,v=>v=.str x/\x.length<=sizeLine/\PyData.strOk x=true
 |.tup ds,v=>∃a xs,v=.ref a/\SqT K F a xs/\aC K F ds xs
 |.lst ds,v=>∃a xs,v=.ref a/\SqL K F a xs/\aC K F ds xs
 |.dct kvs,v=>∃a xs,v=.ref a/\F a=some (.dK xs)/\aI K F kvs xs
 |.ty n,v=>v=.ty n
 |.ob a,v=>v=.ref a
 |.ins c fs,v=>∃a C dx gs,v=.ref a/\W.nsIn K mainGlobals c=some (some (.ref C))/\F a=some (.ins C dx gs)/\cH K F fs gs
 |.fn x,v=>∃a,v=.ref a/\W.nsIn K mainGlobals x=some (some (.ref a))
 |.exn c,v=>∃a C,v=.ref a/\W.nsIn K mainGlobals c=some (some (.ref C))/\F a=some (xobj a C)
 |.set ks,v=>∃a S,v=.ref a/\F a=some (.set S ks.length)/\wB S ks
 |.dtn kvs,v=>∃a xs,v=.ref a/\F a=some (.dN xs)/\d7 K F kvs xs
 |.dtf kvs,v=>∃a o xs,v=.ref a/\F a=some (.frz o (.dN xs))/\d7 K F kvs xs
 |.dcf kvs,v=>∃a o xs,v=.ref a/\F a=some (.frz o (.dK xs))/\aI K F kvs xs
 |.clo f0 n fs,v=>∃f c name q st doc pm ct cl,iU K f0 n q st/\v=.ref f/\F f=some (mM f (W.fnMade name q (kG st) (d5 st) (bS st) cl doc pm c ct))/\F c=some (.crec q)/\ClOk fs cl/\dS K F fs cl
def d7(K:Fg)(F:Hp):List (N×D)->List (N×Addr×V)->Prop
 |[],xs=>xs=[]
 |(k,d)::ds,xs=>∃b y ys,xs=(k,b,y)::ys/\(NAt K F k (.ref b)/\k.dp<=8)/\aB K F d y/\d7 K F ds ys
def aC(K:Fg)(F:Hp):List D->List V->Prop
 |[],xs=>xs=[]
 |d::ds,xs=>∃y ys,xs=y::ys/\aB K F d y/\aC K F ds ys
def aI(K:Fg)(F:Hp):List (Key×D)->List (Key×V)->Prop
 |[],xs=>xs=[]
 |(k,d)::ds,xs=>∃y ys,xs=(k,y)::ys/\aB K F d y/\aI K F ds ys
def dS(K:Fg)(F:Hp):List (Str×D)->List (Str×Addr)->Prop
 |[],_=>True
 |(x,d)::ds,cl=>(∃a y,cl.lookup x=some a/\F a=some (fQ a y)/\aB K (bC (clA cl) F) d y)/\dS K F ds cl
def cH(K:Fg)(F:Hp):List (Str×D)->List (Str×V)->Prop
 |[],xs=>xs=[]
 |(k,d)::ds,xs=>∃y ys,xs=(k,y)::ys/\aB K F d y/\cH K F ds ys
end
def aD.seqT{a:Addr}(e:aD H H')(h:SqT K H a xs):SqT K H' a xs:=by
 rcases h with(h|⟨o,h⟩)|h
 . exact .inl (.inl (e _ _ h))
 . exact .inl (.inr ⟨o,e _ _ h⟩)
 . exact .inr h
section
variable  {F:Hp}
theorem gN.map:∀{xs:List N}{ys:List V},gN K F xs ys->(∀x∈xs,∀v,NAt K F x v->NAt K F' x v)->gN K F' xs ys
 |[],_,h,_=>by simpa only [gN]using h
 |x::xs,ys,h,k=>by simp only[gN]at h ⊢;obtain⟨y,zs,e,q,r⟩:=h;exact⟨y,zs,e,k x mcs y q,r.map λz hz=>k z (mcm hz)⟩
def NAt.mono(s:aD F F')(k:N):∀v,NAt K F k v->NAt K F' k v:=by
 induction k using N.ind with
 |hi n=>intro v h;simpa only [NAt]using h
 |hs x=>intro v h;simpa only [NAt]using h
 |ht xs ih=>intro v h;simp only[NAt]at h ⊢;obtain⟨a,ys,e,q,r⟩:=h;exact⟨a,ys,e,aD.seqT s q,r.map ih⟩
mutual
theorem aB.mono{F F':Hp}(s:aD F F'):∀(d:D) (v:V),aB K F d v->aB K F' d v
 |.non,_,h=>by simpa only [aB]using h
 |.bl _,_,h=>by simpa only [aB]using h
 |.int _,_,h=>by simpa only [aB]using h
 |.str _,_,h=>by simpa only [aB]using h
 |.tup ds,v,h=>by simp only[aB]at h ⊢;obtain⟨a,xs,e,q,r⟩:=h;exact⟨a,xs,e,aD.seqT s q,aC.mono s ds xs r⟩
 |.lst ds,v,h=>by simp only[aB]at h ⊢;obtain⟨a,xs,e,q,r⟩:=h;exact⟨a,xs,e,s.seq q,aC.mono s ds xs r⟩
 |.dct ds,v,h=>by simp only[aB]at h ⊢;obtain⟨a,xs,e,q,r⟩:=h;exact⟨a,xs,e,s _ _ q,aI.mono s ds xs r⟩
 |.ty _,_,h=>by simpa only [aB]using h
 |.ob _,_,h=>by simpa only [aB]using h
 |.fn _,_,h=>by simpa only [aB]using h
 |.exn _,_,h=>by simp only[aB]at h ⊢;obtain⟨a,C,e,n,q⟩:=h;exact⟨a,C,e,n,s _ _ q⟩
 |.set _,_,h=>by simp only[aB]at h ⊢;obtain⟨a,S,e,q,r⟩:=h;exact⟨a,S,e,s _ _ q,r⟩
 |.dtn ds,v,h=>by simp only[aB]at h ⊢;obtain⟨a,xs,e,q,r⟩:=h;exact⟨a,xs,e,s _ _ q,d7.mono s ds xs r⟩
 |.dtf ds,v,h=>by simp only[aB]at h ⊢;obtain⟨a,o,xs,e,q,r⟩:=h;exact⟨a,o,xs,e,s _ _ q,d7.mono s ds xs r⟩
 |.dcf ds,v,h=>by simp only[aB]at h ⊢;obtain⟨a,o,xs,e,q,r⟩:=h;exact⟨a,o,xs,e,s _ _ q,aI.mono s ds xs r⟩
 |.clo f0 n fs,v,h=>by simp only[aB]at h ⊢;obtain⟨f,c,name,q,st,doc,pm,ct,cl,k,e,q1,q2,o,r⟩:=h;exact⟨f,c,name,q,st,doc,pm,ct,cl,k,e,s _ _ q1,s _ _ q2,o,dS.mono s fs cl r⟩
 |.ins c fs,v,h=>by simp only[aB]at h ⊢;obtain⟨a,C,dx,gs,e,n,q,r⟩:=h;exact⟨a,C,dx,gs,e,n,s _ _ q,cH.mono s fs gs r⟩
theorem aC.mono{F F':Hp}(s:aD F F'):∀(ds:List D) (xs:List V),aC K F ds xs->aC K F' ds xs
 |[],_,h=>by simpa only [aC]using h
 |d::ds,xs,h=>by simp only[aC]at h ⊢;obtain⟨y,ys,e,q,r⟩:=h;exact⟨y,ys,e,aB.mono s d y q,aC.mono s ds ys r⟩
theorem aI.mono{F F':Hp}(s:aD F F'):∀(ds:List (Key×D)) (xs:List (Key×V)),aI K F ds xs->aI K F' ds xs
 |[],_,h=>by simpa only [aI]using h
 |(k,d)::ds,xs,h=>by simp only[aI]at h ⊢;obtain⟨y,ys,e,q,r⟩:=h;exact⟨y,ys,e,aB.mono s d y q,aI.mono s ds ys r⟩
theorem dS.mono{F F':Hp}(s:aD F F'):∀(fs:List (Str×D)) (cl:List (Str×Addr)),dS K F fs cl->dS K F' fs cl
 |[],_,h=>by simpa only [dS]using h
 |(x,d)::fs,cl,h=>by simp only[dS]at h ⊢;obtain⟨⟨a,y,e,q,r⟩,t⟩:=h;exact⟨⟨a,y,e,s _ _ q,aB.mono (aET s) d y r⟩,dS.mono s fs cl t⟩
theorem d7.mono{F F':Hp}(s:aD F F'):∀(ds:List (N×D)) (xs:List (N×Addr×V)),d7 K F ds xs->d7 K F' ds xs
 |[],_,h=>by simpa only [d7]using h
 |(k,d)::ds,xs,h=>by simp only[d7]at h ⊢;obtain⟨b,y,ys,e,n,q,r⟩:=h;exact⟨b,y,ys,e,⟨NAt.mono s k _ n.1,n.2⟩,aB.mono s d y q,d7.mono s ds ys r⟩
theorem cH.mono{F F':Hp}(s:aD F F'):∀(ds:List (Str×D)) (xs:List (Str×V)),cH K F ds xs->cH K F' ds xs
 |[],_,h=>by simpa only [cH]using h
 |(k,d)::ds,xs,h=>by simp only[cH]at h ⊢;obtain⟨y,ys,e,q,r⟩:=h;exact⟨y,ys,e,aB.mono s d y q,cH.mono s ds ys r⟩
end
theorem aC.length:∀{ds:List D}{xs:List V},aC K F ds xs->xs.length=ds.length
 |[],_,h=>by simp only[aC]at h;subst h;rfl
 |d::ds,_,h=>by simp only[aC]at h;obtain⟨y,ys,rfl,_,r⟩:=h;rw[aQB,aQB,aC.length r]
theorem aC.get:∀{ds:List D}{xs:List V}{i:Nat}{x:V},aC K F ds xs->xs[i]? = some x->∃d,ds[i]? = some d/\aB K F d x
 |[],_,_,_,h,e=>by simp only[aC]at h;subst h;simp at e
 |d::ds,_,0,_,h,e=>by simp only[aC]at h;obtain⟨y,ys,rfl,r,_⟩:=h;simp at e;subst e;exact⟨d,rfl,r⟩
 |d::ds,_,i+1,_,h,e=>by
  simp only[aC]at h;obtain⟨y,ys,rfl,_,r⟩:=h;obtain⟨d',e',r'⟩:=aC.get (i:=i) r (by simpa using e)
  exact⟨d',by simpa using e',r'⟩
theorem aC.get':∀{ds:List D}{xs:List V}{i:Nat}{d:D},aC K F ds xs->ds[i]? = some d->∃x,xs[i]? = some x/\aB K F d x
 |[],_,_,_,h,e=>by simp at e
 |d::ds,_,0,_,h,e=>by simp only[aC]at h;obtain⟨y,ys,rfl,r,_⟩:=h;simp at e;subst e;exact⟨y,rfl,r⟩
 |d::ds,_,i+1,_,h,e=>by
  simp only[aC]at h;obtain⟨y,ys,rfl,_,r⟩:=h;obtain⟨d',e',r'⟩:=aC.get' (i:=i) r (by simpa using e)
  exact⟨d',by simpa using e',r'⟩
theorem aC.append:∀{ds es:List D}{xs ys:List V},aC K F ds xs->aC K F es ys->aC K F (ds++es) (xs++ys)
 |[],_,_,_,h,r=>by simp only[aC]at h;subst h;exact r
 |d::ds,_,_,_,h,r=>by simp only[aC]at h;obtain⟨y,ys,rfl,q,t⟩:=h;show aC K F (d::(ds++_)) (y::(ys++_));simp only[aC];exact⟨y,_,rfl,q,aC.append t r⟩
def aC.nil:aC K F [] []:=by simp only[aC]
def aC.cons{d:D}{ds:List D}{x:V}{xs:List V}(h:aB K F d x)(r:aC K F ds xs):aC K F (d::ds) (x::xs):=by simp only[aC];exact⟨x,xs,rfl,h,r⟩
end
def Top(K:Fg)(F H:Hp)(a:Addr):D->Prop
 |.lst ds=>∃xs,H a=some (.lst xs)/\aC K F ds xs
 |.dct ds=>∃xs,H a=some (.dK xs)/\aI K F ds xs
 |.ins c fs=>∃C dx gs,W.nsIn K mainGlobals c=some (some (.ref C))/\H a=some (.ins C dx gs)/\cH K F fs gs
 |.set ks=>∃S,H a=some (.set S ks.length)/\wB S ks
 |.dtn ds=>∃xs,H a=some (.dN xs)/\d7 K F ds xs
 |_=>False
def Rp(K:Fg)(F H:Hp)(m:Md)(d:D)(v:V):Prop :=
 match m with
 |.fz=>aB K F d v
 |_=>∃a,v=.ref a/\F a=none/\Top K F H a d
inductive gO:Option HO->Prop
 |no:gO none
 |cr {q:Str}:gO (some (.crec q))
def iV{o:Option HO}(h:o=none):gO o:=h ▸ .no
structure aG(F H F' H':Hp):Prop where
 same:aD H H'
 fsame:aD F F'
 sub:aD F' H'
 new:∀a,F a=none -> ¬ gO (H a)->F' a=none
theorem aG.refl{F:Hp}(h:aD F H):aG F H F H:=⟨aD.refl _,aD.refl _,h,λ_ h _=>h⟩
theorem aG.trans{F H1 F2 H2:Hp}(a:aG F H F1 H1)(b:aG F1 H1 F2 H2):aG F H F2 H2 :=
 ⟨a.same.trans b.same,a.fsame.trans b.fsame,b.sub,λx h1 h2=>b.new x (a.new x h1 h2) (by
  cases e:H x with
  |none=>exact absurd (iV e) h2
  |some o=>rw[a.same x o e,<- e];exact h2)⟩
def aG.laid{F:Hp}{p:Addr}(o:HO)(h:aD F H)(hp:H p=none):aG F H (upd F p o) (upd H p o):=by
 have hf:F p=none:=h.free hp;refine⟨λb u e=>?_,λb u e=>?_,λb u e=>?_,λa h1 h2=>?_⟩
 . rw[aP (bV e hp)];exact e
 . rw[aP (bV e hf)];exact e
 . by_cases hb:b=p
   . subst hb;rw[bE]at e ⊢;exact e
   . rw[aP hb]at e ⊢;exact h b u e
 . have:a≠p:=by rintro rfl;exact h2 (iV hp)
   rw[aP this];exact h1
def aG.fresh{F:Hp}{p:Addr}(o:HO)(h:aD F H)(hp:H p=none):aG F H F (upd H p o):=by
 refine⟨λb u e=>?_,aD.refl _,λb u e=>?_,λa h1 _=>h1⟩
 . rw[aP (bV e hp)];exact e
 . rw[aP (bV (h b u e) hp)];exact h b u e
def Top.step{F:Hp}{a:Addr}{d:D}(st:aG F H F' H')(h:Top K F H a d):Top K F' H' a d:=by
 cases d with
 |lst ds=>obtain⟨xs,e,r⟩:=h;exact⟨xs,st.same _ _ e,r.mono st.fsame _ _⟩
 |dct ds=>obtain⟨xs,e,r⟩:=h;exact⟨xs,st.same _ _ e,r.mono st.fsame _ _⟩
 |ins c fs=>obtain⟨C,dx,gs,n,e,r⟩:=h;exact⟨C,dx,gs,n,st.same _ _ e,r.mono st.fsame _ _⟩
 |set ks=>obtain⟨S,e,r⟩:=h;exact⟨S,st.same _ _ e,r⟩
 |dtn ds=>obtain⟨xs,e,r⟩:=h;exact⟨xs,st.same _ _ e,r.mono st.fsame _ _⟩
 |_=>exact h.elim
def Top.there{F:Hp}{a:Addr}{d:D}(h:Top K F H a d):¬ gO (H a):=by
 cases d with
 |lst ds=>obtain⟨xs,e,r⟩:=h;rw[e];exact λz=>nomatch z
 |dct ds=>obtain⟨xs,e,r⟩:=h;rw[e];exact λz=>nomatch z
 |ins c fs=>obtain⟨C,dx,gs,n,e,r⟩:=h;rw[e];exact λz=>nomatch z
 |set ks=>obtain⟨S,e,r⟩:=h;rw[e];exact λz=>nomatch z
 |dtn ds=>obtain⟨xs,e,r⟩:=h;rw[e];exact λz=>nomatch z
 |_=>exact h.elim
theorem Rp.step{F:Hp}{d:D}(st:aG F H F' H')(h:Rp K F H m d v):Rp K F' H' m d v:=by
 cases m with
 |fz=>exact aB.mono st.fsame d v h
 |fr=>obtain⟨a,e,n,t⟩:=h;exact⟨a,e,st.new a n t.there,t.step st⟩
 |bo=>obtain⟨a,e,n,t⟩:=h;exact⟨a,e,st.new a n t.there,t.step st⟩
def Rp.seqL{F:Hp}(s:aD F H)(h:Rp K F H m (.lst ds) v):∃a xs,v=.ref a/\SqL K H a xs/\aC K F ds xs:=by
 cases m with
 |fz=>have h:aB K F (.lst ds) v:=h;simp only[aB]at h;obtain⟨a,xs,e,q,r⟩:=h;exact⟨a,xs,e,s.seq q,r⟩
 |fr=>obtain⟨a,e,n,xs,q,r⟩:=h;exact⟨a,xs,e,SqL.of q,r⟩
 |bo=>obtain⟨a,e,n,xs,q,r⟩:=h;exact⟨a,xs,e,SqL.of q,r⟩
theorem Rp.seqT{F:Hp}(s:aD F H)(h:Rp K F H m (.tup ds) v):∃a xs,v=.ref a/\SqT K H a xs/\aC K F ds xs:=by
 cases m with
 |fz=>have h:aB K F (.tup ds) v:=h;simp only[aB]at h;obtain⟨a,xs,e,q,r⟩:=h;exact⟨a,xs,e,aD.seqT s q,r⟩
 |fr=>obtain⟨a,e,n,q⟩:=h;exact q.elim
 |bo=>obtain⟨a,e,n,q⟩:=h;exact q.elim
def Rp.dict{F:Hp}{ds:List (Key×D)}(s:aD F H)(h:Rp K F H m (.dct ds) v):∃a xs,v=.ref a/\H a=some (.dK xs)/\aI K F ds xs:=by
 cases m with
 |fz=>have h:aB K F (.dct ds) v:=h;simp only[aB]at h;obtain⟨a,xs,e,q,r⟩:=h;exact⟨a,xs,e,s _ _ q,r⟩
 |fr=>obtain⟨a,e,n,xs,q,r⟩:=h;exact⟨a,xs,e,q,r⟩
 |bo=>obtain⟨a,e,n,xs,q,r⟩:=h;exact⟨a,xs,e,q,r⟩
theorem Rp.ins{F:Hp}{c:Str}{fs:List (Str×D)}(s:aD F H)(h:Rp K F H m (.ins c fs) v):∃a C dx gs,v=.ref a/\W.nsIn K mainGlobals c=some (some (.ref C))/\H a=some (.ins C dx gs)/\cH K F fs gs:=by
 cases m with
 |fz=>have h:aB K F (.ins c fs) v:=h;simp only[aB]at h;obtain⟨a,C,dx,gs,e,n,q,r⟩:=h;exact⟨a,C,dx,gs,e,n,s _ _ q,r⟩
 |fr=>obtain⟨a,e,n,C,dx,gs,z,q,r⟩:=h;exact⟨a,C,dx,gs,e,z,q,r⟩
 |bo=>obtain⟨a,e,n,C,dx,gs,z,q,r⟩:=h;exact⟨a,C,dx,gs,e,z,q,r⟩
theorem Rp.int{F:Hp}{i:Int}(h:Rp K F H m (.int i) v):v=.int i:=by
 cases m with
 |fz=>have h:aB K F (.int i) v:=h;simpa only [aB]using h
 |fr=>obtain⟨a,e,n,q⟩:=h;exact q.elim
 |bo=>obtain⟨a,e,n,q⟩:=h;exact q.elim
theorem Rp.bl{F:Hp}{i:Bool}(h:Rp K F H m (.bl i) v):v=.bl i:=by
 cases m with
 |fz=>have h:aB K F (.bl i) v:=h;simpa only [aB]using h
 |fr=>obtain⟨a,e,n,q⟩:=h;exact q.elim
 |bo=>obtain⟨a,e,n,q⟩:=h;exact q.elim
theorem Rp.non{F:Hp}(h:Rp K F H m .non v):v=.non:=by
 cases m with
 |fz=>have h:aB K F .non v:=h;simpa only [aB]using h
 |fr=>obtain⟨a,e,n,q⟩:=h;exact q.elim
 |bo=>obtain⟨a,e,n,q⟩:=h;exact q.elim
theorem Rp.str{F:Hp}(h:Rp K F H m (.str x) v):v=.str x/\x.length<=sizeLine/\PyData.strOk x=true:=by
 cases m with
 |fz=>have h:aB K F (.str x) v:=h;simpa only [aB]using h
 |fr=>obtain⟨a,e,n,q⟩:=h;exact q.elim
 |bo=>obtain⟨a,e,n,q⟩:=h;exact q.elim
theorem Rp.ty{F:Hp}{n:String}(h:Rp K F H m (.ty n) v):v=.ty n:=by
 cases m with
 |fz=>have h:aB K F (.ty n) v:=h;simpa only [aB]using h
 |fr=>obtain⟨a,e,n,q⟩:=h;exact q.elim
 |bo=>obtain⟨a,e,n,q⟩:=h;exact q.elim
theorem Rp.ob{F:Hp}{n:Addr}(h:Rp K F H m (.ob n) v):v=.ref n:=by
 cases m with
 |fz=>have h:aB K F (.ob n) v:=h;simpa only [aB]using h
 |fr=>obtain⟨a,e,n,q⟩:=h;exact q.elim
 |bo=>obtain⟨a,e,n,q⟩:=h;exact q.elim
def rp_ty{F:Hp}(i:String):Rp K F H .fz (.ty i) (.ty i):=by show aB K F _ _;simp only[aB]
def dC{F:Hp}(i:Int):Rp K F H .fz (.int i) (.int i):=by show aB K F _ _;simp only[aB]
def cJ{F:Hp}(i:Bool):Rp K F H .fz (.bl i) (.bl i):=by show aB K F _ _;simp only[aB]
def pM{F:Hp}:Rp K F H .fz .non .non:=by show aB K F _ _;simp only[aB]
def dU{F:Hp}(h:x.length<=sizeLine/\PyData.strOk x=true):Rp K F H .fz (.str x) (.str x):=by show aB K F _ _;simp only[aB,true_and];exact h
abbrev Rho:=List (Option (Bool×D))
structure aR(K:Fg)(F0 H0 F H:Hp)(σ:L2.St)(ρ:Rho):Prop where
 st:aG F0 H0 F H
 slot:∀(i:Nat) (m:Bool) (d:D),ρ[i]? = some (some (m,d))->∃v,σ[i]? = some (some v)/\Rp K F H (if m then .bo else .fz) d v/\(m=true->∀a,v=.ref a->H0 a=none)
 apart:∀(i j:Nat) (d d':D) (a:Addr),i≠j->ρ[i]? = some (some (true,d))->ρ[j]? = some (some (true,d'))->σ[i]? = some (some (.ref a))->σ[j]? = some (some (.ref a))->False
 len:σ.length=ρ.length
theorem aR.step{F:Hp}{ρ:Rho}(r:aR K F0 H0 F H σ ρ)(st:aG F H F' H'):aR K F0 H0 F' H' σ ρ :=
 ⟨r.st.trans st,λi m d e=>by obtain⟨v,e1,e2,e3⟩:=r.slot i m d e;exact⟨v,e1,e2.step st,e3⟩,r.apart,r.len⟩
theorem aR.sub{F:Hp}{ρ:Rho}(r:aR K F0 H0 F H σ ρ):aD F H:=r.st.sub
abbrev XE:=Str->L2.St->Hp->Prop
structure Cw where
 K:Fg
 F0:Hp
 H0:Hp
 EE:XE
def tG(C:Cw)(g:Rho->Res):TE:=λσ H Q=>∃ρ F,aR C.K C.F0 C.H0 F H σ ρ/\match g ρ with
 |.ok m d=>∀v F' H',aG F H F' H'->Rp C.K F' H' m d v->(m=.fr->∀a,v=.ref a->H a=none)->Q v H'
 |.exc c=>∀F' H',aG F H F' H'->C.EE c σ H'
 |.stuck=>False
abbrev Cw.at(C:Cw)(X:Cx):Cw:={C with K:=X.K}
end D3
variable {g ga gb gi:D3.Rho->D3.Res}{C:D3.Cw}{ρ ρ':D3.Rho}
namespace D3
def PV(C:Cw)(X:Cx)(e:Expr)(g:Rho->Res):Prop:=PE X e (tG (C.at X) g)
def PE.imp{t t':TE}(h:PE X e t)(i:∀σ H Q,t' σ H Q->t σ H Q):PE X e t':=λaA s σ H Q I q=>h aA s σ H Q I (i σ H Q q)
noncomputable def Res.thn(r:Res)(k:Md->D->Res):Res:=match r with
 |.ok m d=>k m d
 |.exc c=>.exc c
 |.stuck=>.stuck
@[simp] theorem Res.thn_ok(m:Md)(d:D)(k:Md->D->Res):(Res.ok m d).thn k=k m d:=rfl
@[simp] theorem Res.thn_exc(c:Str)(k:Md->D->Res):(Res.exc c).thn k=.exc c:=rfl
@[simp] theorem Res.thn_stuck(k:Md->D->Res):Res.stuck.thn k=.stuck:=rfl
def Res.of:Option (Md×D)->Res
 |some (m,d)=>.ok m d
 |none=>.stuck
@[simp] theorem Res.of_some(m:Md)(d:D):Res.of (some (m,d))=.ok m d:=rfl
@[simp] theorem Res.of_none:Res.of none=.stuck:=rfl
def aW(C:Cw)(F H:Hp)(σ:L2.St)(r:Res)(Q:VK):Prop:=match r with
 |.ok m d=>∀v F' H',aG F H F' H'->Rp C.K F' H' m d v->(m=.fr->∀a,v=.ref a->H a=none)->Q v H'
 |.exc c=>∀F' H',aG F H F' H'->C.EE c σ H'
 |.stuck=>False
def aZ{Q:VK}:tG C g σ H Q=∃ρ F,aR C.K C.F0 C.H0 F H σ ρ/\aW C F H σ (g ρ) Q:=by unfold tG aW;rfl
def aW.step{F H1:Hp}{r:Res}{Q:VK}(st:aG F H F1 H1)(h:aW C F H σ r Q):aW C F1 H1 σ r Q:=by
 cases r with
 |ok m d=>exact λv F' H' s2 rp hf=>h v F' H' (st.trans s2) rp λe a ea=>st.same.free (hf e a ea)
 |exc c=>exact λF' H' s2=>h F' H' (st.trans s2)
 |stuck=>exact h
section
variable {a b:Expr}{pos:Pos}
def d8(ρ:Rho)(i:Nat):Res:=match ρ[i]? with
 |some (some (false,d))=>.ok .fz d
 |some (some (true,d))=>.ok .bo d
 |_=>.stuck
def aEU(i:Nat)(h:PE X (.Name x pos) (cG i)):PV C X (.Name x pos) (λρ=>d8 ρ i):=by
 refine PE.imp h λσ H Q q=>?_;rw[aZ]at q;obtain⟨ρ,F,R,w⟩:=q;unfold d8 at w;cases e:ρ[i]? with
 |none=>rw[e]at w;exact w.elim
 |some o =>
  cases o with
  |none=>rw[e]at w;exact w.elim
  |some p =>
   obtain⟨m,d⟩:=p;obtain⟨v,e1,r,_⟩:=R.slot i m d e;rw[e]at w;cases m with
   |false=>exact⟨v,e1,w v F H (.refl R.sub) r (by nofun)⟩
   |true=>exact⟨v,e1,w v F H (.refl R.sub) r (by nofun)⟩
def gP(d:D)(h:PE X e (tC v))(r:∀F H,Rp X.K F H .fz d v):PV C X e (λ_=>.ok .fz d):=by refine PE.imp h λσ H Q q=>?_;rw[aZ]at q;obtain⟨ρ,F,R,w⟩:=q;exact w v F H (.refl R.sub) (r F H) (by nofun)
def aEV{i j:_}:PV C X (.Constant (.int i) j pos) (λ_=>.ok .fz (.int i)):=gP _ fN λ_ _=>dC i
def pv_bl{i j:_}:PV C X (.Constant (.bool i) j pos) (λ_=>.ok .fz (.bl i)):=gP _ pe_bl λ_ _=>cJ i
def aEW{j:_}:PV C X (.Constant .none j pos) (λ_=>.ok .fz .non):=gP _ aCG λ_ _=>pM
def aEX{j:_}(h:(decide (x.length<=sizeLine)&&PyData.strOk x)=true:=by decide +kernel):PV C X (.Constant (.str x) j pos) (λ_=>.ok .fz (.str x)) :=
 gP _ uN λ_ _=>dU (by rw[aPY,aQH]at h;exact h)
noncomputable def op2(φ:Md->D->Md->D->Option (Md×D))(x y:Res):Res:=x.thn λm d=>y.thn λn e=>Res.of (φ m d n e)
def OpD(C:Cw)(X:Cx)(f:aSQ->aSQ->Sem aSQ)(φ:Md->D->Md->D->Option (Md×D)):Prop :=
 ∃r:R2,OpR X f r/\∀F H m x n y v u k d Q,aD F H->Rp X.K F H m x v->Rp X.K F H n y u->φ m x n y=some (k,d) ->
  (∀v' F' H',aG F H F' H'->Rp X.K F' H' k d v'->(k=.fr->∀a,v'=.ref a->H a=none)->Q v' H')->r v u H Q
def kH{φ:Md->D->Md->D->Option (Md×D)}{r:R2}(h:∀F H m x n y v u k d Q,aD F H->Rp C.K F H m x v->Rp C.K F H n y u->φ m x n y=some (k,d)->(∀v' F' H',aG F H F' H'->Rp C.K F' H' k d v'->(k=.fr->∀a,v'=.ref a->H a=none)->Q v' H')->r v u H Q){Q:VK}(q:tG C (λρ=>op2 φ (ga ρ) (gb ρ)) σ H Q):tOp r (tG C ga) (tG C gb) σ H Q:=by
 unfold tOp;rw[aZ]at q ⊢;obtain⟨ρ,F,R,w⟩:=q;refine⟨ρ,F,R,?_⟩;cases ea:ga ρ with
 |stuck=>simp only[op2,ea,Res.thn]at w;exact w
 |exc c=>simp only[op2,ea,Res.thn]at w;exact w
 |ok m d =>
  intro v F1 H1 s1 r1 _;rw[aZ];refine⟨ρ,F1,R.step s1,?_⟩;have w1:=w.step s1;simp only[op2,ea,Res.thn]at w1;cases eb:gb ρ with
  |stuck=>rw[eb]at w1;exact w1
  |exc c=>rw[eb]at w1;exact w1
  |ok n e =>
   rw[eb]at w1;intro u F2 H2 s2 r2 _;have w2:aW C F2 H2 σ (Res.of (φ m d n e)) Q:=aW.step s2 w1;cases ef:φ m d n e with
   |none=>rw[ef]at w2;exact w2.elim
   |some kd=>obtain⟨k,d'⟩:=kd;rw[ef]at w2;exact h F2 H2 m d n e v u k d' Q s2.sub (r1.step s2) r2 ef w2
def pv_op{op:Operator}{φ}(o:OpD C X (binaryOp op) φ)(ha:PV C X a ga)(hb:PV C X b gb):PV C X (.BinOp a op b pos) (λρ=>op2 φ (ga ρ) (gb ρ)):=by obtain⟨r,h1,h2⟩:=o;exact PE.imp (pe_op h1 ha hb) λσ H Q q=>kH h2 q
def aEY{op:CmpOp}{φ}(o:OpD C X (compareOp op) φ)(ha:PV C X a ga)(hb:PV C X b gb)(hm:behindInMarks op b=false):PV C X (.Compare a [op] [b] pos) (λρ=>op2 φ (ga ρ) (gb ρ)):=by obtain⟨r,h1,h2⟩:=o;exact PE.imp (aDD h1 ha hb hm) λσ H Q q=>kH h2 q
def orO(φ ψ:Md->D->Md->D->Option (Md×D)):Md->D->Md->D->Option (Md×D):=λm x n y=>(φ m x n y).orElse λ_=>ψ m x n y
theorem OpD.or{f:aSQ->aSQ->Sem aSQ}{φ ψ}(h:OpD C X f φ)(h':OpD C X f ψ):OpD C X f (orO φ ψ):=by
 obtain⟨r,h1,h2⟩:=h;obtain⟨r',h1',h2'⟩:=h';refine⟨_,h1.or h1',λF H m x n y v u k d Q s rx ry e w=>?_⟩;unfold orO at e;cases e1:φ m x n y with
 |none=>rw[e1]at e;exact .inr (h2' F H m x n y v u k d Q s rx ry e w)
 |some p=>rw[e1]at e;cases e;exact .inl (h2 F H m x n y v u k d Q s rx ry e1 w)
noncomputable def fI(c:Int->Int->Bool)(g:Int->Int->D):Md->D->Md->D->Option (Md×D):=λ_ x _ y=>match x,y with
 |.int i,.int j=>if c i j=true then some (.fz,g i j)else none
 |_,_=>none
def mN{f:aSQ->aSQ->Sem aSQ}{Cc:Int->Int->Prop}{c:Int->Int->Bool}{g:Int->Int->V}{g':Int->Int->D}(o:OpR X f (rI Cc g))(hc:∀i j,c i j=true->Cc i j)(hg:∀F H i j,Rp X.K F H .fz (g' i j) (g i j)):OpD C X f (fI c g'):=by
 refine⟨_,o,λF H m x n y v u k d Q s rx ry e w=>?_⟩;unfold fI at e;split at e
 . rename_i i j;cases rx.int;cases ry.int;split at e
   . rename_i hcc;cases e;exact⟨i,j,rfl,rfl,hc i j hcc,w _ F H (.refl s) (hg F H i j) (by nofun)⟩
   . cases e
 . cases e
def iW{f:aSQ->aSQ->Sem aSQ}{g:Int->Int->V}{g':Int->Int->D}(o:OpR X f (rI0 g))(hg:∀F H i j,Rp X.K F H .fz (g' i j) (g i j)):OpD C X f (fI (λ_ _=>true) g'):=by
 refine⟨_,o,λF H m x n y v u k d Q s rx ry e w=>?_⟩;unfold fI at e;split at e
 . rename_i i j;cases rx.int;cases ry.int;rw[if_pos rfl]at e;cases e;exact⟨i,j,rfl,rfl,w _ F H (.refl s) (hg F H i j) (by nofun)⟩
 . cases e
def bits(i:Int):Bool:=decide (i.natAbs.log2<9000)
def aEZ:OpD C X (binaryOp .Add) (fI (λ_ _=>true) λi j=>.int (i+j)):=iW aC4 λ_ _ i j=>dC _
def aE0:OpD C X (binaryOp .Sub) (fI (λ_ _=>true) λi j=>.int (i-j)):=iW aC5 λ_ _ i j=>dC _
theorem aE1{i j:Int}(h:(bits i&&bits j)=true):IntMulOk i j:=by
 rw[aPY]at h;have b:∀{i:Int},bits i=true->Builtin.Int.intBits i<=2 ^ 20:=λ{i} h=>by
  unfold bits at h;have:=aQI h;unfold Builtin.Int.intBits;split
  . exact aQF _
  . have e:(2:Nat) ^ 20=1048576:=by decide
    lia
 exact IntMulOk.of_bits (b h.1) (b h.2)
def w64(i:Int):Bool:=decide (i.natAbs<2 ^ 63)
theorem wC{i:Int}(h:w64 i=true):Builtin.Int.intBits i<=64:=by
 have h:=aQI h;unfold Builtin.Int.intBits;split
 . exact aQF _
 . rename_i hz;have:i.natAbs.log2<63:=(Nat.log2_lt (by simpa using hz)).mpr h
   lia
def aE2:OpD C X (binaryOp .Mult) (fI (λi j=>(bits i&&bits j)||(w64 i||w64 j)) λi j=>.int (i * j)) :=
 mN (Cc:=λi j=>IntMulOk i j) (opI λ_ _ _ _ _ _ _ hc q=>mul_int q hc) (λi j h=>by
  rcases(aQJ _ _).mp h with h|h
  . exact aE1 h
  . rcases(aQJ _ _).mp h with h|h
    . exact IntMulOk.of_left (wC h)
    . exact IntMulOk.of_right (wC h)) λ_ _ i j=>dC _
def aE3:OpD C X (binaryOp .Mod) (fI (λ_ j=>decide (0<j)) λi j=>.int (i % j)):=mN aC6 (λi j h=>aQI h) λ_ _ i j=>dC _
theorem aE4:OpR X (binaryOp .FloorDiv) (rI (λ_ j=>0<j/\bits j=true) λi j=>.int (i / j)):=opI λi j _ _ _ _ _ hc q=>by
 obtain⟨h1,h2⟩:=hc;refine floordiv_int (by lia) ?_ (.inl (PyProof.noPylong_of_log2 (aQI h2)))
 rw[Int.fdiv_eq_ediv_of_nonneg i (by lia)]
 exact q
def aE5:OpD C X (binaryOp .FloorDiv) (fI (λ_ j=>decide (0<j)&&bits j) λi j=>.int (i / j)):=mN aE4 (λi j h=>by rw[aPY,aQH]at h;exact h) λ_ _ i j=>dC _
def aE6:OpD C X (binaryOp .Pow) (fI (λi j=>decide (0<=j)&&decide (j<=1000000)&&decide (i.natAbs<2 ^ 64)) λi j=>.int (i ^ j.toNat)) :=
 mN aC7 (λi j h=>by simp only[aPY,aQH]at h;exact⟨h.1.1,h.1.2,h.2⟩) λ_ _ i j=>dC _
def aE7:OpD C X (compareOp .Lt) (fI (λ_ _=>true) λi j=>.bl (decide (i<j))):=iW op_lt λ_ _ i j=>cJ _
def aE8:OpD C X (compareOp .LtE) (fI (λ_ _=>true) λi j=>.bl (decide (i<=j))):=iW op_le λ_ _ i j=>cJ _
def aE9:OpD C X (compareOp .Gt) (fI (λ_ _=>true) λi j=>.bl (decide (j<i))):=iW vC λ_ _ i j=>cJ _
def aFA:OpD C X (compareOp .GtE) (fI (λ_ _=>true) λi j=>.bl (decide (j<=i))):=iW op_ge λ_ _ i j=>cJ _
noncomputable def fS(c:Str->Str->Bool)(g:Str->Str->D):Md->D->Md->D->Option (Md×D):=λ_ x _ y=>match x,y with
 |.str i,.str j=>if c i j=true then some (.fz,g i j)else none
 |_,_=>none
def mO{y:Str}(hx:PyData.strOk x=true)(hy:PyData.strOk y=true):PyData.strOk (x++y)=true:=by unfold PyData.strOk at *;show(x.cps++y.cps).all _=true;rw[Array.all_append,hx,hy];rfl
def aFB:OpD C X (binaryOp .Add) (fS (λi j=>decide (i.length+j.length<=sizeLine)) λi j=>.str (i++j)):=by
 refine⟨_,aDH,λF H m x n y v u k d Q s rx ry e w=>?_⟩;unfold fS at e;split at e
 . rename_i i j;obtain⟨rfl,h1⟩:=rx.str;obtain⟨rfl,h2⟩:=ry.str;split at e
   . rename_i hc;cases e;have hc:=aQI hc;exact⟨i,j,rfl,rfl,hc,w _ F H (.refl s) (dU ⟨by rw[strLen_append];exact hc,mO h1.2 h2.2⟩) (by nofun)⟩
   . cases e
 . cases e
def cX(i j:Str):Bool:=!(Builtin.Str.occurrences j i 0 j.length 1).isEmpty
def aFC:OpD C X (compareOp .In) (fS (λ_ _=>true) λi j=>.bl (cX i j)):=by
 refine⟨_,aC9,λF H m x n y v u k d Q s rx ry e w=>?_⟩;unfold fS at e;split at e
 . rename_i i j;obtain⟨rfl,h1⟩:=rx.str;obtain⟨rfl,h2⟩:=ry.str;rw[if_pos rfl]at e;cases e;exact⟨i,j,rfl,rfl,w _ F H (.refl s) (cJ _) (by nofun)⟩
 . cases e
def aFD:OpD C X (compareOp .NotIn) (fS (λ_ _=>true) λi j=>.bl (!cX i j)):=by
 refine⟨_,aDC,λF H m x n y v u k d Q s rx ry e w=>?_⟩;unfold fS at e;split at e
 . rename_i i j;obtain⟨rfl,h1⟩:=rx.str;obtain⟨rfl,h2⟩:=ry.str;rw[if_pos rfl]at e;cases e;exact⟨i,j,rfl,rfl,w _ F H (.refl s) (cJ _) (by nofun)⟩
 . cases e
end
section
variable  {a b c:Expr}{gc:Rho->Res}{pos:Pos}
def bR:Res->Res
 |.ok .bo _=>.stuck
 |.ok _ d=>.ok .fz d
 |r=>r
def aG.freeze{F:Hp}{x:Addr}{o:HO}(st:aG F H F' H')(hx:H x=none)(hx':F' x=none)(ho:H' x=some o):aG F H (upd F' x o) H':=by
 refine⟨st.same,λb u q=>?_,λb u q=>?_,λy h1 h2=>?_⟩
 . rw[aP (bV (st.fsame b u q) hx')];exact st.fsame b u q
 . by_cases hb:b=x
   . subst hb;rw[bE]at q;rw[<- q];exact ho
   . rw[aP hb]at q;exact st.sub b u q
 . have:y≠x:=by rintro rfl;exact h2 (iV hx)
   rw[aP this];exact st.new y h1 h2
def Top.freeze{F:Hp}{x:Addr}{d:D}(hx:F x=none)(h:Top K F H x d):∃o,H x=some o/\aB K (upd F x o) d (.ref x):=by
 have s:∀o,aD F (upd F x o):=λo b u q=>by rw[aP (bV q hx)];exact q
 cases d with
 |lst ds=>obtain⟨xs,q,r⟩:=h;refine⟨_,q,?_⟩;simp only[aB];exact⟨x,xs,rfl,SqL.of bE,r.mono (s _) _ _⟩
 |dct ds=>obtain⟨xs,q,r⟩:=h;refine⟨_,q,?_⟩;simp only[aB];exact⟨x,xs,rfl,bE,r.mono (s _) _ _⟩
 |ins c fs=>obtain⟨C,dx,gs,n,q,r⟩:=h;refine⟨_,q,?_⟩;simp only[aB];exact⟨x,C,dx,gs,rfl,n,bE,r.mono (s _) _ _⟩
 |set ks=>obtain⟨S,q,r⟩:=h;refine⟨_,q,?_⟩;simp only[aB];exact⟨x,S,rfl,bE,r⟩
 |dtn ds=>obtain⟨xs,q,r⟩:=h;refine⟨_,q,?_⟩;simp only[aB];exact⟨x,xs,rfl,bE,r.mono (s _) _ _⟩
 |_=>exact h.elim
def aW.frz{F:Hp}{r:Res}{Q:VK}(w:aW C F H σ (bR r) Q):aW C F H σ r Q:=by
 cases r with
 |exc c=>exact w
 |stuck=>exact w
 |ok m d =>
  cases m with
  |fz=>exact w
  |bo=>exact(show False from w).elim
  |fr=>intro v F' H' st rp fr;obtain⟨x,rfl,n,t⟩:=rp;obtain⟨o,ho,r⟩:=t.freeze n;exact w (.ref x) (upd F' x o) H' (st.freeze (fr rfl x rfl) n ho) r (by nofun)
def kI(h:PV C X e g):PV C X e (λρ=>bR (g ρ)):=PE.imp h λσ H Q q=>by
 rw[aZ]at q ⊢;obtain⟨ρ,F,R,w⟩:=q
 try dsimp only at w
 exact⟨ρ,F,R,w.frz⟩
def gQ(C:Cw)(F H:Hp)(σ:L2.St)(r:Res)(Q:Bool->Hp->Prop):Prop:=match r with
 |.ok _ (.bl b)=>∀F' H',aG F H F' H'->Q b H'
 |.exc c=>∀F' H',aG F H F' H'->C.EE c σ H'
 |_=>False
def gQ.step{F H1:Hp}{r:Res}{Q:Bool->Hp->Prop}(st:aG F H F1 H1)(h:gQ C F H σ r Q):gQ C F1 H1 σ r Q:=by
 cases r with
 |ok m d =>
  cases d with
  |bl b=>exact λF' H' s2=>h F' H' (st.trans s2)
  |_=>exact h
 |exc c=>exact λF' H' s2=>h F' H' (st.trans s2)
 |stuck=>exact h
def tT(C:Cw)(g:Rho->Res):TT:=λσ H Q=>∃ρ F,aR C.K C.F0 C.H0 F H σ ρ/\gQ C F H σ (g ρ) Q
def PTv(C:Cw)(X:Cx)(e:Expr)(g:Rho->Res):Prop:=PT X e (tT (C.at X) g)
def PWv(C:Cw)(X:Cx)(e:Expr)(g:Rho->Res):Prop:=PW X e (tT (C.at X) g)
def PT.imp{t t':TT}(h:PT X e t)(i:∀σ H Q,t' σ H Q->t σ H Q):PT X e t':=λaA s σ H Q I q=>h aA s σ H Q I (i σ H Q q)
def PW.imp{t t':TT}(h:PW X e t)(i:∀σ H Q,t' σ H Q->t σ H Q):PW X e t':=λwhole aA s σ H Q I q=>h whole aA s σ H Q I (i σ H Q q)
def mP:D->Option Bool
 |.non=>some false
 |.bl b=>some b
 |.int i=>some (i != 0)
 |.str x=>some ((x.length:Int) != 0)
 |.tup ds=>some (!ds.isEmpty)
 |.lst ds=>some (!ds.isEmpty)
 |.dct ds=>some (!ds.isEmpty)
 |_=>none
def kJ(r:Res):Res:=r.thn λ_ d=>match mP d with|some b=>.ok .fz (.bl b)|none=>.stuck
theorem aC.isEmpty{F:Hp}(h:aC K F ds xs):ds.isEmpty=xs.isEmpty:=by
 cases ds with
 |nil=>simp only[aC]at h;subst h;rfl
 |cons d ds=>simp only[aC]at h;obtain⟨y,ys,rfl,_⟩:=h;rfl
theorem aI.isEmpty{F:Hp}{ds:List (Key×D)}{xs:List (Key×V)}(h:aI K F ds xs):ds.isEmpty=xs.isEmpty:=by
 cases ds with
 |nil=>simp only[aI]at h;subst h;rfl
 |cons d ds=>obtain⟨k,d⟩:=d;simp only[aI]at h;obtain⟨y,ys,rfl,_⟩:=h;rfl
def aFE{F:Hp}{d:D}{k:Bool}(s:aD F H)(h:Rp K F H m d v)(e:mP d=some k):pB K v H k:=by
 cases d with
 |non=>cases h.non;cases e;rfl
 |bl b=>cases h.bl;cases e;rfl
 |int i=>cases h.int;cases e;rfl
 |str x=>obtain⟨rfl,hl,_⟩:=h.str;cases e;exact⟨hl,rfl⟩
 |tup ds=>obtain⟨a,xs,rfl,q,r⟩:=h.seqT s;cases e;exact .inr (.inl ⟨xs,q,by rw[r.isEmpty]⟩)
 |lst ds=>obtain⟨a,xs,rfl,q,r⟩:=h.seqL s;cases e;exact .inl ⟨xs,q,by rw[r.isEmpty]⟩
 |dct ds=>obtain⟨a,xs,rfl,q,r⟩:=h.dict s;cases e;exact .inr (.inr ⟨xs,q,by rw[r.isEmpty]⟩)
 |ty n=>cases e
 |ob n=>cases e
 |ins n=>cases e
 |fn n=>cases e
 |exn n=>cases e
 |set n=>cases e
 |dtn n=>cases e
 |dtf n=>cases e
 |dcf n=>cases e
 |clo _ _=>cases e
def aFF(h:PV C X e g)(he:∀whole,isTrue e X.env whole=(do let v <- whole;standAt e.pos;holding [v] (truthy v)):=by intro _;rfl):PTv C X e (λρ=>kJ (g ρ)):=by
 refine PT.imp (aDG h he) λσ H Q q=>?_;obtain⟨ρ,F,R,w⟩:=q
 try dsimp only at w
 rw[aZ];refine⟨ρ,F,R,?_⟩;cases er:g ρ with
 |stuck=>rw[er]at w;exact w
 |exc c=>rw[er]at w;exact w
 |ok m d =>
  rw[er]at w;intro v F' H' st rp _;have w:gQ (C.at X) F H σ (match mP d with|some b=>.ok .fz (.bl b)|none=>.stuck) Q:=w
  cases ed:mP d with
  |none=>rw[ed]at w;exact w.elim
  |some k=>rw[ed]at w;exact⟨k,aFE st.sub rp ed,w F' H' st⟩
def aFG{op:CmpOp}{φ}(o:OpD C X (compareOp op) φ)(hb':∀m x n y k d,φ m x n y=some (k,d)->∃t,k=.fz/\d=.bl t)(ha:PV C X a ga)(hb:PV C X b gb)(hm:behindInMarks op b=false):PTv C X (.Compare a [op] [b] pos) (λρ=>op2 φ (ga ρ) (gb ρ)):=by
 obtain⟨r,h1,h2⟩:=o;refine PT.imp (iP h1 ha hb hm) λσ H Q q=>?_;obtain⟨ρ,F,R,w⟩:=q
 try dsimp only at w
 unfold vD;refine kH h2 ?_;rw[aZ];refine⟨ρ,F,R,?_⟩;cases er:op2 φ (ga ρ) (gb ρ)with
 |stuck=>rw[er]at w;exact w
 |exc c=>rw[er]at w;exact w
 |ok m d =>
  rw[er]at w;have:∃t,m=.fz/\d=.bl t:=by
   unfold op2 at er;cases e1:ga ρ with
   |stuck=>rw[e1]at er;cases er
   |exc c=>rw[e1]at er;cases er
   |ok m1 d1 =>
    cases e2:gb ρ with
    |stuck=>rw[e1,e2]at er;cases er
    |exc c=>rw[e1,e2]at er;cases er
    |ok m2 d2 =>
     rw[e1,e2]at er;have er:Res.of (φ m1 d1 m2 d2)=.ok m d:=er;cases e3:φ m1 d1 m2 d2 with
     |none=>rw[e3]at er;cases er
     |some kd=>rw[e3]at er;obtain⟨k,d'⟩:=kd;cases er;exact hb' _ _ _ _ _ _ e3
  obtain⟨t,rfl,rfl⟩:=this;intro v F' H' st rp _;cases rp.bl;exact⟨t,rfl,w F' H' st⟩
def dL(x:Res)(y:Res):Res:=x.thn λ_ d=>match d with|.bl true=>y|.bl false=>.ok .fz (.bl false)|_=>.stuck
def orR(x:Res)(y:Res):Res:=x.thn λ_ d=>match d with|.bl true=>.ok .fz (.bl true)|.bl false=>y|_=>.stuck
def iX(x:Res):Res:=x.thn λ_ d=>match d with|.bl b=>.ok .fz (.bl (!b))|_=>.stuck
def aFH(ha:PTv C X a ga):PTv C X (.UnaryOp .Not a pos) (λρ=>iX (ga ρ)):=by
 refine PT.imp (aCL ha) λσ H Q q=>?_;obtain⟨ρ,F,R,w⟩:=q
 try dsimp only at w
 refine⟨ρ,F,R,?_⟩;cases er:ga ρ with
 |stuck=>rw[er]at w;exact w
 |exc c=>rw[er]at w;exact w
 |ok m d =>
  rw[er]at w;cases d with
  |bl b=>exact w
  |_=>exact w
def wD{op:BoolOp}(h:PTv C X a ga):PWv C X (.BoolOp op [a] pos) ga:=by
 cases op with
 |And=>exact aCJ h
 |Or=>exact uQ h
def wE{Q:Bool->Hp->Prop}(q:tT C (λρ=>dL (ga ρ) (gb ρ)) σ H Q):oU (tT C ga) (tT C gb) σ H Q:=by
 obtain⟨ρ,F,R,w⟩:=q
 try dsimp only at w
 refine⟨ρ,F,R,?_⟩;cases er:ga ρ with
 |stuck=>rw[er]at w;exact w
 |exc c=>rw[er]at w;exact w
 |ok m d =>
  rw[er]at w;cases d with
  |bl b =>
   intro F' H' st;cases b with
   |true=>rw[if_pos rfl];exact⟨ρ,F',R.step st,gQ.step st w⟩
   |false=>rw[if_neg aOU];exact w F' H' st
  |_=>exact w
def tT_or{Q:Bool->Hp->Prop}(q:tT C (λρ=>orR (ga ρ) (gb ρ)) σ H Q):tOr (tT C ga) (tT C gb) σ H Q:=by
 obtain⟨ρ,F,R,w⟩:=q
 try dsimp only at w
 refine⟨ρ,F,R,?_⟩;cases er:ga ρ with
 |stuck=>rw[er]at w;exact w
 |exc c=>rw[er]at w;exact w
 |ok m d =>
  rw[er]at w;cases d with
  |bl b =>
   intro F' H' st;cases b with
   |true=>rw[if_pos rfl];exact w F' H' st
   |false=>rw[if_neg aOU];exact⟨ρ,F',R.step st,gQ.step st w⟩
  |_=>exact w
def aFI{rest:List Expr}(ha:PTv C X a ga)(hb:PWv C X (.BoolOp .And (b::rest) pos) gb):PWv C X (.BoolOp .And (a::b::rest) pos) (λρ=>dL (ga ρ) (gb ρ)):=PW.imp (aCK ha hb) λ_ _ _ q=>wE q
def aFJ{rest:List Expr}(ha:PTv C X a ga)(hb:PWv C X (.BoolOp .Or (b::rest) pos) gb):PWv C X (.BoolOp .Or (a::b::rest) pos) (λρ=>orR (ga ρ) (gb ρ)):=PW.imp (uR ha hb) λ_ _ _ q=>tT_or q
def pt_w(h:PWv C X e g):PTv C X e g:=PW.pt h
def wF{op}(h:PV C X a ga):PV C X (.BoolOp op [a] pos) ga:=aCM h
def aFK{rest:List Expr}(ha:PV C X a ga)(hb:PV C X (.BoolOp .And (b::rest) pos) gb):PV C X (.BoolOp .And (a::b::rest) pos) (λρ=>dL (ga ρ) (gb ρ)):=by
 refine PE.imp (aCN ha hb) λσ H Q q=>?_;unfold uS;rw[aZ]at q ⊢;obtain⟨ρ,F,R,w⟩:=q
 try dsimp only at w
 refine⟨ρ,F,R,?_⟩;cases er:ga ρ with
 |stuck=>rw[er]at w;exact w
 |exc c=>rw[er]at w;exact w
 |ok m d =>
  rw[er]at w;cases d with
  |bl k =>
   intro v F' H' st rp _;cases rp.bl;refine⟨k,rfl,?_⟩;cases k with
   |true=>rw[if_pos rfl,aZ];exact⟨ρ,F',R.step st,aW.step st w⟩
   |false=>rw[if_neg aOU];exact w (.bl false) F' H' st (cJ _) (by nofun)
  |_=>exact w.elim
def aFL{rest:List Expr}(ha:PV C X a ga)(hb:PV C X (.BoolOp .Or (b::rest) pos) gb):PV C X (.BoolOp .Or (a::b::rest) pos) (λρ=>orR (ga ρ) (gb ρ)):=by
 refine PE.imp (pe_or ha hb) λσ H Q q=>?_;unfold tOrV;rw[aZ]at q ⊢;obtain⟨ρ,F,R,w⟩:=q
 try dsimp only at w
 refine⟨ρ,F,R,?_⟩;cases er:ga ρ with
 |stuck=>rw[er]at w;exact w
 |exc c=>rw[er]at w;exact w
 |ok m d =>
  rw[er]at w;cases d with
  |bl k =>
   intro v F' H' st rp _;cases rp.bl;refine⟨k,rfl,?_⟩;cases k with
   |true=>rw[if_pos rfl];exact w (.bl true) F' H' st (cJ _) (by nofun)
   |false=>rw[if_neg aOU,aZ];exact⟨ρ,F',R.step st,aW.step st w⟩
  |_=>exact w.elim
def aFM(ha:PV C X a ga):PV C X (.UnaryOp .Not a pos) (λρ=>iX (ga ρ)):=by
 refine PE.imp (aCO ha) λσ H Q q=>?_;unfold uT;rw[aZ]at q ⊢;obtain⟨ρ,F,R,w⟩:=q
 try dsimp only at w
 refine⟨ρ,F,R,?_⟩;cases er:ga ρ with
 |stuck=>rw[er]at w;exact w
 |exc c=>rw[er]at w;exact w
 |ok m d =>
  rw[er]at w;cases d with
  |bl k=>intro v F' H' st rp _;cases rp.bl;exact⟨k,rfl,w _ F' H' st (cJ _) (by nofun)⟩
  |_=>exact w.elim
def ixD:Md->D->Md->D->Option (Md×D):=λ_ x _ y=>match x,y with
 |.lst ds,.int i=>(atI ds i).map λd=>(.fz,d)
 |.tup ds,.int i=>(atI ds i).map λd=>(.fz,d)
 |.str z,.int i=>(atI z.cps.toList i).map λc=>(.fz,.str ⟨#[c]⟩)
 |_,_=>none
theorem aC.atI{F:Hp}{i:Int}{d:D}(h:aC K F ds xs)(e:atI ds i=some d):∃x,L2.atI xs i=some x/\aB K F d x:=by
 unfold L2.atI at *;rw[h.length];cases q:ixN ds.length i with
 |none=>rw[q]at e;cases e
 |some j=>rw[q]at e;exact h.get' e
def aFN{F:Hp}{n k:Md}{x y d:D}{u:V}{Q:VK}(s:aD F H)(rx:Rp X.K F H m x v)(ry:Rp X.K F H n y u)(e:ixD m x n y=some (k,d))(w:∀v' F' H',aG F H F' H'->Rp X.K F' H' k d v'->(k=.fr->∀a,v'=.ref a->H a=none)->Q v' H'):rIx X.K v u H Q:=by
 unfold ixD at e;split at e
 . rename_i ds i;cases ry.int;obtain⟨p,xs,rfl,hq,r⟩:=rx.seqL s;cases ei:atI ds i with
   |none=>rw[ei]at e;cases e
   |some d'=>rw[ei]at e;cases e;obtain⟨x',ex,rx'⟩:=r.atI ei;exact .inl ⟨p,xs,i,x',rfl,rfl,hq,ex,w x' F H (.refl s) rx' (by nofun)⟩
 . rename_i ds i;cases ry.int;obtain⟨p,xs,rfl,hq,r⟩:=rx.seqT s;cases ei:atI ds i with
   |none=>rw[ei]at e;cases e
   |some d'=>rw[ei]at e;cases e;obtain⟨x',ex,rx'⟩:=r.atI ei;exact .inr (.inl ⟨p,xs,i,x',rfl,rfl,hq,ex,w x' F H (.refl s) rx' (by nofun)⟩)
 . rename_i z i;cases ry.int;obtain⟨rfl,hl,hk⟩:=rx.str;cases ei:atI z.cps.toList i with
   |none=>rw[ei]at e;cases e
   |some c =>
    rw[ei]at e;cases e;refine .inr (.inr ⟨z,i,c,rfl,rfl,hl,ei,w _ F H (.refl s) (dU ⟨?_,?_⟩) (by nofun)⟩)
    . show 1<=sizeLine;decide
    . obtain⟨j,_,hj,_⟩:=mD ei;unfold PyData.strOk at hk ⊢;rw[aQK]at hk;have hc:=hk c (by rw[<- aQL];exact aPG hj)
      simpa using hc
 . cases e
def pv_ix(ha:PV C X a ga)(hb:PV C X b gb)(hs:mH b:=by intro _ _;rfl):PV C X (.Subscript a b pos) (λρ=>op2 ixD (ga ρ) (gb ρ)):=by exact PE.imp (iT aD1 ha hb hs) λσ H Q q=>kH (λF H m x n y v u k d Q s rx ry e w=>aFN s rx ry e w) q
def aFO:SlR X (λx lo hi H Q=>∃z,x=.str z/\z.length<=sizeLine/\Q (.str (Txt.slice z lo hi)) H):=by
 intro aA s σ H x v vl vu lo hi sl Q I rx hs pl pu h;obtain⟨z,rfl,hz,q⟩:=h;obtain⟨t,rfl⟩:=rx;refine⟨"str", _,PySem.F.slot_str_getitem.lookup,aP0 _ _ _,?_⟩;have fin:∀t' k,EP X aA σ Q (.str (Txt.slice z lo hi) t') {s with toks:=k}:=λt' k=>⟨.str (Txt.slice z lo hi),H,I.tok _,⟨_,rfl⟩,q⟩
 cases pl with
 |none =>
  cases pu with
  |none=>exact aQM (l:=none) (u:=none) (st:=none) hs rfl (aQN ⟨aOE (aQO z _ _) hz,λt' k=>fin t' k⟩)
  |int j tj=>exact aQM (l:=none) (u:=some (j,tj)) (st:=none) hs rfl (aQN ⟨aOE (aQO z _ _) hz,λt' k=>fin t' k⟩)
 |int i ti =>
  cases pu with
  |none=>exact aQM (l:=some (i,ti)) (u:=none) (st:=none) hs rfl (aQN ⟨aOE (aQO z _ _) hz,λt' k=>fin t' k⟩)
  |int j tj=>exact aQM (l:=some (i,ti)) (u:=some (j,tj)) (st:=none) hs rfl (aQN ⟨aOE (aQO z _ _) hz,λt' k=>fin t' k⟩)
def aFP(h:PyData.strOk z=true):PyData.strOk (Txt.slice z lo hi)=true:=by
 unfold Txt.slice;split
 . exact h
 . unfold PyData.strOk at *;rw[aQK]at h ⊢;intro c hc;rw[<- aQL,List.toList_toArray,aO0]at hc;obtain⟨j,_,hj⟩:=hc;exact h c (Array.mem_of_getElem? hj)
def POv(C:Cw)(X:Cx):Option Expr->Option (Rho->Res)->Prop
 |none,none=>True
 |some e,some g=>PV C X e g
 |_,_=>False
def wG(C:Cw):Option (Rho->Res)->TO
 |none=>vR
 |some g=>mC (tG C g)
def wH{e:Option Expr}{g:Option (Rho->Res)}(h:POv C X e g):PO X e (wG (C.at X) g):=by
 cases e with
 |none=>cases g with
  |none=>exact aDU
  |some g=>exact h.elim
 |some e=>cases g with
  |none=>exact h.elim
  |some g=>exact aDV h
def cP(g:Option (Rho->Res))(ρ:Rho)(k:Option Int->Res):Res:=match g with
 |none=>k none
 |some g=>(g ρ).thn λ_ d=>match d with|.int i=>k (some i)|_=>.stuck
def iY{F:Hp}{g:Option (Rho->Res)}{k:Option Int->Res}{Q:VK}{R:Option Int->Hp->Prop}(RS:aR C.K C.F0 C.H0 F H σ ρ)(w:aW C F H σ (cP g ρ k) Q)(h:∀i F' H',aG F H F' H'->aR C.K C.F0 C.H0 F' H' σ ρ->aW C F' H' σ (k i) Q->R i H'):wG C g σ H R:=by
 cases g with
 |none=>exact h none F H (.refl RS.sub) RS w
 |some g =>
  show mC (tG C g) σ H R;unfold mC;rw[aZ];refine⟨ρ,F,RS,?_⟩;have w:aW C F H σ ((g ρ).thn λ_ d=>match d with|.int i=>k (some i)|_=>.stuck) Q:=w
  cases er:g ρ with
  |stuck=>rw[er]at w;exact w
  |exc c=>rw[er]at w;exact w
  |ok m d =>
   rw[er]at w;intro v F' H' st rp _;cases d with
   |int i=>cases rp.int;exact⟨i,rfl,h (some i) F' H' st (RS.step st) (aW.step st w)⟩
   |_=>exact(show False from w).elim
def gR:Md->D->Md->D->Option (Md×D):=λ_ x _ y=>match x,y with
 |.str z,.int n=>if(decide (1<=n)&&decide (n<=1000000)&&decide (z.length * n.toNat<=sizeLine))=true then some (.fz,.str (Txt.mul z n))else none
 |_,_=>none
theorem wI{α:Type}(xs:Array α):∀(k:Nat) (acc:Array α),((List.replicate k xs).foldl (· ++ ·) acc).size=acc.size+k * xs.size
 |0,acc=>by simp
 |k+1,acc=>by rw[aQP,aQQ,wI xs k,Array.size_append,Nat.succ_mul];lia
theorem wJ{α:Type}(p:α->Bool)(xs:Array α)(h:xs.all p=true):∀(k:Nat) (acc:Array α),acc.all p=true->((List.replicate k xs).foldl (· ++ ·) acc).all p=true
 |0,acc,q=>q
 |k+1,acc,q=>by rw[aQP,aQQ];exact wJ p xs h k _ (by rw[Array.all_append,q,h];rfl)
theorem aFQ(z:Str){n:Int}(h:1<=n):(Txt.mul z n).length=z.length * n.toNat:=by
 unfold Txt.mul;rw[if_neg (by lia)]
 split
 . rename_i hc;rcases(aQJ _ _).mp hc with hc|hc
   . have:n=1:=by simpa using hc
     subst this;simp
   . have:z.length=0:=by simpa using hc
     rw[this];simp
 . show Array.size (List.foldl (· ++ ·) #[] (List.replicate n.toNat z.cps))=_;rw[wI,Nat.mul_comm];simp[Str.length]
def aFR{n:Int}(h:PyData.strOk z=true):PyData.strOk (Txt.mul z n)=true:=by
 unfold Txt.mul;split
 . decide +kernel
 . split
   . exact h
   . unfold PyData.strOk at *;exact wJ _ _ h _ _ (by simp)
theorem aFS:OpD C X (binaryOp .Mult) gR:=by
 refine⟨λx y H Q=>∃z n,x=.str z/\y=.int n/\MulOk z n/\Q (.str (Txt.mul z n)) H,?_,?_⟩
 . intro aA s σ H x y v u Q I rx ry h;obtain⟨z,n,rfl,rfl,hm,q⟩:=h;obtain⟨t,rfl⟩:=rx;obtain⟨t',rfl⟩:=ry;exact SB.mul hm λt' k=>⟨.str (Txt.mul z n),H,I.tok _,⟨_,rfl⟩,q⟩
 . intro F H m x n y v u k d Q s rx ry e w;unfold gR at e;split at e
   . rename_i z i;obtain⟨rfl,hz,hk⟩:=rx.str;cases ry.int;split at e
     . rename_i hc;simp only[aPY,aQH]at hc;obtain⟨⟨h1,h2⟩,h3⟩:=hc;cases e;refine⟨z,i,rfl,rfl,⟨?_,λ_ _=>?_,λ_ _=>?_⟩,w _ F H (.refl s) (dU ⟨by rw[aFQ z h1];exact h3,aFR hk⟩) (by nofun)⟩
       . rw[aQR];exact⟨aN2 (by lia),aN2 (by lia)⟩
       . have hs:sizeLine=16777216:=aO3;have:(2 ^ 63-1:Int) / i ≥ (2 ^ 63-1) / 1000000:=by
           apply Int.le_ediv_of_mul_le (by lia)
           have e1:(2 ^ 63-1:Int) / 1000000=9223372036854:=by decide
           rw[e1];have:(9223372036854:Int) * i<=9223372036854 * 1000000:=Int.mul_le_mul_of_nonneg_left h2 (by decide)
           have e2:(9223372036854:Int) * 1000000<=2 ^ 63-1:=by decide
           lia
         have e1:(2 ^ 63-1:Int) / 1000000=9223372036854:=by decide
         lia
       . unfold Builtin.Str.tooLong;exact aN2 (by lia)
     . cases e
   . cases e
end
inductive bA where
 |ok (xs:List (Md×D))|exc (c:Str)|stuck
def RpL(K:Fg)(F H:Hp):List (Md×D)->List V->Prop
 |[],vs=>vs=[]
 |(m,d)::r,vs=>∃v us,vs=v::us/\Rp K F H m d v/\RpL K F H r us
def bA.thn(r:bA)(k:List (Md×D)->Res):Res:=match r with
 |.ok xs=>k xs
 |.exc c=>.exc c
 |.stuck=>.stuck
@[simp] theorem bA.thn_ok(xs:List (Md×D))(k:List (Md×D)->Res):(bA.ok xs).thn k=k xs:=rfl
end D3
variable {gs:D3.Rho->D3.bA}
namespace D3
@[simp] theorem bA.thn_exc(c:Str)(k:List (Md×D)->Res):(bA.exc c).thn k=.exc c:=rfl
@[simp] theorem bA.thn_stuck(k:List (Md×D)->Res):bA.stuck.thn k=.stuck:=rfl
def kK(C:Cw)(F H:Hp)(σ:L2.St)(r:bA)(Q:List V->Hp->Prop):Prop:=match r with
 |.ok xs=>∀vs F' H',aG F H F' H'->RpL C.K F' H' xs vs->Q vs H'
 |.exc c=>∀F' H',aG F H F' H'->C.EE c σ H'
 |.stuck=>False
def kK.step{F H1:Hp}{r:bA}{Q:List V->Hp->Prop}(st:aG F H F1 H1)(h:kK C F H σ r Q):kK C F1 H1 σ r Q:=by
 cases r with
 |ok m=>exact λv F' H' s2 rp=>h v F' H' (st.trans s2) rp
 |exc c=>exact λF' H' s2=>h F' H' (st.trans s2)
 |stuck=>exact h
def tAv(C:Cw)(g:Rho->bA):TA:=λσ H Q=>∃ρ F,aR C.K C.F0 C.H0 F H σ ρ/\kK C F H σ (g ρ) Q
def PAv(C:Cw)(X:Cx)(es:List Expr)(g:Rho->bA):Prop:=PA X es (tAv (C.at X) g)
def PA.imp{e:List Expr}{t t':TA}(h:PA X e t)(i:∀σ H Q,t' σ H Q->t σ H Q):PA X e t':=λp aA s σ H Q I q=>h p aA s σ H Q I (i σ H Q q)
def aL(x:Res)(y:bA):bA:=match x with
 |.ok m d=>(match y with|.ok r=>.ok ((m,d)::r)|.exc c=>.exc c|.stuck=>.stuck)
 |.exc c=>.exc c
 |.stuck=>.stuck
@[simp] theorem pN(m:Md)(d:D)(r:List (Md×D)):aL (.ok m d) (.ok r)=.ok ((m,d)::r):=rfl
section
variable  {a b c:Expr}{es:List Expr}{gc:Rho->Res}{pos:Pos}
def pO:PAv C X [] (λ_=>.ok []):=PA.imp eR λσ H Q q=>by obtain⟨ρ,F,R,w⟩:=q;exact w [] F H (.refl R.sub) rfl
def mQ(ha:PV C X e g)(hr:PAv C X es gs)(hs:starEach (e::es) X.env=(false,eval e X.env)::starEach es X.env:=by rfl):PAv C X (e::es) (λρ=>aL (g ρ) (gs ρ)):=by
 refine PA.imp (fP ha hr hs) λσ H Q q=>?_;unfold vG;obtain⟨ρ,F,R,w⟩:=q;dsimp only at w;rw[aZ];refine⟨ρ,F,R,?_⟩;cases er:g ρ with
 |stuck=>rw[er]at w;exact w
 |exc c=>rw[er]at w;exact w
 |ok m d =>
  rw[er]at w;intro v F1 H1 s1 r1 _;refine⟨ρ,F1,R.step s1,?_⟩;have w1:=kK.step s1 w;cases es':gs ρ with
  |stuck=>rw[es']at w1;exact w1
  |exc c=>rw[es']at w1;exact w1
  |ok r=>rw[es']at w1;intro vs F2 H2 s2 r2;exact w1 (v::vs) F2 H2 s2 ⟨v,vs,rfl,r1.step s2,r2⟩
def cK:List (Md×D)->Option (List D)
 |[]=>some []
 |(.fz,d)::r=>(cK r).map (d :: ·)
 |_::_=>none
theorem RpL.fz{K:Fg}{F H:Hp}:∀{xs:List (Md×D)}{vs:List V}{ds:List D},RpL K F H xs vs->cK xs=some ds->aC K F ds vs
 |[],_,_,h,e=>by cases e;rw[show _=[]from h];exact aC.nil
 |(.fz,d)::r,_,_,h,e=>by
  obtain⟨v,us,rfl,r1,r2⟩:=h;unfold cK at e;cases q:cK r with
  |none=>rw[q]at e;cases e
  |some ds'=>rw[q]at e;cases e;exact aC.cons r1 (RpL.fz r2 q)
 |(.fr,d)::r,_,_,h,e=>by cases e
 |(.bo,d)::r,_,_,h,e=>by cases e
def dD(r:bA):Res:=r.thn λxs=>match cK xs with|some ds=>if ds.length<=sizeLine then .ok .fz (.tup ds)else .stuck|none=>.stuck
def gS(r:bA):Res:=r.thn λxs=>match cK xs with|some ds=>if ds.length<=sizeLine then .ok .fr (.lst ds)else .stuck|none=>.stuck
def aB.tup_of{F:Hp}{p:Addr}(hp:F p=none)(r:aC K F ds xs):aB K (upd F p (.tup xs)) (.tup ds) (.ref p):=by simp only[aB];exact⟨p,xs,rfl,SqT.of bE,r.mono (λb u q=>by rw[aP (bV q hp)];exact q) _ _⟩
def aFT{x1}(h:PAv C X es gs):PV C X (.Tuple es x1 pos) (λρ=>dD (gs ρ)):=by
 refine PE.imp (aDM h) λσ H Q q=>?_;unfold tTup;rw[aZ]at q;obtain⟨ρ,F,R,w⟩:=q;refine⟨ρ,F,R,?_⟩;cases er:gs ρ with
 |stuck=>rw[er]at w;exact w
 |exc c=>rw[er]at w;exact w
 |ok xs =>
  rw[er]at w;intro vs F1 H1 s1 r1;have w1:aW (C.at X) F1 H1 σ (match cK xs with|some ds=>if ds.length<=sizeLine then .ok .fz (.tup ds)else .stuck|none=>.stuck) Q:=aW.step s1 w
  cases ef:cK xs with
  |none=>rw[ef]at w1;exact w1.elim
  |some ds =>
   rw[ef]at w1;dsimp only at w1;split at w1
   . rename_i hl;have r2:=r1.fz ef;refine⟨by rw[r2.length];exact hl,λp hp=>?_⟩
     exact w1 (.ref p) _ _ (aG.laid (.tup vs) s1.sub hp) (aB.tup_of (s1.sub.free hp) r2) (by nofun)
   . exact w1.elim
def aFU(h:PAv C X es gs):PV C X (.List es pos) (λρ=>gS (gs ρ)):=by
 refine PE.imp (l8 h) λσ H Q q=>?_;unfold tLst;rw[aZ]at q;obtain⟨ρ,F,R,w⟩:=q;refine⟨ρ,F,R,?_⟩;cases er:gs ρ with
 |stuck=>rw[er]at w;exact w
 |exc c=>rw[er]at w;exact w
 |ok xs =>
  rw[er]at w;intro vs F1 H1 s1 r1;have w1:aW (C.at X) F1 H1 σ (match cK xs with|some ds=>if ds.length<=sizeLine then .ok .fr (.lst ds)else .stuck|none=>.stuck) Q:=aW.step s1 w
  cases ef:cK xs with
  |none=>rw[ef]at w1;exact w1.elim
  |some ds =>
   rw[ef]at w1;dsimp only at w1;split at w1
   . rename_i hl;have r2:=r1.fz ef;refine⟨by rw[r2.length];exact hl,λp hp=>?_⟩
     refine w1 (.ref p) F1 _ (aG.fresh (.lst vs) s1.sub hp) ⟨p,rfl,s1.sub.free hp,vs,bE,r2⟩ λ_ a ea=>by cases ea;exact hp
   . exact w1.elim
def iZ:D->Option Key
 |.int i=>some (.inl i)
 |.str x=>some (.inr x)
 |_=>none
def pP{F:Hp}{d:D}{k:Key}(e:iZ d=some k)(r:Rp K F H m d v):v=kV k:=by
 cases d with
 |int i=>cases e;exact r.int
 |str x=>cases e;exact r.str.1
 |_=>cases e
def dM(X:Cx)(f:aSQ)(φ:List (Md×D)->Option (Md×D)):Prop :=
 ∃r:List V->Hp->VK->Prop,eQ X f r/\∀F H xs vs k d Q,aD F H->RpL X.K F H xs vs->φ xs=some (k,d) ->
  (∀v' F' H',aG F H F' H'->Rp X.K F' H' k d v'->(k=.fr->∀a,v'=.ref a->H a=none)->Q v' H')->r vs H Q
def cY(φ:List (Md×D)->Option (Md×D))(r:bA):Res:=r.thn λxs=>Res.of (φ xs)
def wK{φ:List (Md×D)->Option (Md×D)}{r:List V->Hp->VK->Prop}(h:∀F H xs vs k d Q,aD F H->RpL C.K F H xs vs->φ xs=some (k,d)->(∀v' F' H',aG F H F' H'->Rp C.K F' H' k d v'->(k=.fr->∀a,v'=.ref a->H a=none)->Q v' H')->r vs H Q){Q:VK}(q:tG C (λρ=>cY φ (gs ρ)) σ H Q):tCB r (tAv C gs) σ H Q:=by
 unfold tCB;rw[aZ]at q;obtain⟨ρ,F,R,w⟩:=q;refine⟨ρ,F,R,?_⟩;cases er:gs ρ with
 |stuck=>rw[er]at w;exact w
 |exc c=>rw[er]at w;exact w
 |ok xs =>
  rw[er]at w;intro vs F1 H1 s1 r1;have w1:aW C F1 H1 σ (Res.of (φ xs)) Q:=aW.step s1 w;cases ef:φ xs with
  |none=>rw[ef]at w1;exact w1.elim
  |some kd=>obtain⟨k,d⟩:=kd;rw[ef]at w1;exact h F1 H1 xs vs k d Q s1.sub r1 ef w1
def aFV{id:String}{φ}(o:dM X (.builtin id) φ)(hg:Gl X x)(hm:X.mg x=none)(hv:bootBuiltins x=some (.builtin id))(ha:PAv C X (e::es) gs)(hn:x ≠ "__name__" := by decide)(hdb:(x==("__debug__":Str))=false:=by decide)(he:starEach (e::es) X.env=(false,eval e X.env)::starEach es X.env:=by rfl)(hpl:(backTo pos (starEach es X.env)).any (·.1)=false:=by rfl):PV C X (.Call (.Name x p) (e::es) [] pos) (λρ=>cY φ (gs ρ)):=by obtain⟨r,h1,h2⟩:=o;exact PE.imp (j9 h1 hg hm hv ha hn hdb he hpl) λσ H Q q=>wK h2 q
def cL:List (Md×D)->Option (Md×D)
 |[(_,.str z)]=>some (.fz,.int z.length)
 |[(_,.lst ds)]=>some (.fz,.int ds.length)
 |[(_,.tup ds)]=>some (.fz,.int ds.length)
 |_=>none
def RpL.one{F:Hp}{d:D}{vs:List V}(h:RpL K F H [(m,d)] vs):∃v,vs=[v]/\Rp K F H m d v:=by obtain⟨v,us,rfl,r,e⟩:=h;exact⟨v,by rw[show us=[]from e],r⟩
def RpL.two{F:Hp}{n:Md}{d e:D}{vs:List V}(h:RpL K F H [(m,d),(n,e)] vs):∃v u,vs=[v,u]/\Rp K F H m d v/\Rp K F H n e u:=by obtain⟨v,us,rfl,r,v',us',rfl,r',e⟩:=h;exact⟨v,v',by rw[show us'=[]from e],r,r'⟩
def aFW:dM X (.builtin "len") cL:=by
 refine⟨_,aDL,λF H xs vs k d Q s rx e w=>?_⟩;unfold cL at e;split at e
 . rename_i m z;cases e;obtain⟨v,rfl,r⟩:=rx.one;obtain⟨rfl,hz,_⟩:=r.str;exact⟨_,z.length,rfl,⟨hz,rfl⟩,w _ F H (.refl s) (dC _) (by nofun)⟩
 . rename_i m ds;cases e;obtain⟨v,rfl,r⟩:=rx.one;obtain⟨a,xs,rfl,q,rl⟩:=r.seqL s;exact⟨_,xs.length,rfl,.inl ⟨xs,q,rfl⟩,by rw[rl.length];exact w _ F H (.refl s) (dC _) (by nofun)⟩
 . rename_i m ds;cases e;obtain⟨v,rfl,r⟩:=rx.one;obtain⟨a,xs,rfl,q,rl⟩:=r.seqT s;exact⟨_,xs.length,rfl,.inr ⟨xs,q,rfl⟩,by rw[rl.length];exact w _ F H (.refl s) (dC _) (by nofun)⟩
 . cases e
noncomputable def tyN:D->Option String
 |.non=>some "NoneType" |.bl _=>some "bool" |.int _=>some "int" |.str _=>some "str" |.tup _=>some "tuple" |.lst _=>some "list" |.dct _=>some "dict" |_=>none
noncomputable def kL(t c:String):Option Bool:=if["int", "bool", "str", "list", "tuple", "dict"].contains c=true then some (t==c||(t == "bool" && c == "int"))else none
def cQ:List (Md×D)->Option (Md×D)
 |[(_,d),(_,.ty c)]=>match tyN d with|some t=>(kL t c).map λb=>(.fz,.bl b)|none=>none
 |_=>none
def aFX{d:D}{t c:String}{b:Bool}(ht:tyN d=some t)(e:kL t c=some b):W.kitOne K (.type t) (.type c)=some b:=by
 unfold kL at e;split at e
 . rename_i hc;simp only[List.contains_cons,List.contains_nil,Bool.or_false,aQJ,aQS]at hc;cases e;have ht':t="NoneType" \/ t="bool" \/ t="int" \/ t="str" \/ t="tuple" \/ t="list" \/ t="dict" := by cases d <;> cases ht <;> simp
   rcases hc with rfl|rfl|rfl|rfl|rfl|rfl <;> rcases ht' with rfl|rfl|rfl|rfl|rfl|rfl|rfl <;> rfl
 . cases e
def aFY:dM X (.builtin "isinstance") cQ:=by
 refine⟨λvs H Q=>∃(F:Hp) (m:Md) (d:D) (v:V) (t c:String) (b:Bool),aD F H/\Rp X.K F H m d v/\vs=[v,.ty c]/\tyN d=some t/\kL t c=some b/\Q (.bl b) H,?_,?_⟩
 . intro aA s σ H xs us Q I r h;obtain⟨F,m,d,v,t,c,b,sF,rp,rfl,ht,hb,q⟩:=h;obtain⟨u,u',rfl,ru,ru'⟩:=vF r;cases(show u'=Value.type c from ru')
   have e:=aFX (K:=X.K) ht hb;have fin:∀tk,EP X aA σ Q (.bool b) {s with toks:=tk}:=λtk=>⟨.bl b,H,I.tok _,rfl,q⟩
   cases d with
   |non=>cases rp.non;cases ht;cases(show u=Value.none from ru);exact aQT W.kitx_none I.kIn True.intro e (λz=>nomatch z) fin
   |bl y=>cases rp.bl;cases ht;cases(show u=Value.bool y from ru);exact aQT W.kitx_bool I.kIn True.intro e (λz=>nomatch z) fin
   |int i=>cases rp.int;cases ht;obtain⟨t,q⟩:=(show ∃t,u=Value.int i t from ru);cases q;exact aQT W.kitx_int I.kIn True.intro e (λz=>nomatch z) fin
   |str y=>obtain⟨rfl,_⟩:=rp.str;cases ht;obtain⟨t,q⟩:=(show ∃t,u=Value.str y t from ru);cases q;exact aQT W.kitx_str I.kIn True.intro e (λz=>nomatch z) fin
   |tup ds =>
    obtain⟨a,xs,rfl,hq,_⟩:=rp.seqT sF;cases ht;cases(show u=Value.ref a from ru)
    obtain⟨its,_,⟨o,h1,h2,_⟩,_⟩:=I.tuple hq;exact aQT W.kitx_tuple I.kIn ⟨o,h1,h2⟩ e (λz=>nomatch z) fin
   |lst ds =>
    obtain⟨a,xs,rfl,hq,_⟩:=rp.seqL sF;cases ht;cases(show u=Value.ref a from ru)
    obtain⟨its,_,⟨o,n,h1,h2,_⟩,_⟩:=I.list hq;exact aQT W.kitx_list I.kIn ⟨o,h1,h2⟩ e (λz=>nomatch z) fin
   |dct ds =>
    obtain⟨a,xs,rfl,hq,_⟩:=rp.dict sF;cases ht;cases(show u=Value.ref a from ru)
    obtain⟨_,_,vs,_,p⟩:=(show bO X.prog X.w H s.heap a (.dK xs)from I.hok a _ hq)
    obtain⟨o,es,ep,h1,h2,_⟩:=p;exact aQT W.kitx_dict I.kIn ⟨o,h1,h2.1⟩ e (λz=>nomatch z) fin
   |_=>cases ht
 . intro F H xs vs k d Q s rx e w;unfold cQ at e;split at e
   . rename_i m d' n c;obtain⟨v,u,rfl,r1,r2⟩:=rx.two;cases r2.ty;cases et:tyN d' with
     |none=>rw[et]at e;cases e
     |some t =>
      rw[et]at e;dsimp only at e;cases eb:kL t c with
      |none=>rw[eb]at e;cases e
      |some b=>rw[eb]at e;cases e;exact⟨F,m,d',v,t,c,b,s,r1,rfl,et,eb,w _ F H (.refl s) (cJ _) (by nofun)⟩
   . cases e
def pv_ty{T:String}(hg:Gl X x)(hm:X.mg x=none)(hv:bootBuiltins x=some (.type T))(hn:x ≠ "__name__" := by decide)(hd:(x==("__debug__":Str))=false:=by decide):PV C X (.Name x pos) (λ_=>.ok .fz (.ty T)) :=
 gP _ (aCH (v:=.ty T) hg hm hv rfl hn hd) λ_ _=>rp_ty T
def aFZ{y:Str}{t:Tok}(hg:Gl X x)(hm:X.mg x=some (.str y t))(h:(decide (y.length<=sizeLine)&&PyData.strOk y)=true:=by decide +kernel)(hd:(x==("__debug__":Str))=false:=by decide):PV C X (.Name x pos) (λ_=>.ok .fz (.str y)) :=
 gP _ (uP (v:=.str y) hg hm ⟨t,rfl⟩ hd) λ_ _=>dU (by rw[aPY,aQH]at h;exact h)
def aF0{y:Int}{t:Tok}(hg:Gl X x)(hm:X.mg x=some (.int y t))(hd:(x==("__debug__":Str))=false:=by decide):PV C X (.Name x pos) (λ_=>.ok .fz (.int y)) :=
 gP _ (uP (v:=.int y) hg hm ⟨t,rfl⟩ hd) λ_ _=>dC _
def fD:List D->Option (List Bool)
 |[]=>some []
 |.bl b::r=>(fD r).map (b :: ·)
 |_=>none
def kM:List (Md×D)->Option (Md×D)
 |[(_,.lst ds)]=>(fD ds).map λbs=>(.fz,.bl (bs.all id))
 |_=>none
theorem wL{K:Fg}{F:Hp}:∀{ds:List D}{xs:List V}{bs:List Bool},aC K F ds xs->fD ds=some bs->xs=bs.map V.bl
 |[],_,_,h,e=>by cases e;simp only[aC]at h;exact h
 |d::ds,_,_,h,e=>by
  simp only[aC]at h;obtain⟨y,ys,rfl,r,t⟩:=h;cases d with
  |bl b =>
   unfold fD at e;cases q:fD ds with
   |none=>rw[q]at e;cases e
   |some bs=>rw[q]at e;cases e;simp only[aB]at r;subst r;rw[wL t q];rfl
  |_=>cases e
def aF1(bs:List Bool):(List.range bs.length).all (λi=>bs.getD i true)=bs.all id:=by
 rw[aO2,aQU,aQU];constructor
 . intro h b hb;obtain⟨i,hi,e⟩:=aQV hb;have:=h i (aOC.mpr hi);rw[aQW,aQX hi]at this;rw[<- e];exact this
 . intro h i hi;have hi:=aOC.mp hi;rw[aQW,aQX hi];exact h _ (aQY hi)
def aF2{w:aST}{s:aSR}{a:Addr}{bs:List Bool}(hc:X.calm=true)(I:Inv X aA σ H s)(hq:SqL X.K H a (bs.map V.bl)){E:VSP}{Q:VSP}(h:∀(it:aSQ) (s2:aSR),(∃I' fp wr n P St tr,it=.ref I'/\Walks prog w X.A.in1 I' fp wr n P St/\St 0 s2.heap/\TruthOf prog w X.A.in1 P tr/\n=bs.length/\(∀i,tr i=bs.getD i true)/\∀h' tk,(∀b o,b∉wr->s2.heap.get? b=some o->h'.get? b=some o)->∃s3:aSR,s3={s2 with heap:=h',toks:=tk}/\Inv X aA σ H s3)->Q it s2):wpAny (model prog w) X.A.in1 (pyIter (.ref a)) Q E s:=by
 obtain⟨its,rv,p,hz⟩:=I.list hq;have hlen:=rv.length;rw[aPI]at hlen;refine aOX p.isList (h _ _ ⟨s.heap.objs.size,_,_,_,_,_,λi=>bs.getD i true,rfl,Walks.list (by show X.A.handled=none;exact I.ok.hd hc) s.heap.objs.size a ?_ its.toArray,⟨⟨_,aN6 _ rfl,rfl,rfl⟩,?_⟩,?_,?_,λ_=>rfl,?_⟩)
 . obtain⟨o,n,e,_⟩:=p;exact aOA (aN7 e)
 . obtain⟨o,n,e,c,d,dd⟩:=p;exact⟨o,hps e,c,n,dd⟩
 . intro i v s' Q' E' hP hQ;have hv:its[i]? = some v:=by simpa using hP
   have hi:i<bs.length:=by rw[hlen];exact(aOJ.mp hv).1
   have hx:(bs.map V.bl)[i]? = some (V.bl bs[i]):=by rw[aPF,aQX hi];rfl
   obtain⟨u,hu,ru⟩:=rv.get hx;rw[hv]at hu;cases hu;cases(show v=Value.bool _ from ru)
   have hQ:Q' (bs.getD i true) s':=hQ;rw[aQW,aQX hi]at hQ;exact aOP hQ
 . rw[aO4,hlen]
 . intro h' tk hk;refine⟨_,rfl,?_⟩;refine(I.kept (t':=tk) (h':=h') λb o e=>?_)
   refine hk b o (by intro hb; have : b = s.heap.objs.size := by simpa using hb
                     subst this;exact absurd (aN7 e) (aN9 _)) (hps e)
def aF3(hc:X.calm=true):dM X (.builtin "all") kM:=by
 refine⟨λvs H Q=>∃(a:Addr) (bs:List Bool),vs=[.ref a]/\SqL X.K H a (bs.map V.bl)/\Q (.bl (bs.all id)) H,?_,?_⟩
 . intro aA s σ H xs us Q I r h;obtain⟨a,bs,rfl,hq,q⟩:=h;obtain⟨u,rfl,ru⟩:=dY r;cases(show u=Value.ref a from ru)
   refine call_all_walk (aF2 hc I hq λit s2 hh=>?_);obtain⟨I',fp,wr,n,P,St,tr,rfl,W,st,T,rfl,htr,fin⟩:=hh;refine⟨I',fp,wr,_,P,St,tr,rfl,W,st,T,λh' tk hk=>?_⟩;obtain⟨s3,rfl,I3⟩:=fin h' tk hk;have e:(List.range bs.length).all tr=bs.all id:=by rw[<- aF1];congr 1;funext i;exact htr i
   rw[e];exact⟨.bl (bs.all id),H,I3,rfl,q⟩
 . intro F H xs vs k d Q s rx e w;unfold kM at e;split at e
   . rename_i m ds;obtain⟨v,rfl,r⟩:=rx.one;obtain⟨a,xs,rfl,hq,rl⟩:=r.seqL s;cases eb:fD ds with
     |none=>rw[eb]at e;cases e
     |some bs=>rw[eb]at e;cases e;have:=wL rl eb;subst this;exact⟨a,bs,rfl,hq,w _ F H (.refl s) (cJ _) (by nofun)⟩
   . cases e
end
inductive aE where
 |nx (ρ:Rho)|rt (m:Md) (d:D)|bk (ρ:Rho)|ct (ρ:Rho)|exc (c:Str) (ρ:Rho)|stuck
def bK(C:Cw)(Fa:Hp)(r:aE)(E:dI):Prop:=match r with
 |.nx ρ=>∀σ F H,aD Fa F->aR C.K C.F0 C.H0 F H σ ρ->E.nx σ H
 |.bk ρ=>∀σ F H,aD Fa F->aR C.K C.F0 C.H0 F H σ ρ->E.bk σ H
 |.ct ρ=>∀σ F H,aD Fa F->aR C.K C.F0 C.H0 F H σ ρ->E.ct σ H
 |.exc c ρ=>∀σ F H,aD Fa F->aR C.K C.F0 C.H0 F H σ ρ->C.EE c σ H
 |.rt m d=>∀v F H,aG C.F0 C.H0 F H->Rp C.K F H m d v->(m=.fr->∀a,v=.ref a->C.H0 a=none)->E.rt v H
 |.stuck=>False
def bK.mono{F:Hp}{r:aE}{E:dI}(s:aD F F1)(w:bK C F r E):bK C F1 r E:=by
 cases r with
 |nx ρ=>exact λσ F' H' z R=>w σ F' H' (s.trans z) R
 |bk ρ=>exact λσ F' H' z R=>w σ F' H' (s.trans z) R
 |ct ρ=>exact λσ F' H' z R=>w σ F' H' (s.trans z) R
 |exc c ρ=>exact λσ F' H' z R=>w σ F' H' (s.trans z) R
 |rt m d=>exact w
 |stuck=>exact w
def tH(C:Cw)(g:Rho->aE):TS:=λE σ H=>∃ρ F,aR C.K C.F0 C.H0 F H σ ρ/\bK C F (g ρ) E
def PSv(C:Cw)(X:Cx)(st:Stmt)(g:Rho->aE):Prop:=PS X st (tH (C.at X) g)
def PBv(C:Cw)(X:Cx)(st:List Stmt)(g:Rho->aE):Prop:=PSs X st (tH (C.at X) g)
def PS.imp{e:Stmt}{t t':TS}(h:PS X e t)(i:∀E σ H,t' E σ H->t E σ H):PS X e t':=λaA s σ H E I q=>h aA s σ H E I (i E σ H q)
def PSs.imp{e:List Stmt}{t t':TS}(h:PSs X e t)(i:∀E σ H,t' E σ H->t E σ H):PSs X e t':=λaA s σ H E I q=>h aA s σ H E I (i E σ H q)
def aE.thn(r:aE)(k:Rho->aE):aE:=match r with
 |.nx ρ=>k ρ
 |r=>r
@[simp] theorem aE.thn_nx(ρ:Rho)(k:Rho->aE):(aE.nx ρ).thn k=k ρ:=rfl
@[simp] theorem aE.thn_rt(m:Md)(d:D)(k:Rho->aE):(aE.rt m d).thn k=.rt m d:=rfl
@[simp] theorem aE.thn_bk(ρ:Rho)(k:Rho->aE):(aE.bk ρ).thn k=.bk ρ:=rfl
@[simp] theorem aE.thn_ct(ρ:Rho)(k:Rho->aE):(aE.ct ρ).thn k=.ct ρ:=rfl
@[simp] theorem aE.thn_exc(c:Str)(ρ:Rho)(k:Rho->aE):(aE.exc c ρ).thn k=.exc c ρ:=rfl
@[simp] theorem aE.thn_stuck(k:Rho->aE):aE.stuck.thn k=.stuck:=rfl
section
variable  {a b c:Expr}{es:List Expr}{gc:Rho->Res}{pos:Pos}{h1 h2:Rho->aE}
def aF4:PBv C X [] (λρ=>.nx ρ):=PSs.imp uU λE σ H q=>by obtain⟨ρ,F,R,w⟩:=q;exact w σ F H (aD.refl _) R
def aF5{E:dI}(q:tH C (λρ=>(h1 ρ).thn h2) E σ H):tSeq (tH C h1) (tH C h2) E σ H:=by
 obtain⟨ρ,F,R,w⟩:=q;refine⟨ρ,F,R,?_⟩;dsimp only at w;cases er:h1 ρ with
 |nx ρ'=>rw[er]at w;exact λσ' F' H' z R'=>⟨ρ',F',R',bK.mono z w⟩
 |rt m d=>rw[er]at w;exact w
 |bk ρ'=>rw[er]at w;exact w
 |ct ρ'=>rw[er]at w;exact w
 |exc c ρ'=>rw[er]at w;exact w
 |stuck=>rw[er]at w;exact w
def aF6(ha:PSv C X st h1)(hb:PBv C X sts h2):PBv C X (st::sts) (λρ=>(h1 ρ).thn h2):=PSs.imp (j6 ha hb) λE σ H q=>aF5 q
def Res.thS(r:Res)(ρ:Rho)(k:Md->D->aE):aE:=match r with
 |.ok m d=>k m d
 |.exc c=>.exc c ρ
 |.stuck=>.stuck
@[simp] theorem Res.thS_ok(m:Md)(d:D)(ρ:Rho)(k:Md->D->aE):(Res.ok m d).thS ρ k=k m d:=rfl
@[simp] theorem Res.thS_exc(c:Str)(ρ:Rho)(k:Md->D->aE):(Res.exc c).thS ρ k=.exc c ρ:=rfl
@[simp] theorem Res.thS_stuck(ρ:Rho)(k:Md->D->aE):Res.stuck.thS ρ k=.stuck:=rfl
def i3{F:Hp}{k:Md->D->aE}{E:dI}{Q:VK}(R:aR C.K C.F0 C.H0 F H σ ρ)(w:bK C F ((g ρ).thS ρ k) E)(h:∀m d v F' H',bK C F' (k m d) E->aG F H F' H'->aR C.K C.F0 C.H0 F' H' σ ρ->Rp C.K F' H' m d v->(m=.fr->∀a,v=.ref a->H a=none)->Q v H'):tG C g σ H Q:=by
 rw[aZ];refine⟨ρ,F,R,?_⟩;cases er:g ρ with
 |stuck=>rw[er]at w;exact w
 |exc c=>rw[er]at w;exact λF' H' s=>w σ F' H' s.fsame (R.step s)
 |ok m d=>rw[er]at w;exact λv F' H' s rp fr=>h m d v F' H' (bK.mono s.fsame w) s (R.step s) rp fr
def aF7(he:PV C X e g)(hs:swapsWith e none pos.line X.env=pure false:=by rfl):PSv C X (.Expr e pos) (λρ=>(g ρ).thS ρ λ_ _=>.nx ρ):=PS.imp (oV he hs) λE σ H q=>by obtain⟨ρ,F,R,w⟩:=q;exact i3 R w λm d v F' H' w' s R' rp fr=>w' σ F' H' (aD.refl _) R'
noncomputable def gU(r:Res)(ρ:Rho):aE:=r.thS ρ λm d=>match m with|.bo=>.stuck|m=>.rt m d
def aF8(he:PV C X e g):PSv C X (.Return (some e) pos) (λρ=>gU (g ρ) ρ):=PS.imp (oW he) λE σ H q=>by
 obtain⟨ρ,F,R,w⟩:=q;refine i3 R w λm d v F' H' w' s R' rp fr=>?_;cases m with
 |bo=>exact(show False from w').elim
 |fz=>exact w' v F' H' R'.st rp (by nofun)
 |fr=>exact w' v F' H' R'.st rp λ_ a ea=>R.st.same.free (fr rfl a ea)
def eU(ρ:Rho)(i:Nat):aE:=match ρ[i]? with
 |some (some (false,d))=>.rt .fz d
 |some (some (true,d))=>.rt .fr d
 |_=>.stuck
def aF9(i:Nat)(h:PE X (.Name x p) (cG i)):PSv C X (.Return (some (.Name x p)) pos) (λρ=>eU ρ i):=PS.imp (oW h) λE σ H q=>by
 obtain⟨ρ,F,R,w⟩:=q;dsimp only at w;unfold eU at w;cases e:ρ[i]? with
 |none=>rw[e]at w;exact w.elim
 |some o =>
  cases o with
  |none=>rw[e]at w;exact w.elim
  |some q =>
   obtain⟨m,d⟩:=q;obtain⟨v,e1,r,hh⟩:=R.slot i m d e;rw[e]at w;cases m with
   |false=>exact⟨v,e1,w v F H R.st r (by nofun)⟩
   |true=>exact⟨v,e1,w v F H R.st r λ_=>hh rfl⟩
noncomputable def ifS(t:Res)(ρ:Rho)(x y:aE):aE:=t.thS ρ λ_ d=>match d with|.bl true=>x|.bl false=>y|_=>.stuck
def aGA{s1 s2:List Stmt}(hc:PTv C X c gc)(ha:PBv C X s1 h1)(hb:PBv C X s2 h2):PSv C X (.If c s1 s2 pos) (λρ=>ifS (gc ρ) ρ (h1 ρ) (h2 ρ)):=by
 refine PS.imp (uW hc ha hb) λE σ H q=>?_;obtain⟨ρ,F,R,w⟩:=q;dsimp only at w;refine⟨ρ,F,R,?_⟩;cases er:gc ρ with
 |stuck=>rw[er]at w;exact w
 |exc c=>rw[er]at w;exact λF' H' s=>w σ F' H' s.fsame (R.step s)
 |ok m d =>
  rw[er]at w;cases d with
  |bl k =>
   intro F' H' s;cases k with
   |true=>rw[if_pos rfl];exact⟨ρ,F',R.step s,bK.mono s.fsame w⟩
   |false=>rw[if_neg aOU];exact⟨ρ,F',R.step s,bK.mono s.fsame w⟩
  |_=>exact w.elim
noncomputable def fR(ρ:Rho)(i:Nat)(r:Res):aE:=r.thS ρ λm d=>match m with
 |.fz=>.nx (ρ.set i (some (false,d)))
 |.fr=>.nx (ρ.set i (some (true,d)))
 |.bo=>.stuck
theorem aR.set{F:Hp}{m:Bool}{d:D}(R0:aR K F0 H0 F H σ ρ)(s:aG F H F' H')(rp:Rp K F' H' (if m then .bo else .fz) d v)(fr:m=true->∀a,v=.ref a->H a=none):aR K F0 H0 F' H' (σ.set i (some v)) (ρ.set i (some (m,d))):=by
 have R:=R0.step s;refine⟨R.st,λj m' d' e=>?_,λj k d1 d2 a hjk e1 e2 q1 q2=>?_,by rw[aQZ,aQZ];exact R.len⟩
 . by_cases hj:j=i
   . subst hj;rw[aQ0]at e;by_cases hl:j<ρ.length
     . rw[if_pos rfl,if_pos hl]at e;cases e;refine⟨v,by rw[aQ0,if_pos rfl,if_pos (by rw[R.len];exact hl)],rp,λz a ea=>R0.st.same.free (fr z a ea)⟩
     . rw[if_pos rfl,if_neg hl]at e;cases e
   . rw[aOL (λz=>hj z.symm)]at e ⊢;exact R.slot j m' d' e
 . have old:∀(l:Nat) (d:D) (b:Addr),l≠i->ρ[l]? = some (some (true,d))->σ[l]? = some (some (.ref b)) -> ¬ gO (H b):=λl d b hl e q=>by obtain⟨u,q',r,_⟩:=R0.slot l true d e;rw[q]at q';cases q';obtain⟨b',eb,_,t⟩:=r;cases eb;exact t.there
   by_cases hj:j=i
   . subst hj;rw[aOL hjk]at e2 q2;rw[aQ0]at e1 q1;by_cases hl:j<ρ.length
     . rw[if_pos rfl,if_pos hl]at e1;rw[if_pos rfl,if_pos (by rw[R.len];exact hl)]at q1
       cases e1;cases q1;exact old k d2 a (λz=>hjk z.symm) e2 q2 (iV (fr rfl a rfl))
     . rw[if_pos rfl,if_neg hl]at e1;cases e1
   . by_cases hk:k=i
     . subst hk;rw[aOL (λz=>hjk z.symm)]at e1 q1;rw[aQ0]at e2 q2;by_cases hl:k<ρ.length
       . rw[if_pos rfl,if_pos hl]at e2;rw[if_pos rfl,if_pos (by rw[R.len];exact hl)]at q2
         cases e2;cases q2;exact old j d1 a hjk e1 q1 (iV (fr rfl a rfl))
       . rw[if_pos rfl,if_neg hl]at e2;cases e2
     . rw[aOL (λz=>hj z.symm)]at e1 q1;rw[aOL (λz=>hk z.symm)]at e2 q2;exact R.apart j k d1 d2 a hjk e1 e2 q1 q2
def aGB{E:dI}(q:tH (C.at X) (λρ=>fR ρ i (g ρ)) E σ H):oX (tG (C.at X) g) (l4 i) E σ H:=by
 obtain⟨ρ,F,R,w⟩:=q;dsimp only at w;refine i3 R w λm d v F' H' w' s R' rp fr=>?_;cases m with
 |bo=>exact(show False from w').elim
 |fz=>exact w' _ F' H' (aD.refl _) (R.set (m:=false) s rp (by nofun))
 |fr=>exact w' _ F' H' (aD.refl _) (R.set (m:=true) s rp λ_ a ea=>fr rfl a ea)
def aGC(hN:X.N.Nodup)(hi:X.N[i]? = some x)(hx:Loc X.env.scope x)(he:PV C X e g)(hs:swapsWith e (some (.Name x pos')) pos.line X.env=pure false:=by rfl)(hf:X.fn x=true\/X.env.scope.names.lookup x=some .local:=by first|exact .inl rfl|exact .inr rfl|assumption):PSv C X (.Assign [.Name x pos'] e pos) (λρ=>fR ρ i (g ρ)):=PS.imp (oY hN hi hx he hs hf) λE σ H q=>aGB q
end
def Its(x:Str):It:=⟨λi _=>i<x.cps.size,λi H v H'=>H'=H/\∃c,x.cps[i]? = some c/\v=.str ⟨#[c]⟩,λi _=>x.cps.size<=i⟩
def wM{w:aST}(it:Addr)(x:Str)(t:Tok)(ty:String)(hty:["enumerate", "zip", "dict_itemiterator", "dict_reverseitemiterator", "odict_iterator", "itertools.zip_longest", "itertools.pairwise"].contains ty=false)(W:∀A':aSS,A'.handled=none->Walks P w A' it [it] [it] x.cps.size (SignAt x) (λi h=>h.IsStrIter it ty x t i))(Sf:∀(A:aSS) (i:Nat) (s:aSR) (Q:VSP) (E:VSP),s.heap.IsStrIter it ty x t i->Q (.ref it) s->wpAny (model P w) A (pyIter (.ref it)) Q E s):j7 P w K tg (Its x) [it] it (λi h=>i<=x.cps.size/\h.IsStrIter it ty x t i) where
 mem:=by simp
 obj:=λi h st b hb=>by
  have e:b=it:=by simpa using hb
  subst e;obtain⟨_,o,e,c,d⟩:=st;exact⟨o,e,λv z=>by rw[d]at z;cases z⟩
 keep:=λi h h' st k=>⟨st.1,let⟨o,e,r⟩:=st.2;⟨o,k it (by simp) o e,r⟩⟩
 item:=by
  intro X hP hw hK hc i aA s σ H E I hf st hg;subst hP hw hK;obtain⟨f0,f1,f2,f3,f4,f5⟩:=hf it (by simp)
  refine(W X.A (I.ok.hd hc)).item i s _ _ hg st.2 λv h' tk hv st' kk=>?_;obtain⟨c,u,hc',rfl⟩:=hv;have I1:Inv X aA σ H {s with heap:=h',toks:=tk}:=I.turned (λb o hb e=>kk b o (by simpa using hb) e) f0 f1 f3 f4 f5
  obtain⟨o,e,oc,d⟩:=id st';exact⟨_,rfl,l5 (s:={s with heap:=h',toks:=tk}) e oc d hty ⟨.str ⟨#[c]⟩,H,I1,⟨u,rfl⟩,⟨rfl,c,hc',rfl⟩,⟨hg,st'⟩,λb hb=>(hf b hb).1⟩⟩
 done:=by
  intro X hP hw hK hc i aA s σ H E I hf st hg;subst hP hw hK;obtain⟨f0,f1,f2,f3,f4,f5⟩:=hf it (by simp)
  have e:i=x.cps.size:=Nat.le_antisymm st.1 hg;subst e;exact(W X.A (I.ok.hd hc)).done s _ _ st.2 λh' tk kk=>⟨rfl,I.turned (λb o hb e=>kk b o (by simpa using hb) e) f0 f1 f3 f4 f5⟩
 self:=λA i s Q E st h=>Sf A i s Q E st.2 h
def iStr(te:TE):TI:=λσ H R=>te σ H λx H1=>∃z,x=.str z/\R (Its z) H1
def aGD{l:Expr}(hl:PE X l tl):PI X tg l (iStr tl):=by
 intro aA s σ H R I h;refine thn (hl aA s σ H _ I h) λv s1 ⟨x,H1,I1,r1,q1⟩=>?_;obtain⟨z,e,q⟩:=q1;subst e;obtain⟨t,rfl⟩:=r1;have fin:∀(ty:String) (o:Obj),o={cls:=.type ty,data:=.fields #[.str z t,.int ((0:Nat):Int) 0]} -> (∀b:Addr,b∈[s1.heap.objs.size]->fO X aA H1 b)/\Inv X aA σ H1 {s1 with heap:=s1.heap.push o}/\(s1.heap.push o).IsStrIter s1.heap.objs.size ty z t 0:=λty o eo=>by
  refine⟨λb hb=>?_,I1.kept (t':=s1.toks) λb o e=>hps e,⟨o,aN6 _ (by rw[eo];rfl),by rw[eo],by rw[eo]⟩⟩
  have e:b=s1.heap.objs.size:=by simpa using hb
  subst e;exact I1.fpOk (aOY _) (I1.hok.fresh (aOY _))
 cases ha:z.cps.all (· < 128)
 . refine wpAny_pyIter_wide ha ?_;obtain⟨f1,f2,f3⟩:=fin "str_iterator" _ rfl;exact⟨s1.heap.objs.size,[s1.heap.objs.size],_,Its z,H1,rfl,f2,wM _ z t "str_iterator" (by decide) (λA' hA=>Walks.strWide hA _ z t) (λA i s Q E st h=>wpAny_pyIter_striter_wide st h),⟨aQF _,f3⟩,f1,q⟩
 . refine wpAny_pyIter_ascii ha ?_;obtain⟨f1,f2,f3⟩:=fin "str_ascii_iterator" _ rfl;exact⟨s1.heap.objs.size,[s1.heap.objs.size],_,Its z,H1,rfl,f2,wM _ z t "str_ascii_iterator" (by decide) (λA' hA=>Walks.strAscii hA _ z t) (λA i s Q E st h=>wpAny_pyIter_striter_ascii st h),⟨aQF _,f3⟩,f1,q⟩
def PI.imp{t t':TI}(h:PI X tg e t)(i:∀σ H R,t' σ H R->t σ H R):PI X tg e t':=λaA s σ H R I q=>h aA s σ H R I (i σ H R q)
def PI.or{t t':TI}(h:PI X tg e t)(h':PI X tg e t'):PI X tg e (λσ H R=>t σ H R\/t' σ H R):=λaA s σ H R I q=>by
 rcases q with q|q
 . exact h aA s σ H R I q
 . exact h' aA s σ H R I q
structure mR(K:Fg)(F:Hp)(J:It)(ds:List D):Prop where
 go:∀i H,aD F H->i<ds.length->J.go i H
 stop:∀i H,aD F H->ds.length<=i->J.stop i H
 yld:∀i Fc H x H',aD F Fc->aD Fc H->i<ds.length->J.yld i H x H'->∃F' d,ds[i]? = some d/\aG Fc H F' H'/\aB K F' d x
def WantI(C:Cw)(F H:Hp)(σ:L2.St)(r:Res)(R:It->Hp->Prop):Prop:=match r with
 |.ok _ (.lst ds)=>∀J F' H',aG F H F' H'->mR C.K F' J ds->R J H'
 |.exc c=>∀F' H',aG F H F' H'->C.EE c σ H'
 |_=>False
def tIv(C:Cw)(g:Rho->Res):TI:=λσ H R=>∃ρ F,aR C.K C.F0 C.H0 F H σ ρ/\WantI C F H σ (g ρ) R
def PIv(C:Cw)(X:Cx)(tg e:Expr)(g:Rho->Res):Prop:=PI X tg e (tIv (C.at X) g)
def cC(z:Str):List D:=z.cps.toList.map λc=>.str ⟨#[c]⟩
def i4(r:Res):Res:=r.thn λ_ d=>match d with
 |.lst ds=>.ok .fz (.lst ds)
 |.tup ds=>.ok .fz (.lst ds)
 |.str z=>.ok .fz (.lst (cC z))
 |_=>.stuck
section
variable  {pos:Pos}
def aGE{F:Hp}{a:Addr}(hq:SqT K F a xs)(r:aC K F ds xs):mR K F (Itt K a) ds where
 go:=λi H s hi=>by
  have hl:i<xs.length:=by rw[r.length];exact hi
  exact⟨xs,xs[i],aD.seqT s hq,by simp[hl]⟩
 stop:=λi H s hi=>⟨xs,aD.seqT s hq,by rw[r.length];exact hi⟩
 yld:=λi Fc H x H' s1 s2 hi y=>by obtain⟨rfl,y⟩:=y;have hx:=y xs (aD.seqT s2 (aD.seqT s1 hq));obtain⟨d,e,rd⟩:=r.get hx;exact⟨Fc,d,e,.refl s2,rd.mono s1 _ _⟩
def aGF{F:Hp}(hk:PyData.strOk z=true):mR K F (Its z) (cC z) where
 go:=λi H s hi=>by simpa[cC,Its]using hi
 stop:=λi H s hi=>by simpa[cC,Its]using hi
 yld:=λi Fc H x H' s1 s2 hi y=>by
  obtain⟨rfl,c,hc,rfl⟩:=y;refine⟨Fc,.str ⟨#[c]⟩,by simp[cC,hc],.refl s2,?_⟩
  simp only[aB,true_and];refine⟨by show 1<=sizeLine;decide,?_⟩
  unfold PyData.strOk at hk ⊢;rw[aQK]at hk;simpa using hk c (Array.mem_of_getElem? hc)
def aGG(h:PV C X e g):PIv C X tg e (λρ=>i4 (bR (g ρ))):=by
 have h:=kI h;refine PI.imp (PI.or (aCZ h) (PI.or (aC0 h) (aGD h))) λσ H R q=>?_;obtain⟨ρ,F,RS,w⟩:=q;dsimp only at w;cases er:bR (g ρ)with
 |stuck=>rw[er]at w;exact w.elim
 |exc c=>refine .inl ?_;unfold oZ;rw[aZ];refine⟨ρ,F,RS,?_⟩;rw[er]at w ⊢;exact w
 |ok m d =>
  rw[er]at w;have hm:m=.fz:=by
   cases h:g ρ with
   |ok m' d'=>rw[h]at er;cases m' <;> cases er <;> rfl
   |exc c=>rw[h]at er;cases er
   |stuck=>rw[h]at er;cases er
  subst hm;cases d with
  |lst ds =>
   refine .inl ?_; unfold oZ; rw [aZ]; refine ⟨ρ, F, RS, ?_⟩; rw [er]; intro v F' H' st rp _; have rp : aB X.K F' (.lst ds) v := rp; simp only [aB] at rp; obtain ⟨a, xs, rfl, hq, r⟩ := rp; exact ⟨a, rfl, ⟨xs, st.sub.seq hq⟩, w _ F' H' st ⟨fun i H s hi => by
       have hl:i<xs.length:=by rw[r.length];exact hi
       exact⟨xs,xs[i],s.seq hq,by simp[hl]⟩,λi H s hi=>⟨xs,s.seq hq,by rw[r.length];exact hi⟩,λi Fc H x H' s1 s2 hi y=>by
       obtain⟨rfl,y⟩:=y;have hx:=y xs (s2.seq (s1.seq hq));obtain⟨d,e,rd⟩:=r.get hx;exact⟨Fc,d,e,.refl s2,rd.mono s1 _ _⟩⟩⟩
  |tup ds=>refine .inr (.inl ?_);unfold iTup;rw[aZ];refine⟨ρ,F,RS,?_⟩;rw[er];intro v F' H' st rp _;have rp:aB X.K F' (.tup ds) v:=rp;simp only[aB]at rp;obtain⟨a,xs,rfl,hq,r⟩:=rp;exact⟨a,rfl,⟨xs,aD.seqT st.sub hq⟩,w _ F' H' st (aGE hq r)⟩
  |str z=>refine .inr (.inr ?_);unfold iStr;rw[aZ];refine⟨ρ,F,RS,?_⟩;rw[er];intro v F' H' st rp _;obtain⟨rfl,hz,hk⟩:=Rp.str rp;exact⟨z,rfl,w _ F' H' st (aGF hk)⟩
  |_=>exact w.elim
def bF(lo hi:Int):List D:=(List.range (hi-lo).toNat).map λi=>.int (lo+(i:Nat))
def gW(r:bA):Res:=r.thn λxs=>match xs with
 |[(_,.int n)]=>if(decide (-(2 ^ 62)<=n)&&decide (n<2 ^ 62))=true then .ok .fz (.lst (bF 0 n))else .stuck
 |_=>.stuck
def i5(r:bA):Res:=r.thn λxs=>match xs with
 |[(_,.int m),(_,.int n)]=>if(decide (-(2 ^ 62)<=m)&&decide (m<2 ^ 62)&&decide (-(2 ^ 62)<=n)&&decide (n<2 ^ 62))=true then .ok .fz (.lst (bF m n))else .stuck
 |_=>.stuck
def wN{F:Hp}{lo hi:Int}:mR K F (Itr lo (hi-lo).toNat) (bF lo hi) where
 go:=λi H s h=>by simpa[bF,Itr]using h
 stop:=λi H s h=>by simpa[bF,Itr]using h
 yld:=λi Fc H x H' s1 s2 h y=>by
  obtain⟨rfl,rfl⟩:=y;have h':i<(hi-lo).toNat:=by simpa[bF]using h
  refine⟨Fc,.int (lo+i),?_,.refl s2,by simp only[aB]⟩
  simp only[bF,aPF,aQ1 h',aQ2]
def aGH{a:Expr}(hg:Gl X "range")(hm:X.mg "range" = none)(ha:PAv C X [a] gs)(hs:starEach [a] X.env=[(false,eval a X.env)]:=by rfl):PIv C X tg (.Call (.Name "range" p) [a] [] pos) (λρ=>gW (gs ρ)):=by
 refine PI.imp (aC1 hg hm ha hs) λσ H R q=>?_;obtain⟨ρ,F,RS,w⟩:=q;dsimp only at w;unfold uZ;refine⟨ρ,F,RS,?_⟩;cases er:gs ρ with
 |stuck=>rw[er]at w;exact w
 |exc c=>rw[er]at w;exact w
 |ok xs =>
  rw[er]at w;intro vs F' H' st rp;unfold gW at w;rw[bA.thn_ok]at w;split at w
  . rename_i m n;split at w
    . rename_i hc;rw[aPY,aQH,aQH]at hc;obtain⟨v,rfl,r⟩:=rp.one;cases r.int;have:=wN (K:=X.K) (F:=F') (lo:=0) (hi:=n);rw[Int.sub_zero]at this;exact⟨n,rfl,hc.1,hc.2,w _ F' H' st this⟩
    . exact w.elim
  . exact w.elim
def aGI{a b:Expr}(hg:Gl X "range")(hm:X.mg "range" = none)(ha:PAv C X [a,b] gs)(hs:starEach [a,b] X.env=[(false,eval a X.env),(false,eval b X.env)]:=by rfl)(hs2:starEach [b] X.env=[(false,eval b X.env)]:=by rfl):PIv C X tg (.Call (.Name "range" p) [a,b] [] pos) (λρ=>i5 (gs ρ)):=by
 refine PI.imp (aC2 hg hm ha hs hs2) λσ H R q=>?_;obtain⟨ρ,F,RS,w⟩:=q;dsimp only at w;unfold u5;refine⟨ρ,F,RS,?_⟩;cases er:gs ρ with
 |stuck=>rw[er]at w;exact w
 |exc c=>rw[er]at w;exact w
 |ok xs =>
  rw[er]at w;intro vs F' H' st rp;unfold i5 at w;rw[bA.thn_ok]at w;split at w
  . rename_i m1 m n1 n;split at w
    . rename_i hc;simp only[aPY,aQH]at hc;obtain⟨v,u,rfl,r,r'⟩:=rp.two;cases r.int;cases r'.int;exact⟨m,n,rfl,⟨hc.1.1.1,hc.1.1.2,hc.1.2,hc.2⟩,w _ F' H' st wN⟩
    . exact w.elim
  . exact w.elim
def PGv(C:Cw)(X:Cx)(tg:Expr)(k:D->Rho->Option Rho):Prop:=∃t:TG,PG X tg t/\∀F H σ ρ ρ' d v Q,aR X.K C.F0 C.H0 F H σ ρ->aB X.K F d v->k d ρ=some ρ' ->
 (∀σ' F' H',aD F F'->aR X.K C.F0 C.H0 F' H' σ' ρ'->Q σ' H')->t v σ H Q
noncomputable def fE(k:D->Rho->Option Rho)(body:Rho->aE):List D->Rho->aE
 |[],ρ=>.nx ρ
 |d::ds,ρ=>match k d ρ with
  |none=>.stuck
  |some ρ1=>match body ρ1 with
   |.nx ρ2=>fE k body ds ρ2
   |.ct ρ2=>fE k body ds ρ2
   |.bk ρ2=>.nx ρ2
   |r=>r
def pQ(r:Res)(ρ:Rho)(k:D->Rho->Option Rho)(body:Rho->aE):aE:=r.thS ρ λ_ d=>match d with|.lst ds=>fE k body ds ρ|_=>.stuck
theorem aGJ{k:D->Rho->Option Rho}{h1:Rho->aE}(hp:PassesOwn (model X.prog X.w) X.A X.env X.xe)(hc:X.calm=true)(hi:PIv C X tg e g)(hg:PGv C X tg k)(hb:PBv C X body h1)(hs:∀x,foldedSetIterable e X.env x=pure x:=by intro _;rfl):PSv C X (.For tg e body [] pos) (λρ=>pQ (g ρ) ρ k h1):=by
 obtain⟨t,ht,hk⟩:=hg;refine PS.imp (u6 hp hc hi ht hb hs) λE σ H q=>?_;obtain⟨ρ,F,RS,w⟩:=q;dsimp only at w;unfold o7;refine⟨ρ,F,RS,?_⟩;cases er:g ρ with
 |stuck=>rw[er]at w;exact w
 |exc c=>rw[er]at w;exact λF' H' s=>w σ F' H' s.fsame (RS.step s)
 |ok m d =>
  rw[er]at w;cases d with
  |lst ds =>
   intro J F1 H1 s1 hJ;have w:bK (C.at X) F1 (fE k h1 ds ρ) E:=bK.mono s1.fsame w;refine⟨λi m σ' H'=>m=ds.length-i/\i<=ds.length/\∃ρ' F',aD F1 F'/\aR X.K C.F0 C.H0 F' H' σ' ρ'/\bK (C.at X) F' (fE k h1 (ds.drop i) ρ') E,⟨ds.length,by simp,aQF _,ρ,F1,aD.refl _,RS.step s1,by simpa using w⟩,?_⟩
   rintro i m σ' H' ⟨rfl,hi,ρ',F',sF,R',w'⟩;by_cases hlt:i<ds.length
   . refine .inr ⟨hJ.go i H' (sF.trans R'.sub) hlt,λσ2 H2=>∃ρ2 F2,aD F1 F2/\aR X.K C.F0 C.H0 F2 H2 σ2 ρ2/\bK (C.at X) F2 (fE k h1 (ds.drop (i+1)) ρ2) E,λσ2 H2 ⟨ρ2,F2,a,b,c⟩=>⟨ds.length-(i+1),by lia,rfl,hlt,ρ2,F2,a,b,c⟩,λx H2 y=>?_⟩
     obtain⟨F2,d,ed,s2,rd⟩:=hJ.yld i F' H' x H2 sF R'.sub hlt y;have hd:ds.drop i=d::ds.drop (i+1):=by rw[aQ3 hlt];rw[aQX hlt]at ed;cases ed;rfl
     rw[hd]at w';unfold fE at w';cases ek:k d ρ' with
     |none=>rw[ek]at w';exact w'.elim
     |some ρ1 =>
      rw[ek]at w';dsimp only at w';refine hk F2 H2 σ' ρ' ρ1 d x _ (R'.step s2) rd ek λσ3 F3 H3 z3 R3=>?_;have z13:aD F1 F3:=(sF.trans s2.fsame).trans z3;have w3:=bK.mono (s2.fsame.trans z3) w';refine⟨ρ1,F3,R3,?_⟩;cases eb:h1 ρ1 with
      |nx ρ2=>rw[eb]at w3;exact λσ4 F4 H4 z4 R4=>⟨ρ2,F4,z13.trans z4,R4,bK.mono z4 w3⟩
      |ct ρ2=>rw[eb]at w3;exact λσ4 F4 H4 z4 R4=>⟨ρ2,F4,z13.trans z4,R4,bK.mono z4 w3⟩
      |bk ρ2=>rw[eb]at w3;exact λσ4 F4 H4 z4 R4=>w3 σ4 F4 H4 z4 R4
      |rt m d=>rw[eb]at w3;exact w3
      |exc c ρ2=>rw[eb]at w3;exact w3
      |stuck=>rw[eb]at w3;exact w3
   . have ei:i=ds.length:=by lia
     subst ei;refine .inl ⟨hJ.stop _ H' (sF.trans R'.sub) (aOY _),?_⟩;rw[aQ4]at w';exact w' σ' F' H' (aD.refl _) R'
  |_=>exact w.elim
end
end D3
namespace L2
theorem pR {env : Env} : ∀ (names : List (Str × NameKind)) (acc : List (Str × Addr)), (∀ y ∈ names, y.2 = .free → ∃ c, env.cells.lookup y.1 = some c) → (∀ y c, acc.lookup y = some c → env.cells.lookup y = some c) →
    ∃cl,(forIn names acc λ(x:Str×NameKind) (cs:List (Str×Addr))=>(if x.2 == .free then(do let c <- cellOf env x.1;pure (ForInStep.yield ((x.1,c)::cs)))else pure (ForInStep.yield cs):Sem (ForInStep (List (Str×Addr)))))=pure cl /\
     (∀y c,cl.lookup y=some c->env.cells.lookup y=some c)/\(∀y c,acc.lookup y=some c->cl.lookup y=some c)/\∀y,(y,NameKind.free)∈names->∃c,cl.lookup y=some c
 |[],acc,_,ha=>⟨acc,by rw[aQ5],ha,λ_ _ h=>h,λ_ h=>by cases h⟩
 |(n,k)::r,acc,h,ha=>by
  rw[aQ6];by_cases hk:k=.free
  . subst hk;obtain⟨c,ec⟩:=h (n,.free) mcs rfl;have hc:cellOf env n=pure c:=by unfold cellOf;rw[ec]
    have e:((if(NameKind.free==NameKind.free)=true then(do let c <- cellOf env n;pure (ForInStep.yield ((n,c)::acc)))else pure (ForInStep.yield acc)):Sem (ForInStep (List (Str×Addr))))=pure (ForInStep.yield ((n,c)::acc)):=by rw[if_pos (by decide),hc,aQ7]
    obtain⟨cl,e1,e2,e3,e4⟩:=pR (env:=env) r ((n,c)::acc) (λy hy=>h y (mcm hy)) (λy c' q=>by
     rw[aQ8]at q;cases hyn:y==n with
     |true=>rw[hyn]at q;cases q;rw[aQS.mp hyn];exact ec
     |false=>rw[hyn]at q;exact ha y c' q)
    refine⟨cl,?_,e2,λy c' q=>?_,λy hy=>?_⟩
    . dsimp only;rw[e,aQ7];exact e1
    . cases hyn:y==n with
      |true=>have:=aQS.mp hyn;subst this;have q':=ha y c' q;rw[ec]at q';cases q';exact e3 y c (by rw[aQ8,hyn])
      |false=>exact e3 y c' (by rw[aQ8,hyn];exact q)
    . rcases aOG.mp hy with z|z
      . cases z;exact⟨c,e3 n c (by rw[aQ8,aQ9])⟩
      . exact e4 y z
  . have e:((if(k==NameKind.free)=true then(do let c <- cellOf env n;pure (ForInStep.yield ((n,c)::acc)))else pure (ForInStep.yield acc)):Sem (ForInStep (List (Str×Addr))))=pure (ForInStep.yield acc):=by rw[if_neg (by simpa using hk)]
    obtain⟨cl,e1,e2,e3,e4⟩:=pR (env:=env) r acc (λy hy=>h y (mcm hy)) ha;refine⟨cl,?_,e2,e3,λy hy=>?_⟩
    . dsimp only;rw[e,aQ7];exact e1
    . rcases aOG.mp hy with z|z
      . cases z;exact absurd rfl hk
      . exact e4 y z
def aGK(h:∀y∈scope.names,y.2=.free->∃c,env.cells.lookup y.1=some c):∃cl,closureFor scope env=pure cl/\(∀y c,cl.lookup y=some c->env.cells.lookup y=some c)/\∀y,(y,NameKind.free)∈scope.names->∃c,cl.lookup y=some c:=by
 obtain⟨cl,e1,e2,_,e4⟩:=pR (env:=env) scope.names [] h (λy c q=>by simp at q)
 refine⟨cl,?_,e2,e4⟩;unfold closureFor;rw[bind_pure];exact e1
def aGL(bY:∀y∈scope.names,y.2 ≠ .cell)(h:(relabel scope env).names.lookup x=some .cell\/(relabel scope env).names.lookup x=some .free):(x,NameKind.free)∈scope.names:=by
 unfold relabel at h;dsimp only at h;have go:∀(l:List (Str×NameKind)),(∀y∈l,y.2 ≠ .cell)->((l.map λ(n,k)=>if(k==NameKind.free&&env.scope.kind == .function&&env.kindOf n==some .cell)then(n,NameKind.cell)else(n,k)).lookup x=some .cell\/(l.map λ(n,k)=>if(k==NameKind.free&&env.scope.kind == .function&&env.kindOf n==some .cell)then(n,NameKind.cell)else(n,k)).lookup x=some .free)->(x,NameKind.free)∈l:=by
  intro l
  induction l with
  |nil=>intro _ h;simp at h
  |cons y l ih =>
   intro hc h;obtain⟨n,k⟩:=y;rw[aQD]at h;by_cases hx:x=n
   . subst hx;have hk:k=.free:=by
       by_cases hk:k=.free
       . exact hk
       . have e:(k==NameKind.free&&env.scope.kind == .function&&env.kindOf x==some .cell)=false:=by
           have:(k==NameKind.free)=false:=by simpa using hk
           rw[this];rfl
         simp only[e,aRA,aPS,aQ8,aQ9]at h;rcases h with h|h
         . cases h;exact absurd rfl (hc _ mcs)
         . cases h;exact absurd rfl hk
     subst hk;exact mcs
   . have hb:(x==n)=false:=by simpa using hx
     have hh:∀(kk:NameKind) (l':List (Str×NameKind)),((n,kk)::l').lookup x=l'.lookup x:=λkk l'=>by rw[aQ8,hb]
     by_cases hcond:(k==NameKind.free&&env.scope.kind == .function&&env.kindOf n==some .cell)=true
     . dsimp only at h;rw[if_pos hcond,hh]at h;exact mcm (ih (λy hy=>hc y (mcm hy)) h)
     dsimp only at h;rw[if_neg hcond,hh]at h;exact mcm (ih (λy hy=>hc y (mcm hy)) h)
 exact go scope.names bY h
noncomputable def bP(X:Cx)(scope:Scope)(N:List Str)(cl:List (Str×Addr))(C:Addr)(fp:List Addr)(s3:aSR)(H3:Hp):Cx where
 prog:=X.prog
 w:=X.w
 K:=X.K
 mg:=X.mg
 base:=X.base
 A:=X.A
 N:=N
 s₀:=s3
 H₀:=H3
 env:=compEnvC scope cl C X.env
 outer:=X.stack
 stack:=X.stack
 ex:=fp
 fn:=λ_=>false
 calm:=X.calm
 pn:=[]
 xe:=λ_ _=>False
def d9(X:Cx)(cs:List Expr)(t:TT):Prop :=
 ∀(aA:LAO) (s:aSR) (σ:St) (H:Hp) (Q:Bool->Hp->Prop),Inv X aA σ H s->t σ H Q ->
  wpAny (model X.prog X.w) X.A (forIn cs true λc r=>if r=true then do let ok <- isTrue c X.env (eval c X.env);pure (ForInStep.yield ok)else pure (ForInStep.yield r)) (TP X aA σ Q) X.xe s
def aGM:d9 X [] (λ_ H Q=>Q true H):=λaA s σ H Q I h=>by rw[aQ5];exact aOV ⟨H,I,h⟩
theorem wO{X:Cx}:∀cs:List Expr,(forIn cs false λc r=>if r=true then do let ok <- isTrue c X.env (eval c X.env);pure (ForInStep.yield ok)else pure (ForInStep.yield r):Sem Bool)=pure false
 |[]=>by rw[aQ5]
 |c::cs=>by rw[aQ6,if_neg aOU,aQ7];exact wO cs
def aGN{c:Expr}{cs:List Expr}{t u:TT}(hc:PT X c t)(hr:d9 X cs u):d9 X (c::cs) (oU t u):=λaA s σ H Q I h=>by
 rw[aQ6,if_pos rfl];refine aOW (aOW (thn (hc aA s σ H _ I h) λb s1 ⟨H1,I1,q1⟩=>aOV ?_));cases b with
 |true=>rw[if_pos rfl]at q1;exact hr aA s1 σ H1 Q I1 q1
 |false=>rw[if_neg aOU]at q1;dsimp only;rw[wO];exact aOV ⟨H1,I1,q1⟩
section
variable {w:aST}{A:aSS}{R:Result->aSR->Prop}{s:aSR}
def aGO {elt target bI : Expr} {ifs : List Expr} {scope : Scope} {pos : Pos} {it acc : aSQ} {env : Env} (I : Nat → aSR → Prop) (turn : ∀ n s, I n s → wpAny (model prog w) A (pyNext it) (fun r s1 => match r with
      |none=>R (.ok .next) s1
      | some v => wpAny (model prog w) A (letOwnedTupleGo target it v) (fun _ s1' => wpAny (model prog w) A (assign target env v) (fun _ s2 =>
          wpAny (model prog w) A (forIn ifs true λc r=>if r=true then do let ok <- isTrue c env (eval c env);pure (ForInStep.yield ok)else pure (ForInStep.yield r)) (λok s3 =>
           if ok=true then wpAny (model prog w) A (eval elt env) (λx s4 =>
            wpAny (model prog w) A (call (.builtin "list.append") [acc,x]) (λ_ s5=>∃m,m<n/\I m s5) (λ_ _=>False) s4) (λ_ _=>False) s3
           else ∃ m, m < n ∧ I m s3) (fun _ _ => False) s2) (fun _ _ => False) s1') (fun _ _ => False) s1) (fun _ _ => False) s)
    (n:Nat) (h:I n s) :
    codeAny (model prog w) A (.compLoop (.ListComp elt [⟨target,bI,ifs,0⟩] scope pos) 0 it acc env) R s:=by
 refine codeAny_loop rfl I (λn s hI=>?_) n h;show wpAny _ A ((compTurn (.ListComp elt [⟨target,bI,ifs,0⟩] scope pos) 0 it acc env).onRaise (λx=>do noteFrame x env;theTreesLotGoes x)) _ _ s
 refine wpAny_noted ?_;rw[compTurn_list];refine aOW (wpAny_standAt (aOW (aOM (turn n s hI) (λr s1 h1=>?_) λ_ _ h'=>h'.elim)));cases r with
 |none=>exact aOV h1
 |some v =>
  refine aOW (aOM h1 (λ_ s1' h1'=>?_) λ_ _ h'=>h'.elim);refine aOW (aOM h1' (λ_ s2 h2=>aOW (aOM h2 (λok s3 h3=>?_) λ_ _ h'=>h'.elim)) λ_ _ h'=>h'.elim);cases ok with
  |false=>exact aOV ⟨rfl,h3⟩
  |true=>exact aOW (aOW (aOM h3 (λx s4 h4=>aOW (aOM h4 (λ_ s5 h5=>aOV (aOV ⟨rfl,h5⟩)) λ_ _ h'=>h'.elim)) λ_ _ h'=>h'.elim))
end
def dO(caps:List Nat)(σ:St):St:=caps.map λi=>(σ[i]?).getD none
def Weak(σ σ':St):Prop:=σ.length=σ'.length/\∀(j:Nat) v,σ[j]? = some (some v)->σ'[j]? = some (some v)
def mS(caps:List Nat)(k:Nat)(wi:TI)(gt:TG)(tt:TT)(te:TE):TE:=λσ H Q=>wi σ H λJ H1=>∀D,H1 D=none ->
 ∃W:Nat->Nat->List V->Hp->Prop,(∃m,W 0 m [] (upd H1 D (.lst [])))/\∀i m ys H,W i m ys H->H D=some (.lst ys) /\
  ((J.stop i H/\Q (.ref D) H)\/(J.go i H/\ys.length<sizeLine/\∀x H',J.yld i H x H'->gt x (dO caps σ++List.replicate k none) H' λσ2 H2=>Weak (dO caps σ++List.replicate k none) σ2/\tt σ2 H2 λb H3 =>
   if b=true then te σ2 H3 λy H4=>H4 D=some (.lst ys)/\∃m',m'<m/\W (i+1) m' (ys++[y]) (upd H4 D (.lst (ys++[y])))else ∃m',m'<m/\W (i+1) m' ys H3))
def aGP{pos:Pos}{gt:TG}{tt:TT}{use:Option (aSQ->Sem Unit)}{QQ:VSP}{s:aSR}{σ:St}{Q:VK}(hc:X.calm=true)(hi:PI X tg bI wi)(bY:∀y∈scope.names,y.2 ≠ .cell)(eN:scope.kind=.function)(iK:∀y∈scope.names,y.2=.local->scope.names.lookup y.1=some .local)(eO:∀y∈scope.names,y.2=.free->X.env.kindOf y.1=some .cell\/X.env.kindOf y.1=some .free)(fL:aT.map some=caps.map λi=>X.N[i]?)(iM:∀y∈aT,(y,NameKind.free)∈scope.names)(iL:∀y∈aT,(relabel scope X.env).names.lookup y=some .cell\/(relabel scope X.env).names.lookup y=some .free)(hg:∀cl C fp s3 H3,PG (bP X scope (aT++tgN) cl C fp s3 H3) tg gt)(hf:∀cl C fp s3 H3,d9 (bP X scope (aT++tgN) cl C fp s3 H3) ifs tt)(he:∀cl C fp s3 H3,PE (bP X scope (aT++tgN) cl C fp s3 H3) elt te)(hs:∀x,foldedSetIterable bI X.env x=pure x)(I:Inv X aA σ H s)(h:mS caps tgN.length wi gt tt te σ H Q)(hend:∀(D Z:Addr) (s6:aSR) (H5:Hp),(∃m,s6.heap.Ns Z m)->(∀h'',Heap.SameBut Z s6.heap h''->Inv X aA σ H5 {s6 with heap:=h''})->H5 Z=none->X.s₀.heap.objs.size<=Z->Z≠X.env.locals->(∀x c,X.env.cells.lookup x=some c->c≠Z)->(∀p∈X.pn++aA,p.1≠Z)->Q (.ref D) H5->compPost (model X.prog X.w) X.A X.xe use QQ (.ref D) Z (.ok .next) s6):wpAny (model X.prog X.w) X.A (comprehension (.ListComp elt [⟨tg,bI,ifs,0⟩] scope pos) scope X.env (firstIterPos [⟨tg,bI,ifs,0⟩] pos) (newList []) (firstAsync [⟨tg,bI,ifs,0⟩]) (firstIter [⟨tg,bI,ifs,0⟩] X.env) use) QQ X.xe s:=by
 obtain⟨cl,hclos,clsub,clhas⟩:=aGK (scope:=scope) (env:=X.env) λy hy hk=>I.ok.has y.1 (eO y hy hk);refine wpAny_comprehension_free (use:=use) rfl hs hclos eN iK (thn (hi aA s σ H _ I h) λv s1 h1=>thn h1 λitv s2 h2=>?_);obtain⟨it,fp,tn,J,H2,e,I2,T,st2,f2,q⟩:=h2;subst e;refine aPZ ?_;have hn:H2 s2.heap.objs.size=none:=I2.hok.fresh (aOY _);obtain⟨W,⟨m0,w0⟩,turn⟩:=q s2.heap.objs.size hn;have I3:Inv X aA σ (upd H2 s2.heap.objs.size (.lst [])) { s2 with heap:=s2.heap.push { cls:=.type "list", dict:=none,data:=.seq ([]:List aSQ).toArray } } :=
  I2.laid (t':=s2.toks) (λb u e=>hps e) (aOY _) ⟨aQF _,[],0,.nil,aN6 _ rfl⟩
 generalize hs3:({ s2 with heap:=s2.heap.push { cls:=.type "list", dict:=none,data:=.seq ([]:List aSQ).toArray } }:aSR)=s3 at I3 ⊢
 generalize hH3:upd H2 s2.heap.objs.size (.lst [])=H3 at I3 w0;have fpl:∀b∈fp,b<s2.heap.objs.size:=λb hb=>by obtain⟨o,eo,_⟩:=T.obj 0 _ st2 b hb;exact aN7 eo
 have sz3:s3.heap.objs.size=s2.heap.objs.size+1:=by rw[<- hs3];exact Heap.size_push _ _
 have keep23:∀b o,s2.heap.get? b=some o->s3.heap.get? b=some o:=λb o e=>by rw[<- hs3];exact hps e
 have hDf:s2.heap.objs.size∉fp:=λhb=>aN9 _ (fpl _ hb);refine aRB bY (by intro y hy;simp at hy) (λh4 hns hsb=>?_) eN
 try dsimp only at hns hsb ⊢
 have keep34:∀b o,s3.heap.get? b=some o->h4.get? b=some o:=λb o e=>hsb.extBut b o (aOA (aN7 e)) (hps e);have nostk:∀b∈fp,b∉frs X.stack:=λb hb z=>by
  obtain⟨_,f1,f2',_⟩:=f2 b hb;rcases aOG.mp (I2.stkSub b z)with q|q
  . exact f1 q
  . exact f2' q
 have okc:(bP X scope (aT++tgN) cl s3.heap.objs.size fp s3 H3).Ok :=
  { mod:=I3.ok.mod
    kind:=eN
    glob:=I3.ok.glob
    blt:=I3.ok.blt
    above:=aOY _
    inj:=λx y c h1 h2=>I3.ok.inj x y c (clsub x c h1) (clsub y c h2)
    has:=λx hx=>clhas x (aGL bY hx)
    cab:=λx c z=>by cases z
    hd:=I3.ok.hd
    frames:=I3.ok.frames
    stk:=.inl rfl
    exf:=λb hb=>⟨aOA (by show b<s3.heap.objs.size;rw[sz3];exact Nat.lt_succ_of_lt (fpl b hb)),λx c e=>(f2 b hb).2.2.2.2.1 x c (clsub x c e)⟩
    bs:=I3.bs
    bsz:=aOE I3.ok.bsz I3.sz
    noex:=λb o e hb=>by
     obtain⟨_,_,_,f3,_⟩:=f2 b hb;rcases f3 with z|z
     . exact I2.ok.noex b o e z
     . exact absurd (aN7 (I2.ok.bs b o e).1) (Nat.not_lt.mpr z)
    exfs:=nostk
    funs:=I3.stack
    frf:=I3.stkFree
    tabs:=I3.ok.tabs.mono I3.base.tbls }
 have capLen:aT.length=caps.length:=by have:=congrArg List.length fL;simpa using this
 generalize hσ0:dO caps σ++List.replicate tgN.length none=σ0 at turn;have Ic:Inv (bP X scope (aT++tgN) cl s3.heap.objs.size fp s3 H3) [] σ0 H3 {s3 with heap:=h4,toks:=s3.toks+([]:List (Str×aSQ)).length}:=by
  refine⟨okc,rfl,I3.bare,Un.kept keep34,⟨_,hns,λi y v h1 h2 h3=>?_⟩,λx c e=>?_,I3.hok.fresh (aOY _),λx c e=>I3.freeC x c (clsub x c e),λp hp=>absurd (show p∈([]:LAO)from hp) (by simp),I3.hok.kept keep34,?_⟩
  . by_cases hi:i<caps.length
    . have ey:aT[i]? = some y:=by have h1:(aT++tgN)[i]? = some y:=h1;rw[aPE (by rw[capLen];exact hi)]at h1;exact h1
      have hj:X.N[caps[i]]? = some y:=by
       have e1:(aT.map some)[i]? = (caps.map λi=>X.N[i]?)[i]?:=by rw[fL]
       rw[aPF,aPF,ey,aQX hi]at e1;simpa using e1.symm
      have ev:σ[caps[i]]? = some (some v):=by
       rw[<- hσ0,aPE (by simpa[dO]using hi)]at h2
       unfold dO at h2;rw[aPF,aQX hi]at h2;simp only[aQ2,aQG]at h2;cases z:σ[caps[i]]? with
       |none=>rw[z]at h2;cases h2
       |some o=>rw[z]at h2;exact congrArg some h2
      have hyf:=iM y (aPG ey);have hkX:=eO _ hyf rfl;obtain⟨m,_,hl⟩:=I3.loc;obtain⟨u,ru,lk⟩:=hl caps[i] y v hj ev (by rcases hkX with z|z;exact .inr (.inl z);exact .inr (.inr z))
      refine⟨u,ru,.inr ⟨iL y (aPG ey),?_⟩⟩;rcases lk with⟨hk,_⟩|⟨_,c,ec,ic⟩
      . rcases hkX with z|z
        . rw[show X.env.kindOf y=some .cell from z]at hk;cases hk
        . rw[show X.env.kindOf y=some .free from z]at hk;cases hk
      . obtain⟨c',ec'⟩:=clhas y hyf;have:=clsub y c' ec';rw[ec]at this;cases this;exact⟨c,ec',ic.keeps keep34⟩
    . rw[<- hσ0,aPC (by simpa[dO]using hi),aPD]at h2
      split at h2 <;> cases h2
  . obtain⟨v,q⟩:=I3.cell x c (clsub x c e);exact⟨v,q.keeps keep34⟩
  . rw[<- hσ0];show(dO caps σ++List.replicate tgN.length none).length=(aT++tgN).length;simp[dO,capLen]
 have fpc:∀{H':Hp},(∀b∈fp,H' b=none)->∀b∈fp,fO (bP X scope (aT++tgN) cl s3.heap.objs.size fp s3 H3) [] H' b:=λhn b hb =>
  ⟨hn b hb,(okc.exf b hb).1,nostk b hb,.inl hb,(okc.exf b hb).2,λp hp=>absurd (show p∈([]:LAO)from hp) (by simp)⟩
 have loop:codeAny (model X.prog X.w) X.A (.compLoop (.ListComp elt [⟨tg,bI,ifs,0⟩] scope pos) 0 (.ref it) (.ref s2.heap.objs.size) (compEnvC scope cl s3.heap.objs.size X.env)) (compPost (model X.prog X.w) X.A X.xe use QQ (.ref s2.heap.objs.size) s3.heap.objs.size) {s3 with heap:=h4,toks:=s3.toks+([]:List (Str×aSQ)).length}:=by
  refine aGO (λn s'=>∃i ys H',Inv (bP X scope (aT++tgN) cl s3.heap.objs.size fp s3 H3) [] σ0 H' s'/\tn i s'.heap/\(∀b∈fp,H' b=none)/\W i n ys H') ?_ m0
   ⟨0,[],H3,Ic,T.keep _ _ _ st2 (λb hb o e=>keep34 b o (keep23 b o e)),λb hb=>by rw[<- hH3,aP (by intro z;rw[z]at hb;exact hDf hb)];exact(f2 b hb).1,w0⟩
  rintro n s5 ⟨i,ys,H5,I5,st5,fr5,w5⟩;obtain⟨hD,hw⟩:=turn i n ys H5 w5;rcases hw with⟨stop,qq⟩|⟨go,hlen,step⟩
  . refine thn (T.done (bP X scope (aT++tgN) cl s3.heap.objs.size fp s3 H3) rfl rfl rfl hc i [] s5 σ0 H5 _ I5 (fpc fr5) st5 stop) λr s6 ⟨hr,I6⟩=>?_;subst hr;obtain⟨m,hm,_⟩:=id I6.loc;refine hend s2.heap.objs.size s3.heap.objs.size s6 H5 ⟨m,hm⟩ (λh'' hsb2=>?_) I6.free I3.sz (λz=>?_) (λx c ec z=>?_) (λp hp z=>?_) qq;rotate_left
    . obtain⟨m,⟨o,es,ep,ho,_⟩,_⟩:=id I3.loc;rw[<- z]at ho;exact aN9 _ (aN7 ho)
    . obtain⟨v,o,ho,_⟩:=I3.cell x c ec;rw[z]at ho;exact aN9 _ (aN7 ho)
    . have:=(I3.pin p hp).1;rw[z]at this;exact aN9 _ (aN7 this)
    have u:=I6.base;have neC:∀b o,s3.heap.get? b=some o->b≠s3.heap.objs.size:=λb o e=>aOA (aN7 e);have un:Un (frs X.stack) fp H3 H5 s3.heap h'':=by
     refine⟨λb o e n hb hx=>hsb2.extBut b o (neC b o e) (u.keep b o e n hb hx),λb o e n hb hx=>?_,u.free,λb o e hx=>?_,u.tups,u.frzs,u.tbls⟩
     . obtain⟨sl,q⟩:=u.slot b o e n hb hx;exact⟨sl,hsb2.extBut b _ (neC b o e) q⟩
     . obtain⟨o',q⟩:=u.there b o e hx;exact⟨o',hsb2.extBut b _ (neC b o e) q⟩
    have hok : HOk X.prog X.w H5 h'' := fun a o e => (I6.hok a o e).stay (fun b v hb q => hsb2.extBut b v (by
        intro z;have fr:=I6.free;rcases hb with hb|hb
        . rw[hb]at z;rw[z]at e;rw[show H5 s3.heap.objs.size=none from fr]at e;cases e
        . rw[z,show H5 s3.heap.objs.size=none from fr]at hb;cases hb) q) (λ_ q=>q) λ_ _ q=>q
    have os6:=I6.os;obtain⟨hh,g6,d6,t6,o6⟩:=s6;obtain rfl:o6=s3.os:=os6;have I8:=I3.call (h':=h'') (g':=g6) (d':=d6) (t':=t6) (ch:=fp) un hok I6.bare λb hb=>by obtain⟨_,f1,_,f3,f4,f5⟩:=f2 b hb;exact⟨f3,f1,f4,f5⟩
    exact I8
  . refine thn (T.item (bP X scope (aT++tgN) cl s3.heap.objs.size fp s3 H3) rfl rfl rfl hc i [] s5 σ0 H5 _ I5 (fpc fr5) st5 go) λr s6 ⟨u,hr,h6⟩=>?_;subst hr;refine thn h6 λ_ s7 ⟨x,H7,I7,r7,y7,st7,fr7⟩=>?_;have I7':=I7.pinned (fpc fr7) (T.obj _ _ st7);refine thn (hg cl s3.heap.objs.size fp s3 H3 _ s7 σ0 H7 x u _ I7' r7 (step x H7 y7)) λ_ s8 ⟨σ8,H8,I8,wk,q8⟩=>?_;have back:∀{H':Hp}{s':aSR}{m':Nat}{ys':List V},Inv (bP X scope (aT++tgN) cl s3.heap.objs.size fp s3 H3) ([]++j8 fp s7.heap) σ8 H' s'->m'<n->W (i+1) m' ys' H' ->
        ∃m,m<n/\∃i ys H',Inv (bP X scope (aT++tgN) cl s3.heap.objs.size fp s3 H3) [] σ0 H' s'/\tn i s'.heap/\(∀b∈fp,H' b=none)/\W i m ys H':=λ{H' s' m' ys'} I' hm w'=>by
      have pinned:∀b∈fp,∀o,s7.heap.get? b=some o->s'.heap.get? b=some o/\H' b=none:=λb hb o e=>by have:=I'.pin (b,o) (aO1 _ (aO1 _ (o8 hb e)));exact⟨this.1,this.2.1⟩
      refine⟨m',hm,i+1,ys',H',I'.unpinned.weak wk.1 wk.2,T.keep _ _ _ st7 λb hb o e=>(pinned b hb o e).1,λb hb=>?_,w'⟩;obtain⟨o,e,_⟩:=T.obj _ _ st7 b hb;exact(pinned b hb o e).2
    refine thn (hf cl s3.heap.objs.size fp s3 H3 _ s8 σ8 H8 _ I8 q8) λb s9 ⟨H9,I9,q9⟩=>?_;cases b with
    |false=>rw[if_neg aOU]at q9 ⊢;obtain⟨m',hm,w9⟩:=q9;exact back I9 hm w9
    |true =>
     rw[if_pos rfl]at q9 ⊢;refine thn (he cl s3.heap.objs.size fp s3 H3 _ s9 σ8 H9 _ I9 q9) λy s10 ⟨yv,H10,I10,r10,hD10,m',hm,w10⟩=>?_;refine thn (pG (X:=bP X scope (aT++tgN) cl s3.heap.objs.size fp s3 H3) _ s10 σ8 H10 (.ref s2.heap.objs.size) [yv] (.ref s2.heap.objs.size) [y] (λv H'=>v=.non/\H'=upd H10 s2.heap.objs.size (.lst (ys++[yv]))) I10 rfl (.cons r10 .nil)
      ⟨s2.heap.objs.size,ys,yv,rfl,rfl,hD10,hlen,rfl,rfl⟩) λ_ s11 ⟨v,H11,I11,_,_,e11⟩=>?_
     subst e11;exact back I11 hm w10
 exact codeAny_compStart_list loop (T.self _ 0 _ _ _ (T.keep _ _ _ st2 (λb hb o e=>keep34 b o (keep23 b o e))) loop)
def aGQ{pos:Pos}{gt:TG}{tt:TT}(hc:X.calm=true)(hi:PI X tg bI wi)(bY:∀y∈scope.names,y.2 ≠ .cell)(eN:scope.kind=.function)(iK:∀y∈scope.names,y.2=.local->scope.names.lookup y.1=some .local)(eO:∀y∈scope.names,y.2=.free->X.env.kindOf y.1=some .cell\/X.env.kindOf y.1=some .free)(fL:aT.map some=caps.map λi=>X.N[i]?)(iM:∀y∈aT,(y,NameKind.free)∈scope.names)(iL:∀y∈aT,(relabel scope X.env).names.lookup y=some .cell\/(relabel scope X.env).names.lookup y=some .free)(hg:∀cl C fp s3 H3,PG (bP X scope (aT++tgN) cl C fp s3 H3) tg gt)(hf:∀cl C fp s3 H3,d9 (bP X scope (aT++tgN) cl C fp s3 H3) ifs tt)(he:∀cl C fp s3 H3,PE (bP X scope (aT++tgN) cl C fp s3 H3) elt te)(hs:∀x,foldedSetIterable bI X.env x=pure x:=by intro _;rfl):PE X (.ListComp elt [⟨tg,bI,ifs,0⟩] scope pos) (mS caps tgN.length wi gt tt te):=by intro aA s σ H Q I h;rw[eval_ListComp];exact aGP (use:=none) hc hi bY eN iK eO fL iM iL hg hf he hs I h λD Z s6 H5 hm hI _ _ _ _ _ q=>by obtain⟨m,hm⟩:=hm;exact⟨m,hm,λh'' hs=>⟨.ref D,H5,hI h'' hs,rfl,q⟩⟩
end L2
namespace D3
def cM(caps:List Nat)(ρ:Rho):Rho:=caps.map λi=>match ρ[i]? with|some (some (false,d))=>some (false,d)|_=>none
def eG(k:D->Rho->Option Rho)(t e:Rho->Res)(ρ0:Rho):List D->Option (List D)
 |[]=>some []
 |d::ds=>match k d ρ0 with
  |none=>none
  |some ρ1=>match t ρ1 with
   |.ok _ (.bl true)=>(match bR (e ρ1)with|.ok _ y=>(eG k t e ρ0 ds).map (y :: ·)|_=>none)
   |.ok _ (.bl false)=>eG k t e ρ0 ds
   |_=>none
def dP(src:Res)(ρ:Rho)(caps:List Nat)(n:Nat)(k:D->Rho->Option Rho)(t e:Rho->Res):Res:=src.thn λ_ d=>match d with
 |.lst ds=>if ds.length<sizeLine then(match eG k t e (cM caps ρ++List.replicate n none) ds with|some ys=>.ok .fr (.lst ys)|none=>.stuck)else .stuck
 |_=>.stuck
abbrev Cw.nox(C:Cw):Cw:={C with EE:=λ_ _ _=>False}
theorem aG.upd{F:Hp}{x:Addr}{o:HO}(st:aG F H F' H')(hx:H x=none)(hx':F' x=none):aG F H F' (L2.upd H' x o) :=
 ⟨λb u q=>by rw[aP (bV q hx)];exact st.same b u q,st.fsame,λb u q=>by rw[aP (bV q hx')];exact st.sub b u q,st.new⟩
section
variable  {pos:Pos}
def aGR:d9 X [] (tT (C.at X) λ_=>.ok .fz (.bl true)):=λaA s σ H Q I h=>by obtain⟨ρ,F,R,w⟩:=h;exact aGM aA s σ H Q I (w F H (.refl R.sub))
def aGS{c:Expr}{cs:List Expr}(hc:PTv C X c ga)(hr:d9 X cs (tT (C.at X) gb)):d9 X (c::cs) (tT (C.at X) λρ=>dL (ga ρ) (gb ρ)):=λaA s σ H Q I h =>
 aGN hc hr aA s σ H Q I (wE h)
def aGT{F:Hp}(caps:List Nat)(n:Nat)(R:aR K F0 H0 F H σ ρ):aR K F0 H0 F H (dO caps σ++List.replicate n none) (cM caps ρ++List.replicate n none):=by
 have low:∀(i:Nat) (m:Bool) (d:D),(cM caps ρ++List.replicate n none)[i]? = some (some (m,d))->m=false/\∃v,(dO caps σ++List.replicate n none)[i]? = some (some v)/\aB K F d v:=λi m d e=>by
  by_cases hi:i<caps.length
  . rw[aPE (by simpa[cM]using hi)]at e
    rw[aPE (by simpa[dO]using hi)]
    unfold cM at e;unfold dO;rw[aPF,aQX hi]at e ⊢;simp only[aQ2,aQG]at e;cases z:ρ[caps[i]]? with
    |none=>rw[z]at e;cases e
    |some o =>
     rw[z]at e;cases o with
     |none=>cases e
     |some q =>
      obtain⟨b,d'⟩:=q;cases b with
      |true=>cases e
      |false=>cases e;obtain⟨v,e1,r,_⟩:=R.slot _ _ _ z;exact⟨rfl,v,by simp[e1],r⟩
  . rw[aPC (by simpa[cM]using hi),aPD]at e
    split at e <;> cases e
 refine⟨R.st,λi m d e=>?_,λi j d d' a _ e1 _ _ _=>?_,by simp[dO,cM]⟩
 . obtain⟨rfl,v,e1,r⟩:=low i m d e;exact⟨v,e1,r,by nofun⟩
 . have:=(low i true d e1).1;cases this
end
mutual
def aS:D->Option PyData
 |.non=>some .none
 |.bl b=>some (.bool b)
 |.int i=>some (.int i)
 |.str x=>some (.str x)
 |.tup ds=>(cR ds).map .tuple
 |.lst ds=>(cR ds).map .list
 |_=>none
def cR:List D->Option (List PyData)
 |[]=>some []
 |d::ds=>match aS d,cR ds with
  |some p,some ps=>some (p::ps)
  |_,_=>none
end
section
variable  {F:Hp}{s:aSR}
mutual
theorem wP(I:Inv X aA σ H s)(sF:aD F H):∀(d:D) (p:PyData) (v:V) (u:aSQ),aB X.K F d v->aM v u->aS d=some p->(∃as,Reads s.heap u p as)/\p.canLay0=true
 |.non,p,v,u,h,r,e=>by simp only[aB]at h;subst h;cases r;simp only[aS]at e;cases e;exact⟨⟨_,.none⟩,rfl⟩
 |.bl b,p,v,u,h,r,e=>by simp only[aB]at h;subst h;cases r;simp only[aS]at e;cases e;exact⟨⟨_,.bool b⟩,rfl⟩
 |.int i,p,v,u,h,r,e=>by simp only[aB]at h;subst h;obtain⟨t,rfl⟩:=r;simp only[aS]at e;cases e;exact⟨⟨_,.int i t⟩,rfl⟩
 |.str x,p,v,u,h,r,e=>by simp only[aB]at h;obtain⟨rfl,_,hk⟩:=h;obtain⟨t,rfl⟩:=r;simp only[aS]at e;cases e;exact⟨⟨_,.str x t⟩,by simpa only [PyData.canLay0]using hk⟩
 |.tup ds,p,v,u,h,r,e=>by
  simp only[aB]at h;obtain⟨a,xs,rfl,q,rl⟩:=h;cases r;simp only[aS]at e;cases ep:cR ds with
  |none=>rw[ep]at e;cases e
  |some ps=>rw[ep]at e;cases e;obtain⟨its,rv,⟨o,h1,h2,n,h3⟩,_⟩:=I.tuple (aD.seqT sF q);obtain⟨⟨as,ra⟩,hc⟩:=mU I sF ds ps xs its rl rv ep;exact⟨⟨_,.tuple h1 h2 h3 (by simpa using ra)⟩,by simpa only [PyData.canLay0]using hc⟩
 |.lst ds,p,v,u,h,r,e=>by
  simp only[aB]at h;obtain⟨a,xs,rfl,q,rl⟩:=h;cases r;simp only[aS]at e;cases ep:cR ds with
  |none=>rw[ep]at e;cases e
  |some ps=>rw[ep]at e;cases e;obtain⟨its,rv,⟨o,n,h1,h2,_,h3⟩,_⟩:=I.list (sF.seq q);obtain⟨⟨as,ra⟩,hc⟩:=mU I sF ds ps xs its rl rv ep;exact⟨⟨_,.list h1 h2 h3 (by simpa using ra)⟩,by simpa only [PyData.canLay0]using hc⟩
 |.dct _,p,v,u,h,r,e=>by simp only[aS]at e;cases e
 |.ty _,p,v,u,h,r,e=>by simp only[aS]at e;cases e
 |.ob _,p,v,u,h,r,e=>by simp only[aS]at e;cases e
 |.ins _ _,p,v,u,h,r,e=>by simp only[aS]at e;cases e
 |.fn _,p,v,u,h,r,e=>by simp only[aS]at e;cases e
 |.exn _,p,v,u,h,r,e=>by simp only[aS]at e;cases e
 |.set _,p,v,u,h,r,e=>by simp only[aS]at e;cases e
 |.dtn _,p,v,u,h,r,e=>by simp only[aS]at e;cases e
 |.dtf _,p,v,u,h,r,e=>by simp only[aS]at e;cases e
 |.dcf _,p,v,u,h,r,e=>by simp only[aS]at e;cases e
 |.clo _ _ _,p,v,u,h,r,e=>by simp only[aS]at e;cases e
theorem mU(I:Inv X aA σ H s)(sF:aD F H):∀(ds:List D) (ps:List PyData) (xs:List V) (us:List aSQ),aC X.K F ds xs->aN xs us->cR ds=some ps->(∃as,ReadsAll s.heap us ps as)/\PyData.canLayAll0 ps=true
 |[],ps,xs,us,h,r,e=>by simp only[aC]at h;subst h;cases r;simp only[cR]at e;cases e;exact⟨⟨_,.nil⟩,rfl⟩
 |d::ds,ps,xs,us,h,r,e=>by
  simp only[aC]at h;obtain⟨y,ys,rfl,hd,hl⟩:=h;cases r with
  |cons r1 r2 =>
   simp only[cR]at e;cases e1:aS d with
   |none=>rw[e1]at e;cases e
   |some p =>
    cases e2:cR ds with
    |none=>rw[e1,e2]at e;cases e
    |some ps'=>rw[e1,e2]at e;cases e;obtain⟨⟨as,ra⟩,hc⟩:=wP I sF d p y _ hd r1 e1;obtain⟨⟨bs,rb⟩,hc'⟩:=mU I sF ds ps' ys _ hl r2 e2;exact⟨⟨_,.cons ra rb⟩,by simp only[PyData.canLayAll0,hc,hc',Bool.and_self]⟩
end
def wQ(I:Inv X aA σ H s)(sF:aD F H){d:D}{p:PyData}(h:Rp X.K F H m d v)(r:aM v u)(e:aS d=some p):(∃as,Reads s.heap u p as)/\p.canLay0=true:=by
 cases m with
 |fz=>exact wP I sF d p v u h r e
 |_ =>
  obtain⟨a,rfl,n,t⟩:=h;cases d with
  |lst ds =>
   obtain⟨xs,q,rl⟩:=t;cases r;simp only[aS]at e;cases ep:cR ds with
   |none=>rw[ep]at e;cases e
   |some ps=>rw[ep]at e;cases e;obtain⟨its,rv,⟨o,n,h1,h2,_,h3⟩,_⟩:=I.list (SqL.of q);obtain⟨⟨as,ra⟩,hc⟩:=mU I sF ds ps xs its rl rv ep;exact⟨⟨_,.list h1 h2 h3 (by simpa using ra)⟩,by simpa only [PyData.canLay0]using hc⟩
  |dct ds=>simp only[aS]at e;cases e
  |ins _ _=>simp only[aS]at e;cases e
  |set _=>simp only[aS]at e;cases e
  |dtn _=>simp only[aS]at e;cases e
  |dtf _=>simp only[aS]at e;cases e
  |dcf _=>simp only[aS]at e;cases e
  |clo _ _=>simp only[aS]at e;cases e
  |_=>exact t.elim
end
def kN(p:PyData):Bool:=decide (p.depth<=50)
noncomputable def eqF(neg:Bool):Md->D->Md->D->Option (Md×D):=λ_ x _ y=>match aS x,aS y with
 |some p,some q=>if(kN p&&kN q)=true then some (.fz,.bl (if neg then !PyData.eqv p q else PyData.eqv p q))else none
 |_,_=>none
theorem wS{f:aSQ->aSQ->Sem aSQ}(hu:X.A.units+64<cLine)(rule:∀(s:aSR) (a b:aSQ) (da db:PyData) (as bs:List Addr) (Q:VSP),Reads s.heap a da as->Reads s.heap b db bs->da.canLay0=true->db.canLay0=true->X.A.units+min da.depth db.depth<cLine->Q (.bool (if neg then !PyData.eqv da db else PyData.eqv da db)) s->wpAny (model X.prog X.w) X.A (f a b) Q X.xe s):OpD C X f (eqF neg):=by
 refine⟨λx y H Q=>∃F m n d e p q,aD F H/\Rp X.K F H m d x/\Rp X.K F H n e y/\aS d=some p/\aS e=some q/\(kN p&&kN q)=true/\Q (.bl (if neg then !PyData.eqv p q else PyData.eqv p q)) H,?_,?_⟩
 . intro aA s σ H x y v u Q I rx ry h;obtain⟨F,m,n,d,e,p,q,sF,hd,he,ep,eq,hs,hQ⟩:=h;obtain⟨⟨as,ra⟩,ca⟩:=wQ I sF hd rx ep;obtain⟨⟨bs,rb⟩,cb⟩:=wQ I sF he ry eq;rw[aPY]at hs;have h1:=aQI hs.1;refine rule s v u p q as bs _ ra rb ca cb (by have:=Nat.min_le_left p.depth q.depth;lia) ⟨.bl _,H,I,rfl,hQ⟩
 . intro F H m x n y v u k d Q s rx ry e w;unfold eqF at e;split at e
   . rename_i p q ep eq;split at e
     . rename_i hc;cases e;exact⟨F,m,n,x,y,p,q,s,rx,ry,ep,eq,hc,w _ F H (.refl s) (cJ _) (by nofun)⟩
     . cases e
   . cases e
def aGU(hu:X.A.units+64<cLine):OpD C X (compareOp .Eq) (eqF false):=wS hu λs a b da db as bs Q ra rb ca cb hd q=>SeqAt.compareEq_reads ra rb ca cb hd q
def aGV(hu:X.A.units+64<cLine):OpD C X (compareOp .NotEq) (eqF true):=wS hu λs a b da db as bs Q ra rb ca cb hd q=>SeqAt.compareNe_reads ra rb ca cb hd q
def MtD(X:Cx)(id:String)(φ:Md->D->List (Md×D)->Option (Md×D)):Prop :=
 ∃r:V->List V->Hp->VK->Prop,MtR X id r/\∀F H m x xs v vs k d Q,aD F H->Rp X.K F H m x v->RpL X.K F H xs vs->φ m x xs=some (k,d) ->
  (∀v' F' H',aG F H F' H'->Rp X.K F' H' k d v'->(k=.fr->∀a,v'=.ref a->H a=none)->Q v' H')->r v vs H Q
def mV(T:String)(d:D):Bool:=tyN d==some T
def fT(T:String)(φ:Md->D->List (Md×D)->Option (Md×D))(o:Res)(r:bA):Res:=o.thn λm x=>if mV T x=true then r.thn λxs=>Res.of (φ m x xs)else .stuck
section
variable  {o:Expr}{es:List Expr}{go:Rho->Res}{T id:String}{name:Str}
def aGW{F:Hp}{d:D}(s:aD F H)(r:Rp K F H m d v)(h:mV T d=true):T="str" \/ T="list" -> tyV K T v H:=by
 have h:tyN d=some T:=by simpa[mV]using h
 intro hT;cases d with
 |str x=>cases h;obtain⟨rfl,_⟩:=r.str;exact rfl
 |lst ds=>cases h;obtain⟨a,xs,rfl,q,_⟩:=r.seqL s;exact .inl ⟨rfl,xs,q⟩
 |tup ds=>cases h;rcases hT with z|z <;> exact absurd z (by decide)
 |non=>cases h;rcases hT with z|z <;> exact absurd z (by decide)
 |bl b=>cases h;rcases hT with z|z <;> exact absurd z (by decide)
 |int b=>cases h;rcases hT with z|z <;> exact absurd z (by decide)
 |dct b=>cases h;rcases hT with z|z <;> exact absurd z (by decide)
 |ty b=>cases h
 |ob b=>cases h
 |ins b _=>cases h
 |dtn b=>cases h
 |dtf b=>cases h
 |dcf b=>cases h
 |clo _ _=>cases h
 |fn b=>cases h
 |exn b=>cases h
 |set b=>cases h
def pS{φ}(hT:T="str" \/ T="list")(pa:PlainAttrs T)(slot:Slot T name id)(hty:typeOf (.builtin id)=pure (.type "method_descriptor"))(hm:MtD X id φ)(ho:PV C X o go)(ha:PAv C X (e::es) gs)(hbase:attributeBase o name X.env (eval o X.env)=eval o X.env:=by rfl)(hfew:((backTo cpos (starEach (e::es) X.env)).all (λx=>!x.1)&&(backToKw cpos (keywordEach [] X.env)).all (λx=>x.1.isSome)&&decide ((e::es).length+([]:List Keyword).length+(if([]:List Keyword).isEmpty then 0 else 1)<30))=true:=by rfl)(hline:(apos.endLine==cpos.line)=true:=by rfl)(hs:starEach (e::es) X.env=(false,eval e X.env)::starEach es X.env:=by rfl)(hplain:(backTo cpos (starEach es X.env)).any (·.1)=false:=by rfl):PV C X (.Call (.Attribute o name apos) (e::es) [] cpos) (λρ=>fT T φ (go ρ) (gs ρ)):=by
 obtain⟨r,h1,h2⟩:=hm;refine PE.imp (pF pa slot hty h1 ho ha hbase hfew hline hs hplain) λσ H Q q=>?_;unfold tBM;rw[aZ]at q ⊢;obtain⟨ρ,F,R,w⟩:=q;refine⟨ρ,F,R,?_⟩;cases er:go ρ with
 |stuck=>rw[er]at w;exact w
 |exc c=>rw[er]at w;exact w
 |ok m d =>
  rw[er]at w;intro v F1 H1 s1 r1 _;have w1:aW (C.at X) F1 H1 σ (if mV T d=true then(gs ρ).thn λxs=>Res.of (φ m d xs)else .stuck) Q:=aW.step s1 w;split at w1
  . rename_i ht;refine⟨aGW s1.sub r1 ht hT,ρ,F1,R.step s1,?_⟩;cases es':gs ρ with
    |stuck=>rw[es']at w1;exact w1
    |exc c=>rw[es']at w1;exact w1
    |ok xs =>
     rw[es']at w1;intro vs F2 H2 s2 r2;have w2:aW (C.at X) F2 H2 σ (Res.of (φ m d xs)) Q:=aW.step s2 w1;cases ef:φ m d xs with
     |none=>rw[ef]at w2;exact w2.elim
     |some kd=>obtain⟨k,d'⟩:=kd;rw[ef]at w2;exact h2 F2 H2 m d xs v vs k d' Q s2.sub (r1.step s2) r2 ef w2
  . exact w1.elim
def fU:List D->Option (List Str)
 |[]=>some []
 |.str x::r=>(fU r).map (x :: ·)
 |_=>none
noncomputable def gX:Md->D->List (Md×D)->Option (Md×D):=λ_ x xs=>match x,xs with
 |.str z,[(_,.lst ds)]=>(match fU ds with
  |some ys=>if(ys.map (·.length)).sum+ys.length * z.length<=sizeLine then some (.fz,.str (Txt.join z ys))else none
  |none=>none)
 |_,_=>none
theorem wT{K:Fg}{F:Hp}:∀{ds:List D}{xs:List V}{ys:List Str},aC K F ds xs->fU ds=some ys->xs=ys.map V.str/\∀y∈ys,PyData.strOk y=true
 |[],_,_,h,e=>by cases e;simp only[aC]at h;exact⟨h,λ_ z=>by cases z⟩
 |d::ds,_,_,h,e=>by
  simp only[aC]at h;obtain⟨y,ys,rfl,r,t⟩:=h;cases d with
  |str b =>
   unfold fU at e;cases q:fU ds with
   |none=>rw[q]at e;cases e
   |some bs =>
    rw[q]at e;cases e;simp only[aB]at r;obtain⟨rfl,_,hk⟩:=r;obtain⟨rfl,hh⟩:=wT t q;refine⟨rfl,λy hy=>?_⟩;rcases aOG.mp hy with rfl|hy
    . exact hk
    . exact hh y hy
  |_=>cases e
theorem wU:∀{ys:List Str}{us:List aSQ},aN (ys.map V.str) us->StrsAre us ys
 |[],_,h=>by cases h;exact .nil
 |y::ys,_,h=>by
  cases h with
  |cons r t=>obtain⟨tk,rfl⟩:=r;exact .cons y tk (wU t)
theorem wV{z:Str}(hz:PyData.strOk z=true):∀{ys:List Str},(∀y∈ys,PyData.strOk y=true)->PyData.strOk (Str.join z ys)=true
 |[],_=>by show PyData.strOk Str.empty=true;decide +kernel
 |[x],h=>h x mcs
 |x::y::r,h=>by show PyData.strOk (x++z++Str.join z (y::r))=true;exact mO (mO (h x mcs) hz) (wV hz λw hw=>h w (mcm hw))
def wW(z:Str)(ys:List Str):Txt.join z ys=Str.join z ys:=StrLaws.glued_eq_join z ys
theorem aGX:MtD X "str.join" gX:=by
 refine⟨λv vs H Q=>∃(z:Str) (a:Addr) (ys:List Str),v=.str z/\vs=[.ref a]/\SqL X.K H a (ys.map V.str)/\(ys.map (·.length)).sum+ys.length * z.length<=sizeLine/\Q (.str (Txt.join z ys)) H,?_,?_⟩
 . intro aA s σ H x xs v us Q I rx r h;obtain⟨z,a,ys,rfl,rfl,hq,hl,q⟩:=h;obtain⟨t,rfl⟩:=rx;obtain⟨u,rfl,ru⟩:=dY r;cases(show u=Value.ref a from ru)
   obtain⟨its,rv,p,hz⟩:=I.list hq;have hs:sizeLine=16777216:=aO3;exact join_list p.isList (by simpa using wU rv) (by lia) λt' k=>⟨.str (Txt.join z ys),H,I.tok _,⟨_,rfl⟩,q⟩
 . intro F H m x xs v vs k d Q s rx rl e w;unfold gX at e;split at e
   . rename_i z m' ds;obtain⟨rfl,hz,hk⟩:=rx.str;obtain⟨u,rfl,r⟩:=rl.one;obtain⟨a,ws,rfl,hq,rr⟩:=r.seqL s;split at e
     . rename_i ys ey;split at e
       . rename_i hl;cases e;obtain⟨rfl,hys⟩:=wT rr ey;refine⟨z,a,ys,rfl,rfl,hq,hl,w _ F H (.refl s) (dU ⟨?_,?_⟩) (by nofun)⟩
         . rw[wW];exact aOE (StrLaws.join_length_le z ys) hl
         . rw[wW];exact wV hk hys
       . cases e
     . cases e
   . cases e
end
def spV(K:Fg)(mg:SOV)(n:Nat)(Φ:List D->Res):Sp:=λvs H Q E=>vs.length=n/\∃F ds,aD F H/\aC K F ds vs/\match Φ ds with
 |.ok m d=>m ≠ .bo/\∀v F' H',aG F H F' H'->Rp K F' H' m d v->(m=.fr->∀a,v=.ref a->H a=none)->Q v H'
 |.exc c=>∀F' H' u,aG F H F' H'->mg c=some u->E u none H'
 |.stuck=>False
structure FnV(P:aSU)(w:aST)(K:Fg)(mg:SOV)(base:Heap)(CX:CXT)(k:Nat)(x:Str)(n:Nat)(Φ:List D->Res):Prop where
 ex:∃f fd ps,bM P w K mg base CX k f fd ps (spV K mg n Φ)/\mg x=some (.ref f)/\W.keepIn K (.ref f)=true/\cV K fd ps []
noncomputable def bD(n:Nat)(Φ:List D->Res)(r:bA):Res:=r.thn λxs=>match cK xs with
 |some ds=>if ds.length=n then(match Φ ds with|.ok .bo _=>.stuck|r=>r)else .stuck
 |none=>.stuck
def XOk(CX:CXT)(C:Cw)(X:Cx):Prop:=∀(aA:LAO) (σ:L2.St) (H:Hp) (s:aSR) (e:aSQ) (s':aSR),Inv X aA σ H s->CX X.stack H s (λu _ H'=>∃c,X.mg c=some u/\C.EE c σ H') e s'->X.xe e s'
section
variable {es:List Expr}{pos:Pos}
def run_V{f:Addr}{s:aSR}{Q:VK}{us:List aSQ}{vs:List V}{E:XK}(F:bM X.prog X.w X.K X.mg X.base CX k f fd ps (spV X.K X.mg n Φ))(hr:bL k X.A)(hb:cV X.K fd ps [])(hx:∀e s',CX X.stack H s E e s'->X.xe e s')(I:Inv X aA σ H s)(r:aN vs us)(h:spV X.K X.mg n Φ vs H Q E):wpAny (model X.prog X.w) X.A (call (.ref f) us) (EP X aA σ Q) X.xe s:=by
 have hl:(us++[]).length=ps.length:=by rw[aO7,<- r.length];exact F.len _ _ _ _ h
 have hb':=hb s us I.kIn hl;rw[aO7]at hb';refine wpAny_call (codeAny_mono (F.run X.A X.stack s H ⟨us,[]⟩ us vs Q E hr I.env0 hb' r h) λr s' hq=>?_);cases r with
 |error e=>exact hx e s' hq
 |ok fl =>
  cases fl with
  |ret u=>exact I.after hq
  |next=>exact False.elim hq
  |brk=>exact False.elim hq
  |cont=>exact False.elim hq
def aGY(F:FnV X.prog X.w X.K X.mg X.base CX k x n Φ)(hr:bL k X.A)(hx:XOk CX (C.at X) X)(hg:Gl X x)(ha:PAv C X (e::es) gs)(hdb:(x==("__debug__":Str))=false:=by decide)(he:starEach (e::es) X.env=(false,eval e X.env)::starEach es X.env:=by rfl)(hpl:(backTo pos (starEach es X.env)).any (·.1)=false:=by rfl):PV C X (.Call (.Name x p) (e::es) [] pos) (λρ=>bD n Φ (gs ρ)):=by
 obtain⟨f,fd,ps,FF,hm,hk,hb⟩:=F.ex;intro aA s σ H Q I h;rw[aZ]at h;obtain⟨ρ,F,R,w⟩:=h;refine aPL (uO I hg hm ?_ hdb);refine W.callWith_K (h₀:=X.base) I.ok.mod.kin hk (thn (ha pos aA s σ H (λvs H1=>spV X.K X.mg n Φ vs H1 Q λu _ H'=>∃c,X.mg c=some u/\C.EE c σ H') I ?_) λus s1 ⟨vs,H1,I1,r,q⟩=>⟨I1.kIn,run_V FF hr hb (λe s' hc=>hx aA σ H1 s1 e s' I1 hc) I1 r q⟩) he hpl;refine⟨ρ,F,R,?_⟩;cases er:gs ρ with
 |stuck=>rw[er]at w;exact w
 |exc c=>rw[er]at w;exact w
 |ok xs =>
  rw[er]at w;intro vs F1 H1 s1 r1;have w1:aW (C.at X) F1 H1 σ (bD n Φ (.ok xs)) Q:=aW.step s1 w;unfold bD at w1;rw[bA.thn_ok]at w1;cases ef:cK xs with
  |none=>rw[ef]at w1;exact w1.elim
  |some ds =>
   rw[ef]at w1;dsimp only at w1;split at w1
   . rename_i hn;have rl:=r1.fz ef;refine⟨by rw[rl.length];exact hn,F1,ds,s1.sub,rl,?_⟩
     cases ep:Φ ds with
     |stuck=>rw[ep]at w1;exact w1
     |exc c=>rw[ep]at w1;exact λF' H' u st hu=>⟨c,hu,w1 F' H' st⟩
     |ok m d =>
      rw[ep]at w1;cases m with
      |bo=>exact w1.elim
      |fz=>exact⟨by decide,w1⟩
      |fr=>exact⟨by decide,w1⟩
   . exact w1.elim
end
def endR:aE->Res
 |.nx _=>.ok .fz .non
 |.rt m d=>.ok m d
 |.exc c _=>.exc c
 |_=>.stuck
def dE(n:Nat)(ds:List D):Rho:=ds.map (λd=>some (false,d))++List.replicate (n-ds.length) none
def pT{F:Hp}{N:List Str}{vs:List V}(s:aD F H)(r:aC K F ds vs):aR K F H F H (cO N vs) (dE N.length ds):=by
 have low:∀(i:Nat) (m:Bool) (d:D),(dE N.length ds)[i]? = some (some (m,d))->m=false/\∃v,(cO N vs)[i]? = some (some v)/\aB K F d v:=λi m d e=>by
  unfold dE at e;unfold L2.cO;by_cases hi:i<ds.length
  . rw[aPE (by simpa using hi),aPF,aQX hi]at e
    cases e;obtain⟨v,ev,rv⟩:=r.get' (aQX hi);exact⟨rfl,v,by rw[aPE (by simpa[r.length]using hi),aPF,ev];rfl,rv⟩
  . rw[aPC (by simpa using hi),aPD]at e
    split at e <;> cases e
 refine⟨.refl s,λi m d e=>?_,λi j d d' a _ e1 _ _ _=>?_,by simp[L2.cO,dE,r.length]⟩
 . obtain⟨rfl,v,e1,rv⟩:=low i m d e;exact⟨v,e1,rv,by nofun⟩
 . have:=(low i true d e1).1;cases this
def mW(ns:List Int):List D:=[.lst (ns.map .int)]
theorem wX{K:Fg}{F:Hp}:∀ns:List Int,aC K F (ns.map D.int) (ns.map V.int)
 |[]=>aC.nil
 |n::ns=>aC.cons (by simp only[aB]) (wX ns)
def noK:Md->D->Md->D->Option (Md×D):=λ_ _ _ _=>none
abbrev fAdd:Md->D->Md->D->Option (Md×D):=orO (fI (λ_ _=>true) λi j=>.int (i+j)) (fS (λi j=>decide (i.length+j.length<=sizeLine)) λi j=>.str (i++j))
abbrev fSub:Md->D->Md->D->Option (Md×D):=fI (λ_ _=>true) λi j=>.int (i-j)
abbrev fMul:Md->D->Md->D->Option (Md×D):=orO (fI (λi j=>(bits i&&bits j)||(w64 i||w64 j)) λi j=>.int (i * j)) gR
abbrev fMod:Md->D->Md->D->Option (Md×D):=fI (λ_ j=>decide (0<j)) λi j=>.int (i % j)
abbrev fDiv:Md->D->Md->D->Option (Md×D):=fI (λ_ j=>decide (0<j)&&bits j) λi j=>.int (i / j)
abbrev fPow:Md->D->Md->D->Option (Md×D):=fI (λi j=>decide (0<=j)&&decide (j<=1000000)&&decide (i.natAbs<2 ^ 64)) λi j=>.int (i ^ j.toNat)
abbrev fLt:Md->D->Md->D->Option (Md×D):=fI (λ_ _=>true) λi j=>.bl (decide (i<j))
abbrev fLe:Md->D->Md->D->Option (Md×D):=fI (λ_ _=>true) λi j=>.bl (decide (i<=j))
abbrev fGt:Md->D->Md->D->Option (Md×D):=fI (λ_ _=>true) λi j=>.bl (decide (j<i))
abbrev fGe:Md->D->Md->D->Option (Md×D):=fI (λ_ _=>true) λi j=>.bl (decide (j<=i))
abbrev fEq:Md->D->Md->D->Option (Md×D):=orO (eqF false) noK
abbrev fNe:Md->D->Md->D->Option (Md×D):=orO (eqF true) noK
abbrev fIn:Md->D->Md->D->Option (Md×D):=fS (λ_ _=>true) λi j=>.bl (cX i j)
abbrev aGZ:Md->D->Md->D->Option (Md×D):=fS (λ_ _=>true) λi j=>.bl (!cX i j)
def IsB(φ:Md->D->Md->D->Option (Md×D)):Prop:=∀m x n y k d,φ m x n y=some (k,d)->∃t,k=.fz/\d=.bl t
def mX{c:Int->Int->Bool}{g:Int->Int->Bool}:IsB (fI c λi j=>.bl (g i j)):=λm x n y k d e=>by
 unfold fI at e;split at e
 . split at e
   . cases e;exact⟨_,rfl,rfl⟩
   . cases e
 . cases e
def wY{c:Str->Str->Bool}{g:Str->Str->Bool}:IsB (fS c λi j=>.bl (g i j)):=λm x n y k d e=>by
 unfold fS at e;split at e
 . split at e
   . cases e;exact⟨_,rfl,rfl⟩
   . cases e
 . cases e
def kP{φ ψ}(h:IsB φ)(h':IsB ψ):IsB (orO φ ψ):=λm x n y k d e=>by
 unfold orO at e;cases e1:φ m x n y with
 |none=>rw[e1]at e;exact h' _ _ _ _ _ _ e
 |some p=>rw[e1]at e;cases e;exact h _ _ _ _ _ _ e1
def wZ:IsB (eqF neg):=λm x n y k d e=>by
 unfold eqF at e;split at e
 . split at e
   . cases e;exact⟨_,rfl,rfl⟩
   . cases e
 . cases e
def pU{f:aSQ->aSQ->Sem aSQ}:OpD C X f noK:=⟨λ_ _ _ _=>False,λ_ _ _ _ _ _ _ _ _ _ _ _ h=>h.elim,λ_ _ _ _ _ _ _ _ _ _ _ _ _ _ e _=>by cases e⟩
def o_add:OpD C X (binaryOp .Add) fAdd:=aEZ.or aFB
def o_mul:OpD C X (binaryOp .Mult) fMul:=aE2.or aFS
def o_eq(hu:X.A.units+64<cLine):OpD C X (compareOp .Eq) fEq:=(aGU hu).or pU
def o_ne(hu:X.A.units+64<cLine):OpD C X (compareOp .NotEq) fNe:=(aGV hu).or pU
def phi(n N:Nat)(g:Rho->aE):List D->Res:=λds=>if ds.length=n then endR (g (dE N ds))else .stuck
def mY(scope sc:Scope):List (Str×NameKind):=scope.names.map λ(n,k)=>if(k == .free&&sc.kind == .function&&sc.names.lookup n==some .cell)then(n,.cell)else(n,k)
def aG0:bootBuiltins "len" = some (.builtin "len"):=by decide +kernel
def aG1:bootBuiltins "isinstance" = some (.builtin "isinstance"):=by decide +kernel
def aG2:bootBuiltins "all" = some (.builtin "all"):=by decide +kernel
def aG3:bootBuiltins "int" = some (.type "int"):=by decide +kernel
def aG4:bootBuiltins "bool" = some (.type "bool"):=by decide +kernel
def aG5:bootBuiltins "str" = some (.type "str"):=by decide +kernel
def aG6:bootBuiltins "tuple" = some (.type "tuple"):=by decide +kernel
def aG7:bootBuiltins "list" = some (.type "list"):=by decide +kernel
def aG8:bootBuiltins "dict" = some (.type "dict"):=by decide +kernel
structure CI where
 name:Str
 ups:List Str
 flds:List Str
 meths:List (Str×Str×Nat)
def eI:Expr->Bool|.Starred ..=>false|_=>true
def w6:Expr->Bool|.Call (.Name x _) [] [] _=>x != "super" |_=>true
def bG{x:Expr}{es:List Expr}(h:eI x=true):starEach (x::es) env=(false,eval x env)::starEach es env:=by cases x <;> first|rfl|cases h
theorem gY(pos:Pos)(env:Env):∀{es:List Expr},(∀x∈es,eI x=true)->(backTo pos (starEach es env)).any (·.1)=false
 |[],_=>rfl
 |x::es,h=>by rw[bG (h x mcs)];show((false||(backTo pos (starEach es env)).any (·.1))=false);rw[gY pos env λy hy=>h y (mcm hy)];rfl
theorem i6(pos:Pos)(env:Env):∀{es:List Expr},(∀x∈es,eI x=true)->(backTo pos (starEach es env)).all (λx=>!x.1)=true
 |[],_=>rfl
 |x::es,h=>by rw[bG (h x mcs)];show((true&&(backTo pos (starEach es env)).all (λx=>!x.1))=true);rw[i6 pos env λy hy=>h y (mcm hy)];rfl
def gZ{o:Expr}{n:Str}{w:Sem aSQ}(h:w6 o=true):attributeBase o n env w=w:=by
 cases o with
 |Call f as ks pos =>
  cases f with
  |Name x p =>
   cases as with
   |nil =>
    cases ks with
    |nil=>show(if x != "super" || n == "__class__" || env.kindOf "super" != some .globalImplicit||env.kindOf "__class__" != some .free then w else _)=w;have:(x != ("super":Str))=true:=h;rw[if_pos (by rw[this];rfl)]
    |cons _ _=>rfl
   |cons _ _=>rfl
  |_=>rfl
 |_=>rfl
structure MtV(P:aSU)(w:aST)(K:Fg)(mg:SOV)(base:Heap)(CX:CXT)(k:Nat)(c m:Str)(n:Nat)(Φ:List D->Res):Prop where
 ex:∃C f fd ps,W.nsIn K mainGlobals c=some (some (.ref C))/\Cls K C/\pD K C m f/\bM P w K mg base CX k f fd ps (spV K mg n Φ)/\cV K fd ps []
structure FlV(K:Fg)(c f:Str):Prop where
 ex:∃C,W.nsIn K mainGlobals c=some (some (.ref C))/\Cls K C/\pC K C f
def CI.meth(cl:List CI)(c m:Str):Option (Str×Nat):=match cl.find? (λi=>i.name==c)with
 |some i=>i.meths.lookup m
 |none=>none
section
variable  {o:Expr}{es:List Expr}{go:Rho->Res}{pos:Pos}{m f:Str}{Φ:Str->List D->Res}{cl:List CI}
end
def aR.mut{F:Hp}{d d':D}{a:Addr}{o:HO}(R:aR K F0 H0 F H σ ρ)(e:ρ[i]? = some (some (true,d)))(ev:σ[i]? = some (some (.ref a)))(t:Top K F (upd H a o) a d'):aR K F0 H0 F (upd H a o) σ (ρ.set i (some (true,d'))):=by
 obtain⟨v,ev',rp,hn⟩:=R.slot i true d e;rw[ev]at ev';cases ev';have h0:H0 a=none:=hn rfl a rfl;obtain⟨a',ea,hf,tt⟩:=rp;cases ea;have hl:i<ρ.length:=(aOJ.mp e).1;have st:aG F0 H0 F (upd H a o):=⟨λb u q=>by rw[aP (bV q h0)];exact R.st.same b u q,R.st.fsame,λb u q=>by rw[aP (bV q hf)];exact R.st.sub b u q,R.st.new⟩
 refine⟨st,λj m d2 e2=>?_,λj l d1 d2 b hjl e1 e2 q1 q2=>?_,by rw[aQZ];exact R.len⟩
 . by_cases hj:j=i
   . subst hj;rw[aOK hl]at e2;cases e2;exact⟨.ref a,ev,⟨a,rfl,hf,t⟩,λ_ b eb=>by cases eb;exact h0⟩
   . rw[aOL (λz=>hj z.symm)]at e2;obtain⟨u,eu,ru,hu⟩:=R.slot j m d2 e2;refine⟨u,eu,?_,hu⟩;cases m with
     |false=>exact ru
     |true =>
      obtain⟨b,eb,hb,tb⟩:=ru;subst eb;have hba:b≠a:=λz=>by subst z;exact R.apart j i d2 d b hj e2 e eu ev
      refine⟨b,rfl,hb,?_⟩;cases d2 with
      |lst ds=>obtain⟨xs,q,r⟩:=tb;exact⟨xs,by rw[aP hba];exact q,r⟩
      |dct ds=>obtain⟨xs,q,r⟩:=tb;exact⟨xs,by rw[aP hba];exact q,r⟩
      |ins c fs=>obtain⟨C,dx,gs,n,q,r⟩:=tb;exact⟨C,dx,gs,n,by rw[aP hba];exact q,r⟩
      |set ks=>obtain⟨S,q,r⟩:=tb;exact⟨S,by rw[aP hba];exact q,r⟩
      |dtn ds=>obtain⟨xs,q,r⟩:=tb;exact⟨xs,by rw[aP hba];exact q,r⟩
      |_=>exact tb.elim
 . have back:∀(l:Nat) (d2:D),(ρ.set i (some (true,d')))[l]? = some (some (true,d2))->∃d3,ρ[l]? = some (some (true,d3)):=λl d2 q=>by
     by_cases hl':l=i
     . subst hl';exact⟨d,e⟩
     . rw[aOL (λz=>hl' z.symm)]at q;exact⟨d2,q⟩
   obtain⟨d3,q3⟩:=back j d1 e1;obtain⟨d4,q4⟩:=back l d2 e2;exact R.apart j l d3 d4 b hjl q3 q4 q1 q2
def putFD(f:Str)(v:D):List (Str×D)->List (Str×D)
 |[]=>[(f,v)]
 |(g,u)::r=>if g=f then(g,v)::r else(g,u)::putFD f v r
section
variable  {pos:Pos}{f:Str}{cl:List CI}
end
structure MkV0(K:Fg)(mg:SOV)(c:Str):Prop where
 ex:∃C,W.nsIn K mainGlobals c=some (some (.ref C))/\mg c=some (.ref C)/\W.makesIn K C=true/\W.findIn K (.ref C) "__init__" = some (some (.builtin "object.__init__"))/\W.keepIn K (.ref C)=true
def spI(K:Fg)(mg:SOV)(c:Str)(n:Nat)(Φ:List D->Res):Sp:=λvs H Q E=>∃x us dx C H1 F ds,vs=.ref x::us/\us.length=n/\W.nsIn K mainGlobals c=some (some (.ref C)) /\
 H=upd (upd H1 dx (.own x)) x (.ins C dx [])/\H1 x=none/\H1 dx=none/\dx≠x/\aD F H1/\aC K F ds us/\match Φ ds with
 |.ok _ d=>∀F' H',aG F H1 F' H'->Rp K F' H' .fr d (.ref x)->Q .non H'
 |.exc c=>∀F' H' u,aG F H1 F' H'->mg c=some u->E u none H'
 |.stuck=>False
structure InV(P:aSU)(w:aST)(K:Fg)(mg:SOV)(base:Heap)(CX:CXT)(k:Nat)(c:Str)(n:Nat)(Φ:List D->Res):Prop where
 ex:∃C f fd ps,W.nsIn K mainGlobals c=some (some (.ref C))/\mg c=some (.ref C)/\Mk K C f/\bM P w K mg base CX k f fd ps (spI K mg c n Φ)/\cV K fd ps []
section
variable {es:List Expr}{pos:Pos}{c:Str}
end
structure IsV(K:Fg)(mg:SOV)(cl:List CI)(c:Str):Prop where
 ex:∃C,mg c=some (.ref C)/\(∀t∈["NoneType", "bool", "int", "str", "tuple", "list", "dict"],W.kitOne K (.type t) (.ref C)=some false) /\
  ∀i∈cl,∃C',W.nsIn K mainGlobals i.name=some (some (.ref C'))/\Cls K C'/\W.findIn K (.ref C') "__class__" = some (some (.builtin "object.__class__")) /\
   W.specialIn K (.builtin "object.__class__") "__get__" = some (some (.builtin "getset_descriptor.__get__"))/\W.takesIn K (.builtin "object.__class__")=some true/\W.mroIn K C' (.type "object")=some true /\
   W.kitOne K (.ref C') (.ref C)=some (i.ups.contains c)
section
variable  {q pos:Pos}{c:Str}{cl:List CI}
end
section
variable  {a b c:Expr}{gc:Rho->Res}{pos:Pos}
def eJ:D->Bool|.non=>true|_=>false
def w8{F:Hp}{d:D}(s:aD F H)(r:Rp K F H m d v):decide (v=.non)=eJ d:=by
 cases d with
 |non=>cases r.non;rfl
 |bl _=>cases r.bl;rfl
 |int _=>cases r.int;rfl
 |str _=>cases r.str.1;rfl
 |tup _=>obtain⟨_,_,rfl,_⟩:=r.seqT s;rfl
 |lst _=>obtain⟨_,_,rfl,_⟩:=r.seqL s;rfl
 |dct _=>obtain⟨_,_,rfl,_⟩:=r.dict s;rfl
 |ty _=>cases r.ty;rfl
 |ob _=>cases r.ob;rfl
 |ins _ _=>obtain⟨_,_,_,_,rfl,_⟩:=r.ins s;rfl
 |fn _ =>
  cases m with
  |fz=>have r:aB K F _ v:=r;simp only[aB]at r;obtain⟨_,rfl,_⟩:=r;rfl
  |fr=>obtain⟨_,_,_,q⟩:=r;exact q.elim
  |bo=>obtain⟨_,_,_,q⟩:=r;exact q.elim
 |exn _ =>
  cases m with
  |fz=>have r:aB K F _ v:=r;simp only[aB]at r;obtain⟨_,_,rfl,_⟩:=r;rfl
  |fr=>obtain⟨_,_,_,q⟩:=r;exact q.elim
  |bo=>obtain⟨_,_,_,q⟩:=r;exact q.elim
 |set _ =>
  cases m with
  |fz=>have r:aB K F _ v:=r;simp only[aB]at r;obtain⟨_,_,rfl,_⟩:=r;rfl
  |fr=>obtain⟨_,rfl,_,_⟩:=r;rfl
  |bo=>obtain⟨_,rfl,_,_⟩:=r;rfl
 |dtn _ =>
  cases m with
  |fz=>have r:aB K F _ v:=r;simp only[aB]at r;obtain⟨_,_,rfl,_⟩:=r;rfl
  |fr=>obtain⟨_,rfl,_,_⟩:=r;rfl
  |bo=>obtain⟨_,rfl,_,_⟩:=r;rfl
 |dtf _ =>
  cases m with
  |fz=>have r:aB K F _ v:=r;simp only[aB]at r;obtain⟨_,_,_,rfl,_⟩:=r;rfl
  |fr=>obtain⟨_,rfl,_,_⟩:=r;rfl
  |bo=>obtain⟨_,rfl,_,_⟩:=r;rfl
 |dcf _ =>
  cases m with
  |fz=>have r:aB K F _ v:=r;simp only[aB]at r;obtain⟨_,_,_,rfl,_⟩:=r;rfl
  |fr=>obtain⟨_,rfl,_,_⟩:=r;rfl
  |bo=>obtain⟨_,rfl,_,_⟩:=r;rfl
 |clo _ _ =>
  cases m with
  |fz=>have r:aB K F _ v:=r;simp only[aB]at r;obtain⟨_,_,_,_,_,_,_,_,_,_,rfl,_⟩:=r;rfl
  |fr=>obtain⟨_,rfl,_,_⟩:=r;rfl
  |bo=>obtain⟨_,rfl,_,_⟩:=r;rfl
noncomputable def fIs(neg:Bool):Md->D->Md->D->Option (Md×D):=λ_ x _ y=>match y with
 |.non=>some (.fz,.bl (if neg then !eJ x else eJ x))
 |_=>none
def aG9:OpD C X (compareOp .Is) (fIs false):=by
 refine⟨_,aDA,λF H m x n y v u k d Q s rx ry e w=>?_⟩;unfold fIs at e;split at e
 . cases e;cases ry.non;exact⟨rfl,by rw[w8 s rx];exact w _ F H (.refl s) (cJ _) (by nofun)⟩
 . cases e
def aHA:OpD C X (compareOp .IsNot) (fIs true):=by
 refine⟨_,aDB,λF H m x n y v u k d Q s rx ry e w=>?_⟩;unfold fIs at e;split at e
 . cases e;cases ry.non;exact⟨rfl,by rw[w8 s rx];exact w _ F H (.refl s) (cJ _) (by nofun)⟩
 . cases e
def xC:IsB (fIs neg):=λm x n y k d e=>by
 unfold fIs at e;split at e
 . cases e;exact⟨_,rfl,rfl⟩
 . cases e
theorem aHB:OpR X (binaryOp .Add) (λx y H Q=>∃l b xs ys,x=.ref l/\y=.ref b/\SqL X.K H l xs/\SqL X.K H b ys/\xs.length+ys.length<=sizeLine/\∀p,H p=none->Q (.ref p) (upd H p (.lst (xs++ys)))):=by
 intro aA s σ H x y v u Q I rx ry h;obtain⟨l,b,xs,ys,rfl,rfl,hl,hb,hz,q⟩:=h;cases rx;cases ry;obtain⟨its,r1,p1,_⟩:=I.list hl;obtain⟨its2,r2,p2,_⟩:=I.list hb;obtain⟨⟨cls,dd,data,sl⟩,n,ho,hc,hd1,hd⟩:=p1;obtain⟨⟨cls2,dd2,data2,sl2⟩,n2,ho2,hc2,hd2',hd2⟩:=p2;simp only at hc hd hc2 hd2;subst hc hd hc2 hd2;have e:its.toArray++its2.toArray=(its++its2).toArray:=by simp
 have l1:=r1.length;have l2:=r2.length;refine aPM ⟨_,ho,rfl⟩ ⟨_,ho2,rfl⟩ noFill_list_add seq_list_add PySem.F.slot_list_add PySem.F.entry_list_add (PySem.F.args_list_add_2 _ _) (list_addW l b its.toArray its2.toArray n n2 dd dd2 sl sl2 (by simp;lia)) ⟨ho,ho2,?_⟩
 rw[e];refine⟨.ref s.heap.objs.size,_,I.laid (t':=s.toks) (o:=.lst (xs++ys)) (λb ob q=>hps q) (aOY _) ?_,rfl,q _ (I.hok.fresh (aOY _))⟩;exact⟨by rw[aPH];exact hz,_,0,r1.append r2,aN6 _ rfl⟩
theorem aHC:OpR X (binaryOp .Add) (λx y H Q=>∃l b xs ys,x=.ref l/\y=.ref b/\SqT X.K H l xs/\SqT X.K H b ys/\xs.length+ys.length<=sizeLine/\(xs=[]->Q (.ref b) H)/\(xs≠[]->ys=[]->Q (.ref l) H)/\(xs≠[]->ys≠[]->∀p,H p=none->Q (.ref p) (upd H p (.tup (xs++ys))))):=by
 intro aA s σ H x y v u Q I rx ry h;obtain⟨l,b,xs,ys,rfl,rfl,hl,hb,hz,q0,q1,q2⟩:=h;cases rx;cases ry;obtain⟨its,r1,p1,_⟩:=I.tuple hl;obtain⟨its2,r2,p2,_⟩:=I.tuple hb;have n1:=r1.nil_iff;have n2:=r2.nil_iff;have l1:=r1.length;have l2:=r2.length;by_cases hv:its=[]
 . obtain⟨⟨cls,dd,data,sl⟩,ho,hc,n,hd⟩:=id p1;obtain⟨⟨cls2,dd2,data2,sl2⟩,ho2,hc2,n2',hd2⟩:=id p2;simp only at hc hd hc2 hd2;subst hc hd hc2 hd2;exact aPM ⟨_,ho,rfl⟩ ⟨_,ho2,rfl⟩ aPN seq_tuple_add aPO aPP (aPQ _ _)
     (tuple_addW0 l b its.toArray its2.toArray n n2' dd dd2 sl sl2 (by simp[hv])) ⟨ho,ho2,⟨.ref b,H,I,rfl,q0 (n1.mp hv)⟩⟩
 . refine HT.aDO p1 p2 hv (λz=>⟨.ref l,H,I,rfl,q1 (λw=>hv (n1.mpr w)) (n2.mp z)⟩) (λz=>?_) (by lia)
   refine⟨.ref s.heap.objs.size,_,I.laid (t':=s.toks) (o:=.tup (xs++ys)) (λb ob q=>hps q) (aOY _) ?_,rfl,q2 (λw=>hv (n1.mpr w)) (λw=>z (n2.mpr w)) _ (I.hok.fresh (aOY _))⟩;exact⟨by rw[aPH];exact hz,_,r1.append r2,fM.new _ _⟩
noncomputable def mZ:Md->D->Md->D->Option (Md×D):=λm x n y=>match x,y with
 |.lst xs,.lst ys=>if xs.length+ys.length<=sizeLine then some (.fr,.lst (xs++ys))else none
 |.tup xs,.tup ys=>if xs.length+ys.length<=sizeLine then some (.fz,.tup (xs++ys))else none
 |_,_=>none
def aC.nilIff{F:Hp}(h:aC K F ds xs):xs=[]↔ds=[]:=by
 have:=h.length;constructor
 . intro e;subst e;cases ds with|nil=>rfl|cons _ _=>simp at this
 . intro e;subst e;cases xs with|nil=>rfl|cons _ _=>simp at this
def aHD:OpD C X (binaryOp .Add) mZ:=by
 refine⟨_,aHB.or aHC,λF H m x n y v u k d Q s rx ry e w=>?_⟩;unfold mZ at e;split at e
 . rename_i xs ys;split at e
   . rename_i hz;cases e;obtain⟨a,us,rfl,q1,r1⟩:=rx.seqL s;obtain⟨b,vs,rfl,q2,r2⟩:=ry.seqL s;refine .inl ⟨a,b,us,vs,rfl,rfl,q1,q2,by rw[r1.length,r2.length];exact hz,λp hp=>?_⟩
     exact w (.ref p) F _ (aG.fresh _ s hp) ⟨p,rfl,s.free hp,_,bE,r1.append r2⟩ λ_ a ea=>by cases ea;exact hp
   . cases e
 . rename_i xs ys;split at e
   . rename_i hz;cases e;have ex:=rx;have ey:=ry;obtain⟨a,us,rfl,q1,r1⟩:=rx.seqT s;obtain⟨b,vs,rfl,q2,r2⟩:=ry.seqT s;have fz:∀{m:Md}{zs:List D}{c:Addr},Rp X.K F H m (.tup zs) (.ref c)->aB X.K F (.tup zs) (.ref c):=λ{m zs c} h=>by
       cases m with
       |fz=>exact h
       |fr=>obtain⟨_,_,_,q⟩:=h;exact q.elim
       |bo=>obtain⟨_,_,_,q⟩:=h;exact q.elim
     refine .inr ⟨a,b,us,vs,rfl,rfl,q1,q2,by rw[r1.length,r2.length];exact hz,λz=>?_,λ_ z=>?_,λ_ _ p hp=>?_⟩
     . have:xs=[]:=r1.nilIff.mp z;subst this;exact w (.ref b) F H (.refl s) (fz ey) (by nofun)
     . have:ys=[]:=r2.nilIff.mp z;subst this;rw[aO7]at w;exact w (.ref a) F H (.refl s) (fz ex) (by nofun)
     . exact w (.ref p) _ _ (aG.laid (.tup (us++vs)) s hp) (aB.tup_of (s.free hp) (r1.append r2)) (by nofun)
   . cases e
 . cases e
def cS:D->Bool|.non|.bl _|.int _|.str _=>true|_=>false
noncomputable def eqD:D->D->Bool
 |.non,.non=>true
 |.bl a,.bl b=>a==b
 |.bl a,.int b=>(if a then 1 else 0)==b
 |.int a,.bl b=>a==(if b then 1 else 0)
 |.int a,.int b=>a==b
 |.str a,.str b=>a==b
 |_,_=>false
noncomputable def i7(neg:Bool):Md->D->Md->D->Option (Md×D):=λ_ x _ y=>match y with
 |.lst ys=>if(cS x&&ys.all cS)=true then some (.fz,.bl (if neg then !(ys.any λy=>eqD y x)else(ys.any λy=>eqD y x)))else none
 |.tup ys=>if(cS x&&ys.all cS)=true then some (.fz,.bl (if neg then !(ys.any λy=>eqD y x)else(ys.any λy=>eqD y x)))else none
 |_=>none
def vOf:D->V|.non=>.non|.bl b=>.bl b|.int i=>.int i|.str x=>.str x|_=>.non
def pV{F:Hp}{d:D}(h:cS d=true)(r:Rp K F H m d v):v=vOf d:=by
 cases d with
 |non=>exact r.non
 |bl _=>exact r.bl
 |int _=>exact r.int
 |str _=>exact r.str.1
 |_=>cases h
theorem pW{K:Fg}{F:Hp}:∀{ds:List D}{xs:List V},ds.all cS=true->aC K F ds xs->xs=ds.map vOf
 |[],_,_,r=>by simp only[aC]at r;exact r
 |d::ds,_,h,r=>by simp only[aC]at r;obtain⟨y,ys,rfl,r1,r2⟩:=r;rw[aP2,aPY]at h;rw[aQD,pV (H:=F) (m:=.fz) h.1 r1,pW h.2 r2]
def pX{d:D}(h:cS d=true):eS (vOf d)=true:=by cases d <;> first|rfl|cases h
def aHE{x y:D}(hx:cS x=true)(hy:cS y=true):eqV (vOf x) (vOf y)=eqD x y:=by cases x <;> cases y <;> first|rfl|(cases hx;done)|(cases hy;done)
theorem pY{x:D}(hx:cS x=true):∀{ds:List D},ds.all cS=true->inV (vOf x) (ds.map vOf)=ds.any λy=>eqD y x
 |[],_=>rfl
 |d::ds,h=>by rw[aP2,aPY]at h;show(eqV (vOf d) (vOf x)||inV (vOf x) (ds.map vOf))=(eqD d x||ds.any _);rw[aHE h.1 hx,pY hx h.2]
theorem pZ:∀{ds:List D},ds.all cS=true->(ds.map vOf).all eS=true
 |[],_=>rfl
 |d::ds,h=>by rw[aP2,aPY]at h;rw[aQD,aP2,pX h.1,pZ h.2];rfl
def xD{f:aSQ->aSQ->Sem aSQ}(o:OpR X f (rIn X.K neg)):OpD C X f (i7 neg):=by
 refine⟨_,o,λF H m x n y v u k d Q s rx ry e w=>?_⟩;unfold i7 at e;split at e
 . rename_i ys;split at e
   . rename_i hf;rw[aPY]at hf;cases e;obtain⟨b,vs,rfl,q2,r2⟩:=ry.seqL s;have ev:=pV hf.1 rx;have es:=pW hf.2 r2;subst ev;subst es;exact⟨b,_,rfl,.inl q2,pX hf.1,pZ hf.2,by rw[pY hf.1 hf.2];exact w _ F H (.refl s) (cJ _) (by nofun)⟩
   . cases e
 . rename_i ys;split at e
   . rename_i hf;rw[aPY]at hf;cases e;obtain⟨b,vs,rfl,q2,r2⟩:=ry.seqT s;have ev:=pV hf.1 rx;have es:=pW hf.2 r2;subst ev;subst es;exact⟨b,_,rfl,.inr q2,pX hf.1,pZ hf.2,by rw[pY hf.1 hf.2];exact w _ F H (.refl s) (cJ _) (by nofun)⟩
   . cases e
 . cases e
def xE:IsB (i7 neg):=λm x n y k d e=>by
 unfold i7 at e;split at e
 . split at e
   . cases e;exact⟨_,rfl,rfl⟩
   . cases e
 . split at e
   . cases e;exact⟨_,rfl,rfl⟩
   . cases e
 . cases e
def i8:List (Md×D)->Option (Md×D)
 |[(_,.lst ds)]=>some (.fz,.tup ds)
 |[(.fz,.tup ds)]=>some (.fz,.tup ds)
 |_=>none
def i9:List (Md×D)->Option (Md×D)
 |[(_,.lst ds)]=>some (.fr,.lst ds)
 |[(_,.tup ds)]=>some (.fr,.lst ds)
 |_=>none
def qA:List (Md×D)->Option (Md×D)
 |[(_,.int i)]=>some (.fz,.int i)
 |[(_,.bl b)]=>some (.fz,.int (if b then 1 else 0))
 |_=>none
def eV(i:Int):Bool:=decide (i.natAbs.log2<1920)
noncomputable def bT(i:Int):Str:=Str.ofString (toString i)
def kQ:List (Md×D)->Option (Md×D)
 |[(_,.int i)]=>if eV i=true then some (.fz,.str (bT i))else none
 |_=>none
def aHF:dM X (.type "tuple") i8:=by
 refine⟨_,aD9,λF H xs vs k d Q s rx e w=>?_⟩;unfold i8 at e;split at e
 . rename_i m ds;cases e;obtain⟨v,rfl,r⟩:=rx.one;obtain⟨a,xs,rfl,q,rl⟩:=r.seqL s;exact⟨a,xs,rfl,.inl ⟨q,λl hl=>w (.ref l) _ _ (aG.laid (.tup xs) s hl) (aB.tup_of (s.free hl) rl) (by nofun)⟩⟩
 . rename_i ds;cases e;obtain⟨v,rfl,r⟩:=rx.one;have r0:=r;obtain⟨a,xs,rfl,q,rl⟩:=r.seqT s;exact⟨a,xs,rfl,.inr ⟨q,w (.ref a) F H (.refl s) r0 (by nofun)⟩⟩
 . cases e
def aHG:dM X (.type "list") i9:=by
 refine⟨_,aD8,λF H xs vs k d Q s rx e w=>?_⟩;unfold i9 at e;split at e
 . rename_i m ds;cases e;obtain⟨v,rfl,r⟩:=rx.one;obtain⟨a,xs,rfl,q,rl⟩:=r.seqL s;exact⟨a,xs,rfl,.inl q,λl hl=>w (.ref l) F _ (aG.fresh _ s hl) ⟨l,rfl,s.free hl,xs,bE,rl⟩ λ_ a ea=>by cases ea;exact hl⟩
 . rename_i m ds;cases e;obtain⟨v,rfl,r⟩:=rx.one;obtain⟨a,xs,rfl,q,rl⟩:=r.seqT s;exact⟨a,xs,rfl,.inr q,λl hl=>w (.ref l) F _ (aG.fresh _ s hl) ⟨l,rfl,s.free hl,xs,bE,rl⟩ λ_ a ea=>by cases ea;exact hl⟩
 . cases e
def aHH:dM X (.type "int") qA:=by
 refine⟨_,aDJ,λF H xs vs k d Q s rx e w=>?_⟩;unfold qA at e;split at e
 . cases e;obtain⟨v,rfl,r⟩:=rx.one;cases r.int;exact .inl ⟨_,rfl,w _ F H (.refl s) (dC _) (by nofun)⟩
 . cases e;obtain⟨v,rfl,r⟩:=rx.one;cases r.bl;exact .inr ⟨_,rfl,w _ F H (.refl s) (dC _) (by nofun)⟩
 . cases e
def jA:List (Md×D)->Option (Md×D)
 |[(_,.int i),(_,.int j)]=>some (.fz,.int (if j > i then j else i))
 |_=>none
def aHI(hc:X.calm=true):dM X (.builtin "max") jA:=by
 refine⟨_,aDI hc,λF H xs vs k d Q s rx e w=>?_⟩;unfold jA at e;split at e
 . cases e;obtain⟨v,u,rfl,r,r'⟩:=rx.two;cases r.int;cases r'.int;exact⟨_,_,rfl,w _ F H (.refl s) (dC _) (by nofun)⟩
 . cases e
end
theorem xF(i:Int):PyData.strOk (Str.ofString (toString i))=true:=by
 unfold PyData.strOk;rw[aQK];intro c hc;have hc':c∈(Str.ofString (toString i)).cps.toList:=by rw[aQL];exact hc
 have:¬ (c≠45/\(c<48\/57<c)):=λh=>int_text_free' c h i hc';have hb:c<58:=by lia
 simp;lia
theorem aHJ:dM X (.type "str") kQ:=by
 refine⟨_,aDK,λF H xs vs k d Q s rx e w=>?_⟩;unfold kQ at e;split at e
 . rename_i m i;split at e
   . rename_i hs;cases e;obtain⟨v,rfl,r⟩:=rx.one;cases r.int;have hl:i.natAbs.log2<1920:=aQI hs;have h1:(bT i).length<=1921:=int_text_len_1921 hl;have hz:sizeLine=16777216:=aO3;exact⟨i,rfl,hl,w _ F H (.refl s) (dU ⟨by lia,xF i⟩) (by nofun)⟩
   . cases e
 . cases e
def aHK:bootBuiltins "max" = some (.builtin "max"):=by decide +kernel
def aHL{T:String}{φ}{es:List Expr}{pos:Pos}(o:dM X (.type T) φ)(hg:Gl X x)(hm:X.mg x=none)(hv:bootBuiltins x=some (.type T))(ha:PAv C X (e::es) gs)(hn:x ≠ "__name__")(hdb:(x==("__debug__":Str))=false)(hst:∀x∈e::es,eI x=true):PV C X (.Call (.Name x p) (e::es) [] pos) (λρ=>cY φ (gs ρ)):=by obtain⟨r,h1,h2⟩:=o;exact PE.imp (aDN h1 hg hm hv ha hn hdb (bG (hst e mcs)) (gY _ _ λy hy=>hst y (mcm hy))) λσ H Q q=>wK h2 q
section
variable {w:aST}{A:aSS}{E:VSP}{s:aSR}
theorem aHM{l:Addr}{Q:List aSQ->aSR->Prop}(hA:A.handled=none)(ht:s.heap.IsList l items)(h:∀h',Heap.ExtBut s.heap.objs.size s.heap h'->∀tk,Q items.toList {s with heap:=h',toks:=tk}):wpAny (model prog w) A (unpackItems (.ref l) items.size none) Q E s:=by
 unfold unpackItems notIterableAtAll;refine aOW (aOW (wpAny_specialOf ht.typeIs PySem.F.slot_list_iter.lookup ?_));refine aOV ?_;dsimp only;rw[if_neg aOU];refine aOW (aPW (aOX ht ?_));have hlt:l<s.heap.objs.size:=by obtain⟨o,e,_⟩:=ht;exact aN7 e
 have hne:l≠s.heap.objs.size:=aOA hlt;have keep:∀b o,s.heap.get? b=some o->(s.heap.push { cls:=Value.type "list_iterator", data:=Data.fields #[Value.ref l,Value.int 0 0] }).get? b=some o:=λb o q=>hps q;have ht':(s.heap.push { cls:=Value.type "list_iterator", data:=Data.fields #[Value.ref l,Value.int 0 0] }).IsList l items:=by obtain⟨o,e,c⟩:=ht;exact⟨o,keep l o e,c⟩
 have hi':(s.heap.push { cls:=Value.type "list_iterator", data:=Data.fields #[Value.ref l,Value.int 0 0] }).IsListIter s.heap.objs.size l 0:=⟨_,aN6 _ rfl,rfl,rfl⟩;refine aOW (aPW (W.kun_draw hne items.size 0 _ _ hi' ht' (by lia) λh' hi hsb=>?_))
 have ei:List.take items.size (List.drop 0 items.toList)=items.toList:=by rw[aRC];exact aRD (by simp)
 rw[ei];rw[if_neg (by simp)]
 have hl2:h'.IsList l items:=by obtain⟨o,e,c⟩:=ht';exact⟨o,by rw[hsb.2 l hne];exact e,c⟩
 rw[aRE]at hi;refine aOW (aPW ((Walks.list hA s.heap.objs.size l hne items).done _ _ _ ⟨hi,hl2⟩ λh2 tk k2=>?_));rw[if_neg (by simp)]
 refine aOV (h h2 (λb o hb e=>k2 b o (by simpa using hb) ?_) tk)
 show h'.get? b=some o;rw[hsb.2 b hb];exact keep b o e
def aHN{elts:List Expr}{pos:Pos}{l:Addr}(hA:A.handled=none)(ht:s.heap.IsList l items)(hn:(assignEach elts env).length=items.size)(hst:(assignEach elts env).findIdx? (·.1)=none)(h:∀h',Heap.ExtBut s.heap.objs.size s.heap h'->∀tk,wpAny (model prog w) A (assignInOrder ((assignEach elts env).map (·.2)) items.toList) Q E {s with heap:=h',toks:=tk}):wpAny (model prog w) A (assign (.Tuple elts k pos) env (.ref l)) Q E s:=by rw[assign_Tuple];refine aOW (wpAny_standAt ?_);unfold unpack;rw[hst,hn];exact aOW (aPW (aHM hA ht h))
def aHO{t sl:Addr}{vl vu:aSQ}{Q:VSP}(ht:IsTup s.heap t items)(hs:s.heap.IsSliceOf sl vl vu .none)(pl:IsPart vl lo)(pu:IsPart vu hi)(h0:HT.sIx items.size 0 lo=0)(h1:HT.sIx items.size items.size hi=items.size)(h:Q (.ref t) s):wpAny (model prog w) A (getItem (.ref t) (.ref sl)) Q E s:=by
 obtain⟨os,hos,hcs,hds⟩:=id hs;have tS:s.TypeIs (.ref sl) "slice" := ⟨os,hos,hcs⟩;unfold getItem
 try with_reducible refine aPW ?_
 first|refine aOW (aOV ?_)|skip
 refine aOW (wpAny_sequenceKey ht.typeIs (by decide) (aOW (wpAny_callSpecial?_slot (name:=Str.ofString "__getitem__") ht.typeIs aPX (wpAny_call_entry aPX ht.typeIs entry_tuple_getitem ?_ (args_tuple_getitem _ _)))))
 show wpAny _ _ (Builtin.Tuple.tupleItemsOf (.ref t)>>=_) _ _ s;refine aOW (tupleItemsOf_ ht (aOW (wpAny_typeOf tS ?_)));rw[if_pos (by decide)]
 refine aOW (HT.vQ hs pl pu ?_);have yes:(((HT.sIx items.size 0 lo:Nat):Int)==0&&(1:Int)==1&&(HT.sIx items.size items.size hi-HT.sIx items.size 0 lo)==items.size)=true:=by rw[h0,h1];simp
 show wpAny _ _ (if(((HT.sIx items.size 0 lo:Nat):Int)==0&&(1:Int)==1&&(HT.sIx items.size items.size hi-HT.sIx items.size 0 lo)==items.size)=true then _ else _) _ _ s;rw[if_pos yes];unfold Builtin.Tuple.tupleIsExact;refine aOW (aOW (wpAny_typeOf ht.typeIs (aOV ?_)));rw[if_pos (by decide)]
 refine aOW (wpAny_rule ?_)
 first
  |exact aOV ⟨_,rfl,aOV h⟩
  |exact⟨_,rfl,aOV h⟩
end
section
variable {pos:Pos}
def rSlW(K:Fg):V->Option Int->Option Int->Hp->VK->Prop:=λx lo hi H Q=>∃a xs,x=.ref a/\SqT K H a xs/\(HT.sIx xs.length 0 lo=0/\HT.sIx xs.length xs.length hi=xs.length)/\Q x H
def aHP:SlR X (rSlW X.K):=by
 intro aA s σ H x v vl vu lo hi sl Q I rx hs pl pu h;obtain⟨a,xs,rfl,hx,hw,q⟩:=h;cases rx;obtain⟨its,r,ht,hz⟩:=I.tuple hx;have hlen:its.toArray.size=xs.length:=by rw[aO4];exact r.length.symm
 exact⟨"tuple", _,PyProof.Rows.slot_tuple_getitem.lookup,ht.typeIs,aHO ht hs pl pu (by rw[hlen];exact hw.1) (by rw[hlen];exact hw.2) ⟨.ref a,H,I,rfl,q⟩⟩
def gSeq(K:Fg)(n:Nat)(t:TGs):TG:=λv σ H Q=>∃a xs,v=.ref a/\(SqT K H a xs\/SqL K H a xs)/\xs.length=n/\t xs σ H Q
def aHQ{es:List Expr}{t:TGs}(hc:X.calm=true)(h:PGs X es t)(hn:(assignEach es X.env).length=n)(hst:(assignEach es X.env).findIdx? (·.1)=none):PG X (.Tuple es k pos) (gSeq X.K n t):=by
 intro aA s σ H v u Q I r hw;obtain⟨a,xs,e1,hq,hl,hw⟩:=hw;rcases hq with hq|hq
 . exact aCS hc h hn hst aA s σ H v u Q I r ⟨a,xs,e1,hq,hl,hw⟩
 . subst e1;cases r;obtain⟨its,rv,ht,hz⟩:=I.list hq;refine aHN (I.ok.hd hc) ht.isList (by simp[hn,<- hl,rv.length]) hst λh' hx tk=>?_
   have I1:Inv X aA σ H {s with heap:=h',toks:=tk}:=I.kept (t':=tk) λb o e=>hx b o (aOA (aN7 e)) e
   exact h aA _ σ H xs _ Q I1 (by simpa using rv) hw
end
inductive Tg where
 |nm (i:Nat)|tp (ts:List Tg)
mutual
def a9:Tg->D->Rho->Option Rho
 |.nm i,d,ρ=>some (ρ.set i (some (false,d)))
 |.tp ts,d,ρ=>match d with
  |.tup ds=>cZ ts ds ρ
  |.lst ds=>cZ ts ds ρ
  |_=>none
def cZ:List Tg->List D->Rho->Option Rho
 |[],ds,ρ=>if ds.isEmpty then some ρ else none
 |t::ts,ds,ρ=>match ds with
  |d::ds=>(match a9 t d ρ with|some ρ1=>cZ ts ds ρ1|none=>none)
  |[]=>none
end
mutual
def fF:Tg->List Nat
 |.nm i=>[i]
 |.tp ts=>m5 ts
def m5:List Tg->List Nat
 |[]=>[]
 |t::ts=>fF t++m5 ts
end
mutual
def gOf(K:Fg):Tg->TG
 |.nm i=>l4 i
 |.tp ts=>gSeq K ts.length (fV K ts)
def fV(K:Fg):List Tg->TGs
 |[]=>gNil
 |t::ts=>uX (gOf K t) (fV K ts)
end
def PGw(X:Cx)(tg:Expr)(t:Tg):Prop:=PG X tg (gOf X.K t)
def g9(X:Cx)(tgs:List Expr)(ts:List Tg):Prop:=PGs X tgs (fV X.K ts)
def fW:Expr->Bool|.Starred ..=>false|_=>true
def qB{es:List Expr}(h:fW e=true):assignEach (e::es) env=(false,assign e env)::assignEach es env:=by cases e <;> first|rfl|cases h
theorem qC:∀{ts:List Tg}{ds:List D}{ρ ρ':Rho},cZ ts ds ρ=some ρ'->ds.length=ts.length
 |[],ds,ρ,ρ',e=>by
  simp only[cZ]at e;split at e
  . rename_i h;have:ds=[]:=by simpa using h
    subst this;rfl
  . cases e
 |t::ts,ds,ρ,ρ',e=>by
  simp only[cZ]at e;split at e
  . split at e
    . rw[aQB,aQB,qC e]
    . cases e
  . cases e
mutual
theorem kR{K:Fg}{F0 H0:Hp}:∀(t:Tg) {F H:Hp}{σ:L2.St}{ρ ρ':Rho}{d:D}{v:V}{Q:L2.St->Hp->Prop},aR K F0 H0 F H σ ρ->aB K F d v->a9 t d ρ=some ρ'->(∀σ',aR K F0 H0 F H σ' ρ'->σ'.length=σ.length->(∀j,j∉fF t->σ'[j]? = σ[j]?)->Q σ' H)->gOf K t v σ H Q
 |.nm i,F,H,σ,ρ,ρ',d,v,Q,R,r,e,w=>by
  simp only[a9]at e;cases e;simp only[gOf];refine w _ (R.set (m:=false) (.refl R.sub) r (by nofun)) (by rw[aQZ]) λj hj=>?_
  simp only[fF,aRF]at hj;rw[aOL (λz=>hj z.symm)]
 |.tp ts,F,H,σ,ρ,ρ',d,v,Q,R,r,e,w=>by
  simp only[a9]at e;split at e
  . rename_i ds;simp only[aB]at r;obtain⟨a,xs,rfl,hq,rl⟩:=r;simp only[gOf];refine⟨a,xs,rfl,.inl (aD.seqT R.sub hq),by rw[rl.length];exact qC e,qD ts R rl e ?_⟩
    simp only[fF]at w;exact w
  . rename_i ds;simp only[aB]at r;obtain⟨a,xs,rfl,hq,rl⟩:=r;simp only[gOf];refine⟨a,xs,rfl,.inr (R.sub.seq hq),by rw[rl.length];exact qC e,qD ts R rl e ?_⟩
    simp only[fF]at w;exact w
  . cases e
theorem qD{K:Fg}{F0 H0:Hp}:∀(ts:List Tg) {F H:Hp}{σ:L2.St}{ρ ρ':Rho}{ds:List D}{vs:List V}{Q:L2.St->Hp->Prop},aR K F0 H0 F H σ ρ->aC K F ds vs->cZ ts ds ρ=some ρ'->(∀σ',aR K F0 H0 F H σ' ρ'->σ'.length=σ.length->(∀j,j∉m5 ts->σ'[j]? = σ[j]?)->Q σ' H)->fV K ts vs σ H Q
 |[],F,H,σ,ρ,ρ',ds,vs,Q,R,r,e,w=>by
  simp only[cZ]at e;split at e
  . cases e;rename_i hd;have:ds=[]:=by simpa using hd
    subst this;simp only[aC]at r;simp only[fV];exact⟨r,w σ R rfl λ_ _=>rfl⟩
  . cases e
 |t::ts,F,H,σ,ρ,ρ',ds,vs,Q,R,r,e,w=>by
  simp only[cZ]at e;split at e
  . rename_i d ds';split at e
    . rename_i ρ1 e1;simp only[aC]at r;obtain⟨y,ys,rfl,r1,r2⟩:=r;simp only[fV];refine⟨y,ys,rfl,kR t R r1 e1 λσ1 R1 l1 k1=>qD ts R1 r2 e λσ2 R2 l2 k2=>w σ2 R2 (l2.trans l1) λj hj=>?_⟩;simp only[m5,aOH,not_or]at hj;rw[k2 j hj.2,k1 j hj.1]
    . cases e
  . cases e
end
section
variable {pos:Pos}
def aHR(hN:X.N.Nodup)(hi:X.N[i]? = some x)(hx:L2.Loc X.env.scope x)(hf:X.fn x=true\/X.env.scope.names.lookup x=some .local):PGw X (.Name x pos) (.nm i):=by unfold PGw;simp only[gOf];exact aCP hN hi hx hf
def aHS:g9 X [] []:=by unfold g9;simp only[fV];exact aCQ
def aHT{es:List Expr}{t:Tg}{ts:List Tg}(h1:PGw X e t)(h2:g9 X es ts)(hs:fW e=true):g9 X (e::es) (t::ts):=by unfold g9;simp only[fV];exact aCR h1 h2 (by rw[qB hs];rfl)
def aHU{es:List Expr}(hs:∀e∈es,fW e=true):(assignEach es env).length=es.length/\(assignEach es env).findIdx? (·.1)=none:=by
 induction es with
 |nil=>exact⟨rfl,rfl⟩
 |cons e es ih =>
  obtain⟨h1,h2⟩:=ih λx hx=>hs x (mcm hx);rw[qB (hs e mcs)];refine⟨by rw[aQB,aQB,h1],?_⟩
  rw[List.findIdx?_cons];simp[h2]
def aHV{es:List Expr}{ts:List Tg}(hc:X.calm=true)(h:g9 X es ts)(hs:∀e∈es,fW e=true)(hl:es.length=ts.length):PGw X (.Tuple es k pos) (.tp ts):=by have st:=aHU (env:=X.env) hs;unfold PGw;simp only[gOf];exact aHQ (n:=ts.length) hc h (by rw[st.1,hl]) st.2
def aHW{t:Tg}(h:PGw X tg t):PGv C X tg (a9 t) :=
 ⟨_,h,λF H σ ρ ρ' d v Q R r e w=>kR t R r e λσ' R' _ _=>w σ' F H (aD.refl _) R'⟩
def m6(t:Tg)(ρ:Rho)(r:Res):aE:=(bR r).thS ρ λm d=>match m with|.fz=>(match a9 t d ρ with|some ρ'=>.nx ρ'|none=>.stuck)|_=>.stuck
def aHX{t:Tg}(he:PV C X e g)(hg:PGw X tg t)(hs:swapsWithSole [tg] e pos.line X.env=pure false)(hw:swappedStores [tg] e X.env=pure none)(hst:fW tg=true):PSv C X (.Assign [tg] e pos) (λρ=>m6 t ρ (g ρ)):=by
 refine PS.imp (aCT (kI he) hg hs hw (by rw[qB hst];rfl)) λEn σ H qq=>?_
 obtain⟨ρ,F,R,w⟩:=qq;unfold m6 at w;refine i3 R w λm d v F' H' w' s R' rp fr=>?_;cases m with
 |fr=>exact(show False from w').elim
 |bo=>exact(show False from w').elim
 |fz =>
 cases eg:a9 t d ρ with
 |none=>rw[eg]at w';exact(show False from w').elim
 |some ρ'=>rw[eg]at w';have rv:aB X.K F' d v:=rp;exact kR t R' rv eg λσ' R'' _ _=>w' σ' F' H' (aD.refl _) R''
noncomputable def c8(t:Rho->Res)(b:Rho->aE):Nat->Rho->aE
 |0,_=>.stuck
 |n+1,ρ=>(t ρ).thS ρ λ_ d=>match d with
  |.bl true=>(match b ρ with
   |.nx ρ'=>c8 t b n ρ'
   |.ct ρ'=>c8 t b n ρ'
   |.bk ρ'=>.nx ρ'
   |r=>r)
  |.bl false=>.nx ρ
  |_=>.stuck
def aHY{c:Expr}{t:Rho->Res}{b:Rho->aE}(n:Nat)(hp:PassesOwn (model X.prog X.w) X.A X.env X.xe)(hc:PTv C X c t)(hb:PBv C X body b):PSv C X (.While c body [] pos) (c8 t b n):=by
 refine PS.imp (aCV hp hc hb) λEn σ H q=>?_;obtain⟨ρ,F,R,w⟩:=q;refine⟨λm σ H=>∃ρ F,aR X.K C.F0 C.H0 F H σ ρ/\bK (C.at X) F (c8 t b m ρ) En,⟨n,ρ,F,R,w⟩,?_⟩;rintro m σ H ⟨ρ,F,R,w⟩;refine⟨ρ,F,R,?_⟩;cases m with
 |zero=>exact w.elim
 |succ m =>
  unfold c8 at w;cases et:t ρ with
  |stuck=>rw[et]at w;exact w
  |exc c=>rw[et]at w;exact λF' H' s=>w σ F' H' s.fsame (R.step s)
  |ok md d =>
   rw[et]at w;cases d with
   |bl k =>
    intro F' H' s;cases k with
    |false=>rw[if_neg aOU];exact w σ F' H' s.fsame (R.step s)
    |true =>
     rw[if_pos rfl];have w:bK (C.at X) F (match b ρ with|.nx ρ'=>c8 t b m ρ'|.ct ρ'=>c8 t b m ρ'|.bk ρ'=>.nx ρ'|r=>r) En:=w
     refine⟨λσ' H'=>∃ρ F,aR X.K C.F0 C.H0 F H' σ' ρ/\bK (C.at X) F (c8 t b m ρ) En,λσ' H' h=>⟨m,Nat.lt_succ_self _,h⟩,ρ,F',R.step s,?_⟩;cases eb:b ρ with
     |nx ρ'=>rw[eb]at w;exact λσ2 F2 H2 z R2=>⟨ρ',F2,R2,bK.mono (s.fsame.trans z) w⟩
     |ct ρ'=>rw[eb]at w;exact λσ2 F2 H2 z R2=>⟨ρ',F2,R2,bK.mono (s.fsame.trans z) w⟩
     |bk ρ'=>rw[eb]at w;exact λσ2 F2 H2 z R2=>w σ2 F2 H2 (s.fsame.trans z) R2
     |rt md d=>rw[eb]at w;exact w
     |exc c ρ'=>rw[eb]at w;exact λσ2 F2 H2 z R2=>w σ2 F2 H2 (s.fsame.trans z) R2
     |stuck=>rw[eb]at w;exact w.elim
   |_=>exact w.elim
end
section
variable  {pos:Pos}
theorem aHZ{t:Tg}{gt ge:Rho->Res}(hsl:∀j∈fF t,caps.length<=j){Q:VK}(q:tG (C.at X) (λρ=>dP (gi ρ) ρ caps tgN.length (a9 t) gt ge) σ H Q):mS caps tgN.length (tIv (C.at X) gi) (gOf X.K t) (tT (C.nox.at X) gt) (tG (C.nox.at X) λρ=>bR (ge ρ)) σ H Q:=by
 rw[aZ]at q;obtain⟨ρ,F,RS,w⟩:=q;unfold mS;refine⟨ρ,F,RS,?_⟩;cases er:gi ρ with
 |stuck=>rw[er]at w;exact w
 |exc c=>rw[er]at w;exact w
 |ok m d =>
  rw[er]at w;cases d with
  |lst ds =>
   unfold dP at w;rw[Res.thn_ok]at w;dsimp only at w;split at w
   . rename_i hsz;intro J F1 H1 s1 hJ Da hDa;cases et:eG (a9 t) gt ge (cM caps ρ++List.replicate tgN.length none) ds with
     |none=>rw[et]at w;exact w.elim
     |some total =>
      rw[et]at w;have hD0:H Da=none:=s1.same.free hDa;have hF1:F1 Da=none:=s1.sub.free hDa;have R0:=aGT caps tgN.length RS;refine⟨λi m ys H'=>m=ds.length-i/\i<=ds.length/\H' Da=some (.lst ys)/\∃F' zs,aG F H F' H'/\aD F1 F'/\F' Da=none/\aC X.K F' zs ys/\zs.length<=i /\
       ∃rest,eG (a9 t) gt ge (cM caps ρ++List.replicate tgN.length none) (ds.drop i)=some rest/\total=zs++rest,
       ⟨ds.length,by simp,aQF _,bE,F1,[],s1.upd hD0 hF1,aD.refl _,hF1,aC.nil,aOY _,total,by simpa using et,rfl⟩,?_⟩
      rintro i m ys H' ⟨rfl,hile,hD,F',zs,st,sF,hFD,rz,hzl,rest,ec,etot⟩;refine⟨hD,?_⟩;by_cases hlt:i<ds.length
      . refine .inr ⟨hJ.go i H' (sF.trans st.sub) hlt,by rw[rz.length];lia,λv H2 y=>?_⟩
        obtain⟨F2,d,ed,s2,rd⟩:=hJ.yld i F' H' v H2 sF st.sub hlt y;have hd:ds.drop i=d::ds.drop (i+1):=by rw[aQ3 hlt];rw[aQX hlt]at ed;cases ed;rfl
        rw[hd]at ec;unfold eG at ec;have hD2:H2 Da=some (.lst ys):=s2.same _ _ hD;have hF2:F2 Da=none:=s2.new _ hFD (by rw[hD];exact λz=>nomatch z)
        cases eg:a9 t d (cM caps ρ++List.replicate tgN.length none)with
        |none=>rw[eg]at ec;cases ec
        |some ρ1 =>
        rw[eg]at ec;dsimp only at ec;have R2:=(R0.step st).step s2;refine kR t R2 rd eg λσ1 R1 len1 keep1=>?_;refine⟨⟨len1.symm,λj u ej=>?_⟩,ρ1,F2,R1,?_⟩
        . by_cases hj:j∈fF t
          . have:=hsl j hj;rw[aPC (by simpa[dO]using this),aPD]at ej
            split at ej <;> cases ej
          . rw[keep1 j hj];exact ej
        cases ett:gt ρ1 with
        |stuck=>rw[ett]at ec;cases ec
        |exc c=>rw[ett]at ec;cases ec
        |ok mt dt =>
         cases dt with
         |bl b =>
          rw[ett]at ec;intro F3 H3 s3;have hD3:H3 Da=some (.lst ys):=s3.same _ _ hD2;have hF3:F3 Da=none:=s3.new _ hF2 (by rw[hD2];exact λz=>nomatch z)
          cases b with
          |false=>rw[if_neg aOU];exact⟨ds.length-(i+1),by lia,rfl,hlt,hD3,F3,zs,(st.trans s2).trans s3,(sF.trans s2.fsame).trans s3.fsame,hF3,rz.mono (s2.fsame.trans s3.fsame) _ _,Nat.le_succ_of_le hzl,rest,ec,etot⟩
          |true =>
           rw[if_pos rfl,aZ];refine⟨_,F3,R1.step s3,?_⟩;dsimp only at ec;cases ee:bR (ge ρ1)with
           |stuck=>rw[ee]at ec;cases ec
           |exc c=>rw[ee]at ec;cases ec
           |ok me ye =>
            rw[ee]at ec;dsimp only at ec;have hme:me=.fz:=by
             cases h:ge ρ1 with
             |ok m' d'=>rw[h]at ee;cases m' <;> cases ee <;> rfl
             |exc c=>rw[h]at ee;cases ee
             |stuck=>rw[h]at ee;cases ee
            subst hme;cases er2:eG (a9 t) gt ge (cM caps ρ++List.replicate tgN.length none) (ds.drop (i+1))with
            |none=>rw[er2]at ec;cases ec
            |some rest' =>
             rw[er2]at ec;cases ec;intro u F4 H4 s4 ru _;have hD4:H4 Da=some (.lst ys):=s4.same _ _ hD3;have hF4:F4 Da=none:=s4.new _ hF3 (by rw[hD3];exact λz=>nomatch z)
             refine⟨hD4,ds.length-(i+1),by lia,rfl,hlt,bE,F4,zs++[ye],(((st.trans s2).trans s3).trans s4).upd hD0 hF4,((sF.trans s2.fsame).trans s3.fsame).trans s4.fsame,hF4,?_,by simp;lia,rest',er2,by rw[etot];simp⟩
             exact aC.append (rz.mono ((s2.fsame.trans s3.fsame).trans s4.fsame) _ _) (aC.cons ru aC.nil)
         |_=>rw[ett]at ec;cases ec
      . have ei:i=ds.length:=by lia
        subst ei;rw[aQ4]at ec;cases ec;rw[aO7]at etot;subst etot;exact .inl ⟨hJ.stop _ H' (sF.trans st.sub) (aOY _),w (.ref Da) F' H' st ⟨Da,rfl,hFD,ys,hD,rz⟩ λ_ a ea=>by cases ea;exact hD0⟩
   . exact w.elim
  |_=>exact w.elim
def aH0{t:Tg}{gt ge:Rho->Res}(hc:X.calm=true)(hi:PIv C X tg bI gi)(bY:∀y∈scope.names,y.2 ≠ .cell)(eN:scope.kind=.function)(iK:∀y∈scope.names,y.2=.local->scope.names.lookup y.1=some .local)(eO:∀y∈scope.names,y.2=.free->X.env.kindOf y.1=some .cell\/X.env.kindOf y.1=some .free)(fL:aT.map some=caps.map λi=>X.N[i]?)(iM:∀y∈aT,(y,NameKind.free)∈scope.names)(iL:∀y∈aT,(relabel scope X.env).names.lookup y=some .cell\/(relabel scope X.env).names.lookup y=some .free)(hsl:∀j∈fF t,caps.length<=j)(hg:∀cl A fp s3 H3,PGw (bP X scope (aT++tgN) cl A fp s3 H3) tg t)(hf:∀cl A fp s3 H3,d9 (bP X scope (aT++tgN) cl A fp s3 H3) ifs (tT (C.nox.at X) gt))(he:∀cl A fp s3 H3,PV C.nox (bP X scope (aT++tgN) cl A fp s3 H3) elt ge)(hs:∀x,foldedSetIterable bI X.env x=pure x:=by intro _;rfl):PV C X (.ListComp elt [⟨tg,bI,ifs,0⟩] scope pos) (λρ=>dP (gi ρ) ρ caps tgN.length (a9 t) gt ge):=by
 have capLen:aT.length=caps.length:=by simpa using congrArg List.length fL
 refine PE.imp (aGQ (aT:=aT) (tgN:=tgN) (gt:=gOf X.K t) (tt:=tT (C.nox.at X) gt) (te:=tG (C.nox.at X) λρ=>bR (ge ρ)) hc hi bY eN iK eO fL iM iL
  hg hf (λcl A fp s3 H3=>kI (he cl A fp s3 H3)) hs) λσ H Q q=>aHZ hsl q
end
def qE:D->Option Str
 |.str z=>some z
 |.int i=>if eV i=true then some (bT i)else none
 |_=>none
def kS(r:Res):Res:=r.thn λ_ d=>match qE d with|some z=>.ok .fz (.str z)|none=>.stuck
section
variable  {pos:Pos}
theorem aH1(he:PV C X e g):PV C X (.FormattedValue e (-1) none pos) (λρ=>kS (g ρ)):=by
 intro aA s σ H Q I q;rw[aZ]at q;obtain⟨ρ,F,R,w⟩:=q;refine FormattedValue_plain (thn (he aA s σ H (λv H1=>∃F1 m d,aG F H F1 H1/\Rp X.K F1 H1 m d v/\g ρ=.ok m d) I ?_) λu s1 ⟨v,H1,I1,rv,F1,m,d,st1,rp,eg⟩=>?_)
 . rw[aZ];refine⟨ρ,F,R,?_⟩;cases er:g ρ with
   |stuck=>rw[er]at w;exact w
   |exc c=>rw[er]at w;exact w
   |ok m d=>exact λv F1 H1 s1 r1 _=>⟨F1,m,d,s1,r1,rfl⟩
 . rw[eg]at w;have w1:aW (C.at X) F1 H1 σ (match qE d with|some z=>.ok .fz (.str z)|none=>.stuck) Q:=aW.step st1 w
   cases d with
   |str z=>obtain⟨rfl,hz,hk⟩:=rp.str;obtain⟨t,rfl⟩:=rv;exact formatField_str (λt' tk=>⟨.str z,H1,I1.tok _,⟨_,rfl⟩,w1 _ F1 H1 (.refl st1.sub) (dU ⟨hz,hk⟩) (by nofun)⟩) hz
   |int i =>
    cases rp.int;obtain⟨t,rfl⟩:=rv;unfold qE at w1;dsimp only at w1;split at w1
    . rename_i z hz;split at hz
      . rename_i hs;cases hz;have hl:i.natAbs.log2<1920:=aQI hs;have h1:(bT i).length<=1921:=int_text_len_1921 hl;have hzz:sizeLine=16777216:=aO3;exact formatField_int_small hl ⟨.str (bT i),H1,I1.tok _,⟨_,rfl⟩,w1 _ F1 H1 (.refl st1.sub) (dU ⟨by lia,xF i⟩) (by nofun)⟩
      . cases hz
    . exact w1.elim
   |_=>exact w1.elim
end
def dF(out:Str):List (Rho->Res)->Rho->Res
 |[],_=>if out.length<=sizeLine then .ok .fz (.str out)else .stuck
 |g::gs,ρ=>(g ρ).thn λ_ d=>match d with
  |.str y=>if(out++y).length<=sizeLine then dF (out++y) gs ρ else .stuck
  |_=>.stuck
inductive PVL(C:Cw)(X:Cx):List Expr->List (Rho->Res)->Prop where
 |nil:PVL C X [] []
 |cons {e:Expr}{g:Rho->Res}{es:List Expr}{gs:List (Rho->Res)} (h:PV C X e g) (r:PVL C X es gs):PVL C X (e::es) (g::gs)
theorem xG{C:Cw}{X:Cx}:∀{es:List Expr}{gs:List (Rho->Res)},PVL C X es gs->∀(out:Str) (aA:LAO) (s:aSR) (σ:L2.St) (H F:Hp) (ρ:Rho) (Q:VK),PyData.strOk out=true->Inv X aA σ H s->aR X.K C.F0 C.H0 F H σ ρ->aW (C.at X) F H σ (dF out gs ρ) Q->wpAny (model X.prog X.w) X.A (joinParts out (evalEach es X.env)) (EP X aA σ Q) X.xe s
 |_,_,.nil,out,aA,s,σ,H,F,ρ,Q,hk,I,R,w=>by
  unfold dF at w;split at w
  . rename_i hl;exact joinParts_nil ⟨.str out,H,I.tok _,⟨_,rfl⟩,w _ F H (.refl R.sub) (dU ⟨hl,hk⟩) (by nofun)⟩ hl
  . exact w.elim
 |_,_,.cons (e:=e) (g:=g) (gs:=gs) h r,out,aA,s,σ,H,F,ρ,Q,hk,I,R,w=>by
  refine joinParts_cons (thn (h aA s σ H (λv H1=>∃F1 m d,aG F H F1 H1/\Rp X.K F1 H1 m d v/\g ρ=.ok m d) I ?_) λu s1 ⟨v,H1,I1,rv,F1,m,d,st1,rp,eg⟩=>?_)
  . rw[aZ];refine⟨ρ,F,R,?_⟩;unfold dF at w;cases er:g ρ with
    |stuck=>rw[er]at w;exact w
    |exc c=>rw[er]at w;exact w
    |ok m d=>exact λv F1 H1 s1 r1 _=>⟨F1,m,d,s1,r1,rfl⟩
  . unfold dF at w;rw[eg]at w;cases d with
    |str y =>
     have w1:aW (C.at X) F1 H1 σ (if(out++y).length<=sizeLine then dF (out++y) gs ρ else .stuck) Q:=aW.step st1 w;split at w1
     . rename_i hl;obtain⟨rfl,hz,hy⟩:=rp.str;obtain⟨t,rfl⟩:=rv;exact⟨hl,xG r (out++y) aA s1 σ H1 F1 ρ Q (mO hk hy) I1 (R.step st1) w1⟩
     . exact w1.elim
    |_=>exact(show False from w).elim
def aH2{e1 e2:Expr}{es:List Expr}{gs:List (Rho->Res)}{pos:Pos}(h:PVL C X (e1::e2::es) gs):PV C X (.JoinedStr (e1::e2::es) pos) (dF Str.empty gs):=by intro aA s σ H Q I q;rw[aZ]at q;obtain⟨ρ,F,R,w⟩:=q;exact JoinedStr_many (xG h Str.empty aA s σ H F ρ Q (by decide +kernel) I R w)
section
open PySem.SeqAt
open PySem.AutoSeq1 (wpAny_loadPart')
open PySem.MeetsSeq PySem.MeetsSeq2 PySem.MeetsSeq3
end
section
variable {w:aST}{A:aSS}{E:VSP}{s:aSR}
end
def hG:List (Md×D)->Option (Md×D):=λxs=>match xs with
 |[(_,.str z)]=>if z.length<=640 then(PySem.intText? z).map λn=>(.fz,.int n)else none
 |_=>qA xs
def aH3:dM X (.type "int") hG:=by
 obtain⟨r,h1,h2⟩:=aHH (X:=X);refine⟨λxs H Q=>r xs H Q\/∃z n,xs=[.str z]/\z.length<=640/\PySem.intText? z=some n/\Q (.int n) H,?_,λF H xs vs k d Q s rx e w=>?_⟩
 . intro aA s σ H xs us Q I rr h;rcases h with h|⟨z,n,rfl,hl,hn,q⟩
   . exact h1 aA s σ H xs us Q I rr h
   . obtain⟨u,rfl,t,rfl⟩:=dY rr;exact W.KIN.call_text hn hl ⟨.int n,H,I.tok _,⟨_,rfl⟩,q⟩
 . unfold hG at e;split at e
   . rename_i m z;split at e
     . rename_i hl;cases en:PySem.intText? z with
       |none=>rw[en]at e;cases e
       |some n=>rw[en]at e;cases e;obtain⟨v,rfl,r0⟩:=rx.one;obtain⟨rfl,_⟩:=r0.str;exact .inr ⟨z,n,rfl,hl,en,w _ F H (.refl s) (dC _) (by nofun)⟩
     . cases e
   . exact .inl (h2 F H xs vs k d Q s rx e w)
def m7:Md->D->Md->D->Option (Md×D):=λ_ x _ y=>match x,y with
 |.str z,.int n=>if(decide (n<1)&&decide (-1000<=n))=true then some (.fz,.str Str.empty)else none
 |_,_=>none
theorem aH4:OpD C X (binaryOp .Mult) m7:=by
 refine⟨λx y H Q=>∃z n,x=.str z/\y=.int n/\n<1 /\ -1000<=n/\Q (.str Str.empty) H,?_,?_⟩
 . intro aA s σ H x y v u Q I rx ry h;obtain⟨z,n,rfl,rfl,h1,h2,q⟩:=h;obtain⟨t,rfl⟩:=rx;obtain⟨t',rfl⟩:=ry;exact PySem.P.mul_str_none h1 (by lia) ⟨.str Str.empty,H,I.tok _,⟨_,rfl⟩,q⟩
 . intro F H m x n y v u k d Q s rx ry e w;unfold m7 at e;split at e
   . rename_i z i;obtain⟨rfl,hz,hk⟩:=rx.str;cases ry.int;split at e
     . rename_i hc;simp only[aPY,aQH]at hc;cases e;exact⟨z,i,rfl,rfl,hc.1,hc.2,w _ F H (.refl s) (dU ⟨by decide +kernel,by decide +kernel⟩) (by nofun)⟩
     . cases e
   . cases e
section
open PySem.SeqAt
open PySem.AutoSeq1 (wpAny_loadPart')
open PySem.MeetsSeq PySem.MeetsSeq2 PySem.MeetsSeq3
variable {w:aST}{A:aSS}{E:VSP}{s:aSR}
end
section
variable {s:aSR}
end
section
variable  {pos:Pos}
end
open PySem.AutoSeq1 (wpAny_loadPart')
section
variable {w:aST}{A:aSS}{E:VSP}{s:aSR}
end
section
variable {w:aST}{elts:List Expr}{cx:Nat}{pos:Pos}
end
section
variable  {pos:Pos}
end
open PySem.Calls PySem.W
section
variable {w:aST}{A:aSS}{E:VSP}{s:aSR}{x D:Addr}{ox:Obj}{od:Option Obj}
def XAt(h:Heap)(x:Addr)(ox:Obj)(D:Addr):Prop:=h.get? x=some ox/\ox.cls=.ref D
structure XCls(K:Fg)(D:Addr):Prop where
 ga:W.findIn K (.ref D) "__getattribute__" = some (some (.builtin "BaseException.__getattribute__"))
 gn:W.findIn K (.ref D) "__getattr__" = some none
 ca:W.findIn K (.ref D) "__class__" = some (some (.builtin "object.__class__"))
 bx:W.mroIn K D (.type "BaseException")=some true
 ob:W.mroIn K D (.type "object")=some true
 hn:W.specialIn K (.builtin "object.__class__") "__get__" = some (some (.builtin "getset_descriptor.__get__"))
 tk:W.takesIn K (.builtin "object.__class__")=some true
end
open PySem.Calls
structure Fly(P:aSU)(w:aST)(outer:List Env)(H:Hp)(s:aSR)(H1:Hp)(B hp:Heap):Prop where
 un:Un (frs outer) [] H H1 s.heap hp
 ok:HOk P w H1 hp
 kb:∀b o,hp.get? b=some o->s.heap.get? b≠none->b∉frs outer->B.get? b=some o
 kh:∀b u,H1 b=some u->∃o,hp.get? b=some o/\B.get? b=some o
 fr:∀b∈frs outer,H b=none/\∃o,s.heap.get? b=some o/\∀vs,o.data ≠ .fields vs
section
variable {w:aST}{H1:Hp}{s:aSR}{B:Heap}
def fG:b∉([]:List Addr):=by simp
theorem Fly.slots(f:Fly P w outer H s H1 B hp)(up:hp.UpToSlots h')(hb:b∈frs outer):∃o sl sl',s.heap.get? b=some o/\hp.get? b=some {o with slots:=sl}/\h'.get? b=some {o with slots:=sl'}:=by obtain⟨hn,o,e,nf⟩:=f.fr b hb;obtain⟨sl,e1⟩:=f.un.slot b o e hn hb fG;obtain⟨sl',e2⟩:=up b _ e1 nf;exact⟨o,sl,sl',e,e1,e2⟩
def Fly.on(f:Fly P w outer H s H1 B hp)(st:B.StaysIn h')(up:hp.UpToSlots h'):Fly P w outer H s H1 B h' where
 un:={
  keep:=λb o e n hb _=>st b o (f.kb b o (f.un.keep b o e n hb fG) (by rw[e];exact λz=>nomatch z) hb)
  slot:=λb o e n hb _=>by obtain⟨o',sl,sl',e0,_,e2⟩:=f.slots up hb;rw[e]at e0;cases e0;exact⟨sl',e2⟩
  free:=f.un.free
  there:=λb o e _=>by
   by_cases hb:b∈frs outer
   . obtain⟨o',sl,sl',e0,_,e2⟩:=f.slots up hb;exact⟨_,e2⟩
   . obtain⟨o',e1⟩:=f.un.there b o e fG;exact⟨o',st b o' (f.kb b o' e1 (by rw[e];exact λz=>nomatch z) hb)⟩
  tups:=f.un.tups
  frzs:=f.un.frzs
  tbls:=f.un.tbls }
 ok := fun a o e => (f.ok a o e).stay (fun b u hb q => by
     have:∃u',H1 b=some u':=by
      rcases hb with rfl|hb
      . exact⟨o,e⟩
      . exact⟨_,hb⟩
     obtain⟨u',eu⟩:=this;obtain⟨o',e1,e2⟩:=f.kh b u' eu;rw[q]at e1;cases e1;exact st b u e2) (λ_ q=>q) λ_ _ q=>q
 kb:=λb o e ns hb=>by
  cases e0:s.heap.get? b with
  |none=>exact absurd e0 ns
  |some o0=>obtain⟨o',e1⟩:=f.un.there b o0 e0 fG;have e2:=f.kb b o' e1 ns hb;have e3:=st b o' e2;rw[e]at e3;cases e3;exact e2
 kh:=λb u e=>by obtain⟨o,_,e2⟩:=f.kh b u e;exact⟨o,st b o e2,e2⟩
 fr:=f.fr
end
def CX1(P:aSU)(w:aST):CXT:=λouter H s E ev s'=>∃(e C:Addr) (a0:aSQ) (H1:Hp) (B:Heap),
 ev=.ref e/\s'.os=s.os/\AllBare s'.gens/\Heap.FlyingW B outer e (.ref C) a0 s'.heap/\Fly P w outer H s H1 B s'.heap/\E (.ref C) none H1
section
variable  {H1:Hp}{s:aSR}{B:Heap}{E:XK}
def aH5(I:Inv X aA σ H s):∀b∈frs X.stack,H b=none/\∃o,s.heap.get? b=some o/\∀vs,o.data ≠ .fields vs:=λb hb =>
 ⟨I.stkFree b hb,(I.stack.mem hb).2⟩
def Fly.inv(I:Inv X aA σ H s)(f:Fly X.prog X.w X.stack H s H1 B s'.heap)(ho:s'.os=s.os)(hg:AllBare s'.gens):Inv X aA σ H1 s' :=
 Inv.call' (ch:=[]) I ho f.un f.ok hg (λb z=>absurd z fG)
def Fly.out(I:Inv X aA σ H s)(f:Fly X.prog X.w X.stack H s H1 B s'.heap)(ho:s'.os=s.os)(hg:AllBare s'.gens)(hx:X.ex=[])(hs:X.stack=X.env::X.outer)(hf:X.env.frame=some X.env.locals)(st:B.StaysIn h')(up:s'.heap.UpToSlots h'):Fly X.prog X.w X.outer X.H₀ X.s₀ H1 B h':=by
 have I1:=f.inv I ho hg;have f1:=f.on st up;have ub:=I1.base;rw[hx]at ub;have old:∀b o,X.s₀.heap.get? b=some o->∃o',s.heap.get? b=some o':=λb o e=>I.base.there b o e (by rw[hx];exact fG)
 have nl:∀b o,X.s₀.heap.get? b=some o->b≠X.env.locals:=λb o e z=>absurd (aN7 e) (by rw[z];exact Nat.not_lt.mpr I.ok.above)
 have sub:∀b,b∉frs X.outer->b≠X.env.locals->b∉frs X.stack:=λb h1 h2 z=>by
  rcases aOG.mp (I.stkSub b z)with q|q
  . exact h2 q
  . exact h1 q
 have sup:∀b,b∈frs X.outer->b∈frs X.stack:=λb hb=>by rw[hs];unfold frs;rw[aOF,hf];exact mcm hb
 refine⟨⟨λb o e n hb _=>?_,λb o e n hb _=>?_,ub.free,λb o e _=>?_,ub.tups,ub.frzs,ub.tbls⟩,f1.ok,λb o e ns hb=>?_,f1.kh,λb hb=>?_⟩
 . have e1:=ub.keep b o e n hb fG;obtain⟨o',e0⟩:=old b o e;exact st b o (f.kb b o e1 (by rw[e0];exact λz=>nomatch z) (sub b hb (nl b o e)))
 . obtain⟨sl,e1⟩:=ub.slot b o e n hb fG;obtain⟨o',sl1,sl2,e0,e1',e2⟩:=f.slots up (sup b hb);have q:=aN5 (e1.symm.trans e1');refine⟨sl2,?_⟩;rw[e2];obtain⟨c1,d1,t1,l1⟩:=o;obtain⟨c2,d2,t2,l2⟩:=o';simp only[Obj.mk.injEq]at q;obtain⟨rfl,rfl,rfl,_⟩:=q;rfl
 . obtain⟨o',e0⟩:=old b o e;exact f1.un.there b o' e0 fG
 . cases e0:X.s₀.heap.get? b with
   |none=>exact absurd e0 ns
   |some o0=>obtain⟨o',e1⟩:=old b o0 e0;exact f1.kb b o e (by rw[e1];exact λz=>nomatch z) (sub b hb (nl b o0 e0))
 . exact⟨I.ok.frf b hb,(I.ok.funs.mem hb).2⟩
def kT(h:Heap)(l:List Env):Heap:=W.hideAll h (frs l)
def Fly.raise(I:Inv X aA σ H s)(hx:X.ex=[])(hs:X.stack=X.env::X.outer)(hf:X.env.frame=some X.env.locals)(st:(kT s.heap X.stack).StaysIn h')(up:s.heap.UpToSlots h'):Fly X.prog X.w X.outer X.H₀ X.s₀ H (kT s.heap X.stack) h':=by
 have f:Fly X.prog X.w X.stack H s H (kT s.heap X.stack) s.heap :=
  ⟨Un.refl,I.hok,λb o e _ hb=>W.hideAll_get _ e hb,λb u e=>by
   have hn:b∉frs X.stack:=λz=>by rw[I.stkFree b z]at e;cases e
   have:∃o,s.heap.get? b=some o:=by
    have:=I.hok b u e;cases u with
    |lst xs=>obtain⟨_,_,_,_,e⟩:=this;exact⟨_,e⟩
    |tup xs=>obtain⟨_,_,_,o,e,_⟩:=this;exact⟨_,e⟩
    |dK kvs=>obtain⟨_,_,_,_,o,_,_,e,_⟩:=this;exact⟨_,e⟩
    |dT kvs=>obtain⟨_,_,_,_,o,_,_,e,_⟩:=this;exact⟨_,e⟩
    |dN kvs=>obtain⟨_,_,_,_,o,_,_,e,_⟩:=this;exact⟨_,e⟩
    |set S n=>obtain⟨o,_,_,_,e,_⟩:=this;exact⟨_,e⟩
    |ins C dx fs=>obtain⟨_,_,_,e,_⟩:=this;exact⟨_,e⟩
    |own y=>obtain⟨_,e⟩:=this;exact⟨_,e⟩
    |xd fs=>obtain⟨_,⟨_,_,_,e,_⟩,_⟩:=this;exact⟨_,e⟩
    |rng lo hi=>obtain⟨_,_,_,e⟩:=this;exact⟨_,e⟩
    |frz ob u=>obtain⟨e,_⟩:=this;exact⟨_,e⟩
    |tbl ps=>obtain⟨_,_,_,e,_⟩:=this;exact⟨_,e⟩
    |crec q=>obtain⟨_,_,_,e,_⟩:=this;exact⟨_,e⟩
    |met f y=>exact⟨_,this⟩
    |ext φ=>obtain⟨_,⟨_,e⟩,_⟩:=this;exact⟨_,e⟩
   obtain⟨o,eo⟩:=this;exact⟨o,eo,W.hideAll_get _ eo hn⟩,aH5 I⟩
 exact f.out I rfl I.bare hx hs hf st up
end
noncomputable def vErr:List aSQ:=[.type "ValueError", .type "Exception", .type "BaseException", .type "object"]
def xH(K:Fg)(C:Addr):Prop:=W.excIn K C vErr "ValueError.__new__" = true
def RzOk(C:Cw)(X:Cx):Prop:=∀(aA:LAO) (σ:L2.St) (H:Hp) (s:aSR) (c:Str) (Cc:Addr) (vs:List aSQ) (h':Heap) (e:Addr),Inv X aA σ H s->X.mg c=some (.ref Cc)->C.EE c σ H ->
 Heap.MadeExcOf s.heap h' e (.ref Cc) vs->X.xe (.ref e) {s with heap:=h'}
section
variable {es:List Expr}{np pos:Pos}
structure FnCx(X:Cx):Prop where
 hx:X.ex=[]
 hs:X.stack=X.env::X.outer
 hf:X.env.frame=some X.env.locals
end
section
variable {w:aST}{N:List Str}{f:Addr}{A:aSS}{s:aSR}{E:XK}
def fnCx:FnCx (bZ (CX1 P w) P w K mg base N qual scope f cdv A outer s H E):=⟨rfl,rfl,rfl⟩
def fX(mg:SOV)(E:XK):XE:=λc _ H'=>∀u,mg c=some u->E u none H'
def aH6(hE:C.EE=fX mg E):XOk (CX1 P w) C (bZ (CX1 P w) P w K mg base N qual scope f cdv A outer s H E):=by intro aA σ H1 s1 ev s' I h;obtain⟨e,Cc,a0,H2,B,rfl,ho,hg,fl,fy,c,hm,he⟩:=h;rw[hE]at he;have I0:=I.ok.frames;refine wpAny_leaves_onW I0 rfl fl λh' fl' up=>?_;exact⟨e,Cc,a0,H2,B,rfl,ho.trans I.os,hg,fl',fy.out I ho hg rfl rfl rfl fl'.1 up,he _ hm⟩
def aH7(hE:C.EE=fX mg E):RzOk C (bZ (CX1 P w) P w K mg base N qual scope f cdv A outer s H E):=by
 intro aA σ H1 s1 c Cc vs h1 e I hm he made;rw[hE]at he;have I0:=I.ok.frames;have hin:∀env∈(bZ (CX1 P w) P w K mg base N qual scope f cdv A outer s H E).stack,∀a,env.frame=some a->a∈frs (bZ (CX1 P w) P w K mg base N qual scope f cdv A outer s H E).stack:=λenv he a ha=>aO0.mpr ⟨env,he,ha⟩;have FF:s1.heap.FunFrames (kT s1.heap (bZ (CX1 P w) P w K mg base N qual scope f cdv A outer s H E).stack) _:=W.funFrames_hide I.stack hin;have st0:(kT s1.heap (bZ (CX1 P w) P w K mg base N qual scope f cdv A outer s H E).stack).StaysIn s1.heap:=λb o q=>W.of_hideAll _ q;refine wpAny_leaves_madeW (s:={s1 with heap:=h1}) I0 rfl st0 FF made λh' t fl _ _ up=>?_
 have up0:s1.heap.UpToSlots h':=(Heap.UpToSlots.of_keeps made.keeps).trans up;exact⟨e,Cc,.ref t,H1,_,rfl,I.os,I.bare,fl,Fly.raise I rfl rfl rfl fl.1 up0,he _ hm⟩
end
structure HX where
 cls:Str
 slot:Option Nat
 g:Rho->aE
def qF(K:Fg)(mg:SOV)(xt:Str->Str->Option Bool):Prop:=∀c x b,xt c x=some b->∃C C2,W.nsIn K mainGlobals c=some (some (.ref C))/\mg c=some (.ref C)/\mg x=some (.ref C2) /\
 W.mroIn K C2 (.type "BaseException")=some true/\W.typeIn K (.ref C2)=some (.type "type")/\W.mroIn K C (.ref C2)=some b
section
variable {s:aSR}{e:Addr}
end
section
variable  {H1:Hp}{s s0:aSR}{e Cc:Addr}{a0:aSQ}{B:Heap}
end
section
variable {s:aSR}{D:dI}{hs:List ExceptHandler}{hx:List HX}{xt:Str->Str->Option Bool}
end
def m8(mg:SOV)(n:Str)(cv:V):Prop:=(∃C,mg n=some (.ref C)/\cv=.ref C)\/(mg n=none/\n ≠ "__name__" /\ ∃T,bootBuiltins n=some (.type T)/\cv=.ty T)
def xI:V->aSQ|.ref a=>.ref a|.ty T=>.type T|_=>.none
def qG(K:Fg)(mg:SOV)(xis:Str->Str->Option Bool):Prop:=∀c n b,xis c n=some b->∃C cv,W.nsIn K mainGlobals c=some (some (.ref C))/\XCls K C/\m8 mg n cv/\W.kitOne K (.ref C) (xI cv)=some b
section
variable  {q pos tp:Pos}{n:Str}{xis:Str->Str->Option Bool}
end
def aH8{w:aST}{f:Addr}{N:List Str}{g:Rho->aE}(F:Fun K x qual st f fd)(S:iS N ps (bS st))(hbody:∀(C:Cw) (cdv:aSQ),W.codeIn K cdv qual=true->∀(A:aSS) (outer:List Env) (s:aSR) (H:Hp) (E:XK),C.EE=fX mg E->bL k (A.deeper (envOfC qual (bS st) s.heap.objs.size f cdv))->PBv C (bZ (CX1 P w) P w K mg base N qual (bS st) f cdv A outer s H E) (d5 st) g):bM P w K mg base (CX1 P w) (k+1) f fd ps (spV K mg ps.length (phi ps.length N.length g)):=by
 obtain⟨oc,od,kV,doc,pm,an,cdv,ct,osl,rfl,lk,hcd⟩:=F.ex;refine fn_of lk hcd S (λvs H Q E h=>h.1) λA outer s H vs Q E hr h=>?_;obtain⟨hl,F0,ds,sF,rl,h⟩:=h;have hl':ds.length=ps.length:=by rw[<- rl.length];exact hl
 let C:Cw:=⟨K,F0,H,fX mg E⟩
 refine⟨_,hbody C cdv hcd A outer s H E rfl hr,dE N.length ds,F0,pT sF rl,?_⟩;unfold phi at h;rw[if_pos hl']at h;cases er:g (dE N.length ds)with
 |nx ρ=>rw[er]at h;exact λσ' F' H' _ R=>h.2 .non F' H' R.st pM (by nofun)
 |rt m d=>rw[er]at h;exact λv F' H' s rp fr=>h.2 v F' H' s rp fr
 |bk ρ=>rw[er]at h;exact h.elim
 |ct ρ=>rw[er]at h;exact h.elim
 |exc c ρ=>rw[er]at h;exact λσ' F' H' _ R u hu=>h F' H' u R.st hu
 |stuck=>rw[er]at h;exact h.elim
section
variable  {pos:Pos}
end
def Hld(B:Heap)(l:List Env)(e:Addr)(cls a0:aSQ)(h:Heap):Prop:=B.StaysIn h/\B.get? e=none/\h.FunFrames B l/\∃fl,h.TracedAtW B e cls a0 fl
section
variable {M:Model}{A:aSS}{E:VSP}{s:aSR}{B:Heap}{L e:Addr}{cls a0:aSQ}
def aH9(hfr:A.frames=some (env::outer))(hf:env.frame=some L)(hh:Hld B (env::outer) e cls a0 s.heap)(hQ:∀h',Heap.HeldW B (env::outer) e cls a0 L h'->s.heap.UpToSlots h'->Q () {s with heap:=h'}):wpAny M A (noteFrame (.ref e) env) Q E s:=by
 obtain⟨k1,k2,k3,fl,ht⟩:=hh;by_cases hl:fl=rawInt L
 . subst hl;exact wpAny_noteFrame_againW hf ht (hQ s.heap ⟨k1,k2,k3,ht⟩ (Heap.UpToSlots.refl _))
 obtain⟨oe,xs,T,oT,ys,q1,⟨q2,q3⟩,q4,q5,q6,q7,q8,q9,q10⟩:=ht;subst q2;unfold noteFrame;simp only[hf];refine aOW (aPU q1 q4 q5 ?_);have n1:(Value.ref T != Value.none)=true:=by simp
 have n2:¬ ((fl==rawInt L)=true):=by rw[aQS];exact hl
 rw[if_pos n1];refine aOW (aPU q8 q9 q10 ?_);rw[if_neg n2];obtain⟨lt3,_⟩:=aOD.mp q10;obtain⟨lt1,_⟩:=aOD.mp q5;refine aOW (wpAny_setField q8 q9 lt3 ?_);generalize hg:s.heap.update T (Obj.mapFields λz=>z.setIfInBounds 3 Value.none)=g;have oth:∀b,b≠T->g.get? b=s.heap.get? b:=λb hb=>by rw[<- hg];exact Heap.get?_update_other _ _ (Ne.symm hb)
 have plain:∀b o,s.heap.get? b=some o->(∀z,o.data ≠ .fields z)->g.get? b=some o:=λb o w1 w2=>by rw[oth b (by rintro rfl;rw[q8]at w1;cases w1;exact w2 ys q9)];exact w1
 have inB:∀b o,B.get? b=some o->g.get? b=some o:=λb o w=>by rw[oth b (by rintro rfl;rw[q6]at w;cases w)];exact k1 b o w
 refine wpAny_entryW (s:={s with heap:=g}) hfr (k3.of_keeps λb o w1 w2=>⟨o,plain b o w1 w2,rfl⟩) hf (by show g.get? e=_;rw[oth e (Ne.symm q7)];exact q1) inB k2 q4 lt1 q3 λh' hn=>?_
 obtain⟨m1,m2,m3,m4⟩:=hn;exact hQ h' ⟨m1,k2,m2,m3⟩ λb o w1 w2=>m4 b o (plain b o w1 w2) w2
def aIA(hfr:A.frames=some (env::outer))(hf:env.frame=some L)(hh:Hld B (env::outer) e cls a0 s.heap)(hQ:∀h',Heap.FlyingW B outer e cls a0 h'->s.heap.UpToSlots h'->Q () {s with heap:=h'}):wpAny M A (leaving env (.ref e)) Q E s:=by
 unfold leaving;refine aOW (aH9 hfr hf hh λh4 held up4=>?_);refine wpAny_landsW (s:={s with heap:=h4}) held λh5 fl up5=>?_
 obtain⟨w1,w2,w3,w4⟩:=fl;exact hQ h5 ⟨w1,w2,w3.2.2,w4⟩ (up4.trans up5)
end
def HX1(P:aSU)(w:aST):CXT:=λouter H s E ev s'=>∃(e C:Addr) (a0:aSQ) (H1:Hp) (B:Heap),
 ev=.ref e/\s'.os=s.os/\AllBare s'.gens/\Hld B outer e (.ref C) a0 s'.heap/\Fly P w outer H s H1 B s'.heap/\E (.ref C) none H1
section
variable {w:aST}{N:List Str}{f:Addr}{A:aSS}{s:aSR}{E:XK}
def aIB(hE:C.EE=fX mg E):XOk (HX1 P w) C (bZ (CX1 P w) P w K mg base N qual scope f cdv A outer s H E):=by intro aA σ H1 s1 ev s' I h;obtain⟨e,Cc,a0,H2,B,rfl,ho,hg,fl,fy,c,hm,he⟩:=h;rw[hE]at he;refine aIA I.ok.frames rfl fl λh' fl' up=>?_;exact⟨e,Cc,a0,H2,B,rfl,ho.trans I.os,hg,fl',fy.out I ho hg rfl rfl rfl fl'.1 up,he _ hm⟩
end
section
variable {D:dI}{hs:List ExceptHandler}{hx:List HX}{xt:Str->Str->Option Bool}
end
section
variable {w:aST}{H1:Hp}{s:aSR}{B:Heap}{Z:Addr}
end
section
variable {XE:VSP}{s:aSR}
end
end D3
namespace L2
open D3
section
variable {w:aST}{A:aSS}{R:Result->aSR->Prop}{s:aSR}
end
end L2
namespace D3
section
variable {pos:Pos}
end
end D3
namespace PySem
open PySem.Sem (wp)
open Builtin
end PySem
namespace L2
end L2
namespace D3
open PySem.Calls
section
variable  {gk:Rho->Res}{pos:Pos}
end
section
variable {w:aST}{A:aSS}{R:Result->aSR->Prop}{J:Addr}{wr:List Addr}{P:Nat->aSQ->Prop}{St:Nat->Heap->Prop}{ns:List Int}{S:Addr}
end
section
variable {w:aST}{A:aSS}{E:VSP}{s:aSR}
end
section
variable  {q kp pos:Pos}{j:_}
end
theorem aC.drop{K:Fg}{F:Hp}:∀(n:Nat) {ds:List D}{xs:List V},aC K F ds xs->aC K F (ds.drop n) (xs.drop n)
 |0,_,_,h=>h
 |n+1,[],xs,h=>by simp only[aC]at h;subst h;simp[aC]
 |n+1,d::ds,xs,h=>by simp only[aC]at h;obtain⟨v,vs,rfl,_,t⟩:=h;exact aC.drop n t
theorem aC.take{K:Fg}{F:Hp}:∀(n:Nat) {ds:List D}{xs:List V},aC K F ds xs->aC K F (ds.take n) (xs.take n)
 |0,_,_,_=>by simp[aC]
 |n+1,[],xs,h=>by simp only[aC]at h;subst h;simp[aC]
 |n+1,d::ds,xs,h=>by simp only[aC]at h;obtain⟨v,vs,rfl,r,t⟩:=h;simp only[List.take_succ_cons,aC];exact⟨v,_,rfl,r,aC.take n t⟩
def dG(xs:List D)(lo hi:Option Int):List D:=(xs.drop (HT.sIx xs.length 0 lo)).take (HT.sIx xs.length xs.length hi-HT.sIx xs.length 0 lo)
def aC.cut{F:Hp}(h:aC K F ds xs)(lo hi:Option Int):aC K F (dG ds lo hi) (fC xs lo hi):=by unfold dG fC;rw[h.length];exact(h.drop _).take _
def kU(n:Nat)(lo hi:Option Int):Bool:=HT.sIx n 0 lo==0&&HT.sIx n n hi==n
noncomputable def slP(x:Res)(lo hi:Option (Rho->Res))(ρ:Rho):Res:=x.thn λm d=>match d with
 |.str z=>cP lo ρ λl=>cP hi ρ λh=>.ok .fz (.str (Txt.slice z l h))
 |.lst ds=>cP lo ρ λl=>cP hi ρ λh=>.ok .fr (.lst (dG ds l h))
 |.tup ds=>cP lo ρ λl=>cP hi ρ λh=>if(kU ds.length l h&&m != .fz)=true then .stuck else .ok .fz (.tup (dG ds l h))
 |_=>.stuck
section
variable {a:Expr}{pos:Pos}
def aIC{lo hi:Option Expr}{gl gh:Option (Rho->Res)}(ha:PV C X a ga)(hl:POv C X lo gl)(hh:POv C X hi gh):PV C X (.Subscript a (.Slice lo hi none p2) pos) (λρ=>slP (ga ρ) gl gh ρ):=by
 refine PE.imp (aDW (aFO.or (aD4.or (aDX.or aHP))) ha (wH hl) (wH hh)) λσ H Q q=>?_;unfold tSl;rw[aZ]at q ⊢;obtain⟨ρ,F,R,w⟩:=q
 try dsimp only at w
 refine⟨ρ,F,R,?_⟩;cases er:ga ρ with
 |stuck=>rw[er]at w;exact w
 |exc c=>rw[er]at w;exact w
 |ok m d =>
  rw[er]at w;intro v F1 H1 s1 rp _;cases d with
  |str z=>obtain⟨rfl,hz,hk⟩:=rp.str;have w1:aW (C.at X) F1 H1 σ (cP gl ρ λl=>cP gh ρ λh=>.ok .fz (.str (Txt.slice z l h))) Q:=aW.step s1 w;refine iY (R.step s1) w1 λl F2 H2 s2 R2 w2=>iY R2 w2 λh F3 H3 s3 R3 w3=>.inl ?_;exact⟨z,rfl,hz,w3 _ F3 H3 (.refl R3.sub) (dU ⟨aOE (aQO z _ _) hz,aFP hk⟩) (by nofun)⟩
  |lst ds=>have w1:aW (C.at X) F1 H1 σ (cP gl ρ λl=>cP gh ρ λh=>.ok .fr (.lst (dG ds l h))) Q:=aW.step s1 w;refine iY (R.step s1) w1 λl F2 H2 s2 R2 w2=>iY R2 w2 λh F3 H3 s3 R3 w3=>.inr (.inl ?_);obtain⟨p,xs,rfl,hq,rl⟩:=((rp.step s2).step s3).seqL R3.sub;exact⟨p,xs,rfl,hq,λp' hp'=>w3 (.ref p') F3 _ (aG.fresh _ R3.sub hp') ⟨p',rfl,R3.sub.free hp',_,bE,rl.cut l h⟩ λ_ a ea=>by cases ea;exact hp'⟩
  |tup ds =>
   have w1:aW (C.at X) F1 H1 σ (cP gl ρ λl=>cP gh ρ λh=>if(kU ds.length l h&&m != .fz)=true then .stuck else .ok .fz (.tup (dG ds l h))) Q:=aW.step s1 w;refine iY (R.step s1) w1 λl F2 H2 s2 R2 w2=>iY R2 w2 λh F3 H3 s3 R3 w3=>.inr (.inr ?_);obtain⟨p,xs,rfl,hq,rl⟩:=((rp.step s2).step s3).seqT R3.sub;have lw:kU ds.length l h=true↔HT.sIx xs.length 0 l=0/\HT.sIx xs.length xs.length h=xs.length:=by rw[rl.length];unfold kU;simp
   cases hw:kU ds.length l h with
   |true =>
    cases m with
    |fz =>
     rw[hw,if_neg (by decide)]at w3
     have e:=lw.mp hw;have ec:dG ds l h=ds:=by unfold dG;rw[<- rl.length,e.1,e.2,rl.length,aRC,Nat.sub_zero];exact aRG
     rw[ec]at w3;exact .inr ⟨p,xs,rfl,hq,e,w3 (.ref p) F3 H3 (.refl R3.sub) ((rp.step s2).step s3) (by nofun)⟩
    |fr=>rw[hw,if_pos (by decide)]at w3;exact w3.elim
    |bo=>rw[hw,if_pos (by decide)]at w3;exact w3.elim
   |false =>
    rw[hw,if_neg (by simp)]at w3
    refine .inl ⟨p,xs,rfl,hq,λz=>?_,λp' hp'=>w3 (.ref p') _ _ (aG.laid (.tup (fC xs l h)) R3.sub hp') (aB.tup_of (R3.sub.free hp') (rl.cut l h)) (by nofun)⟩
    rw[lw.mpr z]at hw;cases hw
  |_=>exact(show False from w).elim
def swD:Md->D->List (Md×D)->Option (Md×D):=λ_ x xs=>match x,xs with
 |.str z,[(_,.str y)]=>some (.fz,.bl (Txt.startswith z y))
 |_,_=>none
def aID:MtD X "str.startswith" swD:=by
 refine⟨λv vs H Q=>∃z y:Str,v=.str z/\vs=[.str y]/\Q (.bl (Txt.startswith z y)) H,?_,?_⟩
 . intro aA s σ H x xs v us Q I rx r h;obtain⟨z,y,rfl,rfl,q⟩:=h;obtain⟨t,rfl⟩:=rx;obtain⟨u,rfl,t',rfl⟩:=dY r;exact SC.startswith ⟨.bl (Txt.startswith z y),H,I,rfl,q⟩
 . intro F H m x xs v vs k d Q s rx rl e w;unfold swD at e;split at e
   . rename_i z m' y;cases e;obtain⟨rfl,_⟩:=rx.str;obtain⟨u,rfl,r⟩:=rl.one;obtain⟨rfl,_⟩:=r.str;exact⟨z,y,rfl,rfl,w _ F H (.refl s) (cJ _) (by nofun)⟩
   . cases e
def rpD:Md->D->List (Md×D)->Option (Md×D):=λ_ x xs=>match x,xs with
 |.str z,[(_,.str y)]=>some (.fz,.str (Txt.removeprefix z y))
 |_,_=>none
def aIE{y:Str}(h:PyData.strOk z=true):PyData.strOk (Txt.removeprefix z y)=true:=by
 rw[StrLaws.removeprefix_eq];split
 . unfold PyData.strOk at h ⊢;rw[aQK]at h ⊢;intro c hc;have:c∈z.cps.toList:=aRH (aRI (by simpa using hc))
   exact h c (by simpa using this)
 . exact h
def aIF:MtD X "str.removeprefix" rpD:=by
 refine⟨λv vs H Q=>∃z y:Str,v=.str z/\vs=[.str y]/\z.length<=sizeLine/\Q (.str (Txt.removeprefix z y)) H,?_,?_⟩
 . intro aA s σ H x xs v us Q I rx r h;obtain⟨z,y,rfl,rfl,hz,q⟩:=h;obtain⟨t,rfl⟩:=rx;obtain⟨u,rfl,t',rfl⟩:=dY r;exact SC.removeprefix (λt' k=>⟨.str (Txt.removeprefix z y),H,I.tok _,⟨_,rfl⟩,q⟩) hz
 . intro F H m x xs v vs k d Q s rx rl e w;unfold rpD at e;split at e
   . rename_i z m' y;cases e;obtain⟨rfl,hz,hk⟩:=rx.str;obtain⟨u,rfl,r⟩:=rl.one;obtain⟨rfl,_⟩:=r.str;exact⟨z,y,rfl,rfl,hz,w _ F H (.refl s) (dU ⟨aOE (len_removeprefix z y) hz,aIE hk⟩) (by nofun)⟩
   . cases e
end
section
variable {pos:Pos}
def aIG:PV C X (.Dict [] [] pos) (λ_=>.ok .fr (.dct [])):=by refine PE.imp aEL λσ H Q q=>?_;rw[aZ]at q;obtain⟨ρ,F,R,w⟩:=q;intro p hp;exact w (.ref p) F _ (aG.fresh _ R.sub hp) ⟨p,rfl,R.sub.free hp,[],bE,by simp[aI]⟩ λ_ a ea=>by cases ea;exact hp
end
def bU(kvs:List (Key×D))(k:Key):Option D:=(kvs.find? λkv=>decide (kv.1=k)).map (·.2)
theorem aI.val{K:Fg}{F:Hp}:∀{kvs:List (Key×D)}{xs:List (Key×V)} (k:Key),aI K F kvs xs->match bU kvs k with|some d=>∃v,dJ xs k=some v/\aB K F d v|none=>dJ xs k=none
 |[],xs,k,h=>by simp only[aI]at h;subst h;rfl
 |(k',d)::kvs,xs,k,h=>by
  simp only[aI]at h;obtain⟨y,ys,rfl,r,t⟩:=h;by_cases e:k'=k
  . have e1:bU ((k',d)::kvs) k=some d:=by simp[bU,aP9,e]
    rw[e1];exact⟨y,mK e,r⟩
  . have e1:bU ((k',d)::kvs) k=bU kvs k:=by simp[bU,aP9,e]
    rw[e1,mL (p:=(k',y)) e];exact aI.val k t
def rIxK:R2:=λx y H Q=>∃a v,x=.ref a/\kE H a y (some v)/\Q v H
def aIH(hu:X.A.units+1<cLine):IxR X rIxK:=by
 intro value slice aA s σ H x y v u Q I rx ry h hsub;obtain⟨a,w',rfl,g,q⟩:=h;cases(show v=Value.ref a from rx)
 have hT:s.TypeIs (.ref a) "dict" := aEH I g;unfold subscriptTail;refine aOW ?_;rw[getitemInPython_of_ne hT.not_modules];refine aOW (wpAny_specialOf hT PySem.F.slot_dict_getitem.lookup ?_);have fin:wpAny (model X.prog X.w) X.A (subscripted slice false (.ref a) u) (λr s3=>wpAny (model X.prog X.w) X.A (letTemporaryGo value (.ref a) r>>=λ_=>pure r) (EP X aA σ Q) X.xe s3) X.xe s:=by rw[hsub];exact wpAny_operating (aEE hu I g ry λz s3 I3 rz=>aOW (wpAny_letTemporaryGo (aOV ⟨w',H,I3,rz,q⟩)))
 first
  |exact aOV (aOW fin)
  |exact aOW (aOV (aOW fin))
  |exact aOW fin
def ixK:Md->D->Md->D->Option (Md×D):=λ_ x _ y=>match x,iZ y with
 |.dct kvs,some k=>(bU kvs k).map λd=>(.fz,d)
 |.dcf kvs,some k=>(bU kvs k).map λd=>(.fz,d)
 |_,_=>none
def aII{F:Hp}{n:Md}{kvs:List (Key×D)}{y:D}{k:Key}{u:V}(s:aD F H)(rx:Rp K F H m (.dcf kvs) v)(ry:Rp K F H n y u)(ek:iZ y=some k):∃a xs,v=.ref a/\aI K F kvs xs/\kE H a u (dJ xs k):=by
 cases m with
 |fz=>have rx:aB K F (.dcf kvs) v:=rx;simp only[aB]at rx;obtain⟨a,o,xs,rfl,hf,r⟩:=rx;exact⟨a,xs,rfl,r,.inl ⟨xs,k,.inr ⟨o,s _ _ hf⟩,pP ek ry,rfl⟩⟩
 |fr=>obtain⟨a,_,_,q⟩:=rx;exact q.elim
 |bo=>obtain⟨a,_,_,q⟩:=rx;exact q.elim
def aIJ{F:Hp}{n:Md}{kvs:List (Key×D)}{y:D}{k:Key}{u:V}(s:aD F H)(rx:Rp K F H m (.dct kvs) v)(ry:Rp K F H n y u)(ek:iZ y=some k):∃a xs,v=.ref a/\H a=some (.dK xs)/\aI K F kvs xs/\kE H a u (dJ xs k):=by obtain⟨a,xs,rfl,hh,rk⟩:=rx.dict s;exact⟨a,xs,rfl,hh,rk,.inl ⟨xs,k,.inl hh,pP ek ry,rfl⟩⟩
section
variable {a b:Expr}{pos:Pos}
end
def dQ(kvs:List (Key×D))(k:Key)(d:D):List (Key×D):=if(kvs.any λkv=>decide (kv.1=k))=true then kvs.map (λkv=>if kv.1=k then(kv.1,d)else kv)else kvs++[(k,d)]
theorem aI.keys{K:Fg}{F:Hp}:∀{kvs:List (Key×D)}{xs:List (Key×V)},aI K F kvs xs->xs.map (·.1)=kvs.map (·.1)
 |[],xs,h=>by simp only[aI]at h;subst h;rfl
 |(k,d)::kvs,xs,h=>by simp only[aI]at h;obtain⟨y,ys,rfl,_,t⟩:=h;simp[aI.keys t]
theorem aI.snoc{K:Fg}{F:Hp}{k:Key}{d:D}{v:V}(r:aB K F d v):∀{kvs:List (Key×D)}{xs:List (Key×V)},aI K F kvs xs->aI K F (kvs++[(k,d)]) (xs++[(k,v)])
 |[],xs,h=>by simp only[aI]at h;subst h;simp only[aRJ,aI];exact⟨v,[],rfl,r,rfl⟩
 |(k',d')::kvs,xs,h=>by simp only[aI]at h;obtain⟨y,ys,rfl,r',t⟩:=h;simp only[List.cons_append,aI];exact⟨y,_,rfl,r',aI.snoc r t⟩
theorem aI.repl{K:Fg}{F:Hp}{k:Key}{d:D}{v:V}(r:aB K F d v):∀{kvs:List (Key×D)}{xs:List (Key×V)},aI K F kvs xs->aI K F (kvs.map λkv=>if kv.1=k then(kv.1,d)else kv) (xs.map λkv=>if kv.1=k then(kv.1,v)else kv)
 |[],xs,h=>by simp only[aI]at h;subst h;simp[aI]
 |(k',d')::kvs,xs,h=>by
  simp only[aI]at h;obtain⟨y,ys,rfl,r',t⟩:=h;have ih:=aI.repl (k:=k) r t;by_cases e:k'=k
  . simp only[aQD,e,aPT,aI];exact⟨v,_,rfl,r,ih⟩
  . simp only[aQD,e,aPS,aI];exact⟨y,_,rfl,r',ih⟩
def aI.put{F:Hp}{k:Key}{d:D}{kvs:List (Key×D)}{xs:List (Key×V)}(h:aI K F kvs xs)(r:aB K F d v):aI K F (dQ kvs k d) (dZ xs k v):=by
 have e:(xs.any λkv=>decide (kv.1=k))=(kvs.any λkv=>decide (kv.1=k)):=by
  have:=h.keys;have a1:∀{β:Type} (l:List (Key×β)),(l.any λkv=>decide (kv.1=k))=(l.map (·.1)).any (λx=>decide (x=k)):=λl=>by rw[List.any_map];rfl
  rw[a1,a1,this]
 unfold dQ dZ;rw[e];split
 . exact aI.repl r h
 . exact aI.snoc r h
def aI.len{F:Hp}{kvs:List (Key×D)}{xs:List (Key×V)}(h:aI K F kvs xs):xs.length=kvs.length:=by have:=congrArg List.length h.keys;simpa using this
def fH(ρ:Rho)(i:Nat)(rk rv:Res):aE:=match ρ[i]? with
 |some (some (true,.dct kvs))=>(bR rv).thS ρ λm d=>match m with
  |.fz=>rk.thS ρ λ_ kd=>(match iZ kd with
   |some k=>if kvs.length<sizeLine then .nx (ρ.set i (some (true,.dct (dQ kvs k d))))else .stuck
   |none=>.stuck)
  |_=>.stuck
 |_=>.stuck
section
variable  {gk:Rho->Res}{sp pos:Pos}
def aIK(i:Nat)(hu:X.A.units+1<cLine)(hv:PE X (.Name x p) (cG i))(hk:PV C X ke gk)(he:PV C X e g)(hsw:swapsWith e (some (.Subscript (.Name x p) ke sp)) pos.line X.env=pure false):PSv C X (.Assign [.Subscript (.Name x p) ke sp] e pos) (λρ=>fH ρ i (gk ρ) (g ρ)):=by
 refine PS.imp (aEI hu hv hk (kI he) hsw) λE σ H q=>?_;obtain⟨ρ,F,R,w⟩:=q;dsimp only at w;unfold wA;cases e0:ρ[i]? with
 |none=>unfold fH at w;rw[e0]at w;exact w.elim
 |some o =>
  cases o with
  |none=>unfold fH at w;rw[e0]at w;exact w.elim
  |some bd =>
   obtain⟨b,d0⟩:=bd;cases b with
   |false=>unfold fH at w;rw[e0]at w;exact w.elim
   |true =>
    cases d0 with
    |dct kvs =>
     unfold fH at w;rw[e0]at w;dsimp only at w;obtain⟨v0,ev0,rp0,hn0⟩:=R.slot i true _ e0;obtain⟨a,ea,hfa,xs,hh,rk⟩:=rp0;subst ea;refine i3 R w λm d v F' H' w' s R' rp fr=>?_;cases m with
     |fr=>exact(show False from w').elim
     |bo=>exact(show False from w').elim
     |fz =>
     dsimp only at w';refine⟨.ref a,ev0,?_⟩;refine i3 R' w' λm2 kd u F2 H2 w2 s2 R2 rp2 _=>?_;cases ek:iZ kd with
     |none=>rw[ek]at w2;exact w2.elim
     |some k =>
      rw[ek]at w2;dsimp only at w2;split at w2
      . rename_i hl;have hh2:H2 a=some (.dK xs):=s2.same _ _ (s.same _ _ hh);refine⟨a,_,rfl,.inl ⟨xs,k,hh2,pP ek rp2,by rw[rk.len];exact hl,rfl⟩,?_⟩
        exact w2 σ F2 _ (aD.refl _) (R2.mut e0 ev0 ⟨_,bE,aI.put (rk.mono (s.fsame.trans s2.fsame) _ _) (aB.mono s2.fsame _ _ rp)⟩)
      . exact w2.elim
    |_=>unfold fH at w;rw[e0]at w;exact w.elim
end
section
variable {a b:Expr}{pos:Pos}
def aIL(hu:X.A.units+1<cLine)(ha:PV C X a ga)(hb:PV C X b gb)(hs:mH b):PV C X (.Subscript a b pos) (λρ=>op2 ixK (ga ρ) (gb ρ)):=by
 refine PE.imp (iT (aIH hu) ha hb hs) λσ H Q q=>kH (λF H m x n y v u k d Q s rx ry e w=>?_) q;unfold ixK at e;split at e
 . rename_i kvs ky ek;obtain⟨p,xs,rfl,hh,rk,g⟩:=aIJ s rx ry ek;cases eg:bU kvs ky with
   |none=>rw[eg]at e;cases e
   |some d'=>rw[eg]at e;cases e;have:=aI.val ky rk;rw[eg]at this;obtain⟨v',ev,rv⟩:=this;rw[ev]at g;exact⟨p,v',rfl,g,w v' F H (.refl s) rv (by nofun)⟩
 . rename_i kvs ky ek;obtain⟨p,xs,rfl,rk,g⟩:=aII s rx ry ek;cases eg:bU kvs ky with
   |none=>rw[eg]at e;cases e
   |some d'=>rw[eg]at e;cases e;have:=aI.val ky rk;rw[eg]at this;obtain⟨v',ev,rv⟩:=this;rw[ev]at g;exact⟨p,v',rfl,g,w v' F H (.refl s) rv (by nofun)⟩
 . cases e
end
open PySem.SeqAt PySem.MeetsSeq
section
variable  {o:Expr}{ty:TE}
end
section
variable  {o:Expr}{go:Rho->Res}
end
def TabE(w:aST)(K:Fg):List (Str×Str)->List DictEntry->Prop
 |[],es=>es=[]
 |(z,f)::r,es=>∃t a es',es=⟨PyData.keyHash w.params z,.str z t,.ref a⟩::es'/\W.nsIn K mainGlobals f=some (some (.ref a))/\TabE w K r es'
structure jB(w:aST)(K:Fg)(mg:SOV)(x:Str)(tb:List (Str×Str)):Prop where
 ex:∃a ob es ep,mg x=some (.ref a)/\K.lookup a=some ob/\ob.ExactDict/\ob.data=.dict es ep/\TabE w K tb es.toList
 nd:(tb.map (·.1)).Nodup
section
variable  {b:Expr}{es:List Expr}{pos:Pos}{tb:List (Str×Str)}
end
def aR.frz{F:Hp}(R:aR K F0 H0 F H σ ρ){d:D}(e:ρ[i]? = some (some (true,d))):∃F',aD F F'/\aR K F0 H0 F' H σ (ρ.set i (some (false,d))):=by
 obtain⟨v,ev,rp,hn⟩:=R.slot i true d e;obtain⟨x,rfl,nx,t⟩:=rp;obtain⟨o,ho,r⟩:=t.freeze nx;have sm:aD F (upd F x o):=λb u q=>by rw[aP (bV q nx)];exact q
 have hi:i<ρ.length:=(aOJ.mp e).1;refine⟨upd F x o,sm,R.st.freeze (hn rfl x rfl) nx ho,λj m d' ej=>?_,λj k d1 d2 a hjk e1 e2 q1 q2=>?_,by rw[aQZ];exact R.len⟩
 . by_cases hj:j=i
   . subst hj;rw[aOK hi]at ej;cases ej;exact⟨.ref x,ev,r,by nofun⟩
   . rw[aOL (λz=>hj z.symm)]at ej;obtain⟨v',ev',rp',hn'⟩:=R.slot j m d' ej;refine⟨v',ev',?_,hn'⟩;cases m with
     |false=>exact aB.mono sm _ _ rp'
     |true =>
      obtain⟨a,rfl,na,t'⟩:=rp';have ax:a≠x:=λz=>by subst z;exact R.apart j i d' d a hj ej e ev' ev
      refine⟨a,rfl,by rw[aP ax];exact na,?_⟩
      cases d' with
      |lst ds=>obtain⟨xs,q,rr⟩:=t';exact⟨xs,q,rr.mono sm _ _⟩
      |dct ds=>obtain⟨xs,q,rr⟩:=t';exact⟨xs,q,rr.mono sm _ _⟩
      |ins c fs=>obtain⟨C,dx,gs,n,q,rr⟩:=t';exact⟨C,dx,gs,n,q,rr.mono sm _ _⟩
      |set ks=>obtain⟨S,q,rr⟩:=t';exact⟨S,q,rr⟩
      |dtn ds=>obtain⟨xs,q,rr⟩:=t';exact⟨xs,q,rr.mono sm _ _⟩
      |_=>exact t'.elim
 . have own:∀{j:Nat}{d1:D},(ρ.set i (some (false,d)))[j]? = some (some (true,d1))->ρ[j]? = some (some (true,d1)):=λ{j d1} z=>by
     by_cases hj:j=i
     . subst hj;rw[aOK hi]at z;cases z
     . rw[aOL (λy=>hj y.symm)]at z;exact z
   exact R.apart j k d1 d2 a hjk (own e1) (own e2) q1 q2
def kW(ρ:Rho)(i:Nat):aE:=match ρ[i]? with
 |some (some (true,d))=>.nx (ρ.set i (some (false,d)))
 |_=>.stuck
def aIM{g:Rho->aE}(h:PBv C X sts g):PBv C X sts (λρ=>(kW ρ i).thn g):=by
 refine PSs.imp h λE σ H q=>?_;obtain⟨ρ,F,R,w⟩:=q;dsimp only at w;unfold kW at w;split at w
 . rename_i d e;obtain⟨F',sm,R'⟩:=R.frz e;exact⟨_,F',R',bK.mono sm w⟩
 . exact w.elim
def Ent(w:aST):List Str->List (Int×aSQ)->Prop
 |[],l=>l=[]
 |x::xs,l=>∃t r,l=(hashStr w x,.str x t)::r/\Ent w xs r
def jC(w:aST):Bool:=w.params.followText "set-order"
def SetX(w:aST)(h:Heap)(a:Addr)(xs:List Str):Prop:=∃o es ep t,h.get? a=some o/\o.ExactSet/\o.data=.set es ep t/\Ent w xs es.toList/\xs.Nodup/\xs.length<scanBound/\t.fits es.size=true/\t.led = !jC w/\(xs=[]\/t.plain=false)
section
variable {w:aST}{A:aSS}{E:VSP}{s:aSR}
end
section
variable {w:aST}{A:aSS}{E:VSP}{s:aSR}
end
def sob(w:aST):Obj:={ cls:=.type "set", dict:=none,data:=.set #[] 0 (.fresh 0 0 (!jC w)) }
section
variable {w:aST}{A:aSS}{E:VSP}{s:aSR}
end
def Small(m:Nat):Prop:=m=7\/m=15\/m=31
section
variable {m:Nat}{ow:Array (Option Nat)}
end
def SetM(w:aST)(h:Heap)(a:Addr)(xs:List Str):Prop:=∃o es ep t,h.get? a=some o/\o.ExactSet/\o.data=.set es ep t/\Ent w xs es.toList/\xs.Nodup/\xs.length<scanBound/\t.fits es.size=true/\t.led = !jC w/\(xs=[]\/t.plain=false)/\Small t.mask/\t.dummies = #[]
section
variable {w:aST}{A:aSS}{E:VSP}{s:aSR}
def Wide(h:Heap)(a:Addr)(n:Nat):Prop:=∀o es ep t,h.get? a=some o->o.data=.set es ep t->n<=t.mask
end
section
variable {w:aST}{A:aSS}{E:VSP}{s:aSR}
end
section
variable {w:aST}{A:aSS}{E:VSP}{s:aSR}{a:Addr}{o:Obj}{es:Array (Int×aSQ)}{t:SetTable}
end
section
variable {w:aST}{A:aSS}{E:VSP}{s:aSR}
variable  {a:Addr}{o:Obj}{es:Array (Int×aSQ)}{t:SetTable}
end
section
variable {w:aST}{A:aSS}{E:VSP}{s:aSR}{a:Addr}{xs:List Str}
end
def sx(w:aST)(l:Addr)(ys:List Str):HO:=.ext λh=>SetX w h l ys
section
variable  {eb:Expr}
end
section
variable  {eb:Expr}{q q2 pos:Pos}
end
section
variable {w:aST}{A:aSS}{E:VSP}{s:aSR}{l:Addr}
end
section
variable  {pos:Pos}
end
section
variable {w:aST}{A:aSS}{R:Result->aSR->Prop}{s:aSR}{b:Bool}{tg2 uK:Expr}{pos:Pos}{it acc:aSQ}
end
def AllF(ρ:Rho):Prop:=∀(i:Nat) (m:Bool) (d:D),ρ[i]? = some (some (m,d))->m=false
def AR(K:Fg)(w:aST)(b:Bool)(Da:Addr)(F:Hp)(zs:List D)(o:HO):Prop:=match b with
 |true=>∃ys,o=.lst ys/\aC K F zs ys
 |false=>∃(ns ys:List Str),zs=ns.map .str/\o=sx w Da ys/\ys.Nodup/\ys.length<=ns.length/\(∀x,x∈ys↔x∈ns)/\∀x∈ns,x.length<=sizeLine/\PyData.strOk x=true
def isStrD:D->Bool|.str _=>true|_=>false
def limA(b:Bool):Nat:=match b with|true=>sizeLine|false=>scanBound-1
def emK(w:aST)(b:Bool)(Da:Addr)(y:V)(H4:Hp)(R:Hp->Prop):Prop:=match b with
 |true=>∃ys,H4 Da=some (.lst ys)/\ys.length<sizeLine/\R (upd H4 Da (.lst (ys++[y])))
 |false=>∃x ys,y=.str x/\H4 Da=some (sx w Da ys)/\ys.length+1<scanBound/\∀ys',ys'.Nodup->(∀z,z∈ys'↔z∈ys\/z=x)->ys'.length<=ys.length+1->R (upd H4 Da (sx w Da ys'))
section
variable  {uK tg2:Expr}{pos:Pos}{gt gi2 ge:Rho->Res}
variable (hc : X.calm = true) (hi : PIv C X tg bI gi) (bY : ∀ y ∈ scope.names, y.2 ≠ .cell) (eN : scope.kind = .function) (iK : ∀ y ∈ scope.names, y.2 = .local → scope.names.lookup y.1 = some .local)
    (eO:∀y∈scope.names,y.2=.free->X.env.kindOf y.1=some .cell\/X.env.kindOf y.1=some .free)
    (fL:aT.map some=caps.map λi=>X.N[i]?) (iM:∀y∈aT,(y,NameKind.free)∈scope.names)
    (iL:∀y∈aT,(relabel scope X.env).names.lookup y=some .cell\/(relabel scope X.env).names.lookup y=some .free)
    (hn:tgN.length=2)
    (hg:∀cl A fp s3 H3,PGw (bP X scope (aT++tgN) cl A fp s3 H3) tg (.nm caps.length)) (hf:∀cl A fp s3 H3,d9 (bP X scope (aT++tgN) cl A fp s3 H3) ifs (tT (C.nox.at X) gt))
    (hi2:∀cl A fp s3 H3,PIv C.nox (bP X scope (aT++tgN) cl A fp s3 H3) tg2 uK gi2) (hg2:∀cl A fp s3 H3,PGw (bP X scope (aT++tgN) cl A fp s3 H3) tg2 (.nm (caps.length+1)))
    (he:∀cl A fp s3 H3,PV C.nox (bP X scope (aT++tgN) cl A fp s3 H3) elt ge)
    (hs:∀x,foldedSetIterable bI X.env x=pure x) (hs2:∀env x,foldedSetIterable uK env x=pure x)
include hc hi bY eN iK eO fL iM iL hn hg hf hi2 hg2 he hs hs2
end
open PySem.W
structure StrO(n:Nat)(lt:Nat->Nat->Bool):Prop where
 tr:∀{i j k},lt i j=true->lt j k=true->lt i k=true
 asy:∀{i j},lt i j=true->lt j i=false
 tot:∀{i j},i<n->j<n->i≠j->lt i j=true\/lt j i=true
section
variable {lt:Nat->Nat->Bool}{cmp:Nat->Nat->(Bool->aSR->Prop)->aSR->Prop}{J:aSR->Prop}
def Upto(lt:Nat->Nat->Bool)(p:Array Nat)(b:Nat):Prop:=∀i j,i<j->j<b->lt (p.getD i 0) (p.getD j 0)=true
def Dnto(lt:Nat->Nat->Bool)(p:Array Nat)(b:Nat):Prop:=∀i j,i<j->j<b->lt (p.getD j 0) (p.getD i 0)=true
end
section
variable {w:aST}{A:aSS}{E:VSP}{s:aSR}
end
section
variable {w:aST}{A:aSS}{E:VSP}{s:aSR}
end
open PySem.SeqAt PySem.MeetsSeq
section
variable  {o:Expr}{ty:TE}
end
section
variable  {o:Expr}{go:Rho->Res}
end
section
variable {pos:Pos}{d m:Str}{p0 p3 p4 p5 p6 p7 p8 p9:Pos}{jd jm k0:Nat}
end
end D3
namespace L2
open D3
end L2
namespace D3
section
variable {pos:Pos}
end
abbrev Rise(xs:Array Nat):Prop:=xs.toList.Pairwise (· < ·)
def PlOk(t:SetTable):Prop:=t.plain=false\/(t.dummies = #[]/\Rise t.place)
def EntI(w:aST):List Int->List (Int×aSQ)->Prop
 |[],l=>l=[]
 |x::xs,l=>∃t r,l=(hashInt x,.int x t)::r/\EntI w xs r
section
variable {w:aST}{A:aSS}{E:VSP}{s:aSR}
end
section
variable {w:aST}{A:aSS}{E:VSP}{s:aSR}
end
section
variable {w:aST}{A:aSS}{E:VSP}{s:aSR}
end
section
variable {w:aST}{A:aSS}{E:VSP}{s:aSR}
variable  {a:Addr}{o:Obj}{es:Array (Int×aSQ)}{t:SetTable}
end
section
variable {w:aST}{A:aSS}{E:VSP}{s:aSR}{a:Addr}{xs:List Int}
end
section
variable  {pos:Pos}
end
section
variable {es:List Expr}{pos:Pos}
end
section
variable  {gk:Rho->Res}{sp pos:Pos}
end
section
open PySem.SeqAt
open PySem.AutoSeq1 (wpAny_loadPart')
open PySem.MeetsSeq PySem.MeetsSeq2 PySem.MeetsSeq3
variable {w:aST}{A:aSS}{E:VSP}{s:aSR}
end
section
variable {w:aST}{A:aSS}{E:VSP}{s:aSR}
end
section
variable {w:aST}{K:Type}[DecidableEq K]{knd:KeyKind prog w K}{A:aSS}{E:VSP}{s:aSR}
end
section
variable  {eb:Expr}{pos:Pos}
end
open PySem.Calls
section
variable  {o f:Expr}{go ge gf:Rho->Res}
end
end D3
namespace PySem
open PySem.Sem (wp)
section
variable {w:aST}{A:aSS}{E:VSP}{s:aSR}
end
end PySem
namespace L2
end L2
namespace D3
open PySem.Calls
section
variable  {pos:Pos}
end
section
variable {pos:Pos}
end
section
variable {s:aSR}
abbrev KN:=Paired (λ(p:N×Addr×V) (q:N×Addr×aSQ)=>p.1=q.1/\p.2.1=q.2.1/\aM p.2.2 q.2.2)
end
section
variable {s:aSR}{a:Addr}{d:V}{r:aSQ}{o:Option V}{A:aSS}{E:VSP}
end
open PySem.Calls
section
variable  {F:Hp}
end
section
variable  {a b o f:Expr}{go ge gf:Rho->Res}{pos:Pos}
end
section
variable  {gk:Rho->Res}{sp pos:Pos}
end
open PySem.W
structure WkO(lt:Nat->Nat->Bool):Prop where
 ntr:∀{i j k},lt i j=false->lt j k=false->lt i k=false
 asy:∀{i j},lt i j=true->lt j i=false
structure PW(n:Nat)(p:Array Nat):Prop where
 size:p.size=n
 below:∀k,p.getD k 0<n
section
variable {lt:Nat->Nat->Bool}{cmp:Nat->Nat->(Bool->aSR->Prop)->aSR->Prop}{J:aSR->Prop}
def Wup(lt:Nat->Nat->Bool)(p:Array Nat)(b:Nat):Prop:=∀i j,i<j->j<b->lt (p.getD j 0) (p.getD i 0)=false
def Wdn(lt:Nat->Nat->Bool)(p:Array Nat)(b:Nat):Prop:=∀i j,i<j->j<b->lt (p.getD i 0) (p.getD j 0)=false
def Weq(lt:Nat->Nat->Bool)(p:Array Nat)(a b:Nat):Prop:=∀i j,a<=i->i<b->a<=j->j<b->lt (p.getD i 0) (p.getD j 0)=false
end
section
variable {w:aST}{A:aSS}{E:VSP}{s:aSR}{κ:SortKind}{ks vs:List aSQ}{lt:Nat->Nat->Bool}
end
section
variable {w:aST}{s:aSR}
end
section
variable {w:aST}{A:aSS}{E:VSP}{s:aSR}
end
section
variable {w:aST}{A:aSS}{E:VSP}{s:aSR}
end
section
variable {w:aST}{A:aSS}{E:VSP}{s:aSR}{d:Addr}{o:Obj}{es:Array DictEntry}
end
section
variable {w:aST}{A:aSS}{E:VSP}{s:aSR}
end
def qH(w:aST)(p:N×Addr):Int×aSQ:=(jZ w p.1,.ref p.2)
def SetN(w:aST)(h:Heap)(a:Addr)(ps:List (N×Addr)):Prop:=∃o es ep t,h.get? a=some o/\o.ExactSet/\o.data=.set es ep t/\es.toList=ps.map (qH w)/\ps.length<=4/\t.fits es.size=true/\t.led = !jC w/\PlOk t
def Set1(w:aST)(h:Heap)(a:Addr)(p:N×Addr):Prop:=∃o ep t,h.get? a=some o/\o.ExactSet/\o.data=.set #[qH w p] ep t/\t.mask=7/\t.dummies = #[]/\t.place = #[SetTable.bits (jZ w p.1) % 8]/\t.led = !jC w
section
variable {w:aST}{A:aSS}{E:VSP}{s:aSR}{a c:Addr}{x y:N}
end
section
variable {w:aST}{A:aSS}{E:VSP}{s:aSR}{k1 k2:N}{b1 b2:Addr}
end
section
variable {w:aST}{A:aSS}{E:VSP}{s:aSR}
variable  {a:Addr}{o:Obj}{es:Array (Int×aSQ)}{t:SetTable}
end
section
variable {w:aST}{A:aSS}{E:VSP}{s:aSR}{a:Addr}{xs:List (N×Addr)}
end
open PySem.W
section
variable {w:aST}{A:aSS}{E:VSP}{s:aSR}{a:Addr}{xs:List (N×Addr)}
end
def sn(w:aST)(l:Addr)(ps:List (N×Addr)):HO:=.ext λh=>SetN w h l ps
section
variable  {pos:Pos}
end
def pat(t:SetTable)(h:Int):Nat->SetTable.Probe
 |0=>t.probeStart h
 |n+1=>t.advance (pat t h n)
def Rch(t:SetTable)(h:Int)(j:Nat):Prop:=∃n,(pat t h n).j=j/\∀m<n,(pat t h m).j∈t.place.toList
structure SlN(w:aST)(t:SetTable)(es:Array (Int×aSQ))(qs:List (Nat×N×Addr)):Prop where
 mask:t.mask=7
 dum:t.dummies = #[]
 rise:Rise t.place
 place:t.place.toList=qs.map (·.1)
 ents:es.toList=qs.map λq=>qH w q.2
 few:qs.length<=4
 led:t.led = !jC w
 rch:∀q∈qs,Rch t (jZ w q.2.1) q.1
section
variable {w:aST}{A:aSS}{E:VSP}{s:aSR}{a c:Addr}{x y:N}
end
def SetG(w:aST)(h:Heap)(a:Addr)(qs:List (Nat×N×Addr)):Prop:=∃o es ep t,h.get? a=some o/\o.ExactSet/\o.data=.set es ep t/\SlN w t es qs
section
variable {w:aST}{A:aSS}{E:VSP}{s:aSR}{a:Addr}{x:N}
end
structure Uq(ks ps:List (N×Addr)):Prop where
 sub:∀p∈ps,p∈ks
 nd:(ps.map (·.1)).Nodup
 all:∀p∈ks,p.1∈ps.map (·.1)
section
variable {w:aST}{A:aSS}{E:VSP}
end
section
variable {w:aST}{A:aSS}{E:VSP}{s:aSR}
end
section
variable  {F:Hp}
end
section
variable  {pos:Pos}
end
open PySem.W
end D3
namespace L2
end L2
namespace D3
section
open PySem.SeqAt
open PySem.AutoSeq1 (wpAny_loadPart')
open PySem.MeetsSeq PySem.MeetsSeq2 PySem.MeetsSeq3
end
section
variable {w:aST}{A:aSS}{E:VSP}{s:aSR}
end
open PySem.W
section
variable {s:aSR}{E:VSP}
end
section
variable {w:aST}{A:aSS}{E:VSP}{s:aSR}
end
section
variable {s:aSR}{E:VSP}
end
section
variable {w:aST}{A:aSS}{E:VSP}{s:aSR}
end
section
variable  {F:Hp}{s:aSR}
end
section
variable  {F:Hp}{s:aSR}{E:VSP}
end
theorem xJ:∀{ps:List Str}{us:List aSQ},ps.Nodup->us.length=ps.length->ps.filterMap (λn=>((ps.zip us).lookup n).map (n,·))=ps.zip us/\∀n∈ps,((ps.zip us).lookup n).isNone=false
 |[],us,_,_=>⟨rfl,λ_ h=>by cases h⟩
 |p::ps,[],_,h=>by cases h
 |p::ps,u::us,nd,h=>by
  obtain⟨h1,h2⟩:=aO8.mp nd;obtain⟨i1,i2⟩:=xJ (us:=us) h2 (Nat.succ.inj h);have e:∀n∈ps,((p,u)::ps.zip us).lookup n=(ps.zip us).lookup n:=λn hn=>by rw[aQ8];have:(n==p)=false:=aN3.mpr λz=>h1 (z ▸ hn);rw[this]
  refine⟨?_,λn hn=>?_⟩
  . rw[List.zip_cons_cons,aOF,aQ8,aQ9];dsimp only[Option.map];refine congrArg _ (Eq.trans ?_ i1);have c:∀l:List Str,(∀n∈l,n∈ps)->l.filterMap (λn=>(((p,u)::ps.zip us).lookup n).map (n,·))=l.filterMap (λn=>((ps.zip us).lookup n).map (n,·)):=by
      intro l hl
      induction l with
      |nil=>rfl
      |cons a l ih=>rw[aOF,aOF,e a (hl a mcs),ih λn hn=>hl n (mcm hn)]
    exact c ps λ_ h=>h
  . rw[List.zip_cons_cons];rcases aOG.mp hn with rfl|hn
    . rw[aQ8,aQ9];rfl
    . rw[e n hn];exact i2 n hn
def xK(h1:fd.params.posonlyargs=[])(h2:fd.params.args.map (·.arg)=ps)(h3:fd.params.vararg=none)(h4:fd.params.kwonlyargs=[])(h5:fd.params.kwarg=none)(hd:fd.defaults=.none)(h6:ps.Nodup)(us:List aSQ)(hl:us.length=ps.length):bindArgs fd ⟨us,[]⟩=pure (ps.zip us):=by
 obtain⟨z1,z2⟩:=xJ h6 hl;have z3:(ps.take (ps.length-0)).filter (λn=>((ps.zip us).lookup n).isNone)=[]:=by rw[Nat.sub_zero,aRG,List.filter_eq_nil_iff];intro n hn;rw[z2 n hn];decide
 unfold bindArgs;simp only[h1,h2,h3,h4,h5,hd,aQE,aRJ,aO7,aQ5,aQ7,hl,aN9,seqItems?];have q:(do notAStandIn Value.none;pure none:Sem (Option (Array aSQ)))=pure none:=rfl
 rw[q];simp only[aQ7,aP1,aQC,Nat.zero_sub,aRC,z3,decide_false,Bool.false_and,aRA,aPS,List.isEmpty_nil,Bool.not_true,List.zip_nil_right,aQ5,z1,Array.toList_empty,List.drop_nil]
section
variable  {q kp pos:Pos}{Φ:D->Res}
end
section
variable {w:aST}{K:Type}[DecidableEq K]{knd:HeapKind prog w K}{A:aSS}{E:VSP}{s:aSR}
end
section
variable {s:aSR}{a:Addr}{A:aSS}{E:VSP}
end
section
variable  {o f:Expr}
end
abbrev GD:=List (N×List D)
def fY(ρ:Rho):Prop:=∀(j:Nat) d,ρ[j]?≠some (some (true,d))
def qI(ρ:Rho):Bool:=ρ.all λx=>match x with|some (true,_)=>false|_=>true
def aIN(h:qI ρ=true):fY ρ:=λj d e=>by have:=aQU.mp h _ (aPG e);cases this
def aR.other{F:Hp}{o:HO}(R:aR K F0 H0 F H σ ρ)(n:fY ρ)(hf:F b=none)(h0:H0 b=none):aR K F0 H0 F (upd H b o) σ ρ:=by
 refine⟨⟨λc u q=>by rw[aP (bV q h0)];exact R.st.same c u q,R.st.fsame,λc u q=>by rw[aP (bV q hf)];exact R.st.sub c u q,R.st.new⟩,λj m d e=>?_,λi j d d' a _ e1 _ _ _=>(n i d e1).elim,R.len⟩
 obtain⟨v,e1,r,e3⟩:=R.slot j m d e;cases m with
 |true=>exact(n j d e).elim
 |false=>exact⟨v,e1,r,e3⟩
abbrev GM:=Rho->GD->Option (Rho×GD)
section
variable  {ve:Expr}{gk gv:Rho->Res}{ap1 cp1 ap2 cp2 lp pos:Pos}
end
section
variable {t:Tg}{g:GM}{pos:Pos}
end
def aR.hide{F:Hp}(i:Nat)(v:V)(R:aR K F0 H0 F H σ ρ)(n:fY (ρ.set i none)):aR K F0 H0 F H (σ.set i (some v)) (ρ.set i none):=by
 refine⟨R.st,λj m d e=>?_,λj k d d' a _ e1 _ _ _=>(n j d e1).elim,by rw[aQZ,aQZ];exact R.len⟩
 by_cases hj:j=i
 . subst hj;rw[aQ0]at e;split at e
   . split at e <;> cases e
   . rename_i z;exact absurd rfl z
 . rw[aOL (λz=>hj z.symm)]at e ⊢;exact R.slot j m d e
section
variable {g:GM}{sp:Pos}{rest:List Stmt}{h:Rho->aE}
end
section
variable {s:aSR}{a:Addr}{A:aSS}{E:VSP}
end
section
variable  {o f:Expr}
end
abbrev JD:=List (Key×List D)
abbrev HM:=Rho->JD->Option (Rho×JD)
section
variable  {ve:Expr}{gk gv:Rho->Res}{ap1 cp1 ap2 cp2 lp pos:Pos}
end
section
variable {t:Tg}{g:HM}{pos:Pos}
end
section
variable {g:HM}{sp:Pos}{rest:List Stmt}{h:Rho->aE}
end
section
variable {w:aST}{A:aSS}{E:VSP}{s:aSR}
end
section
variable  {o:Expr}
end
abbrev FZ:=List D×List Str
abbrev FMz(Z:Type):=Rho->Z->Option (Rho×Z)
abbrev FM:=FMz FZ
section
variable {g h:FM}
end
section
variable {t:Tg}{g:FM}{pos:Pos}
end
section
variable  {y:Str}{q sp pos:Pos}
end
theorem fY.set(h:fY ρ)(i:Nat){u:Option (Bool×D)}(hu:∀d,u≠some (true,d)):fY (ρ.set i u):=λj d e=>by
 rw[aQ0]at e;split at e
 . split at e
   . exact hu d (aN5 e)
   . cases e
 . exact h j d e
section
variable  {y:Str}{q sp pos:Pos}
end
section
variable  {y r:Str}{g:FM}{p3 p4 p5 p6 p7 q2 q3 q4 q5:Pos}
end
abbrev KD:=List (Key×D)
def TxK(kvs:KD):Prop:=∀kv∈kvs,∀x,kv.1=.inr x->x.length<=sizeLine/\PyData.strOk x=true
section
variable {g h:FMz KD}
end
section
variable {t:Tg}{g:FMz KD}{pos:Pos}
end
def hideH(H:Hp)(a:Addr):Hp:=λc=>if c=a then none else H c
def spM(K:Fg)(Ψ:D->KD->Option KD)(vs:List V)(H:Hp)(Q:VK):Prop:=∃F d v a kvs xs kvs',vs=[v,.ref a]/\aD F H/\aB K F d v/\H a=some (.dK xs)/\F a=none/\aI K F kvs xs/\TxK kvs/\Ψ d kvs=some kvs' /\
 ∀F' H' xs',aG F (hideH H a) F' H'->F' a=none->H' a=some (.dK xs')->aI K F' kvs' xs'->TxK kvs'->Q (.ref a) H'
def m9(K:Fg)(Ψ:D->KD->Option KD):Sp:=λvs H Q _=>spM K Ψ vs H Q
section
variable  {y f:Str}{q r sp pos:Pos}
structure FnM(P:aSU)(w:aST)(K:Fg)(mg:SOV)(base:Heap)(CX:CXT)(k:Nat)(x:Str)(Ψ:D->KD->Option KD):Prop where
 ex:∃f fd ps,bM P w K mg base CX k f fd ps (m9 K Ψ)/\mg x=some (.ref f)/\W.keepIn K (.ref f)=true/\cV K fd ps []
end
section
variable {f:Str}{p3 pos:Pos}
end
end D3
namespace L2
section
variable {σ:St}{s:aSR}{E:VSP}
end
end L2
namespace D3
def aIO{w:aST}{c:Addr}(e:h.IsCell c (some u))(r:aM y u):bO P w H h c (fQ c y):=by obtain⟨o,e1,e2⟩:=e;refine⟨⟨u,⟨o,e1,e2⟩,r⟩,⟨o,e1⟩,λh1 h2 p k=>?_⟩;obtain⟨u',⟨o',q1,q2⟩,q3⟩:=p;exact⟨u',⟨o',k o' q1,q2⟩,q3⟩
def spC(K:Fg)(f0 a b:Str):Sp:=λvs H Q _=>∃F kd v1 p0 xs kvs,vs=[v1,.ref p0]/\aD F H/\aB K F kd v1/\Rd H p0 (.dK xs)/\aI K F kvs xs/\∀F' H' v,aG F H F' H'->aB K F' (.clo f0 "" [(a,kd),(b,.dct kvs)]) v->Q v H'
mutual
def plD:D->Bool
 |.tup xs=>plL xs
 |.lst xs=>plL xs
 |.dct kvs=>plK kvs
 |.ins _ fs=>plF fs
 |.exn _=>false|.clo _ _ _=>false|.dtn _=>false|.dtf _=>false|.dcf _=>false
 |_=>true
def plL:List D->Bool
 |[]=>true
 |d::ds=>plD d&&plL ds
def plK:List (Key×D)->Bool
 |[]=>true
 |(_,d)::ds=>plD d&&plK ds
def plF:List (Str×D)->Bool
 |[]=>true
 |(_,d)::ds=>plD d&&plF ds
end
def But(H H':Hp):Prop:=∀b o,H b=some o->(∀p,o ≠ .ext p)->H' b=some o
section
variable  {F:Hp}
def But.seqT{a:Addr}(e:But F F')(h:SqT K F a xs):SqT K F' a xs:=by
 rcases h with(h|⟨o,h⟩)|h
 . exact .inl (.inl (e _ _ h nofun))
 . exact .inl (.inr ⟨o,e _ _ h nofun⟩)
 . exact .inr h
def But.seq{a:Addr}(e:But F F')(h:SqL K F a xs):SqL K F' a xs:=by
 rcases h with(h|⟨o,h⟩)|h
 . exact .inl (.inl (e _ _ h nofun))
 . exact .inl (.inr ⟨o,e _ _ h nofun⟩)
 . exact .inr h
mutual
theorem aB.but(s:But F F'):∀(d:D) (v:V),plD d=true->aB K F d v->aB K F' d v
 |.non,_,_,h=>by simpa only [aB]using h
 |.bl _,_,_,h=>by simpa only [aB]using h
 |.int _,_,_,h=>by simpa only [aB]using h
 |.str _,_,_,h=>by simpa only [aB]using h
 |.ty _,_,_,h=>by simpa only [aB]using h
 |.ob _,_,_,h=>by simpa only [aB]using h
 |.fn _,_,_,h=>by simpa only [aB]using h
 |.tup ds,v,p,h=>by simp only[plD]at p;simp only[aB]at h ⊢;obtain⟨a,xs,e,q,r⟩:=h;exact⟨a,xs,e,s.seqT q,aC.but s ds xs p r⟩
 |.lst ds,v,p,h=>by simp only[plD]at p;simp only[aB]at h ⊢;obtain⟨a,xs,e,q,r⟩:=h;exact⟨a,xs,e,s.seq q,aC.but s ds xs p r⟩
 |.dct ds,v,p,h=>by simp only[plD]at p;simp only[aB]at h ⊢;obtain⟨a,xs,e,q,r⟩:=h;exact⟨a,xs,e,s _ _ q nofun,aI.but s ds xs p r⟩
 |.set _,_,_,h=>by simp only[aB]at h ⊢;obtain⟨a,S,e,q,r⟩:=h;exact⟨a,S,e,s _ _ q nofun,r⟩
 |.ins c fs,v,p,h=>by simp only[plD]at p;simp only[aB]at h ⊢;obtain⟨a,C,dx,gs,e,n,q,r⟩:=h;exact⟨a,C,dx,gs,e,n,s _ _ q nofun,cH.but s fs gs p r⟩
 |.exn _,_,p,_=>by simp only[plD]at p;cases p
 |.clo _ _ _,_,p,_=>by simp only[plD]at p;cases p
 |.dtn _,_,p,_=>by simp only[plD]at p;cases p
 |.dtf _,_,p,_=>by simp only[plD]at p;cases p
 |.dcf _,_,p,_=>by simp only[plD]at p;cases p
theorem aC.but(s:But F F'):∀(ds:List D) (xs:List V),plL ds=true->aC K F ds xs->aC K F' ds xs
 |[],_,_,h=>by simpa only [aC]using h
 |d::ds,xs,p,h=>by simp only[plL,aPY]at p;simp only[aC]at h ⊢;obtain⟨y,ys,e,q,r⟩:=h;exact⟨y,ys,e,aB.but s d y p.1 q,aC.but s ds ys p.2 r⟩
theorem aI.but(s:But F F'):∀(ds:List (Key×D)) (xs:List (Key×V)),plK ds=true->aI K F ds xs->aI K F' ds xs
 |[],_,_,h=>by simpa only [aI]using h
 |(k,d)::ds,xs,p,h=>by simp only[plK,aPY]at p;simp only[aI]at h ⊢;obtain⟨y,ys,e,q,r⟩:=h;exact⟨y,ys,e,aB.but s d y p.1 q,aI.but s ds ys p.2 r⟩
theorem cH.but(s:But F F'):∀(ds:List (Str×D)) (xs:List (Str×V)),plF ds=true->cH K F ds xs->cH K F' ds xs
 |[],_,_,h=>by simpa only [cH]using h
 |(k,d)::ds,xs,p,h=>by simp only[plF,aPY]at p;simp only[cH]at h ⊢;obtain⟨y,ys,e,q,r⟩:=h;exact⟨y,ys,e,aB.but s d y p.1 q,cH.but s ds ys p.2 r⟩
end
end
def fZ(P:aSU)(w:aST)(K:Fg)(mg:SOV)(base:Heap)(N:List Str)(q:Str)(scope:Scope)(cl:List (Str×Addr))(f:Addr)(cd:aSQ)(A:aSS)(outer:List Env)(s:aSR)(H:Hp):Cx where
 prog:=P
 w:=w
 K:=K
 mg:=mg
 base:=base
 A:=A.deeper (W.envX q scope s.heap.objs.size f cd cl)
 N:=N
 s₀:=s
 H₀:=H
 env:=W.envX q scope s.heap.objs.size f cd cl
 outer:=outer
 stack:=W.envX q scope s.heap.objs.size f cd cl::outer
 ex:=[]
 calm:=true
 fn:=λ_=>false
 pn:=[]
 xe:=λ_ _=>False
structure FnC(P:aSU)(w:aST)(K:Fg)(mg:SOV)(base:Heap)(CX:CXT)(k:Nat)(x a b:Str):Prop where
 ex:∃f fd ps,bM P w K mg base CX k f fd ps (spC K x a b)/\mg x=some (.ref f)/\W.keepIn K (.ref f)=true/\cV K fd ps []
section
variable {es:List Expr}{pos:Pos}{a b:Str}
end
structure CloG(K:Fg)(f kn pn g:Str):Prop where
 ex:∃q rn vn params scope p1 p2 p3 p4 p5 p6 pos,iU K f "" q (.FunctionDef vn params [.Return (some (.Call (.Name g p1) [.Name kn p2,.Name pn p3,.Name rn p4] [] p5)) p6] [] none [] scope none vn pos) /\
  scope.kind=.function/\scope.isCoroutine=false/\scope.isGenerator=false/\[kn,pn,rn].Nodup/\(∀y∈scope.names,y.2 ≠ .cell)/\(∀y∈scope.names,y.2=.free->y.1=kn\/y.1=pn) /\
  scope.names.lookup kn=some .free/\scope.names.lookup pn=some .free/\scope.names.lookup rn=some .local/\scope.names.lookup g=some .globalImplicit/\(∀y∈[kn,pn,rn,g],(y==("__debug__":Str))=false/\(y==("__classdict__":Str))=false) /\
  ∀name q body cl doc pm c ct u,bindArgs (W.fnX name q params body scope cl .none .none doc pm none (.ref c) ct) ⟨[u],[]⟩=pure [(rn,u)]
section
variable  {pos:Pos}{f kn pn g:Str}
end
def qJ(a:Arguments):Option Str:=match a.args with
 |[x]=>if a.posonlyargs.isEmpty&&a.vararg.isNone&&a.kwonlyargs.isEmpty&&a.kw_defaults.isEmpty&&a.kwarg.isNone&&a.defaults.isEmpty&&x.annotation.isNone then some x.arg else none
 |_=>none
def aIP{a:Arguments}(h:qJ a=some z):∃p,a=⟨[],[⟨z,none,p⟩],none,[],[],none,[]⟩:=by
 obtain⟨a1,a2,a3,a4,a5,a6,a7⟩:=a;unfold qJ at h;dsimp only at h;cases a2 with
 |nil=>cases h
 |cons x r =>
  cases r with
  |cons _ _=>cases h
  |nil =>
   dsimp only at h;split at h
   . rename_i q;cases h;simp only[aPY,aRK,aRL]at q;obtain⟨⟨⟨⟨⟨⟨rfl,rfl⟩,rfl⟩,rfl⟩,rfl⟩,rfl⟩,q⟩:=q;obtain⟨x1,x2,x3⟩:=x;cases q;exact⟨x3,rfl⟩
   . cases h
def qK:Stmt->Option (Str×Arguments×List Stmt×Scope)
 |.FunctionDef n a b ds r ts sc ty n' _=>if ds.isEmpty&&r.isNone&&ts.isEmpty&&ty.isNone&&n'==n then some (n,a,b,sc)else none
 |_=>none
def aIQ{s:Stmt}{n:Str}{a:Arguments}{b:List Stmt}(h:qK s=some (n,a,b,sc)):∃p,s=.FunctionDef n a b [] none [] sc none n p:=by
 cases s with
 |FunctionDef n1 a1 b1 ds r ts sc1 ty n' p =>
  unfold qK at h;dsimp only at h;split at h
  . rename_i q;cases h;simp only[aPY,aRK,aRL,aQS]at q;obtain⟨⟨⟨⟨rfl,rfl⟩,rfl⟩,rfl⟩,rfl⟩:=q;exact⟨p,rfl⟩
  . cases h
 |_=>cases h
def aIR{name rn:Str}{doc pm c ct:aSQ}:bindArgs (W.fnX name q ⟨[],[⟨rn,none,ap⟩],none,[],[],none,[]⟩ body sc cl .none .none doc pm none c ct) ⟨[u],[]⟩=pure [(rn,u)] :=
 xK (ps:=[rn]) rfl rfl rfl rfl rfl rfl (aO8.mpr ⟨aRM,List.nodup_nil⟩) [u] rfl
theorem aIS{w:aST}{f c:Addr}{params:Arguments}{name rn:Str}{doc pm ct:aSQ}{A:aSS}{s:aSR}{F:Hp}{ys:List V}{Q:VK}{E:XK}{as:List Addr}{caps ls:List Str}{g:Rho->aE}{dc:List D}{dv d:D}(kd:scope.kind=.function)(co:scope.isCoroutine=false)(gen:scope.isGenerator=false)(bY:∀y∈scope.names,y.2 ≠ .cell)(hfr:∀y∈scope.names,y.2=.free->y.1∈caps)(ec:∀y∈caps,scope.names.lookup y=some .free)(er:scope.names.lookup rn=some .local)(hb:bindArgs (W.fnX name q params body scope cl .none .none doc pm none (.ref c) ct) ⟨[u],[]⟩=pure [(rn,u)])(hr:bL (k+1) A)(e0:iR P w K mg base A outer s H)(hf:H f=some (mM f (W.fnMade name q params body scope cl doc pm c ct)))(hc:H c=some (.crec q))(hcap:∀(i:Nat) x y,caps[i]? = some x->ys[i]? = some y->∃a,cl.lookup x=some a/\H a=some (fQ a y))(hlen:caps.length=ys.length)(only:∀x b,cl.lookup x=some b->b∈as)(has:∀b∈as,∃x y,cl.lookup x=some b/\H b=some (fQ b y))(inj:∀x y c,cl.lookup x=some c->cl.lookup y=some c->x=y)(r:aM v u)(sF:aD F H)(rc:aC K (bC as F) dc ys)(rv:aB K (bC as F) dv v)(hbody:PBv ⟨K,bC as F,bC as H,λ_ _ _=>False⟩ (fZ P w K mg base (caps++rn::ls) q scope cl f (.ref c) A outer s (bC as H)) body g)(hg:g (dE (caps++rn::ls).length (dc++[dv]))=.rt .fz d)(hq:∀v' F' H',aG F H F' H'->aB K F' d v'->Q v' H'):codeAny (model P w) A (.call (.ref f) ⟨[u],[]⟩) (CR CX outer P w H s Q E) s:=by
 have KX:K.In s.heap:=e0.mod.kin.keeps λb o e=>(e0.bs b o e).1;have lim:s.heap.NoLimit:=e0.mod.nolimit.keeps λb o e=>(e0.bs b o e).1;have hin:∀{G:Hp}{b},b∈as->bC as G b=none:=λh=>if_pos h;have hout:∀{G:Hp}{b},¬ b∈as->bC as G b=G b:=λh=>if_neg h;have hcl:∀b,b∈as->∃y,H b=some (fQ b y):=λb hb=>by obtain⟨_,y,_,e⟩:=has b hb;exact⟨y,e⟩
 have but:But H (bC as H):=λb o e n=>by rw[hout];exact e;intro hb;obtain⟨y,z⟩:=hcl b hb;rw[e]at z;cases z;exact n _ rfl
 have none0:∀b,H b=none->bC as H b=none:=λb e=>by
  by_cases hb:b∈as
  . exact hin hb
  . rw[hout hb];exact e
 refine aPK (fd:=W.fnX name q params _ scope cl .none .none doc pm none (.ref c) ct) hr.depth (aER e0.hok hf) rfl co gen rfl (aES e0.hok hc) ?_;rw[hb];refine aOV (aRB bY (λy hy=>by rw[aRF.mp hy];exact er) (λh4 hns hsb=>?_) kd)
 have keep:∀b o,s.heap.get? b=some o->h4.get? b=some o:=λb o e=>hsb.extBut b o (aOA (aN7 e)) (hps e);refine⟨lim.keeps keep,codeAny_func ?_⟩
 let N:=caps++rn::ls
 let X:=fZ P w K mg base N q scope cl f (.ref c) A outer s (bC as H)
 have ok:X.Ok :=
  { mod:=e0.mod
    kind:=kd
    glob:=rfl
    blt:=rfl
    above:=aOY _
    inj:=inj
    has:=λx hx=>by
     have hx:scope.names.lookup x=some .cell\/scope.names.lookup x=some .free:=hx;rcases hx with hx|hx
     . exact absurd rfl (bY _ (aPB hx))
     . have hm:=hfr _ (aPB hx) rfl;obtain⟨i,hi,e⟩:=aQV hm;obtain⟨a,e1,_⟩:=hcap i x (ys[i]'(hlen ▸ hi)) (by rw[aQX hi,e]) (aQX _)
       exact⟨a,e1⟩
    cab:=λx c z=>by cases z
    hd:=λ_=>hr.hd
    frames:=Around.frames_deeper e0.frames
    stk:=.inr ⟨rfl,rfl⟩
    exf:=λb hb=>nomatch hb
    bs:=λb o e=>⟨(e0.bs b o e).1,none0 b (e0.bs b o e).2⟩
    bsz:=e0.bsz
    noex:=λb o e hb=>nomatch hb
    exfs:=λb hb=>nomatch hb
    funs:=e0.funs
    frf:=λb hb=>none0 b (e0.frf b hb)
    tabs:=e0.tabs.mono λb ps e=>⟨#[],by rw[Array.append_empty];exact but b _ e nofun⟩ }
 have cellAt:∀{b:Addr}{y:V},H b=some (fQ b y)->∃u,s.heap.IsCell b (some u)/\aM y u:=λe=>(e0.hok _ _ e).1;have I:Inv X [] (cO N (ys++[v])) (bC as H) {s with heap:=h4,toks:=s.toks+[(rn,u)].length}:=by
  refine⟨ok,rfl,e0.bare,Un.kept keep,⟨_,hns,λi y v' q1 q2 q3=>?_⟩,λx c' e=>?_,none0 _ (e0.hok.fresh (aOY _)),λx c' e=>hin (only _ _ e),λp hp=>absurd (show p∈([]:LAO)from hp) (by simp),λb o e=>?_,by simp[L2.cO,X,fZ,N];lia⟩
  . have q1:(caps++rn::ls)[i]? = some y:=q1;have q2:(((ys++[v]).map some)++List.replicate ((caps++rn::ls).length-(ys++[v]).length) none)[i]? = some (some v'):=q2;by_cases hi:i<caps.length
    . rw[aPE hi]at q1;have hy:i<ys.length:=hlen ▸ hi;rw[aPE (by simp;lia),aPF,aPE hy]at q2
      have q2:ys[i]? = some v':=by rw[aQX hy]at q2 ⊢;cases q2;rfl
      obtain⟨a,e1,e2⟩:=hcap i y v' q1 q2;obtain⟨u1,i1,r1⟩:=cellAt e2;exact⟨u1,r1,.inr ⟨.inr (ec y (aPG q1)),a,e1,i1.keeps keep⟩⟩
    . by_cases hj:i=caps.length
      . subst hj;rw[aPC (aOY _),Nat.sub_self]at q1;cases q1;rw[aPE (by simp;lia),aPF,aPC (by lia),hlen,Nat.sub_self]at q2
        cases q2;exact⟨u,r,.inl ⟨er,by simp⟩⟩
      . rw[aPC (by simp;lia),aPD]at q2
        split at q2 <;> cases q2
  . obtain⟨y,z⟩:=hcl c' (only _ _ e);obtain⟨u',iu,_⟩:=cellAt z;exact⟨_,iu.keeps keep⟩
  . have hb:¬ b∈as:=λhb=>by rw[hin hb]at e;cases e
    rw[hout hb]at e;exact(e0.hok b o e).stay (λb' u' _ q'=>keep b' u' q') (λd' q'=>but _ _ q' nofun) λd' t' q'=>but _ _ q' (by cases t' <;> nofun)
 let C:Cw:=⟨K,bC as F,bC as H,λ_ _ _=>False⟩
 have sh:aD (bC as F) (bC as H):=λb o e=>by
  by_cases hb:b∈as
  . rw[hin hb]at e;cases e
  . rw[hout hb]at e ⊢;exact sF b o e
 have RS:aR K (bC as F) (bC as H) (bC as F) (bC as H) (cO N (ys++[v])) (dE N.length (dc++[dv])):=pT (N:=N) sh (rc.append (aC.cons rv aC.nil));refine aOM (hbody [] _ _ _ {nx:=λ_ _=>False,rt:=λv' H'=>∃F',aG (bC as F) (bC as H) F' H'/\aB K F' d v'} I ⟨_,_,RS,?_⟩) (λfl s' hs=>?_) λe s' hs=>hs.elim
 . show bK _ _ (g (dE N.length (dc++[dv]))) _;rw[hg];exact λv' F' H' st rp _=>⟨F',st,rp⟩
 . cases fl with
   |next=>obtain⟨_,_,_,q⟩:=hs;exact q.elim
   |brk=>obtain⟨_,_,_,q⟩:=hs;exact q.elim
   |cont=>obtain⟨_,_,_,q⟩:=hs;exact q.elim
   |ret u' =>
    obtain⟨v',_,H',J,rv',F',st,rd⟩:=hs;have sH:aD (bC as H) H':=st.same
    let H5:Hp:=λb=>if b∈as then H b else H' b
    let F5:Hp:=λb=>if b∈as then F b else F' b
    have h5i:∀{b},b∈as->H5 b=H b:=λh=>if_pos h;have h5o:∀{b},¬ b∈as->H5 b=H' b:=λh=>if_neg h;have f5i:∀{b},b∈as->F5 b=F b:=λh=>if_pos h;have f5o:∀{b},¬ b∈as->F5 b=F' b:=λh=>if_neg h;have gone:∀b,b∈as->H' b=none:=λb hb=>by obtain⟨x,_,e,_⟩:=has b hb;exact J.freeC x b e
    have up:aD H' H5:=λb o e=>by rw[h5o];exact e;intro hb;rw[gone b hb]at e;cases e
    have upF:aD F' F5:=λb o e=>by rw[f5o];exact e;intro hb;have:=st.sub b o e;rw[gone b hb]at this;cases this
    have same:aD H H5:=λb o e=>by
     by_cases hb:b∈as
     . rw[h5i hb];exact e
     . rw[h5o hb];exact sH b o (by rw[hout hb];exact e)
    have st5:aG F H F5 H5:=⟨same,λb o e=>by
     by_cases hb:b∈as
     . rw[f5i hb];exact e
     . rw[f5o hb];exact st.fsame b o (by rw[hout hb];exact e),λb o e=>by
     by_cases hb:b∈as
     . rw[f5i hb]at e;rw[h5i hb];exact sF b o e
     . rw[f5o hb]at e;rw[h5o hb];exact st.sub b o e,λb q1 q2=>by
     by_cases hb:b∈as
     . rw[f5i hb];exact q1
     . rw[f5o hb];exact st.new b (by rw[hout hb];exact q1) (by rw[hout hb];exact q2)⟩
    have un:=J.base;refine⟨v',H5,J.os,J.bare,⟨λb o e n hb hx=>un.keep b o e (none0 b n) hb hx,λb o e n hb hx=>un.slot b o e (none0 b n) hb hx,λb o e n hx=>?_,un.there,λb xs e=>same _ _ e,λb o u e=>same _ _ e,λb ps e=>?_⟩,λb o e=>?_,rv',hq v' F5 H5 st5 (aB.mono upF _ _ rd)⟩
    . rw[h5o];exact un.free b o e (none0 b n) hx;intro hb;obtain⟨y,z⟩:=hcl b hb;rw[n]at z;cases z
    . obtain⟨more,q⟩:=un.tbls b ps (but b _ e nofun);exact⟨more,up _ _ q⟩
    . by_cases hb:b∈as
      . rw[h5i hb]at e;obtain⟨y,z⟩:=hcl b hb;rw[e]at z;cases z;obtain⟨u',⟨o',q1,q2⟩,q3⟩:=cellAt e;refine aIO ⟨o',un.keep b o' q1 (hin hb) (λz=>?_) (λz=>nomatch z),q2⟩ q3;have:=e0.frf b z;rw[e]at this;cases this
      . rw[h5o hb]at e;exact(J.hok b o e).stay (λ_ _ _ q=>q) (λd' q'=>up _ _ q') λd' t' q'=>up _ _ q'
def jD(P:aSU)(w:aST)(K:Fg)(mg:SOV)(base:Heap)(k:Nat)(f0 n:Str)(Θ:List (Str×D)->D->Res):Prop :=
 ∀(A:aSS) (outer:List Env) (s:aSR) (F H:Hp) (u:aSQ) (v:V) (fs:List (Str×D)) (dv d:D) (fa:Addr) (Q:VK),bL k A->iR P w K mg base A outer s H->aD F H->aB K F (.clo f0 n fs) (.ref fa)->aM v u->aB K F dv v->plD dv=true->Θ fs dv=.ok .fz d ->
  (∀v' F' H',aG F H F' H'->aB K F' d v'->Q v' H')->codeAny (model P w) A (.call (.ref fa) ⟨[u],[]⟩) (CR CX0 outer P w H s Q λ_ _ _=>False) s
theorem dS.all{K:Fg}{F:Hp}{cl:List (Str×Addr)}:∀{fs:List (Str×D)},dS K F fs cl->∃ys,aC K (bC (clA cl) F) (fs.map (·.2)) ys/\∀(i:Nat) x y,(fs.map (·.1))[i]? = some x->ys[i]? = some y->∃a,cl.lookup x=some a/\F a=some (fQ a y)
 |[],_=>⟨[],aC.nil,λi x y e=>by simp at e⟩
 |(x,d)::fs,h=>by
  simp only[dS]at h;obtain⟨⟨a,y,e1,e2,r⟩,t⟩:=h;obtain⟨ys,rl,q⟩:=dS.all t;refine⟨y::ys,aC.cons r rl,λi x' y' h1 h2=>?_⟩;cases i with
  |zero=>cases h1;cases h2;exact⟨a,e1,e2⟩
  |succ i=>exact q i x' y' h1 h2
def nD(caps:List Str)(n:Nat)(g:Rho->aE):List (Str×D)->D->Res:=λfs dv=>if fs.map (·.1)=caps then(match g (dE n (fs.map (·.2)++[dv]))with|.rt .fz d=>.ok .fz d|_=>.stuck)else .stuck
def aIT{w:aST}{f0 n rn:Str}{pos:Pos}{caps ls:List Str}{g:Rho->aE}(ck:iU K f0 n q (.FunctionDef n ⟨[],[⟨rn,none,ap⟩],none,[],[],none,[]⟩ body [] none [] scope none n pos))(kd:scope.kind=.function)(co:scope.isCoroutine=false)(gen:scope.isGenerator=false)(bY:∀y∈scope.names,y.2 ≠ .cell)(hfr:∀y∈scope.names,y.2=.free->y.1∈caps)(ec:∀y∈caps,scope.names.lookup y=some .free)(er:scope.names.lookup rn=some .local)(hbody:∀(F H:Hp) (A:aSS) (outer:List Env) (s:aSR) (cl:List (Str×Addr)) (f c:Addr),bL (k+1) A->PBv ⟨K,F,H,λ_ _ _=>False⟩ (fZ P w K mg base (caps++rn::ls) q scope cl f (.ref c) A outer s H) body g):jD P w K mg base (k+1) f0 n (nD caps (caps++rn::ls).length g):=by
 intro A outer s F H u v fs dv d fa Q hr e0 sF rep r rv hpl hΘ hq;simp only[aB]at rep;obtain⟨fa',c,name,q',st',doc,pm,ct,cl,ck',e,hf,hc,co',rc⟩:=rep;cases e;obtain⟨rfl,rfl⟩:=ck.one ck';have hf:F fa=some (mM fa (W.fnMade name q ⟨[],[⟨rn,none,ap⟩],none,[],[],none,[]⟩ body scope cl doc pm c ct)):=hf;unfold nD at hΘ;split at hΘ;rotate_left
 . cases hΘ
 rename_i hcaps;obtain⟨ys,rl,hcap⟩:=rc.all;have hlen:caps.length=ys.length:=by rw[rl.length,<- hcaps];simp
 have only:∀x b,cl.lookup x=some b->b∈clA cl:=λx b e=>aO0.mpr ⟨(x,b),aPB e,e⟩;have has0:∀b∈clA cl,∃x y,cl.lookup x=some b/\F b=some (fQ b y):=λb hb=>by
  obtain⟨z,_,e⟩:=aO0.mp hb;obtain⟨i,hi,ei⟩:=aQV (co'.1 _ _ e);have hi':i<ys.length:=by rw[<- hlen,<- hcaps];exact hi
  obtain⟨a,e1,e2⟩:=hcap i z.1 (ys[i]'hi') (by rw[aQX hi,ei]) (aQX _)
  rw[e]at e1;cases e1;exact⟨z.1,_,e,e2⟩
 have but:But F (bC (clA cl) F):=λb o e n=>by
  rw[show bC (clA cl) F b=F b from if_neg λhb=>(by
   obtain⟨x,y,_,z⟩:=has0 b hb;rw[e]at z;cases z;exact n _ rfl)]
  exact e
 cases er':g (dE (caps++rn::ls).length (fs.map (·.2)++[dv]))with
 |rt m d' =>
  rw[er']at hΘ;cases m with
  |fz =>
   cases hΘ;exact aIS (E:=λ_ _ _=>False) kd co gen bY hfr ec er aIR hr e0 (sF _ _ hf) (sF _ _ hc) (λi x y h1 h2=>by
    obtain⟨a,e1,e2⟩:=hcap i x y (by rw[hcaps];exact h1) h2
    exact⟨a,e1,sF _ _ e2⟩) hlen only (λb hb=>by
    obtain⟨x,y,e1,e2⟩:=has0 b hb;exact⟨x,y,e1,sF _ _ e2⟩) co'.2 r sF rl (aB.but but _ _ hpl rv) (hbody _ _ _ _ _ _ _ _ hr) er' hq
  |_=>cases hΘ
 |_=>rw[er']at hΘ;cases hΘ
section
variable  {pos:Pos}{Θ:Str->Str->List (Str×D)->D->Res}
end
inductive WRet where|nm (i:Nat)|ix (j:Nat)
structure dW where
 ps:List Str
 ws:List (Str×List Str)
 r:WRet
def dW.pick(I:dW)(ds:List D):Option Nat:=match I.r with
 |.nm i=>some i
 |.ix j=>match ds[j]? with|some (.int z)=>L2.ixN I.ws.length z|_=>none
def dPar(ps:List Str)(ds:List D)(x:Str):Option D:=(ps.zip ds).lookup x
def dW.dat(I:dW)(f0:Str)(ps:List Str)(ds:List D)(x:Str):D:=match dPar ps ds x with
 |some d=>d
 |none=>match I.ws.lookup x with
  |some caps=>.clo f0 x (caps.map λz=>(z,(dPar ps ds z).getD .non))
  |none=>.non
def dW.out(I:dW)(f0:Str)(ps:List Str)(ds:List D):Option D:=(I.pick ds).bind λi=>(I.ws[i]?).map λz=>.clo f0 z.1 (z.2.map λx=>(x,I.dat f0 ps ds x))
def spW(K:Fg)(f0:Str)(ps:List Str)(I:dW):Sp:=λvs H Q _=>vs.length=ps.length/\∃F ds d,aD F H/\aC K F ds vs/\I.out f0 ps ds=some d/\∀F' H' v,aG F H F' H'->aB K F' d v->Q v H'
def qL{w:aST}{f0 n:Str}:jD P w K mg base k f0 n λ_ _=>.stuck:=λ_ _ _ _ _ _ _ _ _ _ _ _ _ _ _ _ _ _ _ h=>by cases h
structure FnW(P:aSU)(w:aST)(K:Fg)(mg:SOV)(base:Heap)(CX:CXT)(k:Nat)(x:Str)(I:dW):Prop where
 ex:∃f fd,bM P w K mg base CX k f fd I.ps (spW K x I.ps I)/\mg x=some (.ref f)/\W.keepIn K (.ref f)=true/\cV K fd I.ps []
section
variable {es:List Expr}{pos:Pos}{I:dW}
end
def qM(caps:List Str)(rn n:Str)(st0:Stmt):Option (Scope×List Stmt):=match(d5 st0).find? λs=>pL s==n with
 |some s=>(match qK s with
  |some (n',a,b,sc)=>if(n'==n&&qJ a==some rn&&n != "" && sc.kind == .function&&!sc.isCoroutine&&!sc.isGenerator&&sc.names.all (λy=>y.2 != .cell&&(y.2 != .free||caps.contains y.1))&&caps.all (λy=>sc.names.lookup y==some .free)&&sc.names.lookup rn==some .local)=true then some (sc,b)else none
  |none=>none)
 |none=>none
def aIU{w:aST}{f0 n rn:Str}{st0:Stmt}{f:Addr}{caps ls:List Str}{g:Rho->aE}{b:List Stmt}(h:qM caps rn n st0=some (sc,b))(ns:W.nsIn K mainGlobals f0=some (some (.ref f)))(F:Fun K x qual st0 f fd)(hbody:∀(F H:Hp) (A:aSS) (outer:List Env) (s:aSR) (cl:List (Str×Addr)) (f c:Addr) (q:Str),bL (k+1) A->PBv ⟨K,F,H,λ_ _ _=>False⟩ (fZ P w K mg base (caps++rn::ls) q sc cl f (.ref c) A outer s H) b g):jD P w K mg base (k+1) f0 n (nD caps (caps++rn::ls).length g):=by
 unfold qM at h;split at h;rotate_left
 . cases h
 rename_i s e0;split at h;rotate_left
 . cases h
 rename_i n' a b' sc' e1;split at h;rotate_left
 . cases h
 rename_i h';cases h;simp only[aPY,aQJ,aQS,aRN,aQU,List.contains_iff_mem,aRO]at h';obtain⟨⟨⟨⟨⟨⟨⟨⟨rfl,h2⟩,h3⟩,h4⟩,h5⟩,h6⟩,h7⟩,h8⟩,h9⟩:=h';obtain⟨pos,rfl⟩:=aIQ e1;obtain⟨ap,rfl⟩:=aIP h2;exact aIT ⟨x,qual,st0,f,fd,ns,F,by rw[if_neg h3];exact e0,rfl⟩ h4 h5 h6 (λy hy=>(h7 y hy).1) (λy hy e=>(h7 y hy).2.resolve_left λz=>z e) h8 h9 λF H A outer s cl f c=>hbody F H A outer s cl f c _
open PySem.W
section
variable {w:aST}{A:aSS}{E:VSP}{s:aSR}
end
def aIV{us:List aSQ}{ns:List Int}(h:IntsAre us ns):aN (ns.map V.int) us:=by
 induction h with
 |nil=>exact .nil
 |cons n t h ih=>exact .cons ⟨t,rfl⟩ ih
open Builtin Builtin.Str
section
variable {w:aST}{A:aSS}{E:VSP}{s:aSR}
theorem replK{y:Str}{t u v:Tok}{Q:VSP}(hu:u≠0)(hv:v≠0)(huv:u≠v)(hyz:(y==z)=false)(hb:x.length+(x.length+1) * z.length<=16777216)(hq:∀t' k,s.toks<=k->Q (.str (Txt.replace x y z) t') {s with toks:=k}):wpAny (model prog w) A (call (.builtin "str.replace") [.str x t,.str y u,.str z v]) Q E s:=by
 have hl:tooLong (x.length+(occurrences x y 0 x.length (x.length+1)).length * z.length)=false:=by have h1:=StrLaws.occ_length_le x y 0 x.length (x.length+1);have h2:(occurrences x y 0 x.length (x.length+1)).length * z.length<=(x.length+1) * z.length:=Nat.mul_le_mul_right _ h1;unfold tooLong sizeLine;exact aN2 (by lia)
 refine call_gives PySem.F.slot_str_replace (aP0 _ _ _) PySem.F.entry_str_replace (PySem.F.args_str_replace_3 _ _ _) (gives_str_replace x y z t u v λ_=>⟨by simp[hu,hv],by simp[huv],hyz,hl⟩) ?_
 unfold Txt.replace at hq;cases hc:((occurrences x y 0 x.length (x.length+1)).isEmpty||(y.length==0&&z.length==0))
 . rw[hc]at hq;simp only[aRA,aPS]at hq ⊢;exact⟨fits_replaced y hb,hq _ _ (Nat.le_succ _)⟩
 . rw[hc]at hq;simp only[aPT]at hq ⊢;exact hq t s.toks (aOY _)
end
theorem xL:∀(ps:List Str) (t:Nat),aN (ps.map V.str) (strsFrom t ps)
 |[],_=>.nil
 |p::ps,t=>.cons ⟨_,rfl⟩ (xL ps (t+1))
def aIW{s:aSR}{E:VSP}(I:Inv X aA σ H s){y:Str}{t u:Tok}(hy:(y.length==0)=false)(hx:x.length<=sizeLine)(hn:(Txt.split x y).length<=sizeLine):wpAny (model X.prog X.w) X.A (call (.builtin "str.split") [.str x t,.str y u]) (λv s'=>∃p,v=.ref p/\H p=none/\Inv X aA σ (upd H p (.lst ((Txt.split x y).map V.str))) s') E s:=by
 have fin:∀(ps:List Str) (us:List aSQ) (tk:Nat),ps=Txt.split x y->aN (ps.map V.str) us->∃p,Value.ref s.heap.objs.size=.ref p/\H p=none/\Inv X aA σ (upd H p (.lst ((Txt.split x y).map V.str))) { s with heap:=s.heap.push { cls:=.type "list", data:=.seq us.toArray },toks:=tk }:=λps us tk e r=>by subst e;refine⟨_,rfl,I.hok.fresh (aOY _),I.laid (t':=tk) (λb o e=>hps e) (aOY _) (show bO X.prog X.w _ _ _ (.lst ((Txt.split x y).map V.str))from⟨by rw[aPI];exact hn,us,_,r,aN6 _ rfl⟩)⟩
 cases h1:(decide (x.length<y.length)||decide (strKind x<strKind y))
 . cases hf:(occurrences x y 0 x.length (x.length+1)).isEmpty
   . have e:Txt.split x y=partsBetween x (occurrences x y 0 x.length (x.length+1)) y.length:=by unfold Txt.split;rw[h1,hf];rfl
     exact aP7 aRP (aP0 _ _ _) aRQ (aRR _ _) (meets_str_split_sep x y t u h1 hy hf hx (by rw[<- e];exact hn)) (fin _ _ _ e.symm (xL _ s.toks))
   . have e:Txt.split x y=[x]:=by unfold Txt.split;rw[h1,hf];rfl
     exact aP7 aRP (aP0 _ _ _) aRQ (aRR _ _) (meets_str_split_not_found x y t u h1 hy hf) (fin _ [.str x t] s.toks e.symm (.cons ⟨_,rfl⟩ .nil))
 . have e:Txt.split x y=[x]:=by unfold Txt.split;rw[h1];rfl
   exact aP7 aRP (aP0 _ _ _) aRQ (aRR _ _) (meets_str_split_cannot_occur x y t u h1) (fin _ [.str x t] s.toks e.symm (.cons ⟨_,rfl⟩ .nil))
def kX(x:Str):Str:=Txt.replace (Txt.replace x (Str.ofString "(") (Str.ofString " ( ")) (Str.ofString ")") (Str.ofString " ) ")
def dH(x:Str):List Str:=Txt.split (kX x) (Str.ofString " ")
def f6(x:Str):Bool:=decide (x.length<=100000)&&decide ((Txt.replace x (Str.ofString "(") (Str.ofString " ( ")).length<=1000000)&&decide ((kX x).length<=1000000)&&decide ((dH x).length<=1000000)&&(dH x).all λp=>decide (p.length<=sizeLine)&&PyData.strOk p
section
variable {s:aSR}{E:VSP}
theorem xM{o:Expr}{a1 e1 q2:Pos}{y:Str}{j1 j2:Nat}(hbase:attributeBase o "replace" X.env (eval o X.env)=eval o X.env)(hl:(a1.endLine==e1.line)=true)(hyz:(y==z)=false)(hz:z.length<=3)(hx:x.length<=1000000)(ho:wpAny (model X.prog X.w) X.A (eval o X.env) (λv s1=>(∃t,v=.str x t)/\1<=s1.toks/\Inv X aA σ H s1) E s):wpAny (model X.prog X.w) X.A (eval (.Call (.Attribute o "replace" a1) [.Constant (.str y) j1 q1,.Constant (.str z) j2 q2] [] e1) X.env) (λv s1=>(∃t,v=.str (Txt.replace x y z) t)/\1<=s1.toks/\Inv X aA σ H s1) E s:=by
 refine aP5 hbase rfl hl rfl (thn ho λv s1 ⟨⟨t,e⟩,h1,I1⟩=>?_);subst e;refine⟨"str", "str.replace", aRS,PySem.F.slot_str_replace,PySem.F.type_str_replace,aP0 _ _ _,(λ_ e=>nomatch e),?_⟩;refine aP4 rfl (aP6 (aO6 (aOO (k:=j1) (pos:=q1) (aO6 (aOO (k:=j2) (pos:=q2) (aO5 ?_))))));refine replK (show s1.toks≠0 by lia) (show s1.toks+1≠0 by lia) (show s1.toks≠s1.toks+1 by lia) hyz ?_ λt' k hk=>⟨⟨t',rfl⟩,?_,I1.tok _⟩
 . have:(x.length+1) * z.length<=(x.length+1) * 3:=Nat.mul_le_mul_left _ hz;lia
 . have hk:s1.toks+1+1<=k:=hk;show 1<=k;lia
theorem aIX{q0 a1 a2 a3 e1 e2 e3 q2 q3 q4 q5:Pos}{j1 j2 j3 j4 j5:Nat}(hb:attributeBase (.Name tn q0) "replace" X.env (eval (.Name tn q0) X.env)=eval (.Name tn q0) X.env)(l1:(a1.endLine==e1.line)=true)(l2:(a2.endLine==e2.line)=true)(l3:(a3.endLine==e3.line)=true)(h:f6 x=true)(ho:wpAny (model X.prog X.w) X.A (eval (.Name tn q0) X.env) (λv s1=>(∃t,v=.str x t)/\1<=s1.toks/\Inv X aA σ H s1) E s):wpAny (model X.prog X.w) X.A (eval (.Call (.Attribute (.Call (.Attribute (.Call (.Attribute (.Name tn q0) "replace" a1) [.Constant (.str "(") j1 q1,.Constant (.str " ( ") j2 q2] [] e1) "replace" a2) [.Constant (.str ")") j3 q3,.Constant (.str " ) ") j4 q4] [] e2) "split" a3) [.Constant (.str " ") j5 q5] [] e3) X.env) (λv s'=>∃p,v=.ref p/\H p=none/\Inv X aA σ (upd H p (.lst ((dH x).map V.str))) s') E s:=by
 unfold f6 at h;simp only[aPY,aQH]at h;obtain⟨⟨⟨⟨h1,h2⟩,h3⟩,h4⟩,_⟩:=h;have z:=aO3;refine aP5 rfl rfl l3 rfl (thn (xM rfl l2 (by decide +kernel) (by decide +kernel) h2 (xM hb l1 (by decide +kernel) (by decide +kernel) (by lia) ho)) λv s1 ⟨⟨t,e⟩,_,I1⟩=>?_)
 subst e;refine⟨"str", "str.split", aRS,aRP,PySem.F.type_str_split,aP0 _ _ _,(λ_ e=>nomatch e),?_⟩;refine aP4 rfl (aP6 (aO6 (aOO (k:=j5) (pos:=q5) (aO5 ?_))));exact aIW (I1.tok _) (by decide +kernel) (by show(kX x).length<=_;lia) (by show(dH x).length<=_;lia)
end
theorem xN{n:Nat}:∀{names:List (Str×NameKind)}{acc:List (Str×Addr)},(∀y∈names,y.2 ≠ .cell)->cellsFrom n names acc=acc
 |[],_,_=>rfl
 |(x,k)::r,acc,h=>by
  unfold cellsFrom;have hk:(k==NameKind.cell)=false:=by simpa using h (x,k) mcs
  rw[hk,if_neg aOU];exact xN λy hy=>h y (mcm hy)
def PSs1(X:Cx)(sts:List Stmt)(t:TS):Prop:=∀(aA:LAO) (s:aSR) (σ:L2.St) (H:Hp) (D:dI),1<=s.toks->Inv X aA σ H s->t D σ H->wpAny (model X.prog X.w) X.A (execs sts X.env) (SP X aA D) X.xe s
theorem aIY{w:aST}{f:Addr}{name:Str}{params:Arguments}{dV kV doc pm ct oc:aSQ}{an od:Option Addr}{N:List Str}{sp:Sp}(lk:K.lookup f=some ⟨oc,od,.func (W.fnOf name qual params body scope dV kV doc pm an cdv ct),osl⟩)(hcd:W.codeIn K cdv qual=true)(S:iS N [tn] scope)(hno:∀y∈scope.names,y.2 ≠ .cell)(len:∀vs H Q E,sp vs H Q E->vs.length=1)(hbody:∀(A:aSS) (outer:List Env) (s:aSR) (H:Hp) (vs:List V) (Q:VK) (E:XK),bL k (A.deeper (envOfC qual scope s.heap.objs.size f cdv))->sp vs H Q E->∃t,PSs1 (bZ CX P w K mg base N qual scope f cdv A outer s H E) body t/\t {nx:=λ_ H'=>Q .non H',rt:=Q} (cO N vs) H):bM P w K mg base CX (k+1) f (W.fnOf name qual params body scope dV kV doc pm an cdv ct) [tn] sp:=by
 refine⟨len,λA outer s H args us vs Q E hr e0 hb r hsp=>?_⟩;have hl:=len _ _ _ _ hsp;have KX:K.In s.heap:=e0.mod.kin.keeps λb o e=>(e0.bs b o e).1;have lim:s.heap.NoLimit:=e0.mod.nolimit.keeps λb o e=>(e0.bs b o e).1;have hloc:scope.names.lookup tn=some .local:=by
  rcases S.par tn mcs with q|q
  . exact q
  . exact absurd rfl (hno _ (aPB q))
 have hu:us.length=1:=by rw[<- r.length];exact hl
 obtain⟨u,rfl⟩:∃u,us=[u]:=by
  match us,hu with
  |[u],_=>exact⟨u,rfl⟩
 have c0:cellsFrom (s.heap.objs.size+1) scope.names []=[]:=xN hno;refine aPK hr.depth (KX _ _ lk) rfl S.co S.gen rfl (W.codeRec_of KX hcd) (hb _ _ _ _ ?_);refine aRB hno (λy hy=>by rw[aRF.mp hy];exact hloc) (λh4 hns hsb=>?_) S.kind
 have keep:∀b o,s.heap.get? b=some o->h4.get? b=some o:=λb o e=>hsb.extBut b o (aOA (aN7 e)) (hps e);refine⟨lim.keeps keep,codeAny_func ?_⟩;have x:InCallC s s.heap.objs.size (bindL (envOfC qual scope s.heap.objs.size f cdv).kindOf ([tn].zip [u]) λ_=>none) (cellsFrom (s.heap.objs.size+1) scope.names []) (bindC (envOfC qual scope s.heap.objs.size f cdv).kindOf ([tn].zip [u]) λ_=>none) {s with heap:=h4,toks:=s.toks+1}:=by
  rw[c0];refine⟨⟨⟨_,_,rfl⟩,?_,keep,aOY _⟩,(λn c hc=>by cases hc),List.Pairwise.nil,(λn c hm=>nomatch hm)⟩
  have e:(bindL (envOfC qual scope s.heap.objs.size f cdv).kindOf ([tn].zip [u]) λ_=>none)=λx=>[(tn,u)].reverse.lookup x:=by
   show bindL (envOfC qual scope s.heap.objs.size f cdv).kindOf [(tn,u)] (λ_=>none)=_;unfold bindL bindL;rw[if_pos (show(envOfC qual scope s.heap.objs.size f cdv).kindOf tn=some .local from hloc)]
   funext y;show(if y=tn then some u else none)=[(tn,u)].lookup y;rw[aQ8];by_cases hy:y=tn
   . rw[if_pos hy,aQS.mpr hy]
   . rw[if_neg hy,aN3.mpr hy];rfl
  rw[e];exact hns
 obtain⟨t,ht,hq⟩:=hbody A outer s H vs Q E (hr.deeper _) hsp;have I:Inv (bZ CX P w K mg base N qual scope f cdv A outer s H E) [] (cO N vs) H _:=vM S hr.hd e0 hl r x;generalize hen:newEnv (W.fnOf name qual params body scope dV kV doc pm an cdv ct).scope s.heap.objs.size (W.fnOf name qual params body scope dV kV doc pm an cdv ct).globals (W.fnOf name qual params body scope dV kV doc pm an cdv ct).closure ((W.fnOf name qual params body scope dV kV doc pm an cdv ct).qualname++Str.ofString ".<locals>.") (some f) (W.fnOf name qual params body scope dV kV doc pm an cdv ct).code none (W.fnOf name qual params body scope dV kV doc pm an cdv ct).builtins=env;obtain rfl:env=envOfC qual scope s.heap.objs.size f cdv:=by rw[<- hen];unfold envOfC;rw[c0];rfl
 refine aOM (ht [] _ (cO N vs) H _ (show 1<=s.toks+1 by lia) I hq) (λfl s' hs=>?_) λe s' hs=>hs
 have fin:∀{σ':L2.St}{H':Hp}{v:V}{u:aSQ},Inv (bZ CX P w K mg base N qual scope f cdv A outer s H E) [] σ' H' s'->aM v u->Q v H'->L2.CE outer P w H s Q u s' :=
  λ{σ' H' v u} J rv q=>⟨v,H',J.os,J.bare,J.base,J.hok,rv,q⟩
 cases fl with
 |ret u=>obtain⟨v,σ',H',J,rv,q⟩:=hs;exact fin J rv q
 |next=>obtain⟨σ',H',J,q⟩:=hs;exact fin (v:=V.non) (u:=Value.none) J rfl q
 |brk=>obtain⟨_,_,_,q⟩:=hs;exact False.elim q
 |cont=>obtain⟨_,_,_,q⟩:=hs;exact False.elim q
def f7(ρ:Rho):aE:=match ρ[(0:Nat)]? with
 |some (some (_,.str x))=>if f6 x=true then fR ρ 1 (.ok .fz (.lst ((dH x).map .str)))else .stuck
 |_=>.stuck
theorem xO{K:Fg}{F:Hp}:∀{l:List Str},(∀y∈l,y.length<=sizeLine/\PyData.strOk y=true)->aC K F (l.map D.str) (l.map V.str)
 |[],_=>aC.nil
 |x::l,h=>aC.cons (by simp only[aB];exact⟨trivial,h x mcs⟩) (xO λy hy=>h y (mcm hy))
def nE(st:Stmt):Option (Str×Str):=match st with
 |.Assign [.Name pn p1] (.Call (.Attribute (.Call (.Attribute (.Call (.Attribute (.Name tn q0) r1 a1) [.Constant (.str x1) j1 q1,.Constant (.str x2) j2 q2] [] e1) r2 a2) [.Constant (.str x3) j3 q3,.Constant (.str x4) j4 q4] [] e2) r3 a3) [.Constant (.str x5) j5 q5] [] e3) sp =>
  if(r1 == "replace" && r2 == "replace" && r3 == "split" && x1 == "(" && x2 == " ( " && x3 == ")" && x4 == " ) " && x5 == " " && a1.endLine==e1.line&&a2.endLine==e2.line&&a3.endLine==e3.line&&!(tn == "__debug__")&&!(tn == "__classdict__"))=true then some (tn,pn)else none
 |_=>none
def aIZ{pn:Str}{rest:List Stmt}{g:Rho->aE}(h:nE st=some (tn,pn))(hN:X.N.Nodup)(h0:X.N[0]? = some tn)(h1:X.N[1]? = some pn)(v0:Vis X.env.scope tn)(l1:Loc X.env.scope pn)(f1:X.fn pn=true\/X.env.scope.names.lookup pn=some .local)(hr:PBv C X rest g):PSs1 X (st::rest) (tH (C.at X) λρ=>(f7 ρ).thn g):=by
 unfold nE at h;split at h;rotate_left
 . cases h
 split at h;rotate_left
 . cases h
 rename_i pn p1 tn q0 r1 a1 x1 j1 q1 x2 j2 q2 e1 r2 a2 x3 j3 q3 x4 j4 q4 e2 r3 a3 x5 j5 q5 e3 sp hc;cases h;simp only[aPY,aQS,aRO]at hc;obtain⟨⟨⟨⟨⟨⟨⟨⟨⟨⟨⟨⟨rfl,rfl⟩,rfl⟩,rfl⟩,rfl⟩,rfl⟩,rfl⟩,rfl⟩,b1⟩,b2⟩,b3⟩,d1⟩,d2⟩:=hc;intro aA s σ H D ht I q;obtain⟨ρ,F,R,w⟩:=q;dsimp only at w;unfold f7 at w;split at w;rotate_left
 . exact w.elim
 rename_i m x ex;by_cases ok:f6 x=true
 . rw[if_pos ok]at w;obtain⟨v,ev,rv,_⟩:=R.slot 0 _ _ ex;have rv:v=.str x:=by
     cases m with
     |false=>have rv:aB X.K F (.str x) v:=rv;simp only[aB]at rv;exact rv.1
     |true=>obtain⟨_,_,_,z⟩:=rv;exact(show False from z).elim
   subst rv;refine aOS (wpAny_Assign_Name (thn (aIX (aA:=aA) (σ:=σ) (H:=H) (gZ rfl) (aQS.mpr b1) (aQS.mpr b2) (aQS.mpr b3) ok ?_) λv' s1 hh=>?_) rfl)
   . obtain⟨m',hn,hl⟩:=id I.loc;obtain⟨u,r,l⟩:=hl 0 tn _ h0 ev v0;have fin:(∃t,u=.str x t)/\1<=s.toks/\Inv X aA σ H s:=⟨r,ht,I⟩;rcases l with⟨hk,hm⟩|⟨hk,c,hc,bY⟩
     . exact aON (wpAny_loadName_local I.ok.kind hk hn hm fin) d1
     . rcases hk with hk|hk
       . exact aON (wpAny_loadName_cell I.ok.kind hk hc bY fin) d1
       . exact aON (wpAny_loadName_free I.ok.kind hk hc bY fin d2) d1
   . obtain⟨p,e,hp,I1⟩:=hh;subst e;refine oS (v:=.ref p) I1 hN h1 l1 rfl (λs2 I2=>?_) f1;have tx:∀y∈dH x,y.length<=sizeLine/\PyData.strOk y=true:=λy hy=>by unfold f6 at ok;rw[aPY]at ok;have:=aQU.mp ok.2 y hy;rw[aPY,aQH]at this;exact this
     exact hr aA s2 _ _ D I2 ⟨_,_,R.set (m:=false) (d:=.lst ((dH x).map .str)) (aG.laid _ R.sub hp) (by
      show aB _ _ _ _;simp only[aB];exact⟨p,_,rfl,SqL.of bE,xO tx⟩) (λz=>by cases z),bK.mono (aG.laid _ R.sub hp).fsame w⟩
 . rw[if_neg ok]at w;exact w.elim
def aI0{w:aST}{pn:Str}{s1:Stmt}{rest:List Stmt}{f:Addr}{N:List Str}{g:Rho->aE}(F:Fun K x qual st f fd)(S:iS N [tn] (bS st))(hno:∀y∈(bS st).names,y.2 ≠ .cell)(hb:d5 st=s1::rest)(hw:nE s1=some (tn,pn))(h0:N[0]? = some tn)(h1:N[1]? = some pn)(l1:(bS st).names.lookup pn=some .local)(hbody:∀(C:Cw) (cdv:aSQ),W.codeIn K cdv qual=true->∀(A:aSS) (outer:List Env) (s:aSR) (H:Hp) (E:XK),C.EE=fX mg E->bL k (A.deeper (envOfC qual (bS st) s.heap.objs.size f cdv))->PBv C (bZ (CX1 P w) P w K mg base N qual (bS st) f cdv A outer s H E) rest g):bM P w K mg base (CX1 P w) (k+1) f fd [tn] (spV K mg 1 (phi 1 N.length λρ=>(f7 ρ).thn g)):=by
 obtain⟨oc,od,kV,doc,pm,an,cdv,ct,osl,rfl,lk,hcd⟩:=F.ex;have l0:(bS st).names.lookup tn=some .local:=by
  rcases S.par tn mcs with q|q
  . exact q
  . exact absurd rfl (hno _ (aPB q))
 refine aIY lk hcd S hno (λvs H Q E h=>h.1) λA outer s H vs Q E hr h=>?_;obtain⟨hl,F0,ds,sF,rl,h⟩:=h;have hl':ds.length=1:=by rw[<- rl.length];exact hl
 let C:Cw:=⟨K,F0,H,fX mg E⟩
 refine⟨_,hb ▸ aIZ (C:=C) (X:=bZ (CX1 P w) P w K mg base N qual (bS st) f cdv A outer s H E) hw S.nd h0 h1 (.inl l0) (.inl l1) (.inr l1) (hbody C cdv hcd A outer s H E rfl hr),dE N.length ds,F0,pT sF rl,?_⟩;unfold phi at h;rw[if_pos hl']at h;dsimp only at h ⊢;cases er:(f7 (dE N.length ds)).thn g with
 |nx ρ=>rw[er]at h;exact λσ' F' H' _ R=>h.2 .non F' H' R.st pM (by nofun)
 |rt m d=>rw[er]at h;exact λv F' H' s rp fr=>h.2 v F' H' s rp fr
 |bk ρ=>rw[er]at h;exact h.elim
 |ct ρ=>rw[er]at h;exact h.elim
 |exc c ρ=>rw[er]at h;exact λσ' F' H' _ R u hu=>h F' H' u R.st hu
 |stuck=>rw[er]at h;exact h.elim
abbrev Stk:=List (List D)
inductive bJ where|nx (ρ:Rho) (z:Stk)|exc (c:Str)|stuck
def nF(K:Fg)(F H H0:Hp)(b:Addr)(ds:List D):Prop:=∃xs,H b=some (.lst xs)/\aC K F ds xs/\F b=none/\H0 b=none
def Own(K:Fg)(F H H0:Hp):List Addr->Stk->Prop
 |[],z=>z=[]
 |b::bs,z=>∃ds z',z=ds::z'/\nF K F H H0 b ds/\Own K F H H0 bs z'
theorem Own.map{F:Hp}:∀{bs:List Addr}{z:Stk},(∀b∈bs,∀ds,nF K F H H0 b ds->nF K F' H' H0 b ds)->Own K F H H0 bs z->Own K F' H' H0 bs z
 |[],_,_,h=>h
 |b::bs,_,q,⟨ds,z',e,h,r⟩=>⟨ds,z',e,q b mcs ds h,r.map λc hc=>q c (mcm hc)⟩
theorem Own.get{F:Hp}:∀{bs:List Addr}{z:Stk},Own K F H H0 bs z->b∈bs->∃ds,nF K F H H0 b ds
 |c::bs,_,⟨ds,z',_,h,r⟩,hb=>by
  rcases aOG.mp hb with rfl|hb
  . exact⟨ds,h⟩
  . exact r.get hb
theorem Own.len{F:Hp}:∀{bs:List Addr}{z:Stk},Own K F H H0 bs z->bs.length=z.length
 |[],_,h=>by rw[show _=[]from h];rfl
 |b::bs,_,⟨ds,z',e,_,r⟩=>by rw[e,aQB,aQB,r.len]
structure TR(C:Cw)(X:Cx)(a:Addr)(F H:Hp)(σ:L2.St)(ρ:Rho)(z:Stk):Prop where
 R:aR X.K C.F0 C.H0 F H σ ρ
 no:fY ρ
 ln:ρ.length=X.N.length
 e1:σ[1]? = some (some (.ref a))
 G:∃bs:List Addr,H a=some (.lst (bs.reverse.map V.ref))/\F a=none/\C.H0 a=none/\bs.Nodup/\a∉bs/\Own X.K F H C.H0 bs z
def xP:¬ gO (some (HO.lst xs)):=λz=>nomatch z
section
variable {a:Addr}{F:Hp}{z:Stk}
theorem TR.step(S:TR C X a F H σ ρ z)(st:aG F H F' H'):TR C X a F' H' σ ρ z:=by obtain⟨bs,ha,fa,h0,nd,na,ow⟩:=S.G;refine⟨S.R.step st,S.no,S.ln,S.e1,bs,st.same _ _ ha,st.new _ fa (by rw[ha];exact xP),h0,nd,na,ow.map λb _ ds ⟨xs,e,r,f,g⟩=>⟨xs,st.same _ _ e,r.mono st.fsame _ _,st.new _ f (by rw[e];exact xP),g⟩⟩
theorem TR.set(S:TR C X a F H σ ρ z){d:D}(hi:i≠1)(r:aB X.K F d v):TR C X a F H (σ.set i (some v)) (ρ.set i (some (false,d))) z :=
 ⟨S.R.set (m:=false) (.refl S.R.sub) r (by nofun),S.no.set i (λd z=>by cases z),by rw[aQZ];exact S.ln,by rw[aOL hi];exact S.e1,S.G⟩
def TR.app(S:TR C X a F H σ ρ (ds::z)){d:D}(r:aB X.K F d v):∃(b:Addr) (bs:List Addr) (xs:List V),H a=some (.lst ((bs.reverse++[b]).map V.ref))/\H b=some (.lst xs)/\xs.length=ds.length/\TR C X a F (upd H b (.lst (xs++[v]))) σ ρ ((ds++[d])::z):=by
 obtain⟨bs,ha,fa,h0,nd,na,ow⟩:=S.G;cases bs with
 |nil=>cases(show _=[]from ow)
 |cons b bs =>
  obtain⟨ds',z',e,⟨xs,hb,rx,fb,gb⟩,ow⟩:=ow;cases e;rw[aO8]at nd;rw[aOG,not_or]at na;refine⟨b,bs,xs,by rw[ha,aRT],hb,rx.length,S.R.other S.no fb gb,S.no,S.ln,S.e1,b::bs,by rw[aP na.1];exact ha,fa,h0,aO8.mpr nd,by rw[aOG,not_or];exact na,_,_,rfl,⟨_,bE,rx.append (aC.cons r aC.nil),fb,gb⟩,ow.map λc hc ds ⟨xs,e,r,f,g⟩=>⟨xs,?_,r,f,g⟩⟩
  rw[aP (λe:c=b=>nd.1 (e ▸ hc))];exact e
def TR.push(S:TR C X a F H σ ρ z){p:Addr}(hp:H p=none):∃xs,upd H p (.lst []) a=some (.lst xs)/\xs.length=z.length/\TR C X a F (upd (upd H p (.lst [])) a (.lst (xs++[.ref p]))) σ ρ ([]::z):=by
 obtain⟨bs,ha,fa,h0,nd,na,ow⟩:=S.G;have pa:p≠a:=λe=>by rw[e,ha]at hp;cases hp
 have pb:∀b∈bs,b≠p:=λb hb e=>by obtain⟨ds,xs,q,_⟩:=ow.get hb;rw[e,hp]at q;cases q
 refine⟨bs.reverse.map V.ref,by rw[aP pa.symm];exact ha,by rw[aPI,aRU,ow.len],(S.R.step (aG.fresh _ S.R.sub hp)).other S.no fa h0,S.no,S.ln,S.e1,p::bs,by rw[bE,aRT,aRV];rfl,fa,h0,aO8.mpr ⟨λhb=>pb p hb rfl,nd⟩,
  by rw[aOG,not_or];exact⟨pa.symm,na⟩,[],z,rfl,⟨[],by rw[aP pa,bE],aC.nil,S.R.sub.free hp,S.R.st.same.free hp⟩,ow.map λc hc ds ⟨xs,e,r,f,g⟩=>⟨xs,?_,r,f,g⟩⟩
 rw[aP (λe:c=a=>na (e ▸ hc)),aP (pb c hc)];exact e
def aR.freeze{o:HO}(R:aR K F0 H0 F H σ ρ)(n:fY ρ)(hb:H b=some o)(fb:F b=none)(h0:H0 b=none):aR K F0 H0 (upd F b o) H σ ρ:=by
 have up:aD F (upd F b o):=λc u q=>by rw[aP (bV q fb)];exact q
 refine⟨⟨R.st.same,R.st.fsame.trans up,λc u q=>?_,λc h1 h2=>?_⟩,λj m d e=>?_,R.apart,R.len⟩
 . by_cases hc:c=b
   . subst hc;rw[bE]at q;cases q;exact hb
   . rw[aP hc]at q;exact R.sub c u q
 . have:c≠b:=by rintro rfl;exact h2 (iV h0)
   rw[aP this];exact R.st.new c h1 h2
 . obtain⟨v,e1,r,e3⟩:=R.slot j m d e;cases m with
   |true=>exact(n j d e).elim
   |false=>exact⟨v,e1,aB.mono up _ _ r,e3⟩
def TR.pop(S:TR C X a F H σ ρ (ds::z)):∃(b:Addr) (bs:List Addr) (F':Hp),H a=some (.lst ((bs.reverse++[b]).map V.ref))/\aD F F'/\TR C X a F' (upd H a (.lst (bs.reverse.map V.ref))) (σ.set 3 (some (.ref b))) (ρ.set 3 (some (false,.lst ds))) z:=by
 obtain⟨bs,ha,fa,h0,nd,na,ow⟩:=S.G;cases bs with
 |nil=>cases(show _=[]from ow)
 |cons b bs =>
  obtain⟨ds',z',e,⟨xs,hb,rx,fb,gb⟩,ow⟩:=ow;cases e;rw[aO8]at nd;rw[aOG,not_or]at na;have up:aD F (upd F b (.lst xs)):=λc u q=>by rw[aP (bV q fb)];exact q
  have R1:aR X.K C.F0 C.H0 (upd F b (.lst xs)) (upd H a (.lst (bs.reverse.map V.ref))) σ ρ:=(S.R.freeze S.no hb fb gb).other S.no (by rw[aP na.1];exact fa) h0
  refine⟨b,bs,upd F b (.lst xs),by rw[ha,aRT],up,TR.set ⟨R1,S.no,S.ln,S.e1,bs,bE,by rw[aP na.1];exact fa,h0,nd.2,na.2,ow.map λc hc ds ⟨xs,e,r,f,g⟩=>⟨xs,?_,r.mono up _ _,?_,g⟩⟩ (by decide) ?_⟩
  . simp only[aB];exact⟨b,xs,rfl,SqL.of bE,rx.mono up _ _⟩
  . rw[aP (λe:c=a=>na.2 (e ▸ hc))];exact e
  . rw[aP (λe:c=b=>nd.1 (e ▸ hc))];exact f
end
def WTr(C:Cw)(X:Cx)(a:Addr)(F:Hp)(r:bJ)(E:dI):Prop:=match r with
 |.nx ρ' z'=>∀σ' F' H',aD F F'->TR C X a F' H' σ' ρ' z'->E.nx σ' H'
 |.exc c=>∀σ' F' H',aD F F'->aG C.F0 C.H0 F' H'->σ'.length=X.N.length->C.EE c σ' H'
 |.stuck=>False
def WTr.mono{a:Addr}{F:Hp}{r:bJ}{E:dI}(s:aD F F1)(w:WTr C X a F r E):WTr C X a F1 r E:=by
 cases r with
 |stuck=>exact w
 |exc x=>exact λσ' F' H' s'=>w σ' F' H' (s.trans s')
 |nx ρ2 z2=>exact λσ' F' H' s'=>w σ' F' H' (s.trans s')
def tTr(C:Cw)(X:Cx)(a:Addr)(g:Rho->Stk->bJ):TS:=λE σ H=>∃ρ F z,TR C X a F H σ ρ z/\WTr C X a F (g ρ z) E
def PTs(C:Cw)(X:Cx)(st:Stmt)(g:Rho->Stk->bJ):Prop:=∀a,PS X st (tTr C X a g)
def PTb(C:Cw)(X:Cx)(sts:List Stmt)(g:Rho->Stk->bJ):Prop:=∀a,PSs X sts (tTr C X a g)
def PTc(C:Cw)(X:Cx)(c:Expr)(b:Rho->Stk->Option Bool):Prop:=∀a,PT X c λσ H Q=>∃ρ F z,TR C X a F H σ ρ z/\∃v,b ρ z=some v/\∀F' H',aD F F'->TR C X a F' H' σ ρ z->Q v H'
def seqT(g h:Rho->Stk->bJ):Rho->Stk->bJ:=λρ z=>match g ρ z with|.nx ρ' z'=>h ρ' z'|r=>r
def ifT(b:Rho->Stk->Option Bool)(g h:Rho->Stk->bJ):Rho->Stk->bJ:=λρ z=>match b ρ z with|some true=>g ρ z|some false=>h ρ z|none=>.stuck
def nxT:Rho->Stk->bJ:=.nx
section
variable {g h:Rho->Stk->bJ}{c:Expr}{b:Rho->Stk->Option Bool}{pos:Pos}
def qN:PTb C X [] nxT:=λa=>PSs.imp uU λE σ H ⟨ρ,F,z,S,w⟩=>w σ F H (aD.refl _) S
def f8(h:PTs C X st g):PTb C X [st] g:=λa=>uV (h a)
def qO(h1:PTs C X st g)(h2:PTb C X sts h):PTb C X (st::sts) (seqT g h):=λa=>by
 refine PSs.imp (j6 (h1 a) (h2 a)) λE σ H ⟨ρ,F,z,S,w⟩=>?_;refine⟨ρ,F,z,S,?_⟩;unfold seqT at w;cases e:g ρ z with
 |stuck=>rw[e]at w;exact w
 |exc x=>rw[e]at w;exact w
 |nx ρ1 z1=>rw[e]at w;dsimp only at w;exact λσ1 F1 H1 s1 S1=>⟨ρ1,F1,z1,S1,w.mono s1⟩
def kY{x y:List Stmt}(hc:PTc C X c b)(hg:PTb C X x g)(hh:PTb C X y h):PTs C X (.If c x y pos) (ifT b g h):=λa=>by
 refine PS.imp (uW (hc a) (hg a) (hh a)) λE σ H ⟨ρ,F,z,S,w⟩=>?_;unfold ifT at w;cases e:b ρ z with
 |none=>rw[e]at w;exact w.elim
 |some v =>
  rw[e]at w;refine⟨ρ,F,z,S,v,e,λF1 H1 s1 S1=>?_⟩;cases v with
  |true=>rw[if_pos rfl];exact⟨ρ,F1,z,S1,w.mono s1⟩
  |false=>rw[if_neg aOU];exact⟨ρ,F1,z,S1,w.mono s1⟩
def rzT(ga:Rho->aE):Rho->Stk->bJ:=λρ _=>match ga ρ with
 |.exc c ρ1=>if ρ1.length=ρ.length then .exc c else .stuck
 |_=>.stuck
def qP{ga:Rho->aE}(h:PSv C X st ga):PTs C X st (rzT ga):=λa=>by
 refine PS.imp h λE σ H ⟨ρ,F,z,S,w⟩=>⟨ρ,F,S.R,?_⟩;unfold rzT at w;cases e:ga ρ with
 |exc x ρ1 =>
  rw[e]at w;dsimp only at w;by_cases q:ρ1.length=ρ.length
  . rw[if_pos q]at w;exact λσ' F' H' s' R'=>w σ' F' H' s' R'.st (by rw[R'.len,q];exact S.ln)
  . rw[if_neg q]at w;exact w.elim
 |_=>rw[e]at w;exact w.elim
end
def nG:Rho->Stk->bJ:=λρ z=>if z.length<1000 then .nx ρ ([]::z)else .stuck
def hO(i:Nat):Rho->Stk->bJ:=λρ z=>match ρ[i]?,z with
 |some (some (false,d)),ds::z=>if ds.length<sizeLine then .nx ρ ((ds++[d])::z)else .stuck
 |_,_=>.stuck
def nH:Rho->Stk->bJ:=λρ z=>match z with
 |ds::z=>.nx (ρ.set 3 (some (false,.lst ds))) z
 |[]=>.stuck
theorem aI1{xs:List α}{v:α}:atI (xs++[v]) (-1)=some v:=by
 unfold atI ixN;rw[if_neg (by decide),if_pos (by simp;lia)]
 show(xs++[v])[((-1:Int)+((xs++[v]).length:Int)).toNat]? = some v;have:((-1:Int)+((xs++[v]).length:Int)).toNat=xs.length:=by simp;lia
 rw[this,aPC (aOY _),Nat.sub_self];rfl
section
variable  {y:Str}{q r q2 q3 sp pos lp:Pos}
def aI2(hv:PE X (.Name x p) (cG 1)):PE X (.Subscript (.Name x p) (.UnaryOp .USub (.Constant (.int 1) j q2) q3) r) (tOp (pE X.K) (cG 1) (tUn (rU λi=>.int (-i)) (tC (.int 1)))) :=
 iT kB hv (pe_un aC8 fN) λ_ _=>rfl
def aI3(hv:PE X (.Name x p) (cG 1))(hw:PE X (.Name y q) (cG i))(l:ap.endLine=cp.line):PTs C X (.Expr (.Call (.Attribute (.Subscript (.Name x p) (.UnaryOp .USub (.Constant (.int 1) j q2) q3) r) "append" ap) [.Name y q] [] cp) pos) (hO i):=by
 intro a; have h1 := pF (X := X) (e := .Name y q) (es := []) (apos := ap) (cpos := cp) aRW PySem.F.slot_list_append PySem.F.type_list_append pG (aI2 (j := j) (q2 := q2) (q3 := q3) (r := r) hv) (fP hw eR (bG rfl)) (gZ rfl) (by
     rw[i6 _ _ (λy hy=>by simp only[aOG,aRX,aRY]at hy;subst hy;rfl)];rfl) (aQS.mpr l) (bG rfl) rfl
 refine PS.imp (oV h1) λE σ H ⟨ρ,F,z,S,w⟩=>?_;unfold hO at w;split at w
 . rename_i d ds z0 ei;by_cases hl:ds.length<sizeLine
   . rw[if_pos hl]at w;obtain⟨v,ev,rv,_⟩:=S.R.slot i _ _ ei;obtain⟨b,bs,xs,ha,hb,xl,S'⟩:=S.app rv;refine⟨.ref a,S.e1,1,rfl,a,(bs.reverse++[b]).map V.ref,-1,.ref b,rfl,rfl,SqL.of ha,?_,?_⟩
     . rw[aRV];exact aI1
     . exact⟨.inl ⟨rfl,_,SqL.of hb⟩,v,ev,b,xs,v,rfl,rfl,hb,by rw[xl];exact hl,w _ F _ (aD.refl _) S'⟩
   . rw[if_neg hl]at w;exact w.elim
 . exact w.elim
theorem aI4(hv:PE X (.Name x p) (cG 1))(l:ap.endLine=cp.line):PTs C X (.Expr (.Call (.Attribute (.Name x p) "append" ap) [.List [] lp] [] cp) pos) nG:=by
 intro a; have h1 := pF (X := X) (o := .Name x p) (e := .List [] lp) (es := []) (apos := ap) (cpos := cp) aRW PySem.F.slot_list_append PySem.F.type_list_append pG hv (fP (l8 eR) eR (bG rfl)) (gZ rfl) (by
     rw[i6 _ _ (λy hy=>by simp only[aOG,aRX,aRY]at hy;subst hy;rfl)];rfl) (aQS.mpr l) (bG rfl) rfl
 refine PS.imp (oV h1) λE σ H ⟨ρ,F,z,S,w⟩=>?_;unfold nG at w;by_cases hl:z.length<1000
 . rw[if_pos hl]at w;obtain⟨bs,ha,_⟩:=S.G;refine⟨.ref a,S.e1,.inl ⟨rfl,_,SqL.of ha⟩,by rw[aO3];exact aQF _,λb hb=>?_⟩
   obtain⟨xs,h2,xl,S'⟩:=S.push hb;exact⟨a,xs,.ref b,rfl,rfl,h2,by rw[xl,aO3];lia,w _ F _ (aD.refl _) S'⟩
 . rw[if_neg hl]at w;exact w.elim
def aI5(hN:X.N.Nodup)(hi:X.N[3]? = some y)(hx:Loc X.env.scope y)(hf:X.fn y=true\/X.env.scope.names.lookup y=some .local)(hv:PE X (.Name x p) (cG 1))(l:ap.endLine=cp.line)(hs:swapsWith (.Call (.Attribute (.Name x p) "pop" ap) [] [] cp) (some (.Name y p1)) sp.line X.env=pure false):PTs C X (.Assign [.Name y p1] (.Call (.Attribute (.Name x p) "pop" ap) [] [] cp) sp) nH:=by
 intro a;have h1:=aEA (X:=X) (o:=.Name x p) (apos:=ap) (cpos:=cp) aRW PySem.F.slot_list_pop PySem.F.type_list_pop aED hv (gZ rfl) (aQS.mpr l);refine PS.imp (oY hN hi hx h1 hs hf) λE σ H ⟨ρ,F,z,S,w⟩=>?_;unfold nH at w;split at w
 . obtain⟨b,bs,F',ha,up,S'⟩:=S.pop;refine⟨.ref a,S.e1,.inl ⟨rfl,_,SqL.of ha⟩,a,_,.ref b,rfl,rfl,ha,?_,?_⟩
   . rw[aRV,aPH];simp
   . rw[aRV];show E.nx _ (upd H a (.lst ((bs.reverse.map V.ref++[V.ref b]).dropLast)));rw[List.dropLast_concat];exact w _ F' _ up S'
 . exact w.elim
end
def hR(w:Str):Rho->Stk->Option Bool:=λρ _=>match ρ[(2:Nat)]? with|some (some (false,.str x))=>some (decide (x=w))|_=>none
def qQ:Rho->Stk->Option Bool:=λ_ z=>some z.isEmpty
def hU(gl:Rho->Res):Rho->Stk->Option Bool:=λρ z=>match gl ρ with|.ok _ (.int n)=>some (decide (n<(z.length:Int)))|_=>none
def jE:Rho->Stk->Option Bool:=λ_ z=>some (match z with|[ds]=>!decide (ds.length=1)|_=>true)
section
variable  {y w:Str}{gl:Rho->Res}{p0 p3 p4 p5 p6 p7 p8 p9 pos q0:Pos}{j1 j2 j3:Nat}
def aI6(hw:PE X (.Name y p) (cG 2)):PTc C X (.Compare (.Name y p) [.Eq] [.Constant (.str w) j p1] pos) (hR w):=by
 intro a aA s σ H Q I ⟨ρ,F,z,S,v,ev,q⟩;refine iP (pos:=pos) vA hw (uN (x:=w) (j:=j) (pos:=p1)) rfl aA s σ H Q I ?_;unfold hR at ev;split at ev
 . rename_i x' e2;cases ev;obtain⟨v,ev,rv,_⟩:=S.R.slot 2 _ _ e2;have rv:aB X.K F (.str x') v:=rv;simp only[aB]at rv;obtain⟨rfl,_⟩:=rv;refine⟨_,ev,rfl,_,rfl,?_⟩;have:decide (V.str x'=V.str w)=decide (x'=w):=by rw[aO2];simp
   rw[this];exact q F H (aD.refl _) S
 . cases ev
def aI7(gb:Gl X "len")(nl:X.mg "len" = none)(hv:PE X (.Name x p) (cG 1)):PTc C X (.Compare (.Call (.Name "len" p0) [.Name x p] [] p1) [.Eq] [.Constant (.int 0) j p2] pos) qQ:=by
 intro a aA s σ H Q I ⟨ρ,F,z,S,v,ev,q⟩;cases ev;refine iP (pos:=pos) vA (j9 (pos:=p1) (p:=p0) mJ gb nl rfl (fP hv eR (bG rfl)) (by decide) (by decide) (bG rfl) rfl) (fN (i:=0) (j:=j) (pos:=p2)) rfl aA s σ H Q I ?_
 obtain⟨bs,ha,_,_,_,_,ow⟩:=S.G;refine⟨.ref a,S.e1,a,_,rfl,.inl (SqL.of ha),rfl,_,rfl,?_⟩;have:decide (V.int ((bs.reverse.map V.ref).length:Int)=V.int 0)=z.isEmpty:=by rw[aPI,aRU,ow.len,pA];cases z <;> rfl
 rw[this];exact q F H (aD.refl _) S
def aI8(gb:Gl X "len")(nl:X.mg "len" = none)(hv:PE X (.Name x p) (cG 1))(hl:PV C X e gl):PTc C X (.Compare (.Call (.Name "len" p0) [.Name x p] [] p1) [.Gt] [e] pos) (hU gl):=by
 intro a aA s σ H Q I ⟨ρ,F,z,S,v,ev,q⟩;refine iP (pos:=pos) vC (j9 (pos:=p1) (p:=p0) mJ gb nl rfl (fP hv eR (bG rfl)) (by decide) (by decide) (bG rfl) rfl) hl (aCI _ (by decide) (by decide)) aA s σ H Q I ?_
 obtain⟨bs,ha,_,_,_,_,ow⟩:=S.G;refine⟨.ref a,S.e1,a,_,rfl,.inl (SqL.of ha),?_⟩;dsimp only;rw[aZ];refine⟨ρ,F,S.R,?_⟩;unfold hU at ev;split at ev
 . rename_i m n en;rw[en];cases ev;intro v' F' H' st rp _;obtain rfl:v'=.int n:=by
     cases m with
     |fz=>have rp:aB X.K F' (.int n) v':=rp;simpa only [aB]using rp
     |_=>obtain⟨_,_,_,z⟩:=rp;exact(show False from z).elim
   refine⟨_,n,rfl,rfl,_,rfl,?_⟩;rw[aPI,aRU,ow.len];exact q F' H' st.fsame (S.step st)
 . cases ev
def qR{v:α}{xs:List α}:atI (v::xs) 0=some v:=by unfold atI ixN;rw[if_pos (by decide),if_pos (by simp)];rfl
theorem aI9(gb:Gl X "len")(nl:X.mg "len" = none)(hv:PE X (.Name x p) (cG 1))(hv':PE X (.Name x p4) (cG 1)):PTc C X (.BoolOp .Or [.Compare (.Call (.Name "len" p0) [.Name x p] [] p1) [.NotEq] [.Constant (.int 1) j p2] p3,.Compare (.Call (.Name "len" p5) [.Subscript (.Name x p4) (.Constant (.int 0) j1 q0) q1] [] p6) [.NotEq] [.Constant (.int 1) j2 p7] p8] pos) jE:=by
 intro a aA s σ H Q I ⟨ρ,F,z,S,v,ev,q⟩;have c1:=iP (pos:=p3) vB (j9 (pos:=p1) (p:=p0) mJ gb nl rfl (fP hv eR (bG rfl)) (by decide) (by decide) (bG rfl) rfl) (fN (i:=1) (j:=j) (pos:=p2)) rfl
 have c2:=iP (pos:=p8) vB (j9 (pos:=p6) (p:=p5) mJ gb nl rfl (fP (iT (pos:=q1) kB hv' (fN (i:=0) (j:=j1) (pos:=q0)) λ_ _=>rfl) eR (bG rfl)) (by decide) (by decide) (bG rfl) rfl) (fN (i:=1) (j:=j2) (pos:=p7)) rfl
 refine(uR (pos:=pos) c1 (uQ c2)).pt aA s σ H Q I ?_;have q:=q F H (aD.refl _) S;obtain⟨bs,ha,_,_,_,_,ow⟩:=S.G;have e:(!decide (V.int ((bs.reverse.map V.ref).length:Int)=V.int 1)) = !decide (z.length=1):=by rw[aPI,aRU,ow.len];congr 1;rw[aO2];simp;lia
 refine⟨.ref a,S.e1,a,_,rfl,.inl (SqL.of ha),rfl,_,rfl,?_⟩;rw[e];cases ev
 match z,bs,ow with
 |[],_,_=>rw[if_pos (by decide)];exact q
 |_::_::_,_,_=>rw[if_pos (by simp)];exact q
 |[ds],[],ow=>cases(show _=[]from ow)
 |[ds],b::bs,⟨ds',z',e1,⟨xs,hb,rx,_⟩,ow⟩ =>
  cases e1;obtain rfl:bs=[]:=by
   cases bs with
   |nil=>rfl
   |cons c cs=>obtain⟨_,_,e,_⟩:=ow;cases e
  rw[if_neg (by simp)]
  refine⟨.ref a,S.e1,a,[.ref b],0,.ref b,rfl,rfl,SqL.of ha,qR,b,xs,rfl,.inl (SqL.of hb),rfl,_,rfl,?_⟩;have e2:(!decide (V.int (xs.length:Int)=V.int 1)) = !decide (ds.length=1):=by rw[rx.length];congr 1;rw[aO2];simp;lia
  rw[e2];exact q
def aJA{a:Addr}(hv:PE X (.Name x p) (cG 1)):PS X (.Return (some (.Subscript (.Subscript (.Name x p) (.Constant (.int 0) j p1) p2) (.Constant (.int 0) j1 p3) p4)) pos) (λE σ H=>∃ρ F d,TR C X a F H σ ρ [[d]]/\∀v,aB X.K F d v->E.rt v H):=by
 have h:=oW (pos:=pos) (iT (pos:=p4) kB (iT (pos:=p2) kB hv (fN (i:=0) (j:=j) (pos:=p1)) λ_ _=>rfl) (fN (i:=0) (j:=j1) (pos:=p3)) λ_ _=>rfl);refine PS.imp h λE σ H ⟨ρ,F,d,S,w⟩=>?_;obtain⟨bs,ha,_,_,_,_,ow⟩:=S.G
 match bs,ow with
 |[],ow=>cases(show _=[]from ow)
 |b::c::cs,⟨_,_,e1,_,_,_,e2,_⟩=>cases e1;cases e2
 |[b],⟨ds',z',e1,⟨xs,hb,rx,_⟩,ow⟩=>cases e1;simp only[aC]at rx;obtain⟨y,ys,rfl,ry,rfl⟩:=rx;exact⟨.ref a,S.e1,a,[.ref b],0,.ref b,rfl,rfl,SqL.of ha,qR,b,[y],0,y,rfl,rfl,SqL.of hb,qR,w y ry⟩
end
def eK(g:Rho->Stk->bJ):List D->Rho->Stk->bJ
 |[],ρ,z=>.nx ρ z
 |d::ds,ρ,z=>seqT g (eK g ds) (ρ.set 2 (some (false,d))) z
def hV(gi:Rho->Res)(g:Rho->Stk->bJ):Rho->Stk->bJ:=λρ z=>match gi ρ with
 |.ok _ (.lst ds)=>eK g ds ρ z
 |_=>.stuck
theorem aJB{g:Rho->Stk->bJ}{pos:Pos}(hp:PassesOwn (model X.prog X.w) X.A X.env X.xe)(hc:X.calm=true)(hi:PIv C X tg e gi)(hg:PGw X tg (.nm 2))(hb:PTb C X sts g)(hs:∀x,foldedSetIterable e X.env x=pure x):PTs C X (.For tg e sts [] pos) (hV gi g):=by
 intro a;refine PS.imp (u6 hp hc hi hg (hb a) hs) λE σ H ⟨ρ,F,z,S,w⟩=>?_;unfold o7;refine⟨ρ,F,S.R,?_⟩;unfold hV at w;cases er:gi ρ with
 |stuck=>rw[er]at w;exact w.elim
 |exc c=>rw[er]at w;exact w.elim
 |ok m d =>
  rw[er]at w;cases d with
  |lst ds =>
   dsimp only at w;intro J F1 H1 s1 hJ;refine⟨λj m σ' H'=>m=ds.length-j/\j<=ds.length/\∃ρ' F' z',aD F1 F'/\TR C X a F' H' σ' ρ' z'/\WTr C X a F' (eK g (ds.drop j) ρ' z') E,
    ⟨ds.length,by simp,aQF _,ρ,F1,z,aD.refl _,S.step s1,by simpa using w.mono s1.fsame⟩,?_⟩
   rintro j m σ' H' ⟨rfl,hj,ρ',F',z',sF,S',w'⟩;by_cases hlt:j<ds.length
   . refine .inr ⟨hJ.go j H' (sF.trans S'.R.sub) hlt,λσ2 H2=>∃ρ2 F2 z2,aD F1 F2/\TR C X a F2 H2 σ2 ρ2 z2/\WTr C X a F2 (eK g (ds.drop (j+1)) ρ2 z2) E,
       λσ2 H2 ⟨ρ2,F2,z2,a1,a2,a3⟩=>⟨ds.length-(j+1),by lia,rfl,hlt,ρ2,F2,z2,a1,a2,a3⟩,λx H2 y=>?_⟩
     obtain⟨F2,d,ed,s2,rd⟩:=hJ.yld j F' H' x H2 sF S'.R.sub hlt y;have hd:ds.drop j=d::ds.drop (j+1):=by rw[aQ3 hlt];rw[aQX hlt]at ed;cases ed;rfl
     rw[hd]at w';unfold eK seqT at w';have S2:=S'.step s2;refine kR (.nm 2) S2.R rd rfl λσ3 R3 l3 k3=>?_;refine⟨_,F2,z',⟨R3,S2.no.set 2 (λd z=>by cases z),by rw[aQZ];exact S2.ln,by rw[k3 1 (by decide)];exact S2.e1,S2.G⟩,?_⟩
     cases eb:g (ρ'.set 2 (some (false,d))) z' with
     |stuck=>rw[eb]at w';exact w'
     |exc c=>rw[eb]at w';exact WTr.mono (r:=.exc c) s2.fsame w'
     |nx ρ2 z2=>rw[eb]at w';exact λσ4 F4 H4 s4 S4=>⟨ρ2,F4,z2,(sF.trans s2.fsame).trans s4,S4,WTr.mono (s2.fsame.trans s4) w'⟩
   . have ej:j=ds.length:=by lia
     subst ej;refine .inl ⟨hJ.stop _ H' (sF.trans S'.R.sub) (aOY _),?_⟩;rw[aQ4]at w';exact w' σ' F' H' (aD.refl _) S'
  |_=>exact w.elim
def qS(gi:Rho->Res)(g:Rho->Stk->bJ)(gc:Rho->aE):Rho->Stk->bJ:=seqT (hV gi g) (ifT jE (rzT gc) nxT)
def eW(gi:Rho->Res)(g:Rho->Stk->bJ)(gc:Rho->aE)(ρ:Rho):aE:=if(decide (3<ρ.length)&&qI ρ)=true then(match qS gi g gc (ρ.set 1 none) [[]]with
 |.nx _ [[d]]=>.rt .fz d
 |.exc c=>.exc c (List.replicate ρ.length none)
 |_=>.stuck)else .stuck
section
variable {g:Rho->Stk->bJ}{gc:Rho->aE}{s2 s3:Stmt}{p3 p4 p5 pos p6 sp q:Pos}{j1:Nat}
theorem aJC(hN:X.N.Nodup)(h1:X.N[1]? = some x)(l1:Loc X.env.scope x)(f1:X.fn x=true\/X.env.scope.names.lookup x=some .local)(hx:PE X (.Name x p) (cG 1))(hb2:PTs C X s2 (hV gi g))(hb3:PTs C X s3 (ifT jE (rzT gc) nxT))(hs:swapsWith (.List [.List [] p5] p6) (some (.Name x q)) sp.line X.env=pure false):PBv C X [.Assign [.Name x q] (.List [.List [] p5] p6) sp,s2,s3,.Return (some (.Subscript (.Subscript (.Name x p) (.Constant (.int 0) j p1) p2) (.Constant (.int 0) j1 p3) p4)) pos] (eW gi g gc):=by
 intro aA s σ H E I qq;obtain⟨ρ,F,R,w⟩:=qq;have b2:PS X s2 (λE σ H=>∃a,tTr C X a (hV gi g) E σ H):=λaA s σ H D I ⟨a,q⟩=>hb2 a aA s σ H D I q;have b3:PS X s3 (λE σ H=>∃a,tTr C X a (ifT jE (rzT gc) nxT) E σ H):=λaA s σ H D I ⟨a,q⟩=>hb3 a aA s σ H D I q;have b4:PS X (.Return (some (.Subscript (.Subscript (.Name x p) (.Constant (.int 0) j p1) p2) (.Constant (.int 0) j1 p3) p4)) pos) (λE σ H=>∃a ρ F d,TR C X a F H σ ρ [[d]]/\∀v,aB X.K F d v->E.rt v H):=λaA s σ H D I ⟨a,q⟩=>aJA hx aA s σ H D I q;refine j6 (oY hN h1 l1 (l8 (fP (l8 eR) eR (bG rfl))) hs f1) (j6 b2 (j6 b3 (uV b4))) aA s σ H E I ?_;unfold eW at w;cases en:(decide (3<ρ.length)&&qI ρ)with
 |false=>rw[en]at w;exact w.elim
 |true =>
  rw[en,if_pos rfl]at w;rw[aPY,aQH]at en;obtain⟨hl,en⟩:=en;have nw:=aIN en;have ls:σ.length=ρ.length:=R.len;have lN:ρ.length=X.N.length:=by rw[<- ls];exact I.len
  refine⟨by rw[aO3];exact aQF _,λb hb=>⟨by rw[aO3];exact aRZ (aQF _),λa ha=>?_⟩⟩
  have st1:aG F H F (upd H b (.lst [])):=aG.fresh _ R.sub hb;have ne:b≠a:=λz=>by rw[<- z,bE]at ha;cases ha
  have haH:H a=none:=by rw[aP (Ne.symm ne)]at ha;exact ha
  have st2:=st1.trans (aG.fresh (o:=.lst [.ref b]) (R.step st1).sub ha);have n1:=nw.set 1 (u:=none) λd z=>by cases z
  have S:TR C X a F (upd (upd H b (.lst [])) a (.lst [.ref b])) (σ.set 1 (some (.ref a))) (ρ.set 1 none) [[]] :=
   ⟨(R.step st2).hide 1 (.ref a) n1,n1,by rw[aQZ];exact lN,by rw[aOK (by rw[ls];lia)],[b],bE,R.sub.free haH,R.st.same.free haH,by simp,by simpa using Ne.symm ne,[],[],rfl,⟨[],by rw[aP ne,bE],aC.nil,R.sub.free hb,R.st.same.free hb⟩,rfl⟩
  refine⟨a,ρ.set 1 none,F,[[]],S,?_⟩;have ex:∀{c:Str}{F1:Hp},bK (C.at X) F (.exc c (List.replicate ρ.length none)) E->aD F F1->∀(σ':L2.St) (F' H':Hp),aD F1 F'->aG C.F0 C.H0 F' H'->σ'.length=X.N.length->C.EE c σ' H':=λ{c F1} w s1 σ' F' H' s' st' hl' =>
   w σ' F' H' (s1.trans s') ⟨st',(λi m d e=>by rw[aPD]at e;split at e <;> cases e),(λi j d1 d2 a _ e _ _ _=>by rw[aPD]at e;split at e <;> cases e),by rw[aPJ,lN];exact hl'⟩
  unfold qS seqT at w;cases e1:hV gi g (ρ.set 1 none) [[]]with
  |stuck=>rw[e1]at w;exact w.elim
  |exc c=>rw[e1]at w;exact ex w (aD.refl _)
  |nx ρ1 z1 =>
   rw[e1]at w;dsimp only at w;intro σ1 F1 H1 s1 S1;refine⟨a,ρ1,F1,z1,S1,?_⟩;cases e2:ifT jE (rzT gc) nxT ρ1 z1 with
   |stuck=>rw[e2]at w;exact w.elim
   |exc c=>rw[e2]at w;exact ex w s1
   |nx ρ2 z2 =>
    rw[e2]at w;intro σ2 F2 H2 s2 S2;split at w
    . rename_i d e3;cases e3;exact⟨a,ρ2,F2,d,S2,λv rv=>w v F2 H2 S2.R.st rv (by nofun)⟩
    . rename_i c e3;cases e3
    . exact w.elim
end
end D3
set_option genSizeOfSpec false
set_option genInjectivity false
namespace D3
inductive KC where|s (y:Str)|i (n:Int)|t (tb:List (Str×Str))
 deriving DecidableEq
def KC.d:KC->D|.s y=>.str y|.i n=>.int n|.t _=>.non
inductive GV where|con (c:KC)|fn (n:Nat)|no|cls
 deriving DecidableEq
inductive Bn where|len|isinstance|all|max
 deriving DecidableEq
noncomputable def Bn.name:Bn->Str
 |.len => "len" |.isinstance => "isinstance" |.all => "all" |.max => "max"
def Bn.f:Bn->List (Md×D)->Option (Md×D)
 |.len=>cL|.isinstance=>cQ|.all=>kM|.max=>jA
def Bn.id:Bn->String
 |.len => "len" |.isinstance => "isinstance" |.all => "all" |.max => "max"
inductive Ty where|int|bool|str|tuple|list|dict
 deriving DecidableEq
def Ty.f:Ty->List (Md×D)->Option (Md×D)
 |.tuple=>i8|.list=>i9|.int=>hG|.str=>kQ|_=>λ_=>none
def Ty.id:Ty->String
 |.int => "int" |.bool => "bool" |.str => "str" |.tuple => "tuple" |.list => "list" |.dict => "dict"
inductive Mt where|join|startswith|removeprefix
 deriving DecidableEq
def Mt.name:Mt->Str|.join => "join" |.startswith => "startswith" |.removeprefix => "removeprefix"
def Mt.ty:Mt->String|.join => "str" |.startswith => "str" |.removeprefix => "str"
def Mt.f:Mt->Md->D->List (Md×D)->Option (Md×D)|.join=>gX|.startswith=>swD|.removeprefix=>rpD
structure WD where
 Φ:Str->List D->Res
 Ψ:Str->List D->Res
 I:Str->Option (List D->Res)
 cl:List CI
 xt:List ((Str×Str)×Bool)
 xi:List ((Str×Str)×Bool)
 dp:Bool
 Ms:Str->D->KD->Option KD
 Cl:Str->Str->List (Str×D)->D->Res
 Wy:Str->Option dW
def WD.xf(W:WD):Str->Str->Option Bool:=λc x=>W.xt.lookup (c,x)
def WD.xg(W:WD):Str->Str->Option Bool:=λc x=>W.xi.lookup (c,x)
inductive E where
 |var (i:Nat)|non|bl (b:Bool)|int (i:Int)|str (x:Str)
 |glob (x:Str) (c:KC)|ty (t:Ty)
 |bin (op:Operator) (a b:E)|cmp (op:CmpOp) (a b:E)
 |andL (es:List E)|orL (es:List E)|not (a:E)|tru (a:E)|frz (a:E)
 |ix (a b:E)|slice (a:E) (lo hi:Option E)
 |tup (es:List E)|lst (es:List E)
 |call (f:Str) (n:Nat) (es:List E)|bcall (b:Bn) (es:List E)|mt (m:Mt) (o:E) (es:List E)
 |items (a:E)|rng1 (a:E)|rng2 (a b:E)
 |comp (elt it:E) (ts:List E) (caps:List Nat) (t:Tg) (n:Nat)|fmt (a:E)|fstr (es:List E)
 |tcall (t:Ty) (es:List E)
 |dnew|dix (a b:E)
 |never
def noF:Md->D->Md->D->Option (Md×D):=λ_ _ _ _=>none
end D3
variable {e1 e2 e3:D3.E}
namespace D3
def aQ:Operator->Md->D->Md->D->Option (Md×D)
 |.Add=>orO fAdd mZ|.Sub=>fSub|.Mult=>orO fMul m7|.Mod=>fMod|.FloorDiv=>fDiv|.Pow=>fPow|_=>noF
def bB:CmpOp->Md->D->Md->D->Option (Md×D)
 |.Lt=>orO fLt noK|.LtE=>fLe|.Gt=>fGt|.GtE=>fGe|.Eq=>fEq|.NotEq=>fNe|.In=>orO fIn (i7 false)|.NotIn=>orO aGZ (i7 true)|.Is=>fIs false|.IsNot=>fIs true
mutual
def evE(W:WD):E->Rho->Res
 |.var i,ρ=>d8 ρ i
 |.non,_=>.ok .fz .non
 |.bl b,_=>.ok .fz (.bl b)
 |.int i,_=>.ok .fz (.int i)
 |.str x,_=>.ok .fz (.str x)
 |.glob _ c,_=>.ok .fz c.d
 |.ty t,_=>.ok .fz (.ty t.id)
 |.bin op a b,ρ=>op2 (aQ op) (evE W a ρ) (evE W b ρ)
 |.cmp op a b,ρ=>op2 (bB op) (evE W a ρ) (evE W b ρ)
 |.andL es,ρ=>evA W es ρ
 |.orL es,ρ=>cN W es ρ
 |.not a,ρ=>iX (evE W a ρ)
 |.tru a,ρ=>kJ (evE W a ρ)
 |.frz a,ρ=>bR (evE W a ρ)
 |.ix a b,ρ=>op2 ixD (evE W a ρ) (evE W b ρ)
 |.slice a lo hi,ρ=>slP (evE W a ρ) (evO W lo) (evO W hi) ρ
 |.tup es,ρ=>dD (bN W es ρ)
 |.lst es,ρ=>gS (bN W es ρ)
 |.call f n es,ρ=>bD n (W.Φ f) (bN W es ρ)
 |.bcall b es,ρ=>cY b.f (bN W es ρ)
 |.mt m o es,ρ=>fT m.ty m.f (evE W o ρ) (bN W es ρ)
 |.items a,ρ=>i4 (bR (evE W a ρ))
 |.rng1 a,ρ=>gW (aL (evE W a ρ) (.ok []))
 |.rng2 a b,ρ=>i5 (aL (evE W a ρ) (aL (evE W b ρ) (.ok [])))
 |.comp elt it ts caps t n,ρ=>dP (evE W it ρ) ρ caps n (a9 t) (λρ=>evF W ts ρ) (λρ=>evE W elt ρ)
 |.fmt a,ρ=>kS (evE W a ρ)
 |.fstr es,ρ=>dF Str.empty (evL W es) ρ
 |.tcall t es,ρ=>cY t.f (bN W es ρ)
 |.dnew,_=>.ok .fr (.dct [])
 |.dix a b,ρ=>op2 ixK (evE W a ρ) (evE W b ρ)
 |.never,_=>.stuck
def bN(W:WD):List E->Rho->bA
 |[],_=>.ok []
 |e::es,ρ=>aL (evE W e ρ) (bN W es ρ)
def evA(W:WD):List E->Rho->Res
 |[],_=>.stuck
 |[e],ρ=>evE W e ρ
 |e::es,ρ=>dL (evE W e ρ) (evA W es ρ)
def cN(W:WD):List E->Rho->Res
 |[],_=>.stuck
 |[e],ρ=>evE W e ρ
 |e::es,ρ=>orR (evE W e ρ) (cN W es ρ)
def evF(W:WD):List E->Rho->Res
 |[],_=>.ok .fz (.bl true)
 |e::es,ρ=>dL (evE W e ρ) (evF W es ρ)
def evL(W:WD):List E->List (Rho->Res)
 |[]=>[]
 |e::es=>evE W e::evL W es
def evO(W:WD):Option E->Option (Rho->Res)
 |none=>none
 |some e=>some (evE W e)
end
structure MG where
 G:List (Str×GV)
 mk0:List Str
 mki:List (Str×Str×Nat)
 iso:List Str
 xcs:List Str
 xns:List Str
 sn:List Str
 cl:List (Str×Str×Str×Str)
structure MC where
 N:List Str
 sc:Scope
 g:MG
 fn:Bool
 calm:Bool
 rz:Bool
 q:Str
noncomputable def MC.kind(m:MC)(x:Str):Option NameKind:=m.sc.names.lookup x
def MC.vis(m:MC)(x:Str):Bool:=(m.kind x==some .local||m.kind x==some .cell||m.kind x==some .free)&&x != "__debug__" && x != "__classdict__"
def MC.glob(m:MC)(x:Str)(v:GV):Bool:=m.kind x==some .globalImplicit&&m.g.G.lookup x==some v&&x != "__debug__" && x != "__name__"
def MC.gk(m:MC)(x:Str):Bool:=m.kind x==some .globalImplicit&&x != "__debug__"
def strK(x:Str):Bool:=decide (x.length<=sizeLine)&&PyData.strOk x
def qT:Expr->Bool|.Slice ..=>false|_=>true
def hX:Expr->Bool|.Set ..=>false|_=>true
def xQ:Expr->Bool|.UnaryOp .Not _ _=>false|.BoolOp ..=>false|.IfExp ..=>false|.Compare ..=>false|_=>true
def MC.sub(m:MC)(scope:Scope)(aT tgN:List Str):MC:={ m with N:=aT++tgN,sc:={scope with names:=mY scope m.sc},fn:=false,rz:=false,q := "" }
def MC.loc(m:MC)(i:Nat)(x:Str):Bool:=m.N[i]?==some x&&(m.kind x==some .local||(m.fn&&m.kind x==some .cell))
mutual
def mG(m:MC):Tg->Expr->Bool
 |.nm i,e=>match e with|.Name x _=>m.loc i x|_=>false
 |.tp ts,e=>match e with|.Tuple es _ _=>m.calm&&es.all fW&&mGs m ts es|_=>false
def mGs(m:MC):List Tg->List Expr->Bool
 |[],es=>es.isEmpty
 |t::ts,l=>match l with|e::es=>mG m t e&&mGs m ts es|_=>false
end
def fJ:Nat->Expr->List Str
 |_,.Name x _=>[x]
 |n+1,.Tuple es _ _=>es.flatMap (fJ n)
 |_,_=>[]
def xR(scope sc:Scope)(N:List Str)(caps:List Nat)(aT tgN:List Str):Bool :=
 scope.names.all (λy=>y.2 != .cell)&&scope.kind == .function&&scope.names.all (λy=>y.2 != .local||scope.names.lookup y.1==some .local) &&
 scope.names.all (λy=>y.2 != .free||sc.names.lookup y.1==some .cell||sc.names.lookup y.1==some .free)&&(aT.map some==caps.map λi=>N[i]?)&&aT.all (λy=>scope.names.contains (y,.free)) &&
 aT.all (λy=>(mY scope sc).lookup y==some .cell||(mY scope sc).lookup y==some .free)&&decide (aT++tgN).Nodup
def strK':KC->Bool|.s y=>strK y|.i _=>true|.t _=>false
structure SX(k:Nat)(W:WD)(m:MC)(C:Cw)(X:Cx):Prop where
 hN:X.N=m.N
 hs:X.env.scope=m.sc
 cm:m.calm=true->X.calm=true
 rm:m.calm=true->bL k X.A
 un:X.A.units+64<cLine
 xo:m.calm=true->XOk (CX1 X.prog X.w) (C.at X) X
 xt:qF X.K X.mg W.xf
 xi:qG X.K X.mg W.xg
 xc:∀c,c∈m.g.xcs->∃Cc,X.mg c=some (.ref Cc)/\xH X.K Cc
 xn:∀n,n∈m.g.xns->∃cv,m8 X.mg n cv
 con:∀x c,m.g.G.lookup x=some (.con c)->match c with|.s y=>∃t,X.mg x=some (.str y t)|.i n=>∃t,X.mg x=some (.int n t)|.t tb=>jB X.w X.K X.mg x tb
 no:∀x,m.g.G.lookup x=some .no->X.mg x=none
 mk0:∀c,c∈m.g.mk0->MkV0 X.K X.mg c
 mki:∀c key n,(c,key,n)∈m.g.mki->∀Φ,W.I key=some Φ->∃j,j+1<=k/\InV X.prog X.w X.K X.mg X.base (CX1 X.prog X.w) j c n Φ
 iso:∀c,c∈m.g.iso->IsV X.K X.mg W.cl c
 fl:∀i f,i∈W.cl->f∈i.flds->FlV X.K i.name f
 mt:∀c m key n,CI.meth W.cl c m=some (key,n)->MtV X.prog X.w X.K X.mg X.base (CX1 X.prog X.w) k c m n (W.Φ key)
 fn:∀x n,m.g.G.lookup x=some (.fn n)->FnV X.prog X.w X.K X.mg X.base (CX1 X.prog X.w) k x n (W.Φ x)
 fnn:m.fn=true->∀x,X.fn x=true
 fp:W.dp=true->∃j,j+1=k/\∀x n,m.g.G.lookup x=some (.fn n)->FnV X.prog X.w X.K X.mg X.base (CX1 X.prog X.w) j x n (W.Ψ x)
 sm:∀x,x∈m.g.sn->FnM X.prog X.w X.K X.mg X.base (CX1 X.prog X.w) k x (W.Ms x)
 sc:W.dp=true->∀f a b g,(f,a,b,g)∈m.g.cl->FnC X.prog X.w X.K X.mg X.base (CX1 X.prog X.w) k f a b/\CloG X.K f a b g
 cv:∀f n,jD X.prog X.w X.K X.mg X.base k f n (W.Cl f n)
 sw:W.dp=true->∀f I,W.Wy f=some I->FnW X.prog X.w X.K X.mg X.base (CX1 X.prog X.w) k f I
 cd:m.q="" \/ (PySem.W.codeIn X.K X.env.code m.q=true/\X.env.qual=m.q ++ ".<locals>.")
section
variable {W:WD}{m:MC}{x y:Expr}
def SX.gl(S:SX k W m C X){v:GV}(h:m.glob z v=true):Gl X z/\m.g.G.lookup z=some v/\(z==("__debug__":Str))=false/\z ≠ "__name__" := by
 unfold MC.glob MC.kind at h;simp only[aPY,aQS,aRN]at h;obtain⟨⟨⟨h1,h2⟩,h3⟩,h4⟩:=h;refine⟨?_,h2,by simpa using h3,h4⟩
 show X.env.scope.names.lookup z=_;rw[S.hs];exact h1
theorem SX.vis(S:SX k W m C X)(h:m.vis z=true):Vis X.env.scope z/\(z==("__debug__":Str))=false/\(z==("__classdict__":Str))=false:=by
 unfold MC.vis MC.kind at h;simp only[aPY,aQJ,aQS,aRN]at h;obtain⟨⟨h1,h2⟩,h3⟩:=h;refine⟨?_,by simpa using h2,by simpa using h3⟩
 unfold Vis;rw[S.hs];rcases h1 with(h1|h1)|h1
 . exact .inl h1
 . exact .inr (.inl h1)
 . exact .inr (.inr h1)
def aJD(b:Bn):bootBuiltins b.name=some (.builtin b.id):=by
 cases b
 . exact aG0
 . exact aG1
 . exact aG2
 . exact aHK
def aJE(b:Bn){c:Bool}(hc:c=true->X.calm=true)(h:(c||b == .len||b == .isinstance)=true):dM X (.builtin b.id) b.f:=by
 have hc:(b == .len||b == .isinstance)=false->X.calm=true:=λz=>hc (by cases c with|true=>rfl|false=>rw[Bool.false_or]at h;rw[h]at z;cases z)
 cases b
 . exact aFW
 . exact aFY
 . exact aF3 (hc rfl)
 . exact aHI (hc rfl)
def xS{f:aSQ}:dM X f (λ_=>none):=⟨λ_ _ _=>False,λ_ _ _ _ _ _ _ _ _ h=>h.elim,λ_ _ _ _ _ _ _ _ _ e _=>by cases e⟩
def aJF(t:Ty):dM X (.type t.id) t.f:=by
 cases t
 . exact aH3
 . exact xS
 . exact aHJ
 . exact aHF
 . exact aHG
 . exact xS
def xT(t:Ty):bootBuiltins (t.id:Str)=some (.type t.id):=by
 cases t
 . exact aG3
 . exact aG4
 . exact aG5
 . exact aG6
 . exact aG7
 . exact aG8
def aJG(op:Operator):(∃φ,aQ op=φ/\OpD C X (binaryOp op) φ)\/aQ op=noF:=by
 cases op
 case Add=>exact .inl ⟨_,rfl,o_add.or aHD⟩
 case Sub=>exact .inl ⟨_,rfl,aE0⟩
 case Mult=>exact .inl ⟨_,rfl,o_mul.or aH4⟩
 case Mod=>exact .inl ⟨_,rfl,aE3⟩
 case FloorDiv=>exact .inl ⟨_,rfl,aE5⟩
 case Pow=>exact .inl ⟨_,rfl,aE6⟩
 all_goals exact .inr rfl
def qU:IsB noK:=λ_ _ _ _ _ _ z=>by cases z
def aJH(op:CmpOp)(hu:X.A.units+64<cLine):(OpD C X (compareOp op) (bB op)/\IsB (bB op))\/bB op=noF:=by
 cases op
 case Lt=>exact .inl ⟨aE7.or pU,kP mX qU⟩
 case LtE=>exact .inl ⟨aE8,mX⟩
 case Gt=>exact .inl ⟨aE9,mX⟩
 case GtE=>exact .inl ⟨aFA,mX⟩
 case Eq=>exact .inl ⟨o_eq hu,kP wZ qU⟩
 case NotEq=>exact .inl ⟨o_ne hu,kP wZ qU⟩
 case In=>exact .inl ⟨aFC.or (xD aD6),kP wY xE⟩
 case NotIn=>exact .inl ⟨aFD.or (xD aD7),kP wY xE⟩
 case Is=>exact .inl ⟨aG9,xC⟩
 case IsNot=>exact .inl ⟨aHA,xC⟩
def xU{f:aSQ->aSQ->Sem aSQ}:OpD C X f noF:=⟨λ_ _ _ _=>False,λ_ _ _ _ _ _ _ _ _ _ _ _ h=>h.elim,λ_ _ _ _ _ _ _ _ _ _ _ _ _ _ e _=>by cases e⟩
def aJI(op:Operator):OpD C X (binaryOp op) (aQ op):=by
 rcases aJG (C:=C) (X:=X) op with⟨φ,e,h⟩|e
 . rw[e];exact h
 . rw[e];exact xU
def qV(op:CmpOp)(hu:X.A.units+64<cLine):OpD C X (compareOp op) (bB op)/\IsB (bB op):=by
 rcases aJH (C:=C) op hu with h|e
 . exact h
 . rw[e];exact⟨xU,λ_ _ _ _ _ _ z=>by cases z⟩
def xV(op:CmpOp)(h:hX e=true):behindInMarks op e=false:=by cases e <;> first|rfl|cases h
def qW(h:hX e=true):∀v,foldedSetIterable e env v=pure v:=by intro v;cases e <;> first|rfl|cases h
def xW(h:qT e=true):mH e:=by intro o i;cases e <;> first|rfl|cases h
def aJJ(h:xQ e=true):∀whole,isTrue e env whole=(do let v <- whole;standAt e.pos;holding [v] (truthy v)):=by
 intro whole;cases e
 case UnaryOp op _ _=>cases op <;> first|rfl|cases h
 all_goals first|rfl|cases h
theorem SX.sub(S:SX k W m C X)(cl:List (Str×Addr))(A:Addr)(fp:List Addr)(s3:aSR)(H3:Hp):SX k W (m.sub scope aT tgN) C.nox (bP X scope (aT++tgN) cl A fp s3 H3):=by
 refine⟨rfl,?_,S.cm,S.rm,S.un,λ_ aA σ H s e s' I h=>?_,S.xt,S.xi,S.xc,S.xn,S.con,S.no,S.mk0,S.mki,S.iso,S.fl,S.mt,S.fn,(λz=>by cases z),S.fp,S.sm,S.sc,S.cv,S.sw,.inl rfl⟩
 rotate_left
 . obtain⟨_,_,_,_,_,_,_,_,_,_,_,_,z⟩:=h;exact z.elim
 show(compEnvC scope cl A X.env).scope=_;unfold MC.sub;rw[<- S.hs];rfl
theorem SX.loc(S:SX k W m C X)(h:m.loc i z=true):X.N[i]? = some z/\L2.Loc X.env.scope z/\(X.fn z=true\/X.env.scope.names.lookup z=some .local):=by
 unfold MC.loc MC.kind at h;simp only[aPY,aQJ,aQS]at h;refine⟨by rw[S.hN];exact h.1,?_,?_⟩
 . unfold L2.Loc;rw[S.hs];rcases h.2 with q|q
   . exact .inl q
   . exact .inr q.2
 . rw[S.hs];rcases h.2 with q|q
   . exact .inr q
   . exact .inl (S.fnn q.1 z)
mutual
theorem sG(S:SX k W m C X)(hN:m.N.Nodup):∀(t:Tg) {e:Expr},mG m t e=true->PGw X e t
 |.nm i,e,h=>by
  simp only[mG]at h;split at h
  . obtain⟨a,b,c⟩:=S.loc h;exact aHR (by rw[S.hN];exact hN) a b c
  . cases h
 |.tp ts,e,h=>by
  simp only[mG]at h;split at h
  . rw[aPY,aPY,aQU]at h;obtain⟨p,l⟩:=sGs S hN ts h.2 h.1.2;exact aHV (S.cm h.1.1) p h.1.2 l
  . cases h
theorem sGs(S:SX k W m C X)(hN:m.N.Nodup):∀(ts:List Tg) {es:List Expr},mGs m ts es=true->(∀e∈es,fW e=true)->g9 X es ts/\es.length=ts.length
 |[],[],h,_=>⟨aHS,rfl⟩
 |[],_::_,h,_=>by simp[mGs]at h
 |t::ts,[],h,_=>by simp[mGs]at h
 |t::ts,e::es,h,hs=>by simp only[mGs,aPY]at h;obtain⟨p,l⟩:=sGs S hN ts h.2 λx hx=>hs x (mcm hx);exact⟨aHT (sG S hN t h.1) p (hs e mcs),by rw[aQB,aQB,l]⟩
end
end
def aJK:PV C X e (λ_=>.stuck):=λaA s σ H Q I q=>by rw[aZ]at q;obtain⟨ρ,F,R,w⟩:=q;exact w.elim
abbrev PE(m:MC)(f:E)(e:Expr):Prop:=∀{k:Nat}{W:WD}{C:Cw}{X:Cx},SX k W m C X->PV C X e (evE W f)
abbrev PTE(m:MC)(f:E)(e:Expr):Prop:=∀{k:Nat}{W:WD}{C:Cw}{X:Cx},SX k W m C X->PTv C X e (evE W f)
abbrev PIE(m:MC)(tg:Expr)(f:E)(e:Expr):Prop:=∀{k:Nat}{W:WD}{C:Cw}{X:Cx},SX k W m C X->PIv C X tg e (evE W f)
inductive c9(m:MC):List E->List Expr->Prop
 |nil:c9 m [] []
 |cons {f fs x xs:_}:eI x=true->PE m f x->c9 m fs xs->c9 m (f::fs) (x::xs)
inductive eA(m:MC):List E->List Expr->Prop
 |nil:eA m [] []
 |cons {f fs x xs:_}:PTE m f x->eA m fs xs->eA m (f::fs) (x::xs)
abbrev CkE(m:MC)(f:E)(e:Expr):Type:=Option (PLift (PE m f e))
abbrev CkT(m:MC)(f:E)(e:Expr):Type:=Option (PLift (PTE m f e))
abbrev CkI(m:MC)(tg:Expr)(f:E)(e:Expr):Type:=Option (PLift (PIE m tg f e))
abbrev dX(m:MC)(f:List E)(e:List Expr):Type:=Option (PLift (c9 m f e))
abbrev CkF(m:MC)(f:List E)(e:List Expr):Type:=Option (PLift (eA m f e))
abbrev CkO(m:MC)(f:Option E)(e:Option Expr):Type:=Option (PLift (∀{k:Nat}{W:WD}{C:Cw}{X:Cx},SX k W m C X->POv C X e (evO W f)))
def got{P:Prop}:∀{o:Option (PLift P)},o.isSome=true->P
 |some p,_=>p.down
 |none,h=>nomatch h
section
variable {W:WD}{m:MC}
theorem c9.star:∀{fs:List E}{es:List Expr},c9 m fs es->∀x∈es,eI x=true
 |_,_,.nil=>λx hx=>by cases hx
 |_,_,.cons s _ q=>λx hx=>by
  rcases aOG.mp hx with rfl|hx
  . exact s
  . exact q.star x hx
theorem c9.es(S:SX k W m C X):∀{fs:List E}{es:List Expr},c9 m fs es->PAv C X es (bN W fs)
 |_,_,.nil=>by simp only[bN];exact pO
 |_,_,.cons s p q=>by simp only[bN];exact mQ (p S) (q.es S) (bG s)
theorem c9.l(S:SX k W m C X):∀{fs:List E}{es:List Expr},c9 m fs es->PVL C X es (evL W fs)
 |_,_,.nil=>by simp only[evL];exact .nil
 |_,_,.cons s p q=>by simp only[evL];exact .cons (p S) (q.l S)
theorem c9.a{pos:Pos}(S:SX k W m C X):∀{fs:List E}{es:List Expr},c9 m fs es->PV C X (.BoolOp .And es pos) (evA W fs)
 |_,_,.nil=>λaA s σ H Q I q=>by rw[aZ]at q;obtain⟨ρ,F,R,w⟩:=q;exact w.elim
 |_,_,.cons s p .nil=>by simp only[evA];exact wF (p S)
 |_,_,.cons s p (.cons s' p' q)=>by simp only[evA];exact aFK (p S) (c9.a S (.cons s' p' q))
theorem c9.o{pos:Pos}(S:SX k W m C X):∀{fs:List E}{es:List Expr},c9 m fs es->PV C X (.BoolOp .Or es pos) (cN W fs)
 |_,_,.nil=>λaA s σ H Q I q=>by rw[aZ]at q;obtain⟨ρ,F,R,w⟩:=q;exact w.elim
 |_,_,.cons s p .nil=>by simp only[cN];exact wF (p S)
 |_,_,.cons s p (.cons s' p' q)=>by simp only[cN];exact aFL (p S) (c9.o S (.cons s' p' q))
theorem eA.a{pos:Pos}(S:SX k W m C X):∀{fs:List E}{es:List Expr},eA m fs es->PWv C X (.BoolOp .And es pos) (evA W fs)
 |_,_,.nil=>λwhole aA s σ H Q I q=>by obtain⟨ρ,F,R,w⟩:=q;exact w.elim
 |_,_,.cons p .nil=>by simp only[evA];exact wD (p S)
 |_,_,.cons p (.cons p' q)=>by simp only[evA];exact aFI (p S) (eA.a S (.cons p' q))
theorem eA.o{pos:Pos}(S:SX k W m C X):∀{fs:List E}{es:List Expr},eA m fs es->PWv C X (.BoolOp .Or es pos) (cN W fs)
 |_,_,.nil=>λwhole aA s σ H Q I q=>by obtain⟨ρ,F,R,w⟩:=q;exact w.elim
 |_,_,.cons p .nil=>by simp only[cN];exact wD (p S)
 |_,_,.cons p (.cons p' q)=>by simp only[cN];exact aFJ (p S) (eA.o S (.cons p' q))
theorem eA.f(S:SX k W m C X):∀{fs:List E}{es:List Expr},eA m fs es->d9 X es (tT (C.at X) (evF W fs))
 |_,_,.nil=>by
  have:evF W []=λ_=>.ok .fz (.bl true):=by funext ρ;simp only[evF]
  rw[this];exact aGR
 |f::fs,_,.cons p q=>by
  have:evF W (f::fs)=λρ=>dL (evE W f ρ) (evF W fs ρ):=by funext ρ;simp only[evF]
  rw[this];exact aGS (p S) (q.f S)
section
variable {fs:List E}{es:List Expr}{r:dX m fs es}{t:CkF m fs es}{pos:Pos}
def gSt(h:r.isSome=true):∀x∈es,eI x=true:=(got h).star
def gEs(h:r.isSome=true)(S:SX k W m C X):PAv C X es (bN W fs):=(got h).es S
def gL(h:r.isSome=true)(S:SX k W m C X):PVL C X es (evL W fs):=(got h).l S
def gA(h:r.isSome=true)(S:SX k W m C X):PV C X (.BoolOp .And es pos) (evA W fs):=(got h).a S
def gOr(h:r.isSome=true)(S:SX k W m C X):PV C X (.BoolOp .Or es pos) (cN W fs):=(got h).o S
def gWA(h:t.isSome=true)(S:SX k W m C X):PWv C X (.BoolOp .And es pos) (evA W fs):=(got h).a S
def gWO(h:t.isSome=true)(S:SX k W m C X):PWv C X (.BoolOp .Or es pos) (cN W fs):=(got h).o S
def gF(h:t.isSome=true)(S:SX k W m C X):d9 X es (tT (C.at X) (evF W fs)):=(got h).f S
end
end
def aJL:PTv C X e (λ_=>.stuck):=by intro aA s σ H Q I q;obtain⟨ρ,F,R,w⟩:=q;exact w.elim
def aJM:PIv C X tg e (λ_=>.stuck):=by intro aA s σ H R I q;obtain⟨ρ,F,RS,w⟩:=q;exact w.elim
noncomputable def aJN{m:MC}{a e:_}(r1:CkE m a e):CkE m (.frz a) e:=if h:r1.isSome=true then some ⟨λS=>kI (got h S)⟩else none
noncomputable def aJO{m:MC}{a e:_}(r1:CkE m a e):CkT m (.tru a) e:=if h:(xQ e&&r1.isSome)=true then some ⟨λS=>by
 simp only[aPY]at h;exact aFF (got h.2 S) (aJJ h.1)⟩else none
noncomputable def aJP{m:MC}{tg a e:_}(r1:CkE m a e):CkI m tg (.items a) e:=if h:r1.isSome=true then some ⟨λS=>aGG (got h S)⟩else none
noncomputable def aJQ{m:MC}{i:_}{x:_}{p1:_}:CkE m (.var i) (.Name x p1):=if h:(m.N[i]?==some x&&m.vis x)=true then some ⟨λS=>by
 simp only[aPY,aQS]at h;obtain⟨h1,h2,h3⟩:=S.vis h.2
 exact aEU i (lZ (by rw[S.hN];exact h.1) h1 h2 h3)⟩else none
noncomputable def aJR{m:MC}{y:_}{c:_}{x:_}{p1:_}:CkE m (.glob y c) (.Name x p1):=if h:(x==y&&m.glob x (.con c)&&strK' c)=true then some ⟨λS=>by
 simp only[aPY,aQS]at h;obtain⟨⟨rfl,h1⟩,h2⟩:=h;obtain⟨g,l,hd,hn⟩:=S.gl h1;have:=S.con _ _ l;cases c with
 |s y=>obtain⟨t,ht⟩:=this;exact aFZ g ht h2 hd
 |i n=>obtain⟨t,ht⟩:=this;exact aF0 g ht hd
 |t tb=>cases h2⟩else none
noncomputable def kE_ty{m:MC}{t}{x:_}{p1:_}:CkE m (.ty t) (.Name x p1):=if h:(x==(t.id:Str)&&m.glob x .no)=true then some ⟨λS=>by
 simp only[aPY,aQS]at h;obtain⟨rfl,h1⟩:=h;obtain⟨g,l,hd,hn⟩:=S.gl h1;exact pv_ty g (S.no _ l) (xT t) hn hd⟩else none
noncomputable def aJS{m:MC}{p0}{p1:_}:CkE m (.non) (.Constant .none p0 p1):=if h:(true)=true then some ⟨λS=>by
 exact aEW⟩else none
noncomputable def kE_bl{m:MC}{c:_}{b:_}{p1:_}{p2:_}:CkE m (.bl c) (.Constant (.bool b) p1 p2):=if h:(b==c)=true then some ⟨λS=>by
 simp only[aQS]at h;subst h;exact pv_bl⟩else none
noncomputable def aJT{m:MC}{c:_}{b:_}{p1:_}{p2:_}:CkE m (.int c) (.Constant (.int b) p1 p2):=if h:(b==c)=true then some ⟨λS=>by
 simp only[aQS]at h;subst h;exact aEV⟩else none
noncomputable def aJU{m:MC}{c:_}{b:_}{p1:_}{p2:_}:CkE m (.str c) (.Constant (.str b) p1 p2):=if h:(b==c&&strK b)=true then some ⟨λS=>by
 simp only[aPY,aQS]at h;obtain⟨rfl,h⟩:=h;exact aEX h⟩else none
noncomputable def aJV{m:MC}{op}{a}{b:_}{x:_}{o}{y:_}{p3}(r1:CkE m a x)(r2:CkE m b y):CkE m (.bin op a b) (.BinOp x o y p3):=if h:(o==op&&(r1.isSome&&r2.isSome))=true then some ⟨λS=>by
 simp only[aPY,aQS]at h;obtain⟨rfl,h1,h2⟩:=h;exact pv_op (aJI _) (got h1 S) (got h2 S)⟩else none
noncomputable def aJW{m:MC}{op}{a}{b:_}{x:_}{o}{y:_}{p3}(r1:CkE m a x)(r2:CkE m b y):CkE m (.cmp op a b) (.Compare x [o] [y] p3):=if h:(o==op&&hX y&&(r1.isSome&&r2.isSome))=true then some ⟨λS=>by
 simp only[aPY,aQS]at h;obtain⟨⟨rfl,hs⟩,h1,h2⟩:=h;exact aEY (qV _ S.un).1 (got h1 S) (got h2 S) (xV _ hs)⟩else none
noncomputable def aJX{m:MC}{es}{xs:_}{p1:_}(r1:dX m es xs):CkE m (.andL es) (.BoolOp .And xs p1):=if h:(r1.isSome)=true then some ⟨λS=>by
 exact gA h S⟩else none
noncomputable def aJY{m:MC}{es}{xs:_}{p1:_}(r1:dX m es xs):CkE m (.orL es) (.BoolOp .Or xs p1):=if h:(r1.isSome)=true then some ⟨λS=>by
 exact gOr h S⟩else none
noncomputable def aJZ{m:MC}{a}{x:_}{p1:_}(r1:CkE m a x):CkE m (.not a) (.UnaryOp .Not x p1):=if h:(r1.isSome)=true then some ⟨λS=>by
 exact aFM (got h S)⟩else none
noncomputable def aJ0{m:MC}{a}{l}{u:_}{x:_}{lo:_}{hi:_}{p3}{p4}(r1:CkE m a x)(r2:CkO m l lo)(r3:CkO m u hi):CkE m (.slice a l u) (.Subscript x (.Slice lo hi none p3) p4):=if h:(r1.isSome&&(r2.isSome&&r3.isSome))=true then some ⟨λS=>by
 simp only[aPY]at h;obtain⟨h0,h1,h2⟩:=h;exact aIC (got h0 S) (got h1 S) (got h2 S)⟩else none
noncomputable def kE_ix{m:MC}{a}{b:_}{x:_}{y:_}{p2:_}(r1:CkE m a x)(r2:CkE m b y):CkE m (.ix a b) (.Subscript x y p2):=if h:(qT y&&(r1.isSome&&r2.isSome))=true then some ⟨λS=>by
 simp only[aPY]at h;obtain⟨h0,h1,h2⟩:=h;exact pv_ix (got h1 S) (got h2 S) (xW h0)⟩else none
noncomputable def aJ1{m:MC}{es}{es0}{p1:_}{p2:_}(r1:dX m es es0):CkE m (.tup es) (.Tuple es0 p1 p2):=if h:(r1.isSome)=true then some ⟨λS=>by
 exact aFT (gEs h S)⟩else none
noncomputable def aJ2{m:MC}{es}{es0}{p1:_}(r1:dX m es es0):CkE m (.lst es) (.List es0 p1):=if h:(r1.isSome)=true then some ⟨λS=>by
 exact aFU (gEs h S)⟩else none
noncomputable def aJ3{m:MC}{g:_}{n:_}{es}{f}{p:_}{x:_}{xs:_}{cp:_}(r1:dX m es (x::xs)):CkE m (.call g n es) (.Call (.Name f p) (x::xs) [] cp):=if h:(m.calm&&f==g&&m.glob f (.fn n)&&r1.isSome)=true then some ⟨λS=>by
 simp only[aPY,aQS]at h;obtain⟨⟨⟨hq,rfl⟩,h1⟩,h2⟩:=h;obtain⟨gl,l,hd,hn⟩:=S.gl h1;have st:=gSt h2;exact aGY (S.fn _ _ l) (S.rm hq) (S.xo hq) gl (gEs h2 S) hd (bG (st x mcs)) (gY _ _ λy hy=>st y (mcm hy))⟩else none
noncomputable def aJ4{m:MC}{b:_}{es}{f}{p:_}{x:_}{xs:_}{cp:_}(r1:dX m es (x::xs)):CkE m (.bcall b es) (.Call (.Name f p) (x::xs) [] cp):=if h:((m.calm||b == .len||b == .isinstance)&&f==b.name&&m.glob f .no&&r1.isSome)=true then some ⟨λS=>by
 rw[aPY,aPY,aPY]at h;obtain⟨⟨⟨hq,hz⟩,h1⟩,h2⟩:=h;cases(aQS.mp hz);obtain⟨gl,l,hd,hn⟩:=S.gl h1;have st:=gSt h2;exact aFV (aJE b S.cm hq) gl (S.no _ l) (aJD b) (gEs h2 S) hn hd (bG (st x mcs)) (gY _ _ λy hy=>st y (mcm hy))⟩else none
noncomputable def kE_mt{m:MC}{t}{a}{es}{o}{f}{ap:_}{x:_}{xs:_}{cp:_}(r1:CkE m a o)(r2:dX m es (x::xs)):CkE m (.mt t a es) (.Call (.Attribute o f ap) (x::xs) [] cp):=if h:(f==t.name&&ap.endLine==cp.line&&decide ((x::xs).length<30)&&w6 o&&(r1.isSome&&r2.isSome))=true then some ⟨λS=>by
 simp only[aPY,aQS,aQH]at h;obtain⟨⟨⟨⟨rfl,hl⟩,h30⟩,hc⟩,h1,h2⟩:=h;have st:=gSt h2;cases t with
 | join => exact pS (.inl rfl) aRS PySem.F.slot_str_join PySem.F.type_str_join aGX (got h1 S) (gEs h2 S) (gZ hc) (by
     rw[i6 _ _ st];show(true&&true&&decide ((x::xs).length+0+0<30))=true
     rw[aQA (by simpa using h30)];rfl) (aQS.mpr hl) (bG (st x mcs)) (gY _ _ λy hy=>st y (mcm hy))
 | startswith => exact pS (.inl rfl) aRS PySem.F.slot_str_startswith PySem.F.type_str_startswith aID (got h1 S) (gEs h2 S) (gZ hc) (by
     rw[i6 _ _ st];show(true&&true&&decide ((x::xs).length+0+0<30))=true
     rw[aQA (by simpa using h30)];rfl) (aQS.mpr hl) (bG (st x mcs)) (gY _ _ λy hy=>st y (mcm hy))
 | removeprefix => exact pS (.inl rfl) aRS PySem.F.slot_str_removeprefix PySem.F.type_str_removeprefix aIF (got h1 S) (gEs h2 S) (gZ hc) (by
     rw[i6 _ _ st];show(true&&true&&decide ((x::xs).length+0+0<30))=true
     rw[aQA (by simpa using h30)];rfl) (aQS.mpr hl) (bG (st x mcs)) (gY _ _ λy hy=>st y (mcm hy))⟩else none
noncomputable def aJ5{m:MC}{t}{es}{f}{p1:_}{x:_}{xs:_}{p4}(r1:dX m es (x::xs)):CkE m (.tcall t es) (.Call (.Name f p1) (x::xs) [] p4):=if h:(f==(t.id:Str)&&m.glob f .no&&r1.isSome)=true then some ⟨λS=>by
 simp only[aPY,aQS]at h;obtain⟨⟨rfl,h1⟩,h2⟩:=h;obtain⟨gl,l,hd,hn⟩:=S.gl h1;exact aHL (aJF t) gl (S.no _ l) (xT t) (gEs h2 S) hn hd (gSt h2)⟩else none
noncomputable def aJ6{m:MC}{p0}:CkE m (.dnew) (.Dict [] [] p0):=if h:(true)=true then some ⟨λS=>by
 exact aIG⟩else none
noncomputable def aJ7{m:MC}{a}{b:_}{x:_}{y:_}{p2:_}(r1:CkE m a x)(r2:CkE m b y):CkE m (.dix a b) (.Subscript x y p2):=if h:(qT y&&(r1.isSome&&r2.isSome))=true then some ⟨λS=>by
 simp only[aPY]at h;obtain⟨h0,h1,h2⟩:=h
 exact aIL (aR0 (Nat.add_le_add_left (by decide:1<=64) _) S.un) (got h1 S) (got h2 S) (xW h0)⟩else none
noncomputable def aJ8{m:MC}{el}{it:_}{ts}{caps:_}{t}{n:_}{elt:_}{tg:_}{bI:_}{ifs:_}{scope:_}{cp:_}(r1:CkI m tg it bI)(r2:CkE (m.sub scope (caps.filterMap λi=>m.N[i]?) (fJ 4 tg)) el elt)(r3:CkF (m.sub scope (caps.filterMap λi=>m.N[i]?) (fJ 4 tg)) ts ifs):CkE m (.comp el it ts caps t n) (.ListComp elt [⟨tg,bI,ifs,0⟩] scope cp):=if h:(m.calm&&xR scope m.sc m.N caps (caps.filterMap λi=>m.N[i]?) (fJ 4 tg)&&hX bI&&decide ((fJ 4 tg).length=n)&&(fF t).all (λj=>decide (caps.length<=j))&&mG (m.sub scope (caps.filterMap λi=>m.N[i]?) (fJ 4 tg)) t tg&&(r1.isSome&&(r2.isSome&&r3.isSome)))=true then some ⟨λ{k}{W}{C}{X} S=>by
 simp only[aPY,aQH,aQU]at h;obtain⟨⟨⟨⟨⟨⟨hq,ho⟩,hn⟩,hl⟩,hs⟩,hg⟩,h1,h2,h3⟩:=h;unfold xR at ho;simp only[aPY,aQU,aQJ,aRN,aQS,aQH,List.contains_iff_mem]at ho;obtain⟨⟨⟨⟨⟨⟨⟨g1,g2⟩,g3⟩,g4⟩,g5⟩,g6⟩,g7⟩,g8⟩:=ho;have er:(relabel scope X.env).names=mY scope m.sc:=by rw[<- S.hs];rfl
 have := aH0 (pos := cp) (tgN := fJ 4 tg) (t := t) (S.cm hq) (got h1 S) g1 g2 (fun y hy e => (g3 y hy).resolve_left fun z => z e) (fun y hy e => by
     have:=g4 y hy;show X.env.scope.names.lookup y.1=_\/X.env.scope.names.lookup y.1=_;rw[S.hs];rcases this with(z|z)|z
     . exact absurd e z
     . exact .inl z
     . exact .inr z) (by rw[S.hN];exact g5) g6 (λy hy=>by rw[er];exact g7 y hy) (λj hj=>hs j hj) (λcl A fp s3 H3=>sG (S.sub cl A fp s3 H3) g8 t hg)
     (λcl A fp s3 H3=>gF h3 (S.sub cl A fp s3 H3)) (λcl A fp s3 H3=>got h2 (S.sub cl A fp s3 H3)) (qW hn)
 rw[hl]at this;exact this⟩else none
noncomputable def qX(N ps:List Str)(sc:Scope):Bool:=sc.kind == .function&&!sc.isCoroutine&&!sc.isGenerator&&decide N.Nodup&&(N.take ps.length==ps)&&ps.all (λx=>sc.names.lookup x==some .local||sc.names.lookup x==some .cell)&&sc.names.all (λy=>y.2 != .free)
def aJ9{N:List Str}(h:qX N ps sc=true):iS N ps sc:=by unfold qX at h;simp only[aPY,aQU,aQJ,aRN,aQS,aQH,aRO]at h;obtain⟨⟨⟨⟨⟨⟨h1,h2⟩,h3⟩,h4⟩,h5⟩,h6⟩,h7⟩:=h;exact⟨h1,h2,h3,h4,h5,h6,h7⟩
noncomputable def aKA{m:MC}{a}{x:_}{k:_}{p2:_}(r1:CkE m a x):CkE m (.fmt a) (.FormattedValue x k none p2):=if h:(k == -1&&r1.isSome)=true then some ⟨λS=>by
 simp only[aPY,aQS]at h;obtain⟨rfl,h⟩:=h;exact aH1 (got h S)⟩else none
noncomputable def aKB{m:MC}{es}{x:_}{y:_}{xs:_}{p3}(r1:dX m es (x::y::xs)):CkE m (.fstr es) (.JoinedStr (x::y::xs) p3):=if h:(r1.isSome)=true then some ⟨λS=>by
 exact aH2 (gL h S)⟩else none
noncomputable def aKC{m:MC}{op}{a}{b:_}{x:_}{o}{y:_}{p3}(r1:CkE m a x)(r2:CkE m b y):CkT m (.cmp op a b) (.Compare x [o] [y] p3):=if h:(o==op&&hX y&&(r1.isSome&&r2.isSome))=true then some ⟨λ{k}{W}{C}{X} S=>by
 simp only[aPY,aQS]at h;obtain⟨⟨rfl,hs⟩,h1,h2⟩:=h;exact aFG (qV _ S.un).1 (qV (C:=C) _ S.un).2 (got h1 S) (got h2 S) (xV _ hs)⟩else none
noncomputable def aKD{m:MC}{es}{xs:_}{p1:_}(r1:CkF m es xs):CkT m (.andL es) (.BoolOp .And xs p1):=if h:(r1.isSome)=true then some ⟨λS=>by
 exact pt_w (gWA h S)⟩else none
noncomputable def aKE{m:MC}{es}{xs:_}{p1:_}(r1:CkF m es xs):CkT m (.orL es) (.BoolOp .Or xs p1):=if h:(r1.isSome)=true then some ⟨λS=>by
 exact pt_w (gWO h S)⟩else none
noncomputable def aKF{m:MC}{a}{x:_}{p1:_}(r1:CkT m a x):CkT m (.not a) (.UnaryOp .Not x p1):=if h:(r1.isSome)=true then some ⟨λS=>by
 exact aFH (got h S)⟩else none
noncomputable def aKG{m:MC}{tg0}{a}{f}{p1:_}{x:_}{p3}(r1:CkE m a x):CkI m tg0 (.rng1 a) (.Call (.Name f p1) [x] [] p3):=if h:(f == "range" && m.glob f .no&&eI x&&r1.isSome)=true then some ⟨λS=>by
 simp only[aPY,aQS]at h;obtain⟨⟨⟨rfl,h1⟩,h2⟩,h3⟩:=h;obtain⟨gl,l,hd,hn⟩:=S.gl h1;exact aGH gl (S.no _ l) (mQ (got h3 S) pO (bG h2)) (bG h2)⟩else none
noncomputable def aKH{m:MC}{tg0}{a}{b:_}{f}{p1:_}{x:_}{y:_}{p4}(r1:CkE m a x)(r2:CkE m b y):CkI m tg0 (.rng2 a b) (.Call (.Name f p1) [x,y] [] p4):=if h:(f == "range" && m.glob f .no&&eI x&&eI y&&(r1.isSome&&r2.isSome))=true then some ⟨λS=>by
 simp only[aPY,aQS]at h;obtain⟨⟨⟨⟨rfl,h1⟩,h2⟩,h2'⟩,h3,h4⟩:=h;obtain⟨gl,l,hd,hn⟩:=S.gl h1
 exact aGI gl (S.no _ l) (mQ (got h3 S) (mQ (got h4 S) pO (bG h2')) (bG h2)) (by rw[bG h2,bG h2'];rfl) (bG h2')⟩else none
noncomputable def kEs{m:MC}{f fs x xs:_}(r1:CkE m f x)(r2:dX m fs xs):dX m (f::fs) (x::xs):=if h:(eI x&&r1.isSome&&r2.isSome)=true then some ⟨by
 simp only[aPY]at h;exact .cons h.1.1 (@got _ r1 h.1.2) (got h.2)⟩else none
noncomputable def kO{m:MC}{f x:_}(r1:CkE m f x):CkO m (some f) (some x):=if h:r1.isSome=true then some ⟨λS=>by simp only[evO];exact got h S⟩else none
noncomputable def kF{m:MC}{f fs x xs:_}(r1:CkT m f x)(r2:CkF m fs xs):CkF m (f::fs) (x::xs):=if h:(r1.isSome&&r2.isSome)=true then some ⟨by
 simp only[aPY]at h;exact .cons (@got _ r1 h.1) (got h.2)⟩else none
set_option maxHeartbeats 4000000 in
mutual
noncomputable def ckE:(m:MC)->(f:E)->(e:Expr)->CkE m f e
 |m,.frz a,e=>aJN (ckE m a e)
 |m,.never,e=>some ⟨λ_=>aJK⟩
 |m,.var i,e=>match e with|.Name x p1=>aJQ|_=>none
 |m,.glob y c,e=>match e with|.Name x p1=>aJR|_=>none
 |m,.ty t,e=>match e with|.Name x p1=>kE_ty|_=>none
 |m,.non,e=>match e with|.Constant .none p0 p1=>aJS|_=>none
 |m,.bl c,e=>match e with|.Constant (.bool b) p1 p2=>kE_bl|_=>none
 |m,.int c,e=>match e with|.Constant (.int b) p1 p2=>aJT|_=>none
 |m,.str c,e=>match e with|.Constant (.str b) p1 p2=>aJU|_=>none
 |m,.bin op a b,e=>match e with|.BinOp x o y p3=>aJV (ckE m a x) (ckE m b y)|_=>none
 |m,.cmp op a b,e=>match e with|.Compare x [o] [y] p3=>aJW (ckE m a x) (ckE m b y)|_=>none
 |m,.andL es,e=>match e with|.BoolOp .And xs p1=>aJX (eX m es xs)|_=>none
 |m,.orL es,e=>match e with|.BoolOp .Or xs p1=>aJY (eX m es xs)|_=>none
 |m,.not a,e=>match e with|.UnaryOp .Not x p1=>aJZ (ckE m a x)|_=>none
 |m,.slice a l u,e=>match e with|.Subscript x (.Slice lo hi none p3) p4=>aJ0 (ckE m a x) (ckO m l lo) (ckO m u hi)|_=>none
 |m,.ix a b,e=>match e with|.Subscript x y p2=>kE_ix (ckE m a x) (ckE m b y)|_=>none
 |m,.tup es,e=>match e with|.Tuple es0 p1 p2=>aJ1 (eX m es es0)|_=>none
 |m,.lst es,e=>match e with|.List es0 p1=>aJ2 (eX m es es0)|_=>none
 |m,.call g n es,e=>match e with|.Call (.Name f p) (x::xs) [] cp=>aJ3 (eX m es (x::xs))|_=>none
 |m,.bcall b es,e=>match e with|.Call (.Name f p) (x::xs) [] cp=>aJ4 (eX m es (x::xs))|_=>none
 |m,.mt t a es,e=>match e with|.Call (.Attribute o f ap) (x::xs) [] cp=>kE_mt (ckE m a o) (eX m es (x::xs))|_=>none
 |m,.tcall t es,e=>match e with|.Call (.Name f p1) (x::xs) [] p4=>aJ5 (eX m es (x::xs))|_=>none
 |m,.dnew,e=>match e with|.Dict [] [] p0=>aJ6|_=>none
 |m,.dix a b,e=>match e with|.Subscript x y p2=>aJ7 (ckE m a x) (ckE m b y)|_=>none
 |m,.comp el it ts caps t n,e=>match e with|.ListComp elt [⟨tg,bI,ifs,0⟩] scope cp=>aJ8 (ckI m tg it bI) (ckE (m.sub scope (caps.filterMap λi=>m.N[i]?) (fJ 4 tg)) el elt) (ckF (m.sub scope (caps.filterMap λi=>m.N[i]?) (fJ 4 tg)) ts ifs)|_=>none
 |m,.fmt a,e=>match e with|.FormattedValue x k none p2=>aKA (ckE m a x)|_=>none
 |m,.fstr es,e=>match e with|.JoinedStr (x::y::xs) p3=>aKB (eX m es (x::y::xs))|_=>none
 |_,.tru _,_=>none
 |_,.items _,_=>none
 |_,.rng1 _,_=>none
 |_,.rng2 _ _,_=>none
noncomputable def ckT:(m:MC)->(f:E)->(e:Expr)->CkT m f e
 |m,.tru a,e=>aJO (ckE m a e)
 |m,.never,e=>some ⟨λ_=>aJL⟩
 |m,.cmp op a b,e=>match e with|.Compare x [o] [y] p3=>aKC (ckE m a x) (ckE m b y)|_=>none
 |m,.andL es,e=>match e with|.BoolOp .And xs p1=>aKD (ckF m es xs)|_=>none
 |m,.orL es,e=>match e with|.BoolOp .Or xs p1=>aKE (ckF m es xs)|_=>none
 |m,.not a,e=>match e with|.UnaryOp .Not x p1=>aKF (ckT m a x)|_=>none
 |_,_,_=>none
noncomputable def ckI:(m:MC)->(tg:Expr)->(f:E)->(e:Expr)->CkI m tg f e
 |m,tg,.items a,e=>aJP (ckE m a e)
 |m,tg,.never,e=>some ⟨λ_=>aJM⟩
 |m,tg0,.rng1 a,e=>match e with|.Call (.Name f p1) [x] [] p3=>aKG (ckE m a x)|_=>none
 |m,tg0,.rng2 a b,e=>match e with|.Call (.Name f p1) [x,y] [] p4=>aKH (ckE m a x) (ckE m b y)|_=>none
 |_,_,_,_=>none
noncomputable def eX:(m:MC)->(fs:List E)->(es:List Expr)->dX m fs es
 |m,[],es=>match es with|[]=>some ⟨.nil⟩|_=>none
 |m,f::fs,l=>match l with|x::xs=>kEs (ckE m f x) (eX m fs xs)|_=>none
noncomputable def ckO:(m:MC)->(f:Option E)->(e:Option Expr)->CkO m f e
 |m,none,e=>match e with|none=>some ⟨λ_=>True.intro⟩|_=>none
 |m,some f,l=>match l with|some x=>kO (ckE m f x)|_=>none
noncomputable def ckF:(m:MC)->(fs:List E)->(es:List Expr)->CkF m fs es
 |m,[],es=>match es with|[]=>some ⟨.nil⟩|_=>none
 |m,f::fs,l=>match l with|x::xs=>kF (ckT m f x) (ckF m fs xs)|_=>none
end
noncomputable def mE(m:MC)(f:E)(e:Expr):Bool:=(ckE m f e).isSome
noncomputable def mT(m:MC)(f:E)(e:Expr):Bool:=(ckT m f e).isSome
noncomputable def mI(m:MC)(tg:Expr)(f:E)(e:Expr):Bool:=(ckI m tg f e).isSome
noncomputable def mF(m:MC)(f:List E)(e:List Expr):Bool:=(ckF m f e).isSome
section
variable {W:WD}
def sE(f:E){m:MC}(S:SX k W m C X)(h:mE m f e=true):PV C X e (evE W f):=got h S
def sT(f:E){m:MC}(S:SX k W m C X)(h:mT m f e=true):PTv C X e (evE W f):=got h S
def sI(f:E){m:MC}(S:SX k W m C X)(h:mI m tg f e=true):PIv C X tg e (evE W f):=got h S
end
inductive G where|app (k v:E)|for (it:E) (t:Tg) (g:G)
inductive S where
 |ret (e:E)|retV (i:Nat)|set (i:Nat) (e:E)|ite (c:E) (a b:List S)|for (it:E) (t:Tg) (body:List S)
 |expr (e:E)|never|asg (t:Tg) (e:E)|whl (n:Nat) (c:E) (body:List S)
 |dput (i:Nat) (k e:E)|frzV (i:Nat)|wds|tree (n:E) (a b c:S)
noncomputable def hZ(n:Rho->Res)(a b:Rho->aE):Rho->Stk->bJ:=seqT (ifT (hR "(") nG (ifT (hR ")") (seqT nH (seqT (ifT qQ (rzT a) nxT) (hO 3))) (hO 2))) (ifT (hU n) (rzT b) nxT)
mutual
noncomputable def evS(W:WD):S->Rho->aE
 |.ret e,ρ=>gU (evE W e ρ) ρ
 |.retV i,ρ=>eU ρ i
 |.set i e,ρ=>fR ρ i (evE W e ρ)
 |.ite c a b,ρ=>ifS (evE W c ρ) ρ (evB W a ρ) (evB W b ρ)
 |.for it t body,ρ=>pQ (evE W it ρ) ρ (a9 t) (evB W body)
 |.asg t e,ρ=>m6 t ρ (evE W e ρ)
 |.whl n c body,ρ=>c8 (evE W c) (evB W body) n ρ
 |.expr e,ρ=>(evE W e ρ).thS ρ λ_ _=>.nx ρ
 |.frzV i,ρ=>kW ρ i
 |.wds,ρ=>f7 ρ
 |.tree n a b c,ρ=>eW (evE W (.items (.var 0))) (hZ (evE W n) (evS W a) (evS W b)) (evS W c) ρ
 |.dput i k e,ρ=>fH ρ i (evE W k ρ) (evE W e ρ)
 |.never,_=>.stuck
noncomputable def evB(W:WD):List S->Rho->aE
 |[],ρ=>.nx ρ
 |s::r,ρ=>(evS W s ρ).thn (evB W r)
end
noncomputable def jF:Expr->Bool|.ListComp ..=>false|.SetComp ..=>false|.DictComp ..=>false|_=>true
noncomputable def xX:Expr->Bool|.Tuple ..=>false|_=>true
def jG{t:Option Expr}(h:jF e=true):swapsWith e t n env=pure false:=by cases e <;> first|rfl|cases h
def aKI{m:MC}(hs:env.scope=m.sc)(h:(jF e||m.kind x==some .cell)=true):swapsWith e (some (.Name x p)) n env=pure false:=by
 rw[aQJ,aQS]at h;rcases h with h|h
 . exact jG h
 . have hk:env.kindOf x=some .cell:=by show env.scope.names.lookup x=_;rw[hs];exact h
   unfold swapsWith;have kc:(NameKind.cell==NameKind.local)=false:=by decide
   cases e <;> first|rfl|(simp[hk,kc])
def aKJ{t:Expr}(h:xX e=true):swappedStores [t] e env=pure none:=by
 unfold swappedStores;split
 . rename_i q;split at q
   . cases h
   . cases h
   . cases q
 . rfl
def aKK:PSv C X st (λ_=>.stuck):=λaA s σ H En I q=>by obtain⟨ρ,F,R,w⟩:=q;exact w.elim
section
variable {W:WD}{m:MC}
structure SB(k:Nat)(W:WD)(m:MC)(C:Cw)(X:Cx):Prop extends SX k W m C X where
 nd:m.N.Nodup
 hp:PassesOwn (model X.prog X.w) X.A X.env X.xe
 ro:m.rz=true->RzOk (C.at X) X/\FnCx X/\XOk (HX1 X.prog X.w) (C.at X) X
end
abbrev CkS(m:MC)(f:D3.S)(st:Stmt):Type:=Option (PLift (∀{k:Nat}{W:WD}{C:Cw}{X:Cx},SB k W m C X->PSv C X st (evS W f)))
abbrev CkB(m:MC)(f:List D3.S)(sts:List Stmt):Type:=Option (PLift (∀{k:Nat}{W:WD}{C:Cw}{X:Cx},SB k W m C X->PBv C X sts (evB W f)))
noncomputable def aKL{m:MC}{f}{e:_}{p1:_}:CkS m (.ret f) (.Return (some e) p1):=if h:(mE m f e)=true then some ⟨λS=>by
 exact aF8 (sE f S.toSX h)⟩else none
noncomputable def aKM{m:MC}{i:_}{x:_}{p1:_}{p2:_}:CkS m (.retV i) (.Return (some (.Name x p1)) p2):=if h:(m.N[i]?==some x&&m.vis x)=true then some ⟨λS=>by
 simp only[aPY,aQS]at h;obtain⟨h1,h2,h3⟩:=S.toSX.vis h.2
 exact aF9 i (lZ (by rw[S.hN];exact h.1) h1 h2 h3)⟩else none
noncomputable def aKN{m:MC}{i:_}{f}{x:_}{p1:_}{e:_}{p3}:CkS m (.set i f) (.Assign [.Name x p1] e p3):=if h:(m.loc i x&&(jF e||m.kind x==some .cell)&&mE m f e)=true then some ⟨λS=>by
 simp only[aPY]at h;obtain⟨⟨h1,h2⟩,h3⟩:=h;obtain⟨b,c,d⟩:=S.toSX.loc h1
 exact aGC (by rw[S.hN];exact S.nd) b c (sE f S.toSX h3) (aKI S.hs h2) d⟩else none
noncomputable def aKO{m:MC}{i:_}{f}{g:_}{x:_}{p1:_}{k:_}{p3}{e:_}{p5}:CkS m (.dput i f g) (.Assign [.Subscript (.Name x p1) k p3] e p5):=if h:(m.N[i]?==some x&&m.vis x&&jF e&&mE m f k&&mE m g e)=true then some ⟨λS=>by
 simp only[aPY,aQS]at h;obtain⟨⟨⟨⟨h1,h2⟩,h3⟩,h4⟩,h5⟩:=h;obtain⟨v1,v2,v3⟩:=S.toSX.vis h2
 exact aIK i (aR0 (Nat.add_le_add_left (by decide:1<=64) _) S.un) (lZ (by rw[S.hN];exact h1) v1 v2 v3) (sE f S.toSX h4) (sE g S.toSX h5) (jG h3)⟩else none
noncomputable def aKP{m:MC}{f}{a}{b:_}{c:_}{x:_}{y:_}{p3}(r1:CkB m a x)(r2:CkB m b y):CkS m (.ite f a b) (.If c x y p3):=if h:(mT m f c&&(r1.isSome&&r2.isSome))=true then some ⟨λS=>by
 simp only[aPY]at h;obtain⟨h1,h2,h3⟩:=h;exact aGA (sT f S.toSX h1) (got h2 S) (got h3 S)⟩else none
noncomputable def aKQ{m:MC}{f}{t}{b:_}{tg:_}{e:_}{body:_}{p3}(r1:CkB m b body):CkS m (.for f t b) (.For tg e body [] p3):=if h:(m.calm&&mG m t tg&&hX e&&(mI m tg f e&&r1.isSome))=true then some ⟨λS=>by
 simp only[aPY]at h;obtain⟨⟨⟨hq,h1⟩,h2⟩,h3,h4⟩:=h;exact aGJ S.hp (S.cm hq) (sI f S.toSX h3) (aHW (sG S.toSX S.nd t h1)) (got h4 S) (qW h2)⟩else none
noncomputable def aKR{m:MC}{t}{f}{tg:_}{e:_}{p2:_}:CkS m (.asg t f) (.Assign [tg] e p2):=if h:(mG m t tg&&fW tg&&jF e&&xX e&&mE m f e)=true then some ⟨λS=>by
 simp only[aPY]at h;obtain⟨⟨⟨⟨h1,h2⟩,h3⟩,h4⟩,h5⟩:=h;exact aHX (sE f S.toSX h5) (sG S.toSX S.nd t h1) (jG h3) (aKJ h4) h2⟩else none
noncomputable def aKS{m:MC}{n:_}{f}{b:_}{c:_}{body:_}{p2:_}(r1:CkB m b body):CkS m (.whl n f b) (.While c body [] p2):=if h:(mT m f c&&r1.isSome)=true then some ⟨λ{k}{W}{C}{X} S=>by
 simp only[aPY]at h;have:evS W (.whl n f b)=c8 (evE W f) (evB W b) n:=by funext ρ;rfl
 rw[this];exact aHY n S.hp (sT f S.toSX h.1) (got h.2 S)⟩else none
noncomputable def aKT{m:MC}{f}{e:_}{p1:_}:CkS m (.expr f) (.Expr e p1):=if h:(jF e&&mE m f e)=true then some ⟨λS=>by
 simp only[aPY]at h;exact aF7 (sE f S.toSX h.2) (jG h.1)⟩else none
def aKU{W:WD}{m:MC}(S:SB k W m C X):PBv C X [] (evB W []):=by
 have:evB W []=λρ=>.nx ρ:=by funext ρ;simp only[evB]
 rw[this];exact aF4
noncomputable def aKV{m:MC}{i fs sts:_}(r:CkB m fs sts):CkB m (.frzV i::fs) sts:=if h:r.isSome=true then some ⟨λ{k}{W}{C}{X} S=>by
 have:evB W (.frzV i::fs)=λρ=>(kW ρ i).thn (evB W fs):=by funext ρ;rfl
 rw[this];exact aIM (got h S)⟩else none
def MC.at(m:MC)(i:Nat)(x:Str):Bool:=m.N[i]?==some x&&m.vis x
def SX.pn{W:WD}{m:MC}(S:SX k W m C X)(h:m.at i x=true):L2.PE X (.Name x p) (cG i):=by unfold MC.at at h;rw[aPY,aQS]at h;obtain⟨v1,v2,v3⟩:=S.vis h.2;exact lZ (by rw[S.hN];exact h.1) v1 v2 v3
abbrev qY(m:MC)(st:Stmt)(g:Rho->Stk->bJ):Type:=Option (PLift (∀{k:Nat}{W:WD}{C:Cw}{X:Cx},SB k W m C X->PTs C X st g))
abbrev qZ(m:MC)(c:Expr)(b:Rho->Stk->Option Bool):Type:=Option (PLift (∀{k:Nat}{W:WD}{C:Cw}{X:Cx},SB k W m C X->PTc C X c b))
noncomputable def aKW(m:MC)(st:Stmt):qY m st nG:=match st with
 |.Expr (.Call (.Attribute (.Name x p) n ap) [.List [] lp] [] cp) pos=>if h:(m.at 1 x&&n == "append" && ap.endLine==cp.line)=true then some ⟨λ{k}{W}{C}{X} S=>by
  simp only[aPY,aQS]at h;obtain⟨⟨h1,rfl⟩,h2⟩:=h;exact aI4 (S.toSX.pn h1) h2⟩else none
 |_=>none
noncomputable def xY(m:MC)(i:Nat)(st:Stmt):qY m st (hO i):=match st with
 |.Expr (.Call (.Attribute (.Subscript (.Name x p) (.UnaryOp .USub (.Constant (.int z) j q2) q3) r) n ap) [.Name y q] [] cp) pos=>if h:(m.at 1 x&&m.at i y&&z==1&&n == "append" && ap.endLine==cp.line)=true then some ⟨λ{k}{W}{C}{X} S=>by
  simp only[aPY,aQS]at h;obtain⟨⟨⟨⟨h1,h3⟩,rfl⟩,rfl⟩,h2⟩:=h;exact aI3 (S.toSX.pn h1) (S.toSX.pn h3) h2⟩else none
 |_=>none
noncomputable def aKX(m:MC)(st:Stmt):qY m st nH:=match st with
 |.Assign [.Name y p1] (.Call (.Attribute (.Name x p) n ap) [] [] cp) sp=>if h:(m.loc 3 y&&m.at 1 x&&n == "pop" && ap.endLine==cp.line)=true then some ⟨λ{k}{W}{C}{X} S=>by
  simp only[aPY,aQS]at h;obtain⟨⟨⟨h1,h3⟩,rfl⟩,h2⟩:=h;obtain⟨w1,w2,w3⟩:=S.toSX.loc h1
  exact aI5 (by rw[S.hN];exact S.nd) w1 w2 w3 (S.toSX.pn h3) h2 (jG rfl)⟩else none
 |_=>none
noncomputable def xZ(m:MC)(w:Str)(c:Expr):qZ m c (hR w):=match c with
 |.Compare (.Name y p) [.Eq] [.Constant (.str s) j p1] pos=>if h:(m.at 2 y&&s==w)=true then some ⟨λ{k}{W}{C}{X} S=>by
  simp only[aPY,aQS]at h;obtain⟨h1,rfl⟩:=h;exact aI6 (S.toSX.pn h1)⟩else none
 |_=>none
noncomputable def ckTem(m:MC)(c:Expr):qZ m c qQ:=match c with
 |.Compare (.Call (.Name l p0) [.Name x p] [] p1) [.Eq] [.Constant (.int z) j p2] pos=>if h:(l == "len" && m.glob l .no&&m.at 1 x&&z==0)=true then some ⟨λ{k}{W}{C}{X} S=>by
  simp only[aPY,aQS]at h;obtain⟨⟨⟨rfl,h1⟩,h2⟩,rfl⟩:=h;obtain⟨gl,lk,_,_⟩:=S.toSX.gl h1;exact aI7 gl (S.no _ lk) (S.toSX.pn h2)⟩else none
 |_=>none
noncomputable def aKY(m:MC)(c:Expr):qZ m c jE:=match c with
 |.BoolOp .Or [.Compare (.Call (.Name l p0) [.Name x p] [] p1) [.NotEq] [.Constant (.int z) j p2] p3,.Compare (.Call (.Name l2 p5) [.Subscript (.Name x2 p4) (.Constant (.int z2) j1 q0) q1] [] p6) [.NotEq] [.Constant (.int z3) j2 p7] p8] pos =>
  if h:(l == "len" && m.glob l .no&&m.at 1 x&&z==1&&l2==l&&x2==x&&z2==0&&z3==1)=true then some ⟨λ{k}{W}{C}{X} S=>by
  simp only[aPY,aQS]at h;obtain⟨⟨⟨⟨⟨⟨⟨rfl,h1⟩,h2⟩,rfl⟩,rfl⟩,rfl⟩,rfl⟩,rfl⟩:=h;obtain⟨gl,lk,_,_⟩:=S.toSX.gl h1;exact aI9 gl (S.no _ lk) (S.toSX.pn h2) (S.toSX.pn h2)⟩else none
 |_=>none
noncomputable def tr0(m:MC)(s1 s4:Stmt):Bool:=match s1,s4 with
 |.Assign [.Name x q] (.List [.List [] p5] p6) sp,.Return (some (.Subscript (.Subscript (.Name x2 p) (.Constant (.int z) j p1) p2) (.Constant (.int z2) j1 p3) p4)) pos=>m.loc 1 x&&m.at 1 x&&x2==x&&z==0&&z2==0
 |_,_=>false
def aKZ{m:MC}{s1 s4:Stmt}(h:tr0 m s1 s4=true):∃x q p5 p6 sp p j p1 p2 j1 p3 p4 pos,s1=.Assign [.Name x q] (.List [.List [] p5] p6) sp/\s4=.Return (some (.Subscript (.Subscript (.Name x p) (.Constant (.int 0) j p1) p2) (.Constant (.int 0) j1 p3) p4)) pos/\m.loc 1 x=true/\m.at 1 x=true:=by
 unfold tr0 at h;split at h
 . simp only[aPY,aQS]at h;obtain⟨⟨⟨⟨h1,h2⟩,rfl⟩,rfl⟩,rfl⟩:=h;exact⟨_,_,_,_,_,_,_,_,_,_,_,_,_,rfl,rfl,h1,h2⟩
 . cases h
noncomputable def rA(m:MC)(n:E)(c:Expr):Bool:=match c with
 |.Compare (.Call (.Name l p0) [.Name x p] [] p1) [.Gt] [e] pos=>l == "len" && m.glob l .no&&m.at 1 x&&mE m n e
 |_=>false
def aK0{W:WD}{m:MC}(S:SB k W m C X){n:E}{c:Expr}(h:rA m n c=true):PTc C X c (hU (evE W n)):=by
 unfold rA at h;split at h
 . simp only[aPY,aQS]at h;obtain⟨⟨⟨rfl,h1⟩,h2⟩,h3⟩:=h;obtain⟨gl,lk,_,_⟩:=S.toSX.gl h1;exact aI8 gl (S.no _ lk) (S.toSX.pn h2) (sE n S.toSX h3)
 . cases h
noncomputable def aK1 {m : MC} {n : E} {a b c : D3.S} {s1 s4 s5 s6 ra rb rc : Stmt} {tg e c1 c2 c3 c4 c5 : Expr} {p1 q2 : List Stmt} {o1 o2 o3 o4 o5 o6 : Pos} (r1 : CkS m a ra) (r2 : CkS m b rb) (r3 : CkS m c rc) :
    CkB m [.tree n a b c] [s1,.For tg e [.If c1 p1 [.If c4 [s5,.If c5 [ra] [] o5,s6] q2 o6] o1,.If c2 [rb] [] o2] [] o3,.If c3 [rc] [] o4,s4] :=
 if h:(m.calm&&tr0 m s1 s4&&(mG m (.nm 2) tg&&hX e&&mI m tg (.items (.var 0)) e)&&(match p1 with|[s]=>(aKW m s).isSome|_=>false)&&(match q2 with|[s]=>(xY m 2 s).isSome|_=>false)&&((xZ m "(" c1).isSome&&(xZ m ")" c4).isSome&&(ckTem m c5).isSome&&(aKY m c3).isSome&&rA m n c2)&&((aKX m s5).isSome&&(xY m 3 s6).isSome)&&(r1.isSome&&(r2.isSome&&r3.isSome)))=true then some ⟨λ{k}{W}{C}{X} S=>by
  simp only[aPY]at h;obtain⟨⟨⟨⟨⟨⟨⟨hq,h0⟩,⟨gg,nf⟩,gi⟩,hp⟩,ha2⟩,⟨⟨⟨e1,e2⟩,em⟩,en⟩,mn⟩,hpop,ha3⟩,t1,t2,t3⟩:=h;split at hp;rotate_left
  . cases hp
  split at ha2;rotate_left
  . cases ha2
  obtain⟨x,q,p5,p6,sp,p,j,pp1,p2,j1,p3,p4,pos,rfl,rfl,l1,a1⟩:=aKZ h0;obtain⟨u1,u2,u3⟩:=S.toSX.loc l1;have hN:X.N.Nodup:=by rw[S.hN];exact S.nd
  have:evB W [.tree n a b c]=eW (evE W (.items (.var 0))) (hZ (evE W n) (evS W a) (evS W b)) (evS W c):=by
   funext ρ;show(eW _ _ _ ρ).thn (evB W [])=_;unfold eW;split
   . split <;> rfl
   . rfl
  rw[this];refine aJC hN u1 u2 u3 (S.toSX.pn a1) (aJB S.hp (S.cm hq) (sI _ S.toSX gi) (sG S.toSX S.nd _ gg) ?_ (qW nf)) (kY (got en S) (f8 (qP (got t3 S))) qN) (jG rfl);exact qO (kY (got e1 S) (f8 (got hp S)) (f8 (kY (got e2 S) (qO (got hpop S) (qO (kY (got em S) (f8 (qP (got t1 S))) qN) (f8 (got ha3 S)))) (f8 (got ha2 S))))) (f8 (kY (aK0 S mn) (f8 (qP (got t2 S))) qN))⟩else none
noncomputable def aK2{m:MC}{f fs st sts:_}(r:CkS m f st)(r2:CkB m fs sts):CkB m (f::fs) (st::sts):=if h:(r.isSome&&r2.isSome)=true then some ⟨λ{k}{W}{C}{X} S=>by
 rw[aPY]at h;have:evB W (f::fs)=λρ=>(evS W f ρ).thn (evB W fs):=by funext ρ;simp only[evB]
 rw[this];exact aF6 (got h.1 S) (got h.2 S)⟩else none
set_option maxHeartbeats 4000000 in
mutual
noncomputable def ckS:(m:MC)->(f:D3.S)->(st:Stmt)->CkS m f st
 |m,.never,st=>some ⟨λ_=>aKK⟩
 |_,.frzV _,_=>none
 |_,.wds,_=>none
 |_,.tree _ _ _ _,_=>none
 |m,.ret f,st=>match st with|.Return (some e) p1=>aKL|_=>none
 |m,.retV i,st=>match st with|.Return (some (.Name x p1)) p2=>aKM|_=>none
 |m,.set i f,st=>match st with|.Assign [.Name x p1] e p3=>aKN|_=>none
 |m,.dput i f g,st=>match st with|.Assign [.Subscript (.Name x p1) k p3] e p5=>aKO|_=>none
 |m,.ite f a b,st=>match st with|.If c x y p3=>aKP (ckB m a x) (ckB m b y)|_=>none
 |m,.for f t b,st=>match st with|.For tg e body [] p3=>aKQ (ckB m b body)|_=>none
 |m,.asg t f,st=>match st with|.Assign [tg] e p2=>aKR|_=>none
 |m,.whl n f b,st=>match st with|.While c body [] p2=>aKS (ckB m b body)|_=>none
 |m,.expr f,st=>match st with|.Expr e p1=>aKT|_=>none
noncomputable def ckB:(m:MC)->(f:List D3.S)->(sts:List Stmt)->CkB m f sts
 |m,[],sts=>match sts with|[]=>some ⟨λS=>aKU S⟩|_=>none
 |m,.frzV i::fs,sts=>aKV (ckB m fs sts)
 |m,[.tree n a b c],sts=>match sts with|[s1,.For tg e [.If c1 p1 q1 o1,.If c2 [rb] [] o2] [] o3,.If c3 [rc] [] o4,s4]=>(match q1 with|[.If c4 [s5,.If c5 [ra] [] o5,s6] q2 o6]=>aK1 (ckS m a ra) (ckS m b rb) (ckS m c rc)|_=>none)|_=>none
 |m,f::fs,sts=>match sts with|st::sts=>aK2 (ckS m f st) (ckB m fs sts)|_=>none
end
noncomputable def mB(m:MC)(f:List D3.S)(sts:List Stmt):Bool:=(ckB m f sts).isSome
def sB{W:WD}{m:MC}(S:SB k W m C X)(f:List D3.S)(h:mB m f sts=true):PBv C X sts (evB W f):=got h S
abbrev IB:=Unit
structure CD where
 caps:List Str
 rn:Str
 ls:List Str
 b:List D3.S
structure FD where
 ps:List Str
 N:List Str
 b:List D3.S
 ins:List (Str×CD)
structure ID where
 c:Str
 ps:List Str
 N:List Str
 ib:IB
structure TB where
 T:List (Str×FD)
 I:List (Str×ID)
 cl:List CI
 xt:List ((Str×Str)×Bool)
 xi:List ((Str×Str)×Bool)
noncomputable def rB(W:WD)(i:ID):List D->Res:=λ_=>.stuck
noncomputable def kZ(t:TB)(W:WD)(f:Str):List D->Res:=match t.T.lookup f with
 |some d=>phi d.ps.length d.N.length (evB W d.b)
 |none=>λ_=>.stuck
noncomputable def MsF(t:TB)(W:WD)(x:Str):D->KD->Option KD:=match t.T.lookup x with
 |some d=>λ_ _=>none
 |none=>λ_ _=>none
noncomputable def ClT(t:TB)(W:WD)(f n:Str):List (Str×D)->D->Res:=match t.T.lookup f with
 |some d=>(match d.ins.lookup n with|some c=>nD c.caps (c.caps++c.rn::c.ls).length (evB W c.b)|none=>λ_ _=>.stuck)
 |none=>λ_ _=>.stuck
noncomputable def wyF(t:TB)(f:Str):Option dW:=none
noncomputable def wd0(t:TB):WD:=⟨λ_ _=>.stuck,λ_ _=>.stuck,λ_=>none,t.cl,t.xt,t.xi,false,λ_ _ _=>none,λ_ _ _ _=>.stuck,wyF t⟩
noncomputable def WT(t:TB):Nat->WD
 |0=>wd0 t
 |1=>⟨λf=>kZ t (wd0 t) f,λ_ _=>.stuck,λ_=>none,t.cl,t.xt,t.xi,true,MsF t (wd0 t),ClT t (wd0 t),wyF t⟩
 |k+2=>⟨λf=>kZ t (WT t (k+1)) f,(WT t (k+1)).Φ,λkey=>match t.I.lookup key with|some i=>some (rB (WT t k) i)|none=>none,t.cl,t.xt,t.xi,true,MsF t (WT t (k+1)),ClT t (WT t (k+1)),wyF t⟩
def nI(t:TB):∀k,(WT t k).cl=t.cl
 |0=>rfl
 |1=>rfl
 |k+2=>rfl
def x0(t:TB):∀k,(WT t k).xt=t.xt
 |0=>rfl
 |1=>rfl
 |k+2=>rfl
def x6(t:TB):∀k,(WT t k).xi=t.xi
 |0=>rfl
 |1=>rfl
 |k+2=>rfl
def WT_Wy(t:TB):∀k,(WT t k).Wy=wyF t
 |0=>rfl
 |1=>rfl
 |k+2=>rfl
def WT_Cl(t:TB):∀k,(WT t (k+1)).Cl=ClT t (WT t k)
 |0=>rfl
 |k+1=>rfl
def WT_Φ(t:TB):∀k f,(WT t (k+1)).Φ f=kZ t (WT t k) f
 |0,f=>rfl
 |k+1,f=>rfl
noncomputable def x8(g:MG)(st:Stmt)(n:Str)(c:CD):Bool:=match qM c.caps c.rn n st with
 |some (sc,b)=>decide (c.caps++c.rn::c.ls).Nodup&&mB ⟨c.caps++c.rn::c.ls,sc,g,false,true,false,""⟩ c.b b
 |none=>false
noncomputable def bdOk(m:MC)(ps:List Str)(b:List D3.S)(st:Stmt):Bool:=match b with
 |.wds::r=>(match d5 st with
  |s1::rest=>(match nE s1 with
   |some (tn,pn)=>ps==[tn]&&m.N[0]?==some tn&&m.N[1]?==some pn&&(bS st).names.lookup pn==some .local&&(bS st).names.all (λy=>!(y.2 == .cell))&&mB m r rest
   |none=>false)
  |[]=>false)
 |b=>mB m b (d5 st)
noncomputable def f9(g:MG)(key:Str)(st:Stmt)(d:FD):Bool:=qX d.N d.ps (bS st)&&(bdOk ⟨d.N,bS st,g,true,true,true,key⟩ d.ps d.b st&&d.ins.all λz=>x8 g st z.1 z.2)
noncomputable def idOk(g:MG)(st:Stmt)(d:ID):Bool:=false
noncomputable def x9(K:Fg)(g:MG)(fa:Str->Addr)(key:Str)(d:FD):Prop :=
 ∃name st fd,Fun K name key st (fa key) fd/\cV K fd d.ps []/\f9 g key st d=true
noncomputable def k4(K:Fg)(g:MG)(fa:Str->Addr):List (Str×FD)->Prop
 |[]=>True
 |(x,d)::r=>x9 K g fa x d/\k4 K g fa r
theorem k4.at{g:MG}:∀{T:List (Str×FD)}{x:Str}{d:FD},k4 K g fa T->T.lookup x=some d->x9 K g fa x d
 |[],_,_,_,e=>by cases e
 |(y,d')::r,x,d,h,e=>by
  rw[aQ8]at e;split at e
  . rename_i hb;cases e;rw[aQS]at hb;subst hb;exact h.1
  . exact h.2.at e
noncomputable def yA(K:Fg)(mg:SOV)(g:MG)(key:Str)(d:ID):Prop :=
 ∃name st C f fd,W.nsIn K mainGlobals d.c=some (some (.ref C))/\mg d.c=some (.ref C)/\Mk K C f/\Fun K name key st f fd/\cV K fd d.ps []/\idOk g st d=true
noncomputable def k5(K:Fg)(mg:SOV)(g:MG):List (Str×ID)->Prop
 |[]=>True
 |(x,d)::r=>yA K mg g x d/\k5 K mg g r
theorem k5.at{g:MG}:∀{T:List (Str×ID)}{x:Str}{d:ID},k5 K mg g T->T.lookup x=some d->yA K mg g x d
 |[],_,_,_,e=>by cases e
 |(y,d')::r,x,d,h,e=>by
  rw[aQ8]at e;split at e
  . rename_i hb;cases e;rw[aQS]at hb;subst hb;exact h.1
  . exact h.2.at e
noncomputable def GVOk(w:aST)(K:Fg)(mg:SOV)(fa:Str->Addr)(x:Str):GV->Prop
 |.con (.s y)=>∃t,mg x=some (.str y t)
 |.con (.i n)=>∃t,mg x=some (.int n t)
 |.con (.t tb)=>jB w K mg x tb
 |.no=>mg x=none
 |.fn _=>mg x=some (.ref (fa x))
 |.cls=>True
noncomputable def k6(w:aST)(K:Fg)(mg:SOV)(fa:Str->Addr):List (Str×GV)->Prop
 |[]=>True
 |(x,v)::r=>GVOk w K mg fa x v/\k6 w K mg fa r
theorem k6.at{w:aST}:∀{G:List (Str×GV)}{x:Str}{v:GV},k6 w K mg fa G->G.lookup x=some v->GVOk w K mg fa x v
 |[],_,_,_,e=>by cases e
 |(y,v')::r,x,v,h,e=>by
  rw[aQ8]at e;split at e
  . rename_i hb;cases e;rw[aQS]at hb;subst hb;exact h.1
  . exact h.2.at e
noncomputable def gOk(G:List (Str×GV))(T:List (Str×FD)):Bool:=G.all λ(x,v)=>match v with|.fn n=>(match T.lookup x with|some d=>d.ps.length==n|none=>false)|_=>true
theorem rC{T:List (Str×FD)}:∀{G:List (Str×GV)}{x:Str}{n:Nat},gOk G T=true->G.lookup x=some (.fn n)->∃d,T.lookup x=some d/\d.ps.length=n
 |[],_,_,_,e=>by cases e
 |(y,v')::r,x,n,h,e=>by
  unfold gOk at h;rw[aP2,aPY]at h;rw[aQ8]at e;split at e
  . rename_i hb;cases e;rw[aQS]at hb;subst hb;have h1:=h.1;dsimp only at h1;cases q:T.lookup x with
    |none=>rw[q]at h1;cases h1
    |some d=>rw[q]at h1;exact⟨d,rfl,by simpa using h1⟩
  . exact rC (G:=r) h.2 e
noncomputable def mtOk(cl:List CI)(T:List (Str×FD)):Bool:=cl.all λi=>i.meths.all λ(_,key,n)=>match T.lookup key with|some d=>d.ps.length==n|none=>false
noncomputable def yB(mki:List (Str×Str×Nat))(I:List (Str×ID)):Bool:=mki.all λ(c,key,n)=>match I.lookup key with|some d=>d.c==c&&d.ps.length==n+1|none=>false
noncomputable def jH(K:Fg)(fa:Str->Addr)(C:Addr):List (Str×Str×Nat)->Prop
 |[]=>True
 |(m,key,_)::r=>pD K C m (fa key)/\jH K fa C r
noncomputable def jI(K:Fg)(C:Addr):List Str->Prop
 |[]=>True
 |f::r=>pC K C f/\jI K C r
noncomputable def k7(K:Fg)(fa:Str->Addr):List CI->Prop
 |[]=>True
 |i::r=>(∃C,W.nsIn K mainGlobals i.name=some (some (.ref C))/\Cls K C/\jH K fa C i.meths/\jI K C i.flds)/\k7 K fa r
theorem k7.at:∀{cl:List CI}{i:CI},k7 K fa cl->i∈cl->∃C,W.nsIn K mainGlobals i.name=some (some (.ref C))/\Cls K C/\jH K fa C i.meths/\jI K C i.flds
 |[],_,_,h=>by cases h
 |j::r,i,h,hi=>by
  rcases aOG.mp hi with rfl|hi
  . exact h.1
  . exact h.2.at hi
theorem jI.at{C:Addr}:∀{l:List Str}{f:Str},jI K C l->f∈l->pC K C f
 |[],_,_,h=>by cases h
 |j::r,i,h,hi=>by
  rcases aOG.mp hi with rfl|hi
  . exact h.1
  . exact h.2.at hi
theorem jH.at{C:Addr}:∀{l:List (Str×Str×Nat)}{m key:Str}{n:Nat},jH K fa C l->l.lookup m=some (key,n)->pD K C m (fa key)
 |[],_,_,_,_,e=>by cases e
 |(m',key',n')::r,m,key,n,h,e=>by
  rw[aQ8]at e;split at e
  . rename_i hb;cases e;rw[aQS]at hb;subst hb;exact h.1
  . exact h.2.at e
noncomputable def rD(g:MG)(T:List (Str×FD)):Bool:=g.sn.isEmpty
def yC{g:MG}{T:List (Str×FD)}(h:rD g T=true)(hx:x∈g.sn):∃d:FD,T.lookup x=some d/\True/\True/\True/\g.G.lookup x=some (.fn 2):=by rw[aRK.mp h]at hx;cases hx
noncomputable def rE(g:MG)(T:List (Str×FD)):Bool:=T.all λx=>x.2.ins.isEmpty||(match g.G.lookup x.1 with|some (.fn _)=>true|_=>false)
def aK3{g:MG}{T:List (Str×FD)}(h:rE g T=true){f:Str}{d:FD}(e:T.lookup f=some d)(hd:d.ins.isEmpty=false):∃n,g.G.lookup f=some (.fn n):=by
 have h:=aQU.mp h _ (aPB e);dsimp only at h;rw[hd,Bool.false_or]at h;split at h
 . rename_i n q;exact⟨n,q⟩
 . cases h
noncomputable def rF(g:MG)(T:List (Str×FD)):Bool:=g.cl.isEmpty
def aK4{g:MG}{T:List (Str×FD)}(h:rF g T=true){f a b:Str}(hx:(f,a,b,q)∈g.cl):∃d:FD,T.lookup f=some d/\True/\True/\True/\True/\g.G.lookup f=some (.fn 2):=by rw[aRK.mp h]at hx;cases hx
structure GF(w:aST)(K:Fg)(mg:SOV)(g:MG)(t:TB)(fa:Str->Addr):Prop where
 con:k6 w K mg fa g.G
 gok:gOk g.G t.T=true
 all:k4 K g fa t.T
 alli:k5 K mg g t.I
 mk0:∀c,c∈g.mk0->MkV0 K mg c
 mkok:yB g.mki t.I=true
 iso:∀c,c∈g.iso->IsV K mg t.cl c
 cls:k7 K fa t.cl
 mtok:mtOk t.cl t.T=true
 xtok:qF K mg (λc x=>t.xt.lookup (c,x))
 xiok:qG K mg (λc x=>t.xi.lookup (c,x))
 xcok:∀c,c∈g.xcs->∃Cc,mg c=some (.ref Cc)/\xH K Cc
 xnok:∀n,n∈g.xns->∃cv,m8 mg n cv
 snok:rD g t.T=true
 clok:rF g t.T=true
 insok:rE g t.T=true
 insns:∀f d,t.T.lookup f=some d->d.ins.isEmpty=false->W.nsIn K mainGlobals f=some (some (.ref (fa f)))
 clns:∀f a b h,(f,a,b,h)∈g.cl->W.nsIn K mainGlobals f=some (some (.ref (fa f)))
def yD{vs:List V}{Q:VK}{E:XK}(hz:∀ds,Φ ds=.stuck)(h:spV K mg n Φ vs H Q E):False:=by obtain⟨_,F,ds,_,_,h⟩:=h;rw[hz]at h;exact h
section
variable {w:aST}{g:MG}{t:TB}
structure eL(P:aSU)(w:aST)(K:Fg)(mg:SOV)(base:Heap)(g:MG)(t:TB)(fa:Str->Addr)(k:Nat):Prop where
 fn:∀key d,t.T.lookup key=some d->∃fd,bM P w K mg base (CX1 P w) k (fa key) fd d.ps (spV K mg d.ps.length ((WT t k).Φ key))/\cV K fd d.ps []/\W.keepIn K (.ref (fa key))=true
 fp:(WT t k).dp=true->∃j,j+1=k/\∀key d,t.T.lookup key=some d->∃fd,bM P w K mg base (CX1 P w) j (fa key) fd d.ps (spV K mg d.ps.length ((WT t k).Ψ key))/\cV K fd d.ps []/\W.keepIn K (.ref (fa key))=true
 ini:∀key d Φ,t.I.lookup key=some d->(WT t k).I key=some Φ->∃j,j+1<=k/\InV P w K mg base (CX1 P w) j d.c (d.ps.length-1) Φ
 mu:∀x,x∈g.sn->∃fd ps,bM P w K mg base (CX1 P w) k (fa x) fd ps (m9 K ((WT t k).Ms x))/\cV K fd ps []/\W.keepIn K (.ref (fa x))=true
 cv:∀f n,jD P w K mg base k f n ((WT t k).Cl f n)
def aK5(f:GF w K mg g t fa)(A:eL P w K mg base g t fa k){N:List Str}{fb cb rb:Bool}(hP:X.prog=P)(hw:X.w=w)(hK:X.K=K)(hmg:X.mg=mg)(hb:X.base=base)(hN:X.N=N)(hs:X.env.scope=sc)(cm:cb=true->X.calm=true)(rm:cb=true->bL k X.A)(un:X.A.units+64<cLine)(hfn:fb=true->∀x,X.fn x=true)(cd:q="" \/ (W.codeIn X.K X.env.code q=true/\X.env.qual=q ++ ".<locals>."))(xo:cb=true->XOk (CX1 X.prog X.w) (C.at X) X)(sw:(WT t k).dp=true->∀f I,(WT t k).Wy f=some I->FnW P w K mg base (CX1 P w) k f I):SX k (WT t k) ⟨N,sc,g,fb,cb,rb,q⟩ C X:=by
 subst hP hw hK hmg hb;refine⟨hN,hs,cm,rm,un,xo,?_,?_,f.xcok,f.xnok,λy c l=>?_,λy l=>f.con.at l,λc hc=>f.mk0 c hc,λc key n hm Φ e=>?_,λc hc=>by rw[nI];exact f.iso c hc,λi f' hi hf=>?_,λc m key n e=>?_,λy n l=>?_,hfn,λhd=>?_,λy hy=>?_,λhd f1 a1 b1 g1 hz=>?_,A.cv,sw,cd⟩
 . unfold WD.xf;rw[x0];exact f.xtok
 . unfold WD.xg;rw[x6];exact f.xiok
 . have:=f.con.at l;cases c <;> exact this
 . have h1:=aQU.mp f.mkok (c,key,n) hm;dsimp only at h1;cases q:t.I.lookup key with
   |none=>rw[q]at h1;cases h1
   |some d=>rw[q]at h1;simp only[aPY,aQS]at h1;obtain⟨j,hj,M⟩:=A.ini key d Φ q e;rw[h1.1,h1.2]at M;exact⟨j,hj,M⟩
 . rw[nI]at hi;obtain⟨C',h1,h2,_,h4⟩:=f.cls.at hi;exact⟨C',h1,h2,h4.at hf⟩
 . rw[nI]at e;unfold CI.meth at e;split at e
   . rename_i i ei;have hi:=List.mem_of_find?_eq_some ei;have hn:i.name=c:=by simpa using List.find?_some ei
     obtain⟨C',h1,h2,h3,_⟩:=f.cls.at hi;have hmo:=aQU.mp (aQU.mp f.mtok i hi) (m,key,n) (aPB e);dsimp only at hmo;cases q:t.T.lookup key with
     |none=>rw[q]at hmo;cases hmo
     |some d=>rw[q]at hmo;rw[aQS]at hmo;obtain⟨fd,FO,hb,_⟩:=A.fn key d q;rw[hmo]at FO;exact⟨C',fa key,fd,d.ps,by rw[<- hn];exact h1,h2,h3.at e,FO,hb⟩
   . cases e
 . obtain⟨d,e,rfl⟩:=rC f.gok l;obtain⟨fd,FO,hb,hk⟩:=A.fn y d e;exact⟨fa y,fd,d.ps,FO,f.con.at l,hk,hb⟩
 . obtain⟨j,hj,fp⟩:=A.fp hd;refine⟨j,hj,λy n l=>?_⟩;obtain⟨d,e,rfl⟩:=rC f.gok l;obtain⟨fd,FO,hb,hk⟩:=fp y d e;exact⟨fa y,fd,d.ps,FO,f.con.at l,hk,hb⟩
 . obtain⟨d,e,_,_,_,l⟩:=yC f.snok hy;obtain⟨fd,ps,FO,hb,hk⟩:=A.mu y hy;exact⟨fa y,fd,ps,FO,f.con.at l,hk,hb⟩
 . obtain⟨j,hj,_⟩:=A.fp hd;rw[aRK.mp f.clok]at hz;cases hz
def mu_0{f:Addr}:bM P w K mg base (CX1 P w) k f fd ps (m9 K λ_ _=>none) :=
 ⟨λvs H Q En h=>(by obtain⟨_,_,_,_,_,_,_,_,_,_,_,_,_,_,e,_⟩:=h;cases e),λA outer s H args us vs Q En _ _ _ _ h=>(by obtain⟨_,_,_,_,_,_,_,_,_,_,_,_,_,_,e,_⟩:=h;cases e)⟩
def all_0 (f : GF w K mg g t fa) : eL P w K mg base g t fa 0 := ⟨fun key d e => by
      obtain⟨name,st,fd,F,hb,_⟩:=f.all.at e;exact⟨fd,⟨λvs H Q En h=>(yD (λ_=>rfl) h).elim,λA outer s H args us vs Q En _ _ _ _ h=>(yD (λ_=>rfl) h).elim⟩,hb,F.kp⟩,(λz=>by cases z),(λkey d Φ _ e=>by cases e),(λx hx=>by
      obtain⟨d,e,_⟩:=yC f.snok hx;obtain⟨name,st,fd,F,hb,_⟩:=f.all.at e;exact⟨fd,d.ps,mu_0,hb,F.kp⟩),λ_ _=>qL⟩
def aK6(f:GF w K mg g t fa)(A:eL P w K mg base g t fa k)(hd:(WT t k).dp=true)(y:Str)(I:dW)(h:(WT t k).Wy y=some I):FnW P w K mg base (CX1 P w) k y I:=by rw[WT_Wy]at h;exact nomatch (show(none:Option dW)=some I from h)
def yE(f:GF w K mg g t fa)(A:eL P w K mg base g t fa k){N:List Str}{fb rb:Bool}(hP:X.prog=P)(hw:X.w=w)(hK:X.K=K)(hmg:X.mg=mg)(hb:X.base=base)(hN:X.N=N)(hs:X.env.scope=sc)(cm:X.calm=true)(rm:bL k X.A)(hfn:fb=true->∀x,X.fn x=true)(cd:q="" \/ (W.codeIn X.K X.env.code q=true/\X.env.qual=q ++ ".<locals>."))(xo:XOk (CX1 X.prog X.w) (C.at X) X):SX k (WT t k) ⟨N,sc,g,fb,true,rb,q⟩ C X:=aK5 f A hP hw hK hmg hb hN hs (λ_=>cm) (λ_=>rm) rm.units hfn cd (λ_=>xo) λhd y I h=>aK6 f A hd y I h
def yF(f:GF w K mg g t fa)(A:eL P w K mg base g t fa k)(y n:Str):jD P w K mg base (k+1) y n ((WT t (k+1)).Cl y n):=by
 rw[WT_Cl];unfold ClT;split;rotate_left
 . exact qL
 rename_i d e;split;rotate_left
 . exact qL
 rename_i c ec;obtain⟨name,st,fd,F,hb,ok⟩:=f.all.at e;unfold f9 at ok;rw[aPY,aPY]at ok;have ok:=aQU.mp ok.2.2 _ (aPB ec);dsimp only at ok;unfold x8 at ok;split at ok;rotate_left
 . cases ok
 rename_i sc b ei;rw[aPY,aQH]at ok;have hi:d.ins.isEmpty=false:=by
  cases q:d.ins with
  |nil=>rw[q]at ec;cases ec
  |cons _ _=>rfl
 refine aIU ei (f.insns _ _ e hi) F λF0 H A' outer s cl fa' c' q' hr=>?_;have hx:XOk (CX1 P w) ((⟨K,F0,H,λ_ _ _=>False⟩:Cw).at (fZ P w K mg base (c.caps++c.rn::c.ls) q' sc cl fa' (.ref c') A' outer s H)) (fZ P w K mg base (c.caps++c.rn::c.ls) q' sc cl fa' (.ref c') A' outer s H):=λaA σ H' s' e s'' I' h=>by obtain⟨_,_,_,_,_,_,_,_,_,_,_,_,z⟩:=h;exact z
 exact sB (m:=⟨c.caps++c.rn::c.ls,sc,g,false,true,false,""⟩) (X:=fZ P w K mg base (c.caps++c.rn::c.ls) q' sc cl fa' (.ref c') A' outer s H) ⟨yE f A rfl rfl rfl rfl rfl rfl rfl rfl (hr.deeper _) (λz=>by cases z) (.inl rfl) hx,ok.1,PassesOwn.never,λz=>by cases z⟩ c.b ok.2
def rG(f:GF w K mg g t fa)(A:eL P w K mg base g t fa k){d:FD}{name:Str}{a:Addr}(F:Fun K name key st a fd)(e:t.T.lookup key=some d)(ok:f9 g key st d=true):bM P w K mg base (CX1 P w) (k+1) a fd d.ps (spV K mg d.ps.length ((WT t (k+1)).Φ key)):=by
 unfold f9 at ok;rw[aPY,aPY]at ok;have sc:=aJ9 ok.1;have:(WT t (k+1)).Φ key=phi d.ps.length d.N.length (evB (WT t k) d.b):=by rw[WT_Φ];unfold kZ;rw[e]
 rw[this];have sb:∀{C:Cw}{cdv:aSQ},W.codeIn K cdv key=true->∀{A':aSS}{outer:List Env}{s:aSR}{H:Hp}{En:XK},C.EE=fX mg En->bL k (A'.deeper (envOfC key (bS st) s.heap.objs.size a cdv))->SB k (WT t k) ⟨d.N,bS st,g,true,true,true,key⟩ C (bZ (CX1 P w) P w K mg base d.N key (bS st) a cdv A' outer s H En):=λ{C cdv} hcd {A' outer s H En} hE hr =>
  ⟨yE f A rfl rfl rfl rfl rfl rfl rfl rfl hr (λ_ _=>rfl) (.inr ⟨hcd,rfl⟩) (aH6 (K:=K) (H:=H) (outer:=outer) hE),sc.nd,PassesOwn.leaving,λ_=>⟨aH7 (K:=K) (H:=H) (outer:=outer) hE,fnCx,aIB (K:=K) (H:=H) (outer:=outer) hE⟩⟩
 have ok2:=ok.2.1;unfold bdOk at ok2;split at ok2
 . rename_i r eb;split at ok2;rotate_left
   . cases ok2
   rename_i s1 rest hd;split at ok2;rotate_left
   . cases ok2
   rename_i tn pn hw;simp only[aPY,aQS]at ok2;obtain⟨⟨⟨⟨⟨hps,h0⟩,h1⟩,l1⟩,hno⟩,hB⟩:=ok2;rw[hps]at sc;rw[eb,hps];have:evB (WT t k) (.wds::r)=λρ=>(f7 ρ).thn (evB (WT t k) r):=by funext ρ;simp only[evB,evS]
   rw[this];exact aI0 (k:=k) F sc (λy hy e=>by
    have:=aQU.mp hno y hy;rw[e]at this;cases this) hd hw h0 h1 l1 λC cdv hcd A' outer s H En hE hr=>sB (sb hcd hE hr) r hB
 . exact aH8 (k:=k) F sc λC cdv hcd A' outer s H En hE hr=>sB (sb hcd hE hr) d.b ok2
def yG(f:GF w K mg g t fa)(A:eL P w K mg base g t fa k)(hx:x∈g.sn):∃fd ps,bM P w K mg base (CX1 P w) (k+1) (fa x) fd ps (m9 K ((WT t (k+1)).Ms x))/\cV K fd ps []/\W.keepIn K (.ref (fa x))=true:=by rw[aRK.mp f.snok]at hx;cases hx
def aK7(f:GF w K mg g t fa)(A:eL P w K mg base g t fa k){d:ID}(e:t.I.lookup key=some d):InV P w K mg base (CX1 P w) (k+1) d.c (d.ps.length-1) (rB (WT t k) d):=by obtain⟨name,st,C2,a,fd,ns,hm,M,F,hb,ok⟩:=f.alli.at e;cases ok
theorem yH(f:GF w K mg g t fa):∀k,eL P w K mg base g t fa k/\eL P w K mg base g t fa (k+1)
 |0=>by
  have A0:eL P w K mg base g t fa 0:=all_0 f;refine⟨A0,λkey d e=>?_,λ_=>⟨0,rfl,A0.fn⟩,(λkey d Φ _ e=>by cases e),(λx hx=>yG f A0 hx),yF f A0⟩
  obtain⟨name,st,fd,F,hb,ok⟩:=f.all.at e;exact⟨fd,rG f A0 F e ok,hb,F.kp⟩
 |k+1=>by
  obtain⟨A0,A1⟩:=yH f k;refine⟨A1,λkey d e=>?_,λ_=>⟨k+1,rfl,A1.fn⟩,λkey d Φ e ei=>?_,(λx hx=>yG f A1 hx),yF f A1⟩
  . obtain⟨name,st,fd,F,hb,ok⟩:=f.all.at e;exact⟨fd,rG f A1 F e ok,hb,F.kp⟩
  . have ei:(match t.I.lookup key with|some i=>some (rB (WT t k) i)|none=>none)=some Φ:=ei
    rw[e]at ei;cases ei;exact⟨k+1,aOY _,aK7 f A0 e⟩
end
noncomputable def rH(K:Fg)(Φ:List D->Res):Sp:=λvs H Q E=>∃a ns,vs=[.ref a]/\SqL K H a (ns.map V.int)/\Φ (mW ns)=.ok .fz (.bl true)/\∀H',Q (.bl true) H'
def aK8{w:aST}{f:Addr}(h:bM P w K mg base CX k f fd ps (spV K mg 1 Φ)):bM P w K mg base CX k f fd ps (rH K Φ) :=
 h.imp λvs H Q E ⟨a,ns,e,hq,hp,q⟩=>by
  subst e;refine⟨rfl,H,mW ns,aD.refl _,aC.cons ?_ aC.nil,?_⟩
  . simp only[aB];exact⟨a,_,rfl,hq,wX ns⟩
  . rw[hp];exact⟨by decide,λv F' H' s rp _=>by rw[rp.bl];exact q H'⟩
def aK9{w:aST}{g:MG}{t:TB}(f:GF w K mg g t fa)(k:Nat){a:Addr}{d:FD}(F:Fun K "law" "law" st a fd)(e:t.T.lookup ("law":Str)=some d)(ok:f9 g "law" st d=true)(hl:d.ps.length=1):bM P w K mg base (CX1 P w) (k+1) a fd d.ps (rH K ((WT t (k+1)).Φ ("law":Str))):=by have:=rG (P:=P) (w:=w) (base:=base) f (yH f k).1 F e ok;rw[hl]at this;exact aK8 this
section
variable {W:WD}{a b c:E}{es:List E}
@[simp] theorem nJ{i:_}:evE W (.var i) ρ=d8 ρ i:=Eq.trans rfl rfl
@[simp] theorem e_non:evE W .non ρ=.ok .fz .non:=Eq.trans rfl rfl
@[simp] theorem e_bl{b:_}:evE W (.bl b) ρ=.ok .fz (.bl b):=Eq.trans rfl rfl
@[simp] theorem e_int{i:_}:evE W (.int i) ρ=.ok .fz (.int i):=Eq.trans rfl rfl
@[simp] theorem e_str{x:_}:evE W (.str x) ρ=.ok .fz (.str x):=Eq.trans rfl rfl
@[simp] theorem e_globS{x y:_}:evE W (.glob x (.s y)) ρ=.ok .fz (.str y):=Eq.trans rfl rfl
@[simp] theorem e_globI{x y:_}:evE W (.glob x (.i y)) ρ=.ok .fz (.int y):=Eq.trans rfl rfl
@[simp] theorem e_ty{t:Ty}:evE W (.ty t) ρ=.ok .fz (.ty t.id):=Eq.trans rfl rfl
@[simp] theorem cD{op}:evE W (.bin op a b) ρ=op2 (aQ op) (evE W a ρ) (evE W b ρ):=Eq.trans rfl rfl
@[simp] theorem gB{op}:evE W (.cmp op a b) ρ=op2 (bB op) (evE W a ρ) (evE W b ρ):=Eq.trans rfl rfl
@[simp] theorem e_andL:evE W (.andL es) ρ=evA W es ρ:=Eq.trans rfl rfl
@[simp] theorem e_orL:evE W (.orL es) ρ=cN W es ρ:=Eq.trans rfl rfl
@[simp] theorem e_not:evE W (.not a) ρ=iX (evE W a ρ):=Eq.trans rfl rfl
@[simp] theorem e_tru:evE W (.tru a) ρ=kJ (evE W a ρ):=Eq.trans rfl rfl
@[simp] theorem yI:evE W (.frz a) ρ=bR (evE W a ρ):=Eq.trans rfl rfl
@[simp] theorem e_ix:evE W (.ix a b) ρ=op2 ixD (evE W a ρ) (evE W b ρ):=Eq.trans rfl rfl
@[simp] theorem gC{l h:_}:evE W (.slice a l h) ρ=slP (evE W a ρ) (evO W l) (evO W h) ρ:=Eq.trans rfl rfl
@[simp] theorem e_tup:evE W (.tup es) ρ=dD (bN W es ρ):=Eq.trans rfl rfl
@[simp] theorem e_lst:evE W (.lst es) ρ=gS (bN W es ρ):=Eq.trans rfl rfl
@[simp] theorem e_call{f n:_}:evE W (.call f n es) ρ=bD n (W.Φ f) (bN W es ρ):=Eq.trans rfl rfl
@[simp] theorem aLA{f:Bn}:evE W (.bcall f es) ρ=cY f.f (bN W es ρ):=Eq.trans rfl rfl
@[simp] theorem e_mt{t:Mt}:evE W (.mt t a es) ρ=fT t.ty t.f (evE W a ρ) (bN W es ρ):=Eq.trans rfl rfl
@[simp] theorem k8:evE W (.items a) ρ=i4 (bR (evE W a ρ)):=Eq.trans rfl rfl
@[simp] theorem rJ:evE W (.rng1 a) ρ=gW (aL (evE W a ρ) (.ok [])):=Eq.trans rfl rfl
@[simp] theorem aLB:evE W .dnew ρ=.ok .fr (.dct []):=Eq.trans rfl rfl
@[simp] theorem yJ:evE W (.dix a b) ρ=op2 ixK (evE W a ρ) (evE W b ρ):=Eq.trans rfl rfl
@[simp] theorem aLC:evE W (.rng2 a b) ρ=i5 (aL (evE W a ρ) (aL (evE W b ρ) (.ok []))):=Eq.trans rfl rfl
@[simp] theorem k9{ts:List E}{caps t n:_}:evE W (.comp a b ts caps t n) ρ=dP (evE W b ρ) ρ caps n (a9 t) (λρ=>evF W ts ρ) (λρ=>evE W a ρ):=Eq.trans rfl rfl
@[simp] theorem e_fmt:evE W (.fmt a) ρ=kS (evE W a ρ):=Eq.trans rfl rfl
@[simp] theorem e_fstr:evE W (.fstr es) ρ=dF Str.empty (evL W es) ρ:=Eq.trans rfl rfl
@[simp] theorem el_nil:evL W []=[]:=by simp only[evL]
@[simp] theorem el_cons:evL W (a::es)=evE W a::evL W es:=by simp only[evL]
@[simp] theorem sg_nm{d:D}:a9 (.nm i) d ρ=some (ρ.set i (some (false,d))):=by simp only[a9]
@[simp] theorem sg_tp{ts:List Tg}:a9 (.tp ts) (.tup ds) ρ=cZ ts ds ρ:=by simp only[a9]
@[simp] theorem sg_tpl{ts:List Tg}:a9 (.tp ts) (.lst ds) ρ=cZ ts ds ρ:=by simp only[a9]
@[simp] theorem sgs_nil:cZ [] [] ρ=some ρ:=by simp[cZ]
@[simp] theorem sgs_cons{t:Tg}{ts:List Tg}{d:D}:cZ (t::ts) (d::ds) ρ=(a9 t d ρ).bind (cZ ts ds):=by simp only[cZ];cases a9 t d ρ <;> rfl
@[simp] theorem fmt_s:kS (.ok m (.str z))=.ok .fz (.str z):=rfl
@[simp] theorem e_tcall{t:Ty}:evE W (.tcall t es) ρ=cY t.f (bN W es ρ):=Eq.trans rfl rfl
@[simp] theorem aLD:bN W [] ρ=.ok []:=by simp only[bN]
@[simp] theorem aLE:bN W (a::es) ρ=aL (evE W a ρ) (bN W es ρ):=by simp only[bN]
@[simp] theorem ea_one:evA W [a] ρ=evE W a ρ:=by simp only[evA]
@[simp] theorem ea_cons:evA W (a::b::es) ρ=dL (evE W a ρ) (evA W (b::es) ρ):=by simp only[evA]
@[simp] theorem eo_one:cN W [a] ρ=evE W a ρ:=by simp only[cN]
@[simp] theorem eo_cons:cN W (a::b::es) ρ=orR (evE W a ρ) (cN W (b::es) ρ):=by simp only[cN]
@[simp] theorem ef_nil:evF W [] ρ=.ok .fz (.bl true):=by simp only[evF]
@[simp] theorem ef_cons:evF W (a::es) ρ=dL (evE W a ρ) (evF W es ρ):=by simp only[evF]
@[simp] theorem eo_none:evO W none=none:=by simp only[evO]
@[simp] theorem eo_some:evO W (some a)=some (evE W a):=by simp only[evO]
@[simp] theorem nK:evS W (.ret a) ρ=gU (evE W a ρ) ρ:=Eq.trans rfl rfl
@[simp] theorem lA{i:_}:evS W (.retV i) ρ=eU ρ i:=Eq.trans rfl rfl
@[simp] theorem rK{i:_}:evS W (.set i a) ρ=fR ρ i (evE W a ρ):=Eq.trans rfl rfl
@[simp] theorem rL{x y:List S}:evS W (.ite a x y) ρ=ifS (evE W a ρ) ρ (evB W x ρ) (evB W y ρ):=Eq.trans rfl rfl
@[simp] theorem rM{t:Tg}{y:List S}:evS W (.for a t y) ρ=pQ (evE W a ρ) ρ (a9 t) (evB W y):=Eq.trans rfl rfl
@[simp] theorem s_asg{t:Tg}:evS W (.asg t a) ρ=m6 t ρ (evE W a ρ):=Eq.trans rfl rfl
@[simp] theorem s_whl{n:_}{y:List S}:evS W (.whl n a y) ρ=c8 (evE W a) (evB W y) n ρ:=Eq.trans rfl rfl
@[simp] theorem aLF:evS W (.expr a) ρ=(evE W a ρ).thS ρ λ_ _=>.nx ρ:=Eq.trans rfl rfl
@[simp] theorem s_frzV{i:_}:evS W (.frzV i) ρ=kW ρ i:=Eq.trans rfl rfl
@[simp] theorem aLG{i:_}:evS W (.dput i a b) ρ=fH ρ i (evE W a ρ) (evE W b ρ):=Eq.trans rfl rfl
@[simp] theorem s_wds:evS W .wds ρ=f7 ρ:=Eq.trans rfl rfl
@[simp] theorem aLH{n:E}{x y z:S}:evS W (.tree n x y z) ρ=eW (evE W (.items (.var 0))) (hZ (evE W n) (evS W x) (evS W y)) (evS W z) ρ:=Eq.trans rfl rfl
@[simp] theorem b_nil:evB W [] ρ=.nx ρ:=by simp only[evB]
@[simp] theorem cT{s:S}{r:List S}:evB W (s::r) ρ=(evS W s ρ).thn (evB W r):=by simp only[evB]
end
section
variable  {n:Md}{i j:Int}{d:D}
@[simp] theorem x_add:op2 (aQ .Add) (.ok m (.int i)) (.ok n (.int j))=.ok .fz (.int (i+j)):=rfl
@[simp] theorem rN:op2 (aQ .Sub) (.ok m (.int i)) (.ok n (.int j))=.ok .fz (.int (i-j)):=rfl
@[simp] theorem x_lt:op2 (bB .Lt) (.ok m (.int i)) (.ok n (.int j))=.ok .fz (.bl (decide (i<j))):=rfl
@[simp] theorem x_le:op2 (bB .LtE) (.ok m (.int i)) (.ok n (.int j))=.ok .fz (.bl (decide (i<=j))):=rfl
@[simp] theorem x_gt:op2 (bB .Gt) (.ok m (.int i)) (.ok n (.int j))=.ok .fz (.bl (decide (j<i))):=rfl
@[simp] theorem x_ge:op2 (bB .GtE) (.ok m (.int i)) (.ok n (.int j))=.ok .fz (.bl (decide (j<=i))):=rfl
@[simp] theorem eY(h:0<j):op2 (aQ .Mod) (.ok m (.int i)) (.ok n (.int j))=.ok .fz (.int (i % j)):=by show Res.of (if decide (0<j)=true then _ else _)=_;rw[if_pos (aQA h)];rfl
def x_div(h:0<j)(hb:bits j=true):op2 (aQ .FloorDiv) (.ok m (.int i)) (.ok n (.int j))=.ok .fz (.int (i / j)):=by show Res.of (if(decide (0<j)&&bits j)=true then _ else _)=_;rw[if_pos (by rw[hb,aQA h];rfl)];rfl
def aLI(h:i.natAbs<10 ^ 2000):bits i=true:=by
 unfold bits;refine aQA ?_;by_cases h0:i.natAbs=0
 . rw[h0];decide
 . refine(Nat.log2_lt h0).mpr (Nat.lt_trans h ?_);decide +kernel
def aLJ{N:Nat}(h:i.natAbs<=N)(hN:N<10 ^ 2000:=by decide +kernel):bits i=true:=aLI (aR0 h hN)
@[simp] theorem lD(h:0<j)(hb:j.natAbs<=1000000000):op2 (aQ .FloorDiv) (.ok m (.int i)) (.ok n (.int j))=.ok .fz (.int (i / j)):=x_div h (aLJ hb)
def aLK(h:((bits i&&bits j)||(w64 i||w64 j))=true):op2 (aQ .Mult) (.ok m (.int i)) (.ok n (.int j))=.ok .fz (.int (i * j)):=by show Res.of (((if((bits i&&bits j)||(w64 i||w64 j))=true then _ else _:Option (Md×D)).orElse _).orElse _)=_;rw[if_pos h];rfl
theorem lE(h:j.natAbs<9000000000000000000):op2 (aQ .Mult) (.ok m (.int i)) (.ok n (.int j))=.ok .fz (.int (i * j)):=aLK (by
 have:w64 j=true:=aQA (by lia)
 rw[this];simp)
def bQ{φ:Md->D->Md->D->Option (Md×D)}{x y d:D}{k:Md}(h:φ m x n y=some (k,d)):op2 φ (.ok m x) (.ok n y)=.ok k d:=by show Res.of (φ m x n y)=_;rw[h];rfl
@[simp] theorem rO:op2 (bB .Eq) (.ok m (.int i)) (.ok n (.int j))=.ok .fz (.bl (i==j)):=bQ rfl
@[simp] theorem x_neI:op2 (bB .NotEq) (.ok m (.int i)) (.ok n (.int j))=.ok .fz (.bl (i != j)):=bQ rfl
@[simp] theorem x_eqB{a b:Bool}:op2 (bB .Eq) (.ok m (.bl a)) (.ok n (.bl b))=.ok .fz (.bl (a==b)):=bQ rfl
@[simp] theorem x_neB{a b:Bool}:op2 (bB .NotEq) (.ok m (.bl a)) (.ok n (.bl b))=.ok .fz (.bl (a != b)):=bQ rfl
@[simp] theorem x_eqS{a b:Str}:op2 (bB .Eq) (.ok m (.str a)) (.ok n (.str b))=.ok .fz (.bl (a==b)):=bQ (by rfl)
@[simp] theorem x_neS{a b:Str}:op2 (bB .NotEq) (.ok m (.str a)) (.ok n (.str b))=.ok .fz (.bl (a != b)):=bQ (by rfl)
@[simp] theorem x_inS{a b:Str}:op2 (bB .In) (.ok m (.str a)) (.ok n (.str b))=.ok .fz (.bl (cX a b)):=bQ rfl
@[simp] theorem x_notinS{a b:Str}:op2 (bB .NotIn) (.ok m (.str a)) (.ok n (.str b))=.ok .fz (.bl (!cX a b)):=bQ rfl
@[simp] theorem eZ{a b:Str}(h:a.length+b.length<=sizeLine):op2 (aQ .Add) (.ok m (.str a)) (.ok n (.str b))=.ok .fz (.str (a++b)) :=
 bQ (by
  have:fS (λi j=>decide (i.length+j.length<=sizeLine)) (λi j=>D.str (i++j)) m (.str a) n (.str b)=some (Md.fz,D.str (a++b)):=by show(if decide (a.length+b.length<=sizeLine)=true then some (Md.fz,D.str (a++b))else none)=_;rw[if_pos (aQA h)]
  show orO (orO (fI (λ_ _=>true) λi j=>.int (i+j)) (fS (λi j=>decide (i.length+j.length<=sizeLine)) λi j=>.str (i++j))) mZ m (.str a) n (.str b)=_;simp only[orO,this];rfl)
@[simp] theorem x_isN{d:D}:op2 (bB .Is) (.ok m d) (.ok n .non)=.ok .fz (.bl (eJ d)):=bQ rfl
@[simp] theorem x_isnotN{d:D}:op2 (bB .IsNot) (.ok m d) (.ok n .non)=.ok .fz (.bl (!eJ d)):=bQ rfl
@[simp] theorem aLL{x y:List D}(h:x.length+y.length<=sizeLine):op2 (aQ .Add) (.ok m (.lst x)) (.ok n (.lst y))=.ok .fr (.lst (x++y)):=bQ (by
 show(if x.length+y.length<=sizeLine then some (Md.fr,D.lst (x++y))else none)=_;rw[if_pos h])
@[simp] theorem aLM{x y:List D}(h:x.length+y.length<=sizeLine):op2 (aQ .Add) (.ok m (.tup x)) (.ok n (.tup y))=.ok .fz (.tup (x++y)):=bQ (by
 show(if x.length+y.length<=sizeLine then some (Md.fz,D.tup (x++y))else none)=_;rw[if_pos h])
@[simp] theorem isn_n:eJ .non=true:=rfl
@[simp] theorem isn_i{i:Int}:eJ (.int i)=false:=rfl
@[simp] theorem isn_b{i:Bool}:eJ (.bl i)=false:=rfl
@[simp] theorem isn_s{i:Str}:eJ (.str i)=false:=rfl
@[simp] theorem isn_t{i:List D}:eJ (.tup i)=false:=rfl
@[simp] theorem isn_l{i:List D}:eJ (.lst i)=false:=rfl
@[simp] theorem x_andT{y:Res}:dL (.ok m (.bl true)) y=y:=rfl
@[simp] theorem x_andF{y:Res}:dL (.ok m (.bl false)) y=.ok .fz (.bl false):=rfl
@[simp] theorem x_orT{y:Res}:orR (.ok m (.bl true)) y=.ok .fz (.bl true):=rfl
@[simp] theorem x_orF{y:Res}:orR (.ok m (.bl false)) y=y:=rfl
@[simp] theorem x_and{a b:Bool}:dL (.ok m (.bl a)) (.ok .fz (.bl b))=.ok .fz (.bl (a&&b)):=by cases a <;> rfl
@[simp] theorem x_or{a b:Bool}:orR (.ok m (.bl a)) (.ok .fz (.bl b))=.ok .fz (.bl (a||b)):=by cases a <;> rfl
@[simp] theorem x_not{a:Bool}:iX (.ok m (.bl a))=.ok .fz (.bl (!a)):=rfl
@[simp] theorem x_tru{a:Bool}:kJ (.ok m (.bl a))=.ok .fz (.bl a):=rfl
@[simp] theorem x_truI:kJ (.ok m (.int i))=.ok .fz (.bl (i != 0)):=rfl
@[simp] theorem x_ifT{x y:aE}:ifS (.ok m (.bl true)) ρ x y=x:=rfl
@[simp] theorem yK{x y:aE}:ifS (.ok m (.bl false)) ρ x y=y:=rfl
@[simp] theorem yL:bR (.ok .fz d)=.ok .fz d:=rfl
@[simp] theorem x_frr:bR (.ok .fr d)=.ok .fz d:=rfl
@[simp] theorem x_set:fR ρ k (.ok .fz d)=.nx (ρ.set k (some (false,d))):=rfl
@[simp] theorem aLN:fR ρ k (.ok .fr d)=.nx (ρ.set k (some (true,d))):=rfl
@[simp] theorem x_ret:gU (.ok .fz d) ρ=.rt .fz d:=rfl
@[simp] theorem x_retr:gU (.ok .fr d) ρ=.rt .fr d:=rfl
@[simp] theorem g_0{r:Rho}:d8 (some (false,d)::r) 0=.ok .fz d:=rfl
@[simp] theorem g_0b{r:Rho}:d8 (some (true,d)::r) 0=.ok .bo d:=rfl
@[simp] theorem g_s{x:Option (Bool×D)}{r:Rho}{i:Nat}:d8 (x::r) (i+1)=d8 r i:=rfl
@[simp] theorem g_1{x:Option (Bool×D)}{r:Rho}:d8 (x::r) 1=d8 r 0:=rfl
@[simp] theorem rs_0{r:Rho}:eU (some (false,d)::r) 0=.rt .fz d:=rfl
@[simp] theorem rs_0b{r:Rho}:eU (some (true,d)::r) 0=.rt .fr d:=rfl
@[simp] theorem rs_1{x:Option (Bool×D)}{r:Rho}:eU (x::r) 1=eU r 0:=rfl
@[simp] theorem rs_s{x:Option (Bool×D)}{r:Rho}{i:Nat}:eU (x::r) (i+1)=eU r i:=rfl
@[simp] theorem r_set0{x y:Option (Bool×D)}{r:Rho}:(x::r).set 0 y=y::r:=rfl
@[simp] theorem aLO{f:List (Md×D)->Option (Md×D)}{xs:List (Md×D)}:cY f (.ok xs)=Res.of (f xs):=rfl
@[simp] theorem aLP:Bn.f .len=cL:=rfl
@[simp] theorem bn_isi:Bn.f .isinstance=cQ:=rfl
@[simp] theorem bn_max:Bn.f .max=jA:=rfl
@[simp] theorem max_i{i j:Int}:jA [(m,.int i),(n,.int j)]=some (.fz,.int (if j > i then j else i)):=rfl
@[simp] theorem ty_int:Ty.f .int=hG:=rfl
@[simp] theorem ty_str:Ty.f .str=kQ:=rfl
@[simp] theorem ty_tuple:Ty.f .tuple=i8:=rfl
@[simp] theorem ty_list:Ty.f .list=i9:=rfl
@[simp] theorem tci_i{i:Int}:hG [(m,.int i)]=some (.fz,.int i):=rfl
@[simp] theorem tci_b{i:Bool}:hG [(m,.bl i)]=some (.fz,.int (if i then 1 else 0)):=rfl
@[simp] theorem tct_l{i:List D}:i8 [(m,.lst i)]=some (.fz,.tup i):=rfl
@[simp] theorem tct_t{i:List D}:i8 [(.fz,.tup i)]=some (.fz,.tup i):=rfl
@[simp] theorem tcl_l{i:List D}:i9 [(m,.lst i)]=some (.fr,.lst i):=rfl
@[simp] theorem tcl_t{i:List D}:i9 [(m,.tup i)]=some (.fr,.lst i):=rfl
@[simp] theorem tcs_i{i:Int}(h:eV i=true):kQ [(m,.int i)]=some (.fz,.str (bT i)):=by show(if eV i=true then _ else _)=_;rw[if_pos h]
@[simp] theorem mt_ty:Mt.ty .join="str" := rfl
@[simp] theorem mt_f:Mt.f .join=gX:=rfl
@[simp] theorem mt_tyS:Mt.ty .startswith="str" := rfl
@[simp] theorem mt_fS:Mt.f .startswith=swD:=rfl
@[simp] theorem mt_tyR:Mt.ty .removeprefix="str" := rfl
@[simp] theorem mt_fR:Mt.f .removeprefix=rpD:=rfl
@[simp] theorem bn_all:Bn.f .all=kM:=rfl
@[simp] theorem len_s:cL [(m,.str z)]=some (.fz,.int z.length):=rfl
@[simp] theorem len_l{z:List D}:cL [(m,.lst z)]=some (.fz,.int z.length):=rfl
@[simp] theorem len_t{z:List D}:cL [(m,.tup z)]=some (.fz,.int z.length):=rfl
@[simp] theorem itm_l{z:List D}:i4 (.ok m (.lst z))=.ok .fz (.lst z):=rfl
@[simp] theorem itm_t{z:List D}:i4 (.ok m (.tup z))=.ok .fz (.lst z):=rfl
@[simp] theorem itm_s:i4 (.ok m (.str z))=.ok .fz (.lst (cC z)):=rfl
end
@[simp] theorem WT_xf{t:TB}:(WT t k).xf=λc x=>t.xt.lookup (c,x):=by unfold WD.xf;rw[x0]
@[simp] theorem WT_xg{t:TB}:(WT t k).xg=λc x=>t.xi.lookup (c,x):=by unfold WD.xg;rw[x6]
section
variable  {c:Str}{d:D}{xt:Str->Str->Option Bool}{hs:List HX}{g:Rho->aE}
@[simp] theorem x_frx:bR (.exc c)=.exc c:=rfl
@[simp] theorem x_setx:fR ρ k (.exc c)=.exc c ρ:=rfl
@[simp] theorem x_retx:gU (.exc c) ρ=.exc c ρ:=rfl
end
def aJ{N:Nat}{g:Rho->aE}{d:D}(hl:ds.length=n)(h:g (dE N ds)=.rt m d):phi n N g ds=.ok m d:=by unfold phi;rw[if_pos hl,h];rfl
def jJ{xs:List (Md×D)}{d:D}(hl:ds.length=n)(ha:cK xs=some ds)(h:Φ ds=.ok .fz d):bD n Φ (.ok xs)=.ok .fz d:=by
 show(match cK xs with|some ds=>if ds.length=n then(match Φ ds with|.ok .bo _=>Res.stuck|r=>r)else .stuck|none=>.stuck)=_
 rw[ha];show(if ds.length=n then _ else _)=_;rw[if_pos hl,h]
@[simp] theorem call1{a d:D}(h:Φ [a]=.ok .fz d):bD 1 Φ (.ok [(.fz,a)])=.ok .fz d:=jJ (ds:=[a]) rfl rfl h
@[simp] theorem yM{a b d:D}(h:Φ [a,b]=.ok .fz d):bD 2 Φ (.ok [(.fz,a),(.fz,b)])=.ok .fz d:=jJ (ds:=[a,b]) rfl rfl h
@[simp] theorem rP{a b c d:D}(h:Φ [a,b,c]=.ok .fz d):bD 3 Φ (.ok [(.fz,a),(.fz,b),(.fz,c)])=.ok .fz d:=jJ (ds:=[a,b,c]) rfl rfl h
def aLQ{i:Int}(h:i.natAbs<10 ^ 500):eV i=true:=by
 unfold eV;refine aQA ?_;by_cases h0:i.natAbs=0
 . rw[h0];decide
 . refine(Nat.log2_lt h0).mpr (Nat.lt_trans h ?_);decide +kernel
theorem aLR{i:Int}(h:i<0):bT i=Str.ofString "-" ++ bT (-i):=by
 unfold bT;rw[PyProof.Rows.toString_neg h,show(0-i) = -i by lia]
 apply PyProof.Rows.ext_toList;show _=((Str.ofString "-").cps++(Str.ofString (toString (-i))).cps).toList;rw[Array.toList_append,aR1,aR1,aR1,String.toList_append,aRV]
@[simp] theorem wt_cl{t:TB}:(WT t k).cl=t.cl:=nI t k
def aX{t:TB}{f:Str}{d:FD}(h:t.T.lookup f=some d):(WT t (k+1)).Φ f=phi d.ps.length d.N.length (evB (WT t k) d.b):=by rw[WT_Φ];unfold kZ;rw[h]
@[simp] theorem rQ{a b c e d:D}(h:Φ [a,b,c,e]=.ok .fz d):bD 4 Φ (.ok [(.fz,a),(.fz,b),(.fz,c),(.fz,e)])=.ok .fz d:=jJ (ds:=[a,b,c,e]) rfl rfl h
theorem rR{W:WD}:∀{x y:List D3.S}{ρ:Rho},evB W (x++y) ρ=(evB W x ρ).thn (evB W y)
 |[],y,ρ=>by simp
 |s::x,y,ρ=>by
  show evB W (s::(x++y)) ρ=_;rw[cT,cT];cases evS W s ρ with
  |nx ρ'=>exact rR
  |_=>rfl
def b_nx{W:WD}{s:D3.S}{r:List D3.S}(h:evS W s ρ=.nx ρ'):evB W (s::r) ρ=evB W r ρ':=by rw[cT,h];rfl
theorem yN{t:Rho->Res}{b:Rho->aE}(I:Rho->Prop)(μ:Rho->Nat)(hs:∀ρ,I ρ->(∃m,t ρ=.ok m (.bl false))\/∃m ρ',t ρ=.ok m (.bl true)/\b ρ=.nx ρ'/\I ρ'/\μ ρ'<μ ρ):∀(n:Nat) (ρ:Rho),I ρ->μ ρ<n->∃ρ' m,c8 t b n ρ=.nx ρ'/\I ρ'/\t ρ'=.ok m (.bl false)
 |0,ρ,_,h=>absurd h (Nat.not_lt_zero _)
 |n+1,ρ,hI,h=>by
  rcases hs ρ hI with⟨m,e⟩|⟨m,ρ',e1,e2,h2,h3⟩
  . exact⟨ρ,m,by unfold c8;rw[e];rfl,hI,e⟩
  . obtain⟨ρ2,m2,e3,h4,e4⟩:=yN I μ hs n ρ' h2 (by lia)
    refine⟨ρ2,m2,?_,h4,e4⟩;unfold c8;rw[e1];show(match b ρ with|.nx ρ'=>c8 t b n ρ'|.ct ρ'=>c8 t b n ρ'|.bk ρ'=>.nx ρ'|r=>r)=_
    rw[e2];exact e3
theorem yO{k:D->Rho->Option Rho}{t e:Rho->Res}{ρ0:Rho}{f:D->D}:∀{ds:List D},(∀d∈ds,∃ρ1 m,k d ρ0=some ρ1/\t ρ1=.ok m (.bl true)/\∃m',bR (e ρ1)=.ok m' (f d))->eG k t e ρ0 ds=some (ds.map f)
 |[],_=>rfl
 |d::ds,h=>by obtain⟨ρ1,m,e1,e2,m',e3⟩:=h d mcs;unfold eG;rw[e1];dsimp only;rw[e2];dsimp only;rw[e3];dsimp only;rw[yO λd hd=>h d (mcm hd)];rfl
def lF{k:D->Rho->Option Rho}{t e:Rho->Res}(f:D->D)(hl:ds.length<sizeLine)(h:∀d∈ds,∃ρ1 m,k d (cM caps ρ++List.replicate n none)=some ρ1/\t ρ1=.ok m (.bl true)/\∃m',bR (e ρ1)=.ok m' (f d)):dP (.ok m (.lst ds)) ρ caps n k t e=.ok .fr (.lst (ds.map f)):=by unfold dP;rw[Res.thn_ok];dsimp only;rw[if_pos hl,yO h]
end D3
namespace Tp
open PySem.W PySem.Calls
structure S where
 t:BT
 n:Nat
 k:Nat
 nm:aSQ
 g:List DictEntry
 tb:List aSQ
def tupO(vs:List aSQ):Obj:=⟨.type "tuple", none,.seq vs.toArray 0,#[]⟩
def fldO(c:aSQ)(vs:List aSQ):Obj:=⟨c,none,.fields vs.toArray,#[]⟩
def dicO(es:List DictEntry)(e:Nat):Obj:=⟨.type "dict", none,.dict es.toArray e,#[]⟩
def en(P:Params)(x:Str)(k:Nat)(v:aSQ):DictEntry:=⟨PyData.keyHash P x,.str x k,v⟩
def texts:List Str->Nat->List aSQ
 |[],_=>[]
 |x::xs,k=>.str x k::texts xs (k+1)
def fileS:Str := "/claim/cut.py"
noncomputable def codeO(name qual:Str)(k line argc fl:Nat)(isF:Bool)(a:Nat)(ls cs tm:aSQ)(j:Nat):Obj :=
 fldO (.type "code") [.str name k,.str qual (k+1),.str fileS (k+2),.int line 0,.int argc 0,.int 0 0,.int 0 0,.int fl 0,.ref a,.bool isF,.int 181 0,.ref (a+1),.none,ls,cs,tm,.int j 0,.int line 0,.str fileS (j+1)]
noncomputable def frmO(code ns:Nat)(nm:aSQ):Obj:=⟨.type "frame", none,.plain,#[some (.ref code),some (.ref 3),some (.ref ns),none,some nm,none,some (.ref 0)]⟩
def fnD(name qual:Str)(args:Arguments)(body:List Stmt)(sc:Scope)(gl:Nat)(nm cd:aSQ):FuncData:=⟨name,qual,args,.stmts body,sc,gl,[],.none,.none,.none,nm,none,cd,.none,0⟩
def insL:List Obj->BT->Nat->BT
 |[],t,_=>t
 |o::os,t,n=>insL os (t.ins n o) (n+1)
def layF(name qual:Str)(args:Arguments)(body:List Stmt)(sc:Scope)(line n k:Nat)(nm:aSQ):List Obj×Nat×Nat :=
 match localNames args sc (.stmts body)with
 |some (ls,cs) =>
  let a:=ls.length
  let b:=cs.length
  ([tupO [],fldO .none [],tupO (texts ls (k+3)),tupO (texts cs (k+3+a)),⟨.none,none,.func (fnD name qual args body sc 0 .none .none),#[]⟩,
   codeO name qual k line args.args.length 3 true n (.ref (n+2)) (.ref (n+3)) (.ref (n+4)) (k+3+a+b),⟨.type "function", none,.func (fnD name qual args body sc 3 nm (.ref (n+5))),#[]⟩],n+5,k+5+a+b)
 |none =>
  ([tupO [],fldO .none [],⟨.none,none,.func (fnD name qual args body sc 0 .none .none),#[]⟩,
   codeO name qual k line args.args.length 3 true n .none .none (.ref (n+2)) (k+3),⟨.type "function", none,.func (fnD name qual args body sc 3 nm (.ref (n+3))),#[]⟩],n+3,k+5)
def look(x:Str):List DictEntry->Option aSQ
 |[]=>none
 |⟨_,.str y _,v⟩::es=>match decide (x=y)with|true=>some v|false=>look x es
 |_::es=>look x es
structure B where
 t:BT
 n:Nat
 k:Nat
 es:List DictEntry
 tb:List aSQ
def layB(P:Params)(cn:Str)(nm:aSQ):List Stmt->B->B
 |.FunctionDef name args body _ _ _ sc _ _ pos::r,⟨t,n,k,es,tb⟩ =>
  match layF name (cn ++ "." ++ name) args body sc pos.line n k nm with
  |(os,c,j)=>layB P cn nm r ⟨insL os t n,n+os.length,j+1,en P name j (.ref (c+1))::es,.ref c :: .int pos.col 0 :: .int pos.line 0::tb⟩
 |_::r,b=>layB P cn nm r b
 |[],b=>b
def mroOf(t:BT)(a:Nat):List aSQ×aSQ:=match t.get a with
 |some ⟨_,_,.cls c,sl⟩=>(c.mro,(sl.getD 4 none).getD .none)
 |_=>([],.none)
def subTo(a:Nat):Obj->Obj
 |⟨c,d,.cls k,sl⟩=>⟨c,d,.cls {k with subclasses:=k.subclasses++[.ref a]},sl⟩
 |o=>o
noncomputable def layC(P:Params)(name:Str)(bases:List PySem.Expr)(body:List Stmt)(st:List Str)(line:Nat):S->S
 |⟨t,n,k,nm,g,tb⟩ =>
  let bs:List aSQ:=match bases with
   |.Name b _::_=>(match look b g with|some v=>[v]|none=>[.type "ValueError"])
   |_=>[]
  let n2:=n+2
  let t1:=insL [tupO bs,fldO (.type "builtin_function_or_method") [.builtin "type.__prepare__", .type "type"],dicO [] 0,tupO [],fldO .none [],codeO name name (k+2) line 0 0 false (n+3) .none .none .none (k+5),frmO (n+5) n2 nm] t n
  match layB P name nm body ⟨t1,n+7,k+12,[en P "__firstlineno__" (k+11) (.int line (k+10)),en P "__qualname__" (k+9) (.str name (k+8)),en P "__module__" (k+7) nm],[]⟩with
  |⟨t2,m,j,es,ct⟩ =>
   let es1:=en P "__static_attributes__" (j+st.length) (.ref m)::es
   let j1:=j+st.length+1
   let t3:=(t2.set n2 λ_=>dicO es1.reverse es1.length).set (n+4) λ_=>fldO .none ct.reverse
   let cl:=m+2
   let cp:=(es1.reverse.take 1)++(es1.reverse.drop 2)
   let fin (mro:List aSQ) (nw:aSQ) (bv:List aSQ) (sl0:Option aSQ) (xs:List DictEntry) (gs:List Obj) (t:BT) (j:Nat):S :=
    let os:=[tupO (texts st (m-m+(j1-1-st.length))),dicO (cp++xs++[en P "__doc__" j .none]) (2+xs.length),⟨.type "type", none,.cls ⟨name,bv,.ref cl::mro,m+1,name,true,[],[],false,none,false⟩,#[sl0,none,some (.str name k),some (.str name (k+8)),some nw,some (.bool true)]⟩]
     ++ gs++[fldO (.type "super") [.ref cl,.ref cl,.ref cl],fldO (.type "builtin_function_or_method") [.builtin "object.__init_subclass__", .ref cl]]
    ⟨insL os t m,m+os.length,j+3,nm,en P name (j+2) (.ref cl)::g,.ref (n+5) :: .int 0 0 :: .int line 0::tb⟩
   let gw (j a:Nat):=fldO (.type "getset_descriptor") [.str "__weakref__" j,.ref cl,.builtin "ExceptionGroup.__weakref__", .none]
   match bs with
   | [] => fin [.type "object"] (.builtin "object.__new__") [.type "object"] none [en P "__dict__" (j1 + 1) (.ref (m + 3)), en P "__weakref__" (j1 + 3) (.ref (m + 4))]
       [fldO (.type "getset_descriptor") [.str "__dict__" j1,.ref cl,.builtin "function.__dict__", .builtin "function.__dict__#set"],gw (j1+2) 0] t3 (j1+4)
   |.ref a::_=>match mroOf t3 a with
    |(mro,nw)=>fin mro nw bs (some (.ref n)) [] [] (t3.set a (subTo cl)) j1
   |_=>fin [.type "ValueError", .type "Exception", .type "BaseException", .type "object"] (.builtin "ValueError.__new__") bs (some (.ref n)) [en P "__weakref__" (j1+1) (.ref (m+3))] [gw j1 0] t3 (j1+2)
def keysD(P:Params)(g:List DictEntry):List (Option PySem.Expr)->List PySem.Expr->Nat->List DictEntry
 |some (.Constant (.str x) _ _)::ks,.Name y _::vs,k=>en P x k ((look y g).getD .none)::keysD P g ks vs (k+1)
 |_,_,_=>[]
def put(P:Params)(x:Str)(v:aSQ)(t:BT)(n k:Nat)(nm:aSQ)(g:List DictEntry)(tb:List aSQ):S:=match decide (x="__name__")with
 |true=>⟨t,n,k+1,v,g,tb⟩
 |false=>⟨t,n,k+1,nm,en P x k v::g,tb⟩
def lay1(P:Params):Stmt->S->S
 |.FunctionDef name args body _ _ _ sc _ _ pos,⟨t,n,k,nm,g,tb⟩=>match layF name name args body sc pos.line n k nm with
  |(os,c,j)=>⟨insL os t n,n+os.length,j+1,nm,en P name j (.ref (c+1))::g,.ref c :: .int pos.col 0 :: .int pos.line 0::tb⟩
 |.ClassDef name bases _ body _ _ _ _ _ st pos,s=>layC P name bases body st pos.line s
 |.Assign [.Name x _] (.Constant (.str v) _ _) _,⟨t,n,k,nm,g,tb⟩=>put P x (.str v k) t n (k+1) nm g tb
 |.Assign [.Name x _] (.Constant (.int v) _ _) _,⟨t,n,k,nm,g,tb⟩=>put P x (.int v k) t n (k+1) nm g tb
 |.Assign [.Name x _] (.Dict ks vs _) _,⟨t,n,k,nm,g,tb⟩=>put P x (.ref n) (t.ins n (dicO (keysD P g ks vs k) vs.length)) (n+1) (k+2 * vs.length) nm g tb
 |_,s=>s
def lay(P:Params):List Stmt->S->S
 |[],s=>s
 |st::r,s=>lay P r (lay1 P st s)
noncomputable def s0(os:List Obj):S :=
 ⟨insL [tupO [],fldO .none [],codeO "<module>" "<module>" 182 1 0 0 false 11 .none .none .none 185,frmO 13 3 (.str "__main__" 164)] (insL os .nil 0) 11,15,187,.str "__main__" 164,[],[]⟩
def nameTo(nm:aSQ):List DictEntry->List DictEntry
 |e::es=>{e with val:=nm}::es
 |[]=>[]
def mainTo(nm:aSQ)(g:List DictEntry):Obj->Obj
 |⟨c,d,.dict es e,sl⟩=>⟨c,d,.dict (nameTo nm es.toList++g.reverse).toArray (e+g.length),sl⟩
 |o=>o
noncomputable def S.bt(s:S):BT:=(s.t.set 3 (mainTo s.nm s.g)).set 12 λ_=>fldO .none s.tb.reverse
def z0:Pos:=⟨0,0,0,0⟩
def an:Option aSQ:=some (.ref 6)
def ev(p:aSU):Env:={scope:=p.main.scope,locals:=mainNs,globals:=mainNs,cells:=[],code:=.ref 13,frame:=some 14}
noncomputable def cd(p:aSU):Code:=.body (behindTheImports p) (ev p)
noncomputable def go(tb:String->Option Builtin)(p:aSU)(w:aST)(F:Nat):List Stmt->SharedT->Code->Pos->Option (SharedT×Code×Pos)
 |[],s,c,q=>some (s,c,q)
 |st::l,s,c,q=>match segRunT tb p w 11 an 1 F s (pieceOf st (ev p) c q [topFrame z0])with
  |some (.next,s',c',q')=>go tb p w F l s' c' q'
  |_=>none
def ns(F N:Nat):List Stmt->Nat
 |[]=>N
 |_::l=>F+ns F N l
section
variable {tb:String->Option Builtin}{p:aSU}{w:aST}
def one{N:Nat}{s r:aSR}{rest:List Stmt}{c c':Code}{e:Env}{q:Pos}(h:segRun tb p w 11 an 1 n s (pieceOf st e c q [topFrame z0])=some (.next,s',c',q'))(k:topRun tb p w 11 an N s' (restOf rest e c' q' [topFrame z0])=some r):topRun tb p w 11 an (n+N) s (restOf (st::rest) e c q [topFrame z0])=some r:=by
 obtain⟨a,ha,hN⟩:=seg_top (B:=[topFrame z0]) (res:=id)
  (K':=λf=>match f with
   |.next=>(execs rest e).wrap doneF (leaveH e) id id
   |f=>doneF f)
  (H':=leaveH e) rfl n s (pieceOf st e c q [topFrame z0])
  ⟨(exec st e).wrap (λf=>match f with
   |.next=>(execs rest e).wrap doneF (leaveH e) id id
   |f=>doneF f) (leaveH e) id id,c,q,[topFrame z0]⟩ _ _ _ _ ⟨rfl,rfl,.inl ⟨rfl,rfl,_,rfl,rfl⟩⟩ h
 cases ha;unfold restOf;rw[execs_cons_wrap];exact hN N r k
theorem go_top'{F:Nat}:∀(l:List Stmt) {s s':SharedT}{c c':Code}{q q':Pos},go tb p w F l s c q=some (s',c',q')->∀{N:Nat}{r:aSR}{rest:List Stmt},topRun tb p w 11 an N s'.abs (restOf rest (ev p) c' q' [topFrame z0])=some r->topRun tb p w 11 an (ns F N l) s.abs (restOf (l++rest) (ev p) c q [topFrame z0])=some r
 |[],_,_,_,_,_,_,h,_,_,_,k=>by cases h;exact k
 |st::l,s,s',c,c',q,q',h,N,r,rest,k=>by
  unfold go at h;split at h
  . rename_i x e;exact one (segRun_of e) (go_top' l h k)
  . cases h
def fin2(s:aSR)(c:Code)(q:Pos):topRun tb p w 11 an 2 s (restOf [] (ev p) c q [topFrame z0])=some s:=by obtain⟨h,g,d,k,o⟩:=s;rfl
noncomputable def sh(P:Params)(S:S)(n k:Nat)(os:OsState):SharedT:=⟨S.bt,n,(boot_heap P).life,#[],boot_drawn,k,os⟩
noncomputable def sA(P:Params):S:=s0 (boot_heap P).objs.toList
def run_of{l:List Stmt}{c':Code}(hl:behindTheImports p=l)(pre:∀(w:aST) (os:OsState),topGo treeTable p w 11 an 12 ⟨boot_heap w.params,#[],boot_drawn,boot_toks,os⟩ (topStub p)=some ((sh w.params (sA w.params) 15 187 os).abs,⟨denote treeTable (cd p),cd p,z0,[topFrame z0]⟩))(blk:∀(w:aST) (s:aSR),segRun treeTable p w 11 an 1 1 s (blockOf l (ev p) (cd p) z0 [topFrame z0])=some (.next,s,cd p,z0))(run:∀(w:aST) (os:OsState),go treeTable p w 1000 l (sh w.params (sA w.params) 15 187 os) (cd p) z0=some (sh w.params (lay w.params l (sA w.params)) n k os,c',q')):∀(w:aST) (os:OsState),topRun treeTable p w 11 an (12+(1+ns 1000 2 l)) ⟨boot_heap w.params,#[],boot_drawn,boot_toks,os⟩ (topStub p)=some (sh w.params (lay w.params l (sA w.params)) n k os).abs:=by
 intro w os;refine go_top (pre w os) ?_;unfold cd;rw[hl];refine piece_block (n:=1) (by have:=blk w (sh w.params (sA w.params) 15 187 os).abs;unfold cd at this;rw[hl]at this;exact this) ?_
 have:=go_top' l (run w os) (rest:=[]) (fin2 _ _ _);rw[aO7]at this;unfold cd at this;rw[hl]at this;exact this
end
noncomputable def KK(l:List Stmt)(as:List Addr)(P:Params):Frag:=as.map λa=>(a,((lay P l (sA P)).bt.get a).getD default)
def KK_e(l:List Stmt)(as:List Addr)(P:Params):as=(KK l as P).map (·.1):=by unfold KK;rw[aR2];exact(List.map_id as).symm
noncomputable def hk(l:List Stmt)(as:List Addr):Hook:=kHook (KK l as) as (KK_e l as)
noncomputable def H1(l:List Stmt)(n:Nat)(P:Params):Heap:=absHeap (lay P l (sA P)).bt n (boot_heap P).life
noncomputable def S1(l:List Stmt)(n k:Nat)(P:Params)(os:OsState):aSR:=⟨H1 l n P,#[],boot_drawn,k,os⟩
def bnd(n:Str):Stmt->List Str
 |.FunctionDef x ..=>if x==n then[]else[x]
 |.ClassDef x ..=>[x]
 |.Assign [.Name x _] _ _=>if x == "__name__" then[]else[x]
 |_=>[]
def los(l:List Stmt):List Str:=l.flatMap (bnd "law")
def vw(p:aSU):aSU:={ p with main:={ p.main with body:=p.main.body.filter λst=>match st with|.FunctionDef x ..=>x == "law" |_=>false } }
def xt(r:OpenRow)(s:aSR):Bool:=xlAt (vw r.prog) [] s&&recOk r.toRowW.records s
def size1(w:aST):((boot_heap w.params).isNs mainGlobals&&(#[]:Array GenState).size==0,(boot_heap w.params).objs.size,(boot_heap w.params).nsMap mainGlobals "__annotations__")=(true,11,an):=by kernel_rfl
end Tp
def Tp.twA:Prod.fst (true,(@Tp.go,@Tp.lay,@Tp.sh,@Tp.sA,@Tp.cd,@Tp.ev,@Tp.S.bt,@Tp.KK,@Tp.hk,@Tp.H1,@Tp.S1,@Tp.los,@Tp.vw,@Tp.xt))=true:=by k_qdec
namespace D3
open PySem.Calls
def rS(q:Str):Str:=q ++ ".<locals>."
def cdT:aSQ->aSQ->aSQ->aSQ->aSQ->aSQ->Option Addr
 |.type "code", .ref T,.str _ _,.int _ _,.bool _,.int _ _=>some T
 |_,_,_,_,_,_=>none
def gD:Obj->Option (Str×Option Addr)
 |⟨cl,_,.fields vs,_⟩=>match vs.toList with
  |_ :: .str q _::_=>some (q,cdT cl (vs.getD 11 .none) (vs.getD 18 .none) (vs.getD 7 .none) (vs.getD 9 .none) (vs.getD 10 .none))
  |_=>none
 |_=>none
def tq(b:Addr):Fg->Option Str
 |[]=>none
 |(_,o)::r=>match gD o with
  |some (q,some T)=>if T=b then some q else tq b r
  |_=>tq b r
def rT:Option Obj->Bool
 |some ⟨.none,none,.fields vs,sl⟩=>vs.size==0&&sl.size==0
 |_=>false
noncomputable def nL(K Kf:Fg):Bool:=K.all λ(c,o)=>match gD o with
 |none=>true
 |some (q,some T)=>tq T K==some q&&(K.lookup T).isNone&&rT (Kf.lookup T)&&c != T
 |some (_,none)=>false
def aLS{o:Option Obj}(h:rT o=true):o=some ⟨.none,none,.fields #[],#[]⟩:=by
 unfold rT at h;split at h
 . rename_i vs sl;simp only[aPY,aQS]at h;obtain rfl:vs = #[]:=aR3 h.1;obtain rfl:sl = #[]:=aR3 h.2;rfl
 . cases h
def yP{o:Obj}{T:Addr}(h:gD o=some (q,some T)){c:Addr}(e:hp.get? c=some o)(ne:c≠T):W.CodeHd hp c T:=by
 obtain⟨cl,od,dt,sl⟩:=o;unfold gD at h;split at h
 . rename_i cl' od' vs sl' he;cases he;split at h
   . rename_i a q' t r hv;have h1:=aN5 h;have h2:cdT cl (vs.getD 11 .none) (vs.getD 18 .none) (vs.getD 7 .none) (vs.getD 9 .none) (vs.getD 10 .none)=some T:=congrArg Prod.snd h1;unfold cdT at h2;split at h2
     . rename_i e1 e2 e3 e4 e5;cases h2;refine⟨_,vs,_,_,_,_,_,_,_,e,rfl,rfl,?_,e1,e2,e3,e4,e5,ne⟩;rw[Array.getD_eq_getD_getElem?]at e1;cases q:vs[11]? with
       |none=>rw[q]at e1;cases e1
       |some v=>rw[q]at e1;exact congrArg some e1
     . cases h2
   . cases h
 . cases h
def aLT{cd:aSQ}(h:W.codeIn K cd q=true):∃c o,cd=.ref c/\K.lookup c=some o/\∃x,gD o=some (q,x):=by
 unfold W.codeIn at h;split at h
 . rename_i c;split at h
   . rename_i e;split at h
     . rename_i a n t r hv;refine⟨c,_,rfl,e,?_⟩;rw[aQS]at h;subst h;unfold gD;dsimp only;rw[hv];exact⟨_,rfl⟩
     . cases h
   . cases h
 . cases h
theorem yQ{c:Addr}{o:Obj}:∀{K:Fg},K.lookup c=some o->(c,o)∈K
 |[],h=>by cases h
 |(b,u)::r,h=>by
  rw[aQ8]at h;split at h
  . rename_i hb;cases h;have hb:=aQS.mp hb;subst hb;exact mcs
  . exact mcm (yQ h)
theorem rV{b:Addr}{q:Str}:∀{K:Fg},tq b K=some q->∃c o,(c,o)∈K/\gD o=some (q,some b)
 |[],h=>by cases h
 |(c,o)::r,h=>by
  unfold tq at h;split at h
  . rename_i q' T e;split at h
    . rename_i ht;cases h;subst ht;exact⟨c,o,mcs,e⟩
    . obtain⟨c',o',m,x⟩:=rV h;exact⟨c',o',mcm m,x⟩
  . obtain⟨c',o',m,x⟩:=rV h;exact⟨c',o',mcm m,x⟩
structure TabF(K Kf:Fg):Prop where
 all:∀c o,(c,o)∈K->∀q x,gD o=some (q,x)->∃T,x=some T/\tq T K=some q/\K.lookup T=none/\Kf.lookup T=some ⟨.none,none,.fields #[],#[]⟩/\c≠T
def aLU{Kf:Fg}(h:nL K Kf=true):TabF K Kf:=⟨λc o m q x e=>by
 have h1:=aQU.mp h (c,o) m;dsimp only at h1;rw[e]at h1;cases x with
 |none=>cases h1
 |some T =>
  dsimp only at h1;simp only[aPY,aQS,aRN,aRL]at h1;exact⟨T,rfl,h1.1.1.1,h1.1.1.2,aLS h1.1.2,h1.2⟩⟩
def aLV{w:aST}{Kf:Fg}{mb:SOV}{fa a:Addr}{sp:Sp}{s₁:aSR}{vs:List aSQ}{ns:List Int}(KX:Kf.In s₁.heap)(sub:∀b o,K.lookup b=some o->Kf.lookup b=some o)(tb:TabF K Kf)(nd:∀b o,(b,o)∈K->K.lookup b=some o)(hns:s₁.heap.Ns mainGlobals mg)(hb:s₁.heap.Ns builtinsNs mb)(hbb:∀x:Str,x ≠ "__name__" -> mb x=bootBuiltins x)(hlim:s₁.heap.NoLimit)(hbm:∃bm ob,mg "__builtins__" = some (.ref bm)/\bm≠builtinsNs/\s₁.heap.get? bm=some ob/\ob.cls=.type "module" /\ ob.dict=some builtinsNs/\ob.data=.plain)(hg:s₁.gens = #[])(ha:s₁.heap.get? a=some { cls:=.type "list", data:=.seq vs.toArray })(hi:IntsAre vs ns)(hl:ns.length<=sizeLine)(hr:bL k callerA)(F:∀base:Heap,K.In base->base.Ns mainGlobals mg->bM P w K mg base CX k fa fd [x] sp)(hbind:∀(s:aSR) (u:aSQ),BindsTo s fd ⟨[u],[]⟩ [(x,u)])(hsp:∀H:Hp,SqL K H a (ns.map V.int)->sp [.ref a] H (λv _=>v=.bl true) λ_ _ _=>False)(hCX:∀H e s',CX [] H s₁ (λ_ _ _=>False) e s'->False):codeAny (model P w) callerA (.call (.ref fa) ⟨[.ref a],[]⟩) (λr s'=>r=.ok (.ret (.bool true))/\OldK s₁.heap s'.heap/\s'.os=s₁.os/\AllBare s'.gens) s₁:=by
 have KX':K.In s₁.heap:=λb o e=>KX b o (sub b o e);have rv:=aIV hi;have lenV:=hi.length
 let sob:Obj:={ cls:=.type "list", data:=.seq vs.toArray }
 let H:Hp:=λb=>match tq b K with
  |some q=>some (.tbl #[.str (rS q) 0])
  |none=>if b=a/\K.lookup a=none then some (.frz sob (.lst (ns.map V.int)))else none
 have tabAt:∀{b:Addr}{q:Str},tq b K=some q->K.lookup b=none/\s₁.heap.get? b=some ⟨.none,none,.fields #[],#[]⟩/\isCodeTable s₁.heap b:=λ{b q} e=>by obtain⟨c,o,m,x⟩:=rV e;obtain⟨T,e1,_,e3,e4,e5⟩:=tb.all c o m q _ x;cases e1;obtain⟨o',vs',_,_,_,_,_,_,_,g1,g2,g3,g4,_⟩:=yP x (KX' c o (nd c o m)) e5;exact⟨e3,KX _ _ e4,c,o',vs',g1,g2,g3,g4⟩
 have nota:tq a K=none:=by
  cases e:tq a K with
  |none=>rfl
  |some q=>have:=(tabAt e).2.1;rw[ha]at this;cases this
 have Htab:∀{b:Addr}{q:Str},tq b K=some q->H b=some (.tbl #[.str (rS q) 0]):=λ{b q} e=>by
  show(match tq b K with|some q=>_|none=>_)=_
  rw[e]
 have Hno:∀{b:Addr},tq b K=none->H b=if b=a/\K.lookup a=none then some (.frz sob (.lst (ns.map V.int)))else none:=λ{b} e=>by
  show(match tq b K with|some q=>_|none=>_)=_
  rw[e]
 have HK:∀{b:Addr}{o:Obj},K.lookup b=some o->H b=none:=λ{b o} e=>by
  cases q:tq b K with
  |some x=>have:=(tabAt q).1;rw[e]at this;cases this
  |none=>rw[Hno q,if_neg];rintro⟨rfl,z⟩;rw[e]at z;cases z
 have noD:∀{b:Addr}{o:Obj}{es:Array DictEntry}{ep:Nat},s₁.heap.get? b=some o->o.data=.dict es ep->H b=none:=λ{b o es ep} e d=>by
  cases q:tq b K with
  |some x=>have:=(tabAt q).2.1;rw[e]at this;cases this;cases d
  |none=>rw[Hno q,if_neg];rintro⟨rfl,z⟩;rw[ha]at e;cases e;cases d
 have noM:∀{b:Addr}{o:Obj},s₁.heap.get? b=some o->o.cls=.type "module" -> H b=none:=λ{b o} e d=>by
  cases q:tq b K with
  |some x=>have:=(tabAt q).2.1;rw[e]at this;cases this;cases d
  |none=>rw[Hno q,if_neg];rintro⟨rfl,z⟩;rw[ha]at e;cases e;injection d with d;exact absurd d (by decide)
 have hok:HOk P w H s₁.heap:=λb u e=>by
  cases q:tq b K with
  |some x=>rw[Htab q]at e;cases e;refine⟨rS x,#[],rfl,(tabAt q).2.1,trivial,λz cv f=>?_⟩;cases f
  |none =>
   rw[Hno q]at e;split at e
   . rename_i hc;cases e;obtain⟨rfl,_⟩:=hc;exact⟨ha,by rw[aPI];exact hl,vs,_,rv,ha⟩
   . cases e
 have hS:SqL K H a (ns.map V.int):=by
  cases hk:K.lookup a with
  |some o=>have e:=KX' a o hk;rw[ha]at e;cases e;exact .inr ⟨_,vs.toArray,_,hk,rfl,rfl,rfl,by rw[aO4,lenV];exact hl,by simpa using rv⟩
  |none=>exact .inl (.inr ⟨sob,by rw[Hno nota,if_pos ⟨rfl,hk⟩]⟩)
 have nsK:∀{b:Addr}{m:SOV},s₁.heap.Ns b m->(fB s₁.heap H).Ns b m:=λ{b m} ⟨o,es,ep,e,d,r⟩=>⟨o,es,ep,oR e (noD e d),d,r⟩;have hKb:K.In (fB s₁.heap H):=λb o e=>oR (KX' b o e) (HK e);have hM:Mod K mg (fB s₁.heap H):=⟨hKb,nsK hns,⟨mb,nsK hb,hbb⟩,let⟨mc,h1,h2⟩:=hlim;⟨mc,nsK h1,h2⟩,let⟨bm,ob,b1,b2,b3,b4,b5,b6⟩:=hbm;⟨bm,ob,b1,b2,oR b3 (noM b3 b4),b4,b5,b6⟩⟩
 have hT:iO K (fB s₁.heap H) H:=λcd q e=>by obtain⟨c,o,rfl,lk,y,hy⟩:=aLT e;obtain⟨T,rfl,e2,_,_,e5⟩:=tb.all c o (yQ lk) q y hy;exact⟨c,T,_,rfl,yP hy (hKb c o lk) e5,Htab e2,rfl⟩
 have e0:iR P w K mg (fB s₁.heap H) callerA [] s₁ H:=⟨rfl,hM,λb o e=>aCD e,Nat.le_of_eq (aCC _ _),trivial,λb hb=>absurd (show b∈([]:List Addr)from hb) (by simp),hok,.of_eq hg,hT⟩
 refine codeAny_mono ((F _ hKb (nsK hns)).run callerA [] s₁ H ⟨[.ref a],[]⟩ [.ref a] [.ref a] _ _ hr e0 (hbind s₁ (.ref a)) (.cons rfl .nil) (hsp H hS)) λr s' h=>?_;cases r with
 |error e=>exact(hCX H e s' h).elim
 |ok fl =>
  cases fl with
  |next=>exact False.elim h
  |brk=>exact False.elim h
  |cont=>exact False.elim h
  |ret u =>
   obtain⟨v,H',os,bare,un,hok',r',q⟩:=h;have q':v=.bl true:=q;subst q';obtain rfl:u=Value.bool true:=r';have was:∀b o,s₁.heap.get? b=some o->asItWas s₁.heap s'.heap b o/\∃o',s'.heap.get? b=some o':=λb o e=>by
    cases q:tq b K with
    |some x=>obtain⟨more,z⟩:=un.tbls b _ (Htab q);obtain⟨_,m,_,g,_⟩:=hok' b _ z;obtain⟨_,t2,t3⟩:=tabAt q;rw[e]at t2;cases t2;exact⟨.inr (.inl ⟨t3,rfl,#[],m,rfl,by rw[g];simp⟩),_,g⟩
    |none =>
     have hn:=Hno q;split at hn
     . rename_i hc;obtain⟨rfl,_⟩:=hc;have z2:=un.frzs _ _ _ hn;obtain⟨e2,_⟩:=hok' _ _ z2;rw[ha]at e;cases e;exact⟨.inl e2,_,e2⟩
     . have:=un.keep b o e hn (by intro z;exact absurd (show b∈([]:List Addr)from z) (by simp)) (by simp)
       exact⟨.inl this,o,this⟩
   exact⟨rfl,⟨λb o e=>(was b o e).1,λb o e=>(was b o e).2⟩,os,bare⟩
def aLW{l:W.OpenLaw}{q:aSU}{d:DefRec}{K Kf:Params->Fg}{CX:aST->CXT}{sp:aST->Sp}(hn:l.most=some n)(hn2:n<=sizeLine)(hdf:d.params.defaults=[])(hr:bL k callerA)(hY:∀(w:aST) (h:Heap),YP w h->(Kf w.params).In h)(sub:∀P b o,(K P).lookup b=some o->(Kf P).lookup b=some o)(nd:∀P b o,(b,o)∈K P->(K P).lookup b=some o)(tb:∀P,nL (K P) (Kf P)=true)(F:∀(w:aST) (mg:SOV) (fa:Addr) (h:Heap),(K w.params).In h->h.Ns mainGlobals mg->mg d.name=some (.ref fa)->∃fd:FuncData,(∀(s:aSR) (u:aSQ),BindsTo s fd ⟨[u],[]⟩ [(x,u)])/\∀base:Heap,(K w.params).In base->base.Ns mainGlobals mg->bM l.prog w (K w.params) mg base (CX w) k fa fd [x] (sp w))(hsp:∀(w:aST) (H:Hp) (a:Addr) (ns:List Int),ns.length<=n->SqL (K w.params) H a (ns.map V.int)->sp w [.ref a] H (λv _=>v=.bl true) λ_ _ _=>False)(hCX:∀(w:aST) (H:Hp) (s:aSR) (e:aSQ) (s':aSR),CX w [] H s (λ_ _ _=>False) e s'->False):W.WalkO q loose XP YP l.row.toRowW d [] (λf vs=>PySem.call f vs):=by refine Att.aEP hn hdf λw s₀ s₁ mg mb fa o pm cd doc a vs ns G Y ho hd hcd hmg hobj hints hlen hg=>?_;have KX:=hY w _ Y;obtain⟨fd,hb,hF⟩:=F w mg fa _ (λb o e=>KX b o (sub _ b o e)) G.T.g hmg;exact aLV KX (sub w.params) (aLU (tb w.params)) (nd w.params) G.T.g G.T.b G.T.builtins G.T.nolimit G.T.bmain hg hobj hints (aOE hlen hn2) hr hF hb (λH hS=>hsp w H a ns hlen hS) λH e s'=>hCX w H s₁ e s'
noncomputable def adB(K:Fg)(x:Str):Option Addr:=match W.nsIn K mainGlobals x with|some (some (.ref a))=>some a|_=>none
def eB{a:Addr}(h:adB K x=some a):W.nsIn K mainGlobals x=some (some (.ref a)):=by
 unfold adB at h;split at h
 . rename_i b e;cases h;exact e
 . cases h
noncomputable def isKey(key:Str):Addr×Obj->Bool
 |(_,⟨.type t,_,.func fd,_⟩)=>t == "function" && fd.qualname==key
 |_=>false
noncomputable def faK(K:Fg)(key:Str):Addr:=match K.find? (isKey key)with|some p=>p.1|none=>0
noncomputable def stOf(fd:FuncData)(b:List Stmt):Stmt:=.FunctionDef fd.name fd.params b [] none [] fd.scope none fd.name ⟨0,0,0,0⟩
noncomputable def parB(p:Arguments)(ps:List Str):Bool:=p.posonlyargs.isEmpty&&(p.args.map (·.arg)==ps)&&p.vararg.isNone&&p.kwonlyargs.isEmpty&&p.kwarg.isNone&&decide ps.Nodup
noncomputable def fdB(K:Fg)(nm:Option Str)(key:Str)(a:Addr)(ps:List Str)(f:Stmt->Bool)(fd:FuncData)(b:List Stmt):Bool :=
 (nm.getD fd.name==fd.name)&&((fd.qualname==key)&&(fd.globals==mainGlobals&&(fd.closure.isEmpty&&((fd.defaults == .none)&&(fd.builtins==builtinsNs&&(W.codeIn K fd.code key&&(W.keepIn K (.ref a)&&(parB fd.params ps&&f (stOf fd b)))))))))
noncomputable def jK(K:Fg)(nm:Option Str)(key:Str)(a:Addr)(ps:List Str)(f:Stmt->Bool):Bool:=match K.lookup a with
 |some ⟨_,_,.func fd,_⟩=>(match fd.body with
  |.stmts b=>fdB K nm key a ps f fd b
  |_=>false)
 |_=>false
def rW{nm:Option Str}{a:Addr}{f:Stmt->Bool}(h:jK K nm key a ps f=true):∃name st fd,Fun K name key st a fd/\cV K fd ps []/\f st=true/\nm.getD name=name/\∀us:List aSQ,us.length=ps.length->bindArgs fd ⟨us,[]⟩=pure (ps.zip us):=by
 unfold jK at h;split at h
 . rename_i oc od fd sl el;split at h
   . rename_i b eb;unfold fdB at h;simp only[aPY]at h;obtain⟨h1,h2,h3,h4,h5,h6,h7,h8,h9,h10⟩:=h;obtain⟨name,qualname,params,body,scope,globals,closure,defaults,kwdefaults,doc,pm,an,code,ct,bl⟩:=fd;dsimp only at *;obtain rfl:=eb;obtain rfl:=aQS.mp h2;obtain rfl:=aQS.mp h3;obtain rfl:=aRK.mp h4;obtain rfl:=aQS.mp h5;obtain rfl:=aQS.mp h6;unfold parB at h9;simp only[aPY,aRK,aQS,aRL,aQH]at h9;obtain⟨⟨⟨⟨⟨p1,p2⟩,p3⟩,p4⟩,p5⟩,p6⟩:=h9;have bp:=xK (fd:=W.fnOf name qualname params b scope .none kwdefaults doc pm an code ct) p1 p2 p3 p4 p5 rfl p6;exact⟨name,_,_,aEQ (st:=stOf ⟨name,qualname,params,.stmts b,scope,mainGlobals,[],.none,kwdefaults,doc,pm,an,code,ct,builtinsNs⟩ b) el h7 h8,.all bp,h10,aQS.mp h1,bp⟩
   . cases h
 . cases h
noncomputable def gvB(K:Fg)(x:Str):GV->Bool
 |.con (.s y)=>(match W.nsIn K mainGlobals x with|some (some (.str z _))=>z==y|_=>false)
 |.con (.i n)=>(match W.nsIn K mainGlobals x with|some (some (.int z _))=>z==n|_=>false)
 |.con (.t _)=>true
 |.no=>W.nsIn K mainGlobals x==some none
 |.fn _=>W.nsIn K mainGlobals x==some (some (.ref (faK K x)))
 |.cls=>true
noncomputable def nM(K:Fg)(C:Addr):Bool:=W.plainGet K C Str.empty&&(W.hasDictIn K C&&(W.plainOver K C&&W.findIn K (.ref C) "__setattr__" == some (some (.builtin "object.__setattr__"))))
def yR{C:Addr}(h:nM K C=true):Cls K C:=by unfold nM at h;simp only[aPY,aQS]at h;exact⟨h.1,h.2.1,h.2.2.1,h.2.2.2⟩
noncomputable def rX(K:Fg)(C:Addr)(x:Str×Str×Nat):Bool:=W.findIn K (.ref C) x.1==some (some (.ref (faK K x.2.1)))&&(W.isFn K (.ref (faK K x.2.1))&&W.keepIn K (.ref (faK K x.2.1)))
noncomputable def ciB(K:Fg)(i:CI):Bool:=match adB K i.name with
 |some C=>nM K C&&(i.meths.all (rX K C)&&i.flds.all λf=>W.findIn K (.ref C) f==some none)
 |none=>false
noncomputable def mk0B(K:Fg)(c:Str):Bool:=match adB K c with
 |some C=>W.makesIn K C&&(W.findIn K (.ref C) "__init__" == some (some (.builtin "object.__init__"))&&W.keepIn K (.ref C))
 |none=>false
noncomputable def clB(K:Fg)(C:Addr):Bool:=W.findIn K (.ref C) "__class__" == some (some (.builtin "object.__class__"))&&(W.specialIn K (.builtin "object.__class__") "__get__" == some (some (.builtin "getset_descriptor.__get__"))&&(W.takesIn K (.builtin "object.__class__")==some true&&W.mroIn K C (.type "object")==some true))
noncomputable def isoB(K:Fg)(cl:List CI)(c:Str):Bool:=match adB K c with
 |some C=>["NoneType", "bool", "int", "str", "tuple", "list", "dict"].all (λt=>W.kitOne K (.type t) (.ref C)==some false)&&cl.all λi=>match adB K i.name with
  |some C'=>nM K C'&&(clB K C'&&W.kitOne K (.ref C') (.ref C)==some (i.ups.contains c))
  |none=>false
 |none=>false
noncomputable def inB(K:Fg)(g:MG)(x:Str×ID):Bool:=match adB K x.2.c with
 |some C=>W.makesIn K C&&(W.findIn K (.ref C) "__init__" == some (some (.ref (faK K x.1)))&&(W.isFn K (.ref (faK K x.1))&&(W.keepIn K (.ref C)&&jK K none x.1 (faK K x.1) x.2.ps (λst=>idOk g st x.2))))
 |none=>false
noncomputable def xtB(K:Fg)(x:(Str×Str)×Bool):Bool:=match adB K x.1.1,adB K x.1.2 with
 |some C,some C2=>W.mroIn K C2 (.type "BaseException")==some true&&(W.typeIn K (.ref C2)==some (.type "type")&&W.mroIn K C (.ref C2)==some x.2)
 |_,_=>false
noncomputable def xcB(K:Fg)(C:Addr):Bool:=W.findIn K (.ref C) "__getattribute__" == some (some (.builtin "BaseException.__getattribute__"))&&(W.findIn K (.ref C) "__getattr__" == some none&&(W.mroIn K C (.type "BaseException")==some true&&clB K C))
noncomputable def cvB(K:Fg)(n:Str):Option V:=match W.nsIn K mainGlobals n with
 |some (some (.ref C))=>some (.ref C)
 |some none=>if n == "__name__" then none else(match bootBuiltins n with|some (.type T)=>some (.ty T)|_=>none)
 |_=>none
noncomputable def xiB(K:Fg)(x:(Str×Str)×Bool):Bool:=match adB K x.1.1,cvB K x.1.2 with
 |some C,some cv=>xcB K C&&W.kitOne K (.ref C) (xI cv)==some x.2
 |_,_=>false
noncomputable def rzB(K:Fg)(c:Str):Bool:=match adB K c with
 |some C=>W.excIn K C vErr "ValueError.__new__"
 |none=>false
noncomputable def gfB(K:Fg)(g:MG)(t:TB):Bool :=
 g.G.all (λx=>gvB K x.1 x.2)&&(gOk g.G t.T&&(t.T.all (λx=>jK K (if x.1 == "law" then some "law" else none) x.1 (faK K x.1) x.2.ps (λst=>f9 g x.1 st x.2))&&(t.I.all (inB K g)&&(g.mk0.all (mk0B K)&&(yB g.mki t.I&&(g.iso.all (isoB K t.cl)&&(t.cl.all (ciB K)&&(mtOk t.cl t.T&&(t.xt.all (xtB K)&&(t.xi.all (xiB K)&&(g.xcs.all (rzB K)&&(g.xns.all (λn=>(cvB K n).isSome)&&(rD g t.T&&(rF g t.T&&rE g t.T))))))))))))))
section
variable {w:aST}(Xi:K.In h)(G:h.Ns mainGlobals mg)
include Xi G
theorem yS:∀{l:List (Str×GV)},(∀x tb,(x,GV.con (.t tb))∈l->jB w K mg x tb)->l.all (λx=>gvB K x.1 x.2)=true->k6 w K mg (faK K) l
 |[],_,_=>trivial
 |(x,v)::l,ht,b=>by
  rw[aP2,aPY]at b;refine⟨?_,yS (λx tb hx=>ht x tb (mcm hx)) b.2⟩;have b:=b.1;dsimp only at b;cases v with
  |con c =>
   cases c with
   |s y =>
    have b:(match W.nsIn K mainGlobals x with|some (some (.str z _))=>z==y|_=>false)=true:=b
    split at b
    . rename_i z t e;cases aQS.mp b;exact⟨t,aR4 Xi G e⟩
    . cases b
   |i y =>
    have b:(match W.nsIn K mainGlobals x with|some (some (.int z _))=>z==y|_=>false)=true:=b
    split at b
    . rename_i z t e;cases aQS.mp b;exact⟨t,aR4 Xi G e⟩
    . cases b
   |t tb=>exact ht x tb mcs
  |fn n=>exact aR4 Xi G (aQS.mp b)
  |no=>exact W.mg_none_of Xi G (aQS.mp b)
  |cls=>trivial
def yT{n:Str}{cv:V}(e:cvB K n=some cv):m8 mg n cv:=by
 unfold cvB at e;split at e
 . rename_i C q;cases e;exact .inl ⟨C,aR4 Xi G q,rfl⟩
 . rename_i q;split at e
   . cases e
   . rename_i hn;split at e
     . rename_i T hb;cases e;exact .inr ⟨W.mg_none_of Xi G q,by simpa using hn,T,hb,rfl⟩
     . cases e
 . cases e
end
theorem yU{K:Fg}{g:MG}:∀{l:List (Str×FD)},l.all (λx=>jK K (if x.1 == "law" then some "law" else none) x.1 (faK K x.1) x.2.ps (λst=>f9 g x.1 st x.2))=true->k4 K g (faK K) l
 |[],_=>trivial
 |(x,d)::l,b=>by rw[aP2,aPY]at b;obtain⟨name,st,fd,F,hb,ok,_,_⟩:=rW b.1;exact⟨⟨name,st,fd,F,hb,ok⟩,yU b.2⟩
theorem yV{K:Fg}{C:Addr}:∀{l:List (Str×Str×Nat)},l.all (rX K C)=true->jH K (faK K) C l
 |[],_=>trivial
 |(m,key,n)::l,b=>by rw[aP2,aPY]at b;have b1:=b.1;unfold rX at b1;simp only[aPY,aQS]at b1;exact⟨⟨b1.1,b1.2.1,b1.2.2⟩,yV b.2⟩
theorem yW{K:Fg}{C:Addr}:∀{l:List Str},l.all (λf=>W.findIn K (.ref C) f==some none)=true->jI K C l
 |[],_=>trivial
 |f::l,b=>by rw[aP2,aPY]at b;exact⟨aQS.mp b.1,yW b.2⟩
theorem yX{K:Fg}:∀{l:List CI},l.all (ciB K)=true->k7 K (faK K) l
 |[],_=>trivial
 |i::l,b=>by
  rw[aP2,aPY]at b;refine⟨?_,yX b.2⟩;have b:=b.1;unfold ciB at b;split at b
  . rename_i C e;simp only[aPY]at b;exact⟨C,eB e,yR b.1,yV b.2.1,yW b.2.2⟩
  . cases b
section
variable {w:aST}(Xi:K.In h)(G:h.Ns mainGlobals mg)
include Xi G
theorem yY{g:MG}:∀{l:List (Str×ID)},l.all (inB K g)=true->k5 K mg g l
 |[],_=>trivial
 |(x,d)::l,b=>by
  rw[aP2,aPY]at b;refine⟨?_,yY b.2⟩;have b:=b.1;unfold inB at b;split at b
  . rename_i C e;simp only[aPY,aQS]at b;obtain⟨b1,b2,b3,b4,b5⟩:=b;obtain⟨name,st,fd,F,hb,ok,_,_⟩:=rW b5;exact⟨name,st,C,_,fd,eB e,aR4 Xi G (eB e),⟨b1,b2,b3,b4⟩,F,hb,ok⟩
  . cases b
omit Xi G in
theorem rY{c x:Str}{v:Bool}:∀{l:List ((Str×Str)×Bool)},l.lookup (c,x)=some v->((c,x),v)∈l
 |[],e=>by cases e
 |(y,b)::l,e=>by
  rw[aQ8]at e;split at e
  . rename_i hb;cases e;rw[<- aQS.mp hb];exact mcs
  . exact mcm (rY e)
def xt_of{l:List ((Str×Str)×Bool)}(b:l.all (xtB K)=true):qF K mg (λc x=>l.lookup (c,x)):=λc x v e=>by
 have b:=aQU.mp b ((c,x),v) (rY e);unfold xtB at b;split at b
 . rename_i C C2 e1 e2;simp only[aPY,aQS]at b;exact⟨C,C2,eB e1,aR4 Xi G (eB e1),aR4 Xi G (eB e2),b.1,b.2.1,b.2.2⟩
 . cases b
def xi_of{l:List ((Str×Str)×Bool)}(b:l.all (xiB K)=true):qG K mg (λc x=>l.lookup (c,x)):=λc x v e=>by
 have b:=aQU.mp b ((c,x),v) (rY e);unfold xiB at b;split at b
 . rename_i C cv e1 e2;unfold xcB clB at b;simp only[aPY,aQS]at b;obtain⟨⟨b1,b2,b3,b4,b5,b6,b7⟩,b8⟩:=b;exact⟨C,cv,eB e1,⟨b1,b2,b4,b3,b7,b5,b6⟩,yT Xi G e2,b8⟩
 . cases b
def gf_of{g:MG}{t:TB}(b:gfB K g t=true)(ht:∀x tb,(x,GV.con (.t tb))∈g.G->jB w K mg x tb):GF w K mg g t (faK K):=by
 unfold gfB at b;simp only[aPY]at b;obtain⟨b1,b2,b3,b4,b5,b6,b7,b8,b9,b10,b11,b12,b13,b14,b15,b16⟩:=b;refine⟨yS Xi G ht b1,b2,yU b3,yY Xi G b4,λc hc=>?_,b6,λc hc=>?_,yX b8,b9,xt_of Xi G b10,xi_of Xi G b11,λc hc=>?_,λn hn=>?_,b14,b15,b16,λf d e hd=>?_,λf a b h hz=>?_⟩
 . have b:=aQU.mp b5 c hc;unfold mk0B at b;split at b
   . rename_i C e;simp only[aPY,aQS]at b;exact⟨C,eB e,aR4 Xi G (eB e),b.1,b.2.1,b.2.2⟩
   . cases b
 . have b:=aQU.mp b7 c hc;unfold isoB at b;split at b
   . rename_i C e;rw[aPY]at b;refine⟨C,aR4 Xi G (eB e),λt ht=>aQS.mp (aQU.mp b.1 t ht),λi hi=>?_⟩;have b:=aQU.mp b.2 i hi;split at b
     . rename_i C' e';unfold clB at b;simp only[aPY,aQS]at b;obtain⟨c1,⟨c2,c3,c4,c5⟩,c6⟩:=b;exact⟨C',eB e',yR c1,c2,c3,c4,c5,c6⟩
     . cases b
   . cases b
 . have b:=aQU.mp b12 c hc;unfold rzB at b;split at b
   . rename_i C e;exact⟨C,aR4 Xi G (eB e),b⟩
   . cases b
 . have b:=aQU.mp b13 n hn;cases e:cvB K n with
   |none=>rw[e]at b;cases b
   |some cv=>exact⟨cv,yT Xi G e⟩
 . obtain⟨n,l⟩:=aK3 b16 e hd;have b:=aQU.mp b1 _ (aPB l);have b:(W.nsIn K mainGlobals f==some (some (.ref (faK K f))))=true:=b;exact aQS.mp b
 . obtain⟨d,_,_,_,_,_,l⟩:=aK4 b15 hz;have b:=aQU.mp b1 _ (aPB l);have b:(W.nsIn K mainGlobals f==some (some (.ref (faK K f))))=true:=b;exact aQS.mp b
end
noncomputable def rZ(K:Fg)(g:MG)(t:TB):Bool:=gfB K g t&&W.nsIn K mainGlobals "law" == some (some (.ref (faK K "law")))
theorem yZ{x:Str}{d:FD}:∀{l:List (Str×FD)},l.lookup x=some d->(x,d)∈l
 |[],e=>by cases e
 |(y,b)::l,e=>by
  rw[aQ8]at e;split at e
  . rename_i hb;cases e;rw[<- aQS.mp hb];exact mcs
  . exact mcm (yZ e)
noncomputable def noT(g:MG):Bool:=g.G.all λx=>match x.2 with|.con (.t _)=>false|_=>true
def aLX{g:MG}{K:Params->Fg}(b:noT g=true)(w:aST)(mg:SOV)(h:Heap)(_:(K w.params).In h)(_:h.Ns mainGlobals mg)(x:Str)(tb:List (Str×Str))(hm:(x,GV.con (.t tb))∈g.G):jB w (K w.params) mg x tb:=by have:=aQU.mp b _ hm;cases this
def walkG{l:W.OpenLaw}{q:aSU}{d:DefRec}{K Kf:Params->Fg}{g:MG}{t:TB}{kk:Nat}{e:FD}(hn:l.most=some 63)(hdf:d.params.defaults=[])(hdn:d.name="law")(hY:∀(w:World) (h:Heap),YP w h->(Kf w.params).In h)(sub:∀P b o,(K P).lookup b=some o->(Kf P).lookup b=some o)(nd:∀P b o,(b,o)∈K P->(K P).lookup b=some o)(tb:∀P,nL (K P) (Kf P)=true)(b:∀P,rZ (K P) g t=true)(ht:∀(w:World) (mg:SOV) (h:Heap),(K w.params).In h->h.Ns mainGlobals mg->∀x tb,(x,GV.con (.t tb))∈g.G->jB w (K w.params) mg x tb)(hT:t.T.lookup ("law":Str)=some e)(hps:e.ps=[x])(hr:bL (kk+1) callerA)(main:∀ns:List Int,ns.length<=63->(WT t (kk+1)).Φ "law" (mW ns)=.ok .fz (.bl true)):W.WalkO q loose XP YP l.row.toRowW d [] (λf vs=>PySem.call f vs):=by
 refine aLW (K:=K) (Kf:=Kf) (n:=63) (k:=kk+1) (x:=x) (CX:=λw=>CX1 l.prog w) (sp:=λw=>rH (K w.params) ((WT t (kk+1)).Φ ("law":Str))) hn (by decide) hdf hr hY sub nd tb (λw mg fa h KX G hmg=>?_)
  (λ_ _ a ns hl hS=>⟨a,ns,rfl,hS,main ns hl,λ_=>rfl⟩) λ_ _ _ _ _ z=>by obtain⟨_,_,_,_,_,_,_,_,_,_,z⟩:=z;exact z
 have b:=b w.params;unfold rZ at b;rw[aPY,aQS]at b;have f:=gf_of (w:=w) KX G b.1 (ht w mg h KX G);have e1:=aR4 KX G b.2;rw[hdn,e1]at hmg;cases hmg;have b3:t.T.all (λx=>jK (K w.params) (if x.1 == "law" then some "law" else none) x.1 (faK (K w.params) x.1) x.2.ps (λst=>f9 g x.1 st x.2))=true:=by have:=b.1;unfold gfB at this;simp only[aPY]at this;exact this.2.2.1
 obtain⟨name,st,fd,F,hb,ok,hnm,bp⟩:=rW (aQU.mp b3 (("law":Str),e) (yZ hT));have hnm:name="law" := hnm.symm;subst hnm;refine⟨fd,λs u=>.of_eq ?_,λbase _ _=>?_⟩
 . have:=bp [u] (by rw[hps];rfl)
   rw[hps]at this;exact this
 . have:=aK9 (P:=l.prog) (base:=base) f kk F hT ok (by rw[hps];rfl)
   rw[hps]at this;exact this
end D3
namespace Tp
open PySem.W PySem.Calls
theorem KK_look(l:List Stmt)(P:Params)(b:Addr):∀as:List Addr,(KK l as P).lookup b=if b∈as then some (((lay P l (sA P)).bt.get b).getD default)else none
 |[]=>rfl
 |a::as=>by
  show((a,((lay P l (sA P)).bt.get a).getD default)::KK l as P).lookup b=_;rw[aQ8,KK_look l P b as];by_cases h:b=a
  . subst h;simp
  . have:(b==a)=false:=aN3.mpr h;rw[this];simp[h]
def KK_sub(l:List Stmt)(as ts:List Addr)(P:Params)(b:Addr)(o:Obj)(h:(KK l as P).lookup b=some o):(KK l (as++ts) P).lookup b=some o:=by
 rw[KK_look]at h ⊢;split at h
 . rename_i hb;rw[if_pos (aOI _ hb)];exact h
 . cases h
def KK_nd(l:List Stmt)(as:List Addr)(P:Params)(b:Addr)(o:Obj)(h:(b,o)∈KK l as P):(KK l as P).lookup b=some o:=by rw[KK_look];unfold KK at h;obtain⟨a,ha,e⟩:=aR5.mp h;cases e;rw[if_pos ha]
def left{p:aSU}{r:OpenRow}{l:List Stmt}{as:List Addr}{c':Code}(hl:behindTheImports p=l)(pre:∀(w:aST) (os:OsState),topGo treeTable p w 11 an 12 ⟨boot_heap w.params,#[],boot_drawn,boot_toks,os⟩ (topStub p)=some ((sh w.params (sA w.params) 15 187 os).abs,⟨denote treeTable (cd p),cd p,z0,[topFrame z0]⟩))(blk:∀(w:aST) (s:aSR),segRun treeTable p w 11 an 1 1 s (blockOf l (ev p) (cd p) z0 [topFrame z0])=some (.next,s,cd p,z0))(run:∀(w:aST) (os:OsState),go treeTable p w 1000 l (sh w.params (sA w.params) 15 187 os) (cd p) z0=some (sh w.params (lay w.params l (sA w.params)) n k os,c',q'))(le:Nat.ble (12+(1+ns 1000 2 l)) 1000000=true)(e1:opening p=plainProg p.main.scope.names)(e2:∀s,fenceModules? p s=some s)(uJ:∀w:aST,(λos=>((staticsOk (importedModules p.main.body) (boot_heap w.params) (H1 l n w.params)&&namesBound p (H1 l n w.params)&&gensDone (S1 l n k w.params os)&&laidKept (boot_heap w.params) (H1 l n w.params)),openSeen (vw p) (los l) (importedModules p.main.body) (xt r) true (S1 l n k w.params os),(hk l as).obs (S1 l n k w.params os)))=λ_=>(true,openGood (vw p) (los l),(hk l as).val w)):LeftO p (vw p) (los l) (xt r) (hk l as).obs (hk l as).val 1000000 :=
 LeftO.of_pieces (H₀:=boot_heap) (H₁:=H1 l n) (m₀:=11) (ann:=an) (boot_open e1 rfl e2) size1 (run_of hl pre blk run) le uJ
def head{p:OpenLaw}{l:List Stmt}{as:List Addr}{d:DefRec}(left:LeftO p.prog (vw p.prog) (los l) (xt p.row) (hk l as).obs (hk l as).val 1000000)(said:p.row.wellSaid=true)(h1:defOf (vw p.prog) p.name=some (d,[]))(h2:p.prog.theDef p.name=some (d.params,d.body,d.scope))(h3:kwWritten? d.params.kwonlyargs d.params.kw_defaults=some [])(h4:(!p.row.writes||p.row.records.isEmpty)=true)(ok:(chainsOk (vw p.prog)&&opensWell p.prog&&(frees p.row.toRowW&&p.row.within.isEmpty))=true)(hb:p.prog.bare)(hw:p.row.toRowW.promised)(call:WalkO (vw p.prog) (los l) (XL (vw p.prog) []) (hk l as).says p.row.toRowW d [] λf vs=>PySem.call f vs):p.row.Holds :=
 holds_open (r:=p.row) (XP:=XL (vw p.prog) []) (YP:=(hk l as).says) left (hk l as).of (hk l as).keeps (λs e=>xl_of s (Bool.and_eq_true_iff.mp e).1) XL.keeps h1 h2 h3
  (λs e=>recFacts_of (Bool.and_eq_true_iff.mp e).2) h4 said ok hb hw call
end Tp
namespace D3
open PySem.Calls
end D3
namespace K71
open D3
abbrev n4:E:=.int 4
abbrev n1:E:=.int 1
abbrev n3:E:=.int 3
abbrev n6:E:=.int 6
abbrev n0:E:=.int 0
abbrev n2:E:=.int 2
abbrev n5:E:=.int 5
abbrev sf(d:D):Option (Bool×D):=some (false,d)
abbrev si(i:Int):Option (Bool×D):=some (false,.int i)
noncomputable abbrev v0:E:=.var 0
noncomputable abbrev v1:E:=.var 1
noncomputable abbrev v2:E:=.var 2
abbrev v3:E:=.var 3
abbrev v4:E:=.var 4
abbrev v5:E:=.var 5
abbrev v6:E:=.var 6
abbrev v7:E:=.var 7
abbrev v8:E:=.var 8
abbrev v9:E:=.var 9
abbrev v10:E:=.var 10
abbrev v11:E:=.var 11
abbrev v12:E:=.var 12
abbrev v13:E:=.var 13
abbrev v14:E:=.var 14
abbrev v15:E:=.var 15
abbrev v16:E:=.var 16
abbrev v17:E:=.var 17
abbrev v18:E:=.var 18
abbrev v19:E:=.var 19
abbrev v20:E:=.var 20
def r6:List D3.S:=[.set 12 (.frz (.call "_law_mixed" 2 [v11,(.int 2147483629)])),.set 13 (.ix v1 (.bin .Mod v12 (.bcall .len [v1]))),.set 12 (.frz (.bin .FloorDiv v12 (.bcall .len [v1]))),.ite (.orL [(.andL [(.cmp .Eq v13 (.str "pick")),(.cmp .Eq v10 n4)]),(.andL [(.cmp .In v13 (.tup [(.str "join"),(.str "pour"),(.str "leave")])),(.cmp .Eq v9 v2)])]) [.set 13 (.str "call")] [],.ite (.cmp .In v13 (.tup [(.str "join"),(.str "pour"),(.str "leave")])) [.set 9 (.frz (.bin .Add v9 n1)),.asg (.tp [(.nm 7),(.nm 8)]) (.call "_law_widened" 7 [v13,v12,v7,v8,v5,v3,v4])] [.set 10 (.frz (.bin .Add v10 (.tcall .int [(.cmp .Eq v13 (.str "pick"))]))),.asg (.tp [(.nm 7),(.nm 8)]) (.call "_law_narrowed" 6 [v13,v12,v7,v8,v5,v6])]]
def nN:List D3.S:=[.ite (.andL [(.cmp .NotEq (.ix v0 (.bin .Sub v2 n1)) (.str "(")),(.cmp .NotEq (.ix v0 v2) (.str ")"))]) [.set 1 (.frz (.bin .Add v1 (.str " ")))] [],.set 1 (.frz (.bin .Add v1 (.ix v0 v2)))]
def r8:List D3.S:=[.set 4 (.frz (.bin .Mod (.call "_law_mixed" 2 [(.frz (.bin .Add v1 (.bin .Mult (.bin .Mult n3 v3) v3))),(.int 998244353)]) n3)),.ite (.andL [(.cmp .Lt (.bin .Add v3 n1) (.bcall .len [v0])),(.cmp .NotIn (.ix v0 v3) (.str "()")),(.cmp .NotIn (.ix v0 (.bin .Add v3 n1)) (.str "()"))]) [.set 4 (.bcall .max [n1,v4])] [],.set 2 (.frz (.bin .Add (.bin .Add v2 (.ix v0 v3)) (.bin .Mult (.str " ") v4)))]
def r9:List D3.S:=[.set 8 (.ix (.call "_law_grown" 7 [v7,v5,n6,v2,v4,v1,v3]) n0),.set 8 (.frz (.call "_law_twins" 3 [v6,v8,v1])),.set 9 (.frz (.call "_law_loose" 2 [(.frz (.call "_law_words" 1 [v8])),(.frz (.call "_law_cell_at" 2 [v0,n3]))])),.set 7 (.frz (.slice v7 none (some (.bcall .max [n0,(.bin .Sub (.bin .Sub (.bcall .len [v7]) n1) (.bin .FloorDiv (.bcall .len [v7]) n4))]))))]
def jL:List D3.S:=[.ret (.andL [(.bcall .isinstance [v0,(.ty .int)]),(.not (.bcall .isinstance [v0,(.ty .bool)]))])]
def lG:List D3.S:=[.ite (.not (.tru (.bcall .isinstance [v0,(.ty .str)]))) [.ret (.bl false)] [],.ite (.orL [(.cmp .Lt (.bcall .len [v0]) n1),(.cmp .Gt (.bcall .len [v0]) (.glob "LONGEST" (.i 40)))]) [.ret (.bl false)] [],.ret (.andL [(.cmp .In (.ix v0 n0) (.glob "LETTERS" (.s "abcdefghijklmnopqrstuvwxyz"))),(.bcall .all [(.comp (.call "is_name_sign" 1 [v0]) (.items v0) [] [] (.nm 0) 1)])])]
def nO:List D3.S:=[.ret (.orL [(.cmp .In v0 (.glob "LETTERS" (.s "abcdefghijklmnopqrstuvwxyz"))),(.cmp .In v0 (.glob "FIGURES" (.s "0123456789")))])]
def jM:List D3.S:=[.ite (.tru (.call "is_whole" 1 [v0])) [.ret (.tcall .str [v0])] [],.ret (.bin .Add (.str "'") v0)]
def jN:List D3.S:=[.ite (.not (.tru (.bcall .isinstance [v0,(.ty .str)]))) [.never] [],.ite (.andL [(.tru (.mt .startswith v0 [(.str "'")])),(.tru (.call "is_name" 1 [(.frz (.slice v0 (some n1) none))]))]) [.ret (.slice v0 (some n1) none)] [],.ite (.not (.tru (.call "is_number" 1 [v0]))) [.never] [],.ret (.tcall .int [v0])]
def gE:List D3.S:=[.ite (.cmp .Eq v0 (.str "0")) [.ret (.bl true)] [],.set 1 (.frz (.mt .removeprefix v0 [(.str "-")])),.ite (.orL [(.cmp .Lt (.bcall .len [v1]) n1),(.cmp .Gt (.bcall .len [v1]) (.glob "LONGEST_NUMBER" (.i 60))),(.cmp .Eq (.ix v1 n0) (.str "0"))]) [.ret (.bl false)] [],.ret (.bcall .all [(.comp (.cmp .In v0 (.glob "FIGURES" (.s "0123456789"))) (.items v1) [] [] (.nm 0) 1)])]
def iA:List D3.S:=[.set 1 (.ix v0 n0),.ite (.cmp .Eq v1 (.str "table")) [.ret (.ix v0 n1)] [],.set 2 (.frz (.call "show" 1 [(.ix v0 n1)])),.ite (.cmp .Eq v1 (.str "pick")) [.ret (.fstr [(.str "(pick "),(.fmt v2),(.str " "),(.fmt (.call "show_test" 1 [(.ix v0 n2)])),(.str ")")])] [],.ite (.cmp .In v1 (.tup [(.str "join"),(.str "pour"),(.str "leave")])) [.ret (.fstr [(.str "("),(.fmt v1),(.str " "),(.fmt v2),(.str " "),(.fmt (.call "show" 1 [(.ix v0 n2)])),(.str ")")])] [],.ite (.cmp .Eq v1 (.str "total")) [.ret (.call "in_brackets" 1 [(.frz (.bin .Add (.lst [v1,v2,(.ix v0 n2)]) (.tcall .list [(.ix v0 n3)])))])] [],.ret (.call "in_brackets" 1 [(.frz (.bin .Add (.lst [v1,v2]) (.tcall .list [(.ix v0 n2)])))])]
def sC:List D3.S:=[.ret (.bin .Add (.bin .Add (.str "(") (.mt .join (.str " ") [v0])) (.str ")"))]
def lH:List D3.S:=[.set 1 (.ix v0 n0),.ite (.cmp .Eq v1 (.str "not")) [.ret (.fstr [(.str "(not "),(.fmt (.call "show_test" 1 [(.ix v0 n1)])),(.str ")")])] [],.ite (.cmp .In v1 (.tup [(.str "both"),(.str "either")])) [.ret (.fstr [(.str "("),(.fmt v1),(.str " "),(.fmt (.call "show_test" 1 [(.ix v0 n1)])),(.str " "),(.fmt (.call "show_test" 1 [(.ix v0 n2)])),(.str ")")])] [],.ret (.fstr [(.str "("),(.fmt v1),(.str " "),(.fmt (.call "show_part" 1 [(.ix v0 n1)])),(.str " "),(.fmt (.call "show_part" 1 [(.ix v0 n2)])),(.str ")")])]
def lI:List D3.S:=[.ite (.cmp .Eq (.ix v0 n0) (.str "of")) [.ret (.bin .Add (.str ".") (.ix v0 n1))] [],.ret (.call "show_value" 1 [(.ix v0 n1)])]
def sD:List D3.S:=[.ite (.not (.tru (.bcall .isinstance [v0,(.ty .str)]))) [.never] [],.ret (.call "read_asking" 1 [(.frz (.call "tree_of" 1 [(.frz (.call "words_of" 1 [v0]))]))])]
def nP:List D3.S:=[.wds,.ret (.comp v0 (.items v1) [(.cmp .NotEq v0 (.str ""))] [] (.nm 0) 1)]
def nQ:List D3.S:=[.tree (.bin .Add (.glob "MOST_OPEN" (.i 30)) n1) .never .never .never]
def iB:List D3.S:=[.ite (.not (.tru (.bcall .isinstance [v0,(.ty .list)]))) [.ret (.tup [(.str "table"),(.frz (.call "read_name" 1 [v0]))])] [],.set 1 (.frz (.call "head_of" 1 [v0])),.ite (.cmp .In v1 (.tup [(.str "join"),(.str "pour"),(.str "leave")])) [.expr (.call "refuse_length" 2 [v0,n3]),.ret (.tup [v1,(.frz (.call "read_asking" 1 [(.ix v0 n1)])),(.frz (.call "read_asking" 1 [(.ix v0 n2)]))])] [],.ite (.cmp .Eq v1 (.str "pick")) [.expr (.call "refuse_length" 2 [v0,n3]),.ret (.tup [v1,(.frz (.call "read_asking" 1 [(.ix v0 n1)])),(.frz (.call "read_test" 1 [(.ix v0 n2)]))])] [],.ite (.andL [(.cmp .In v1 (.tup [(.str "keep"),(.str "call")])),(.cmp .Gt (.bcall .len [v0]) n1)]) [.ret (.tup [v1,(.frz (.call "read_asking" 1 [(.ix v0 n1)])),(.frz (.call "read_names" 1 [(.frz (.slice v0 (some n2) none))]))])] [],.ite (.andL [(.cmp .Eq v1 (.str "total")),(.cmp .Gt (.bcall .len [v0]) n2)]) [.ret (.tup [v1,(.frz (.call "read_asking" 1 [(.ix v0 n1)])),(.frz (.call "read_name" 1 [(.ix v0 n2)])),(.frz (.call "read_names" 1 [(.frz (.slice v0 (some n3) none))]))])] [],.never]
def sJ:List D3.S:=[.ite (.cmp .Eq (.bcall .len [v0]) n0) [.ret (.str "")] [],.ret (.ix v0 n0)]
def lJ:List D3.S:=[.ite (.cmp .NotEq (.bcall .len [v0]) v1) [.never] []]
def sK:List D3.S:=[.ret (.tcall .tuple [(.comp (.call "read_name" 1 [v0]) (.items v0) [] [] (.nm 0) 1)])]
def sL:List D3.S:=[.ite (.not (.tru (.call "is_name" 1 [v0]))) [.never] [],.retV 0]
def lK:List D3.S:=[.ite (.not (.tru (.bcall .isinstance [v0,(.ty .list)]))) [.never] [],.set 1 (.frz (.call "head_of" 1 [v0])),.ite (.cmp .Eq v1 (.str "not")) [.expr (.call "refuse_length" 2 [v0,n2]),.ret (.tup [v1,(.frz (.call "read_test" 1 [(.ix v0 n1)]))])] [],.expr (.call "refuse_length" 2 [v0,n3]),.ite (.cmp .In v1 (.tup [(.str "both"),(.str "either")])) [.ret (.tup [v1,(.frz (.call "read_test" 1 [(.ix v0 n1)])),(.frz (.call "read_test" 1 [(.ix v0 n2)]))])] [],.ite (.cmp .In v1 (.tup [(.str "same"),(.str "under")])) [.ret (.tup [v1,(.frz (.call "read_part" 1 [(.ix v0 n1)])),(.frz (.call "read_part" 1 [(.ix v0 n2)]))])] [],.never]
def sM:List D3.S:=[.ite (.andL [(.not (.tru (.bcall .isinstance [v0,(.ty .list)]))),(.tru (.mt .startswith v0 [(.str ".")]))]) [.ret (.tup [(.str "of"),(.frz (.call "read_name" 1 [(.frz (.slice v0 (some n1) none))]))])] [],.ret (.tup [(.str "just"),(.frz (.call "read_value" 1 [v0]))])]
def lL:List D3.S:=[.ite (.cmp .Lt v1 (.bcall .len [v0])) [.ret (.ix v0 v1)] [],.ret n0]
def nR:List D3.S:=[.set 2 (.frz (.bin .Mod (.bin .Mult (.bin .Add v0 (.int 7)) (.int 48271)) (.int 2147483647))),.ret (.bin .Mod (.bin .Mult v2 v2) v1)]
def gG:List D3.S:=[.set 2 (.frz (.bin .Add n1 (.bin .Mod v0 n6))),.ite (.cmp .Eq (.bin .Mod (.bin .FloorDiv v0 n6) (.int 9)) n4) [.set 2 (.int 40)] [],.ite (.cmp .Eq (.bin .Mod (.bin .FloorDiv v0 (.int 54)) n4) n1) [.ret (.comp (.bin .Mult (.str "p") (.bin .Add v0 n1)) (.rng1 v1) [] [] (.nm 0) 1)] [],.set 3 (.frz (.bin .Mod (.bin .FloorDiv v0 (.int 216)) v2)),.ret (.comp (.bin .Add (.bin .Add (.bin .Mult (.str "r") v0) (.ix (.str "kmqbzwhvcjxf") v3)) (.bin .Mult (.ix (.str "r7") (.bin .Mod v1 n2)) (.bin .Sub (.bin .Sub v2 v0) n1))) (.rng1 v1) [] [3,0,2] (.nm 3) 1)]
def gH:List D3.S:=[.set 1 (.frz (.bin .Add n3 (.bin .Mod (.bin .Pow (.bin .Mod v0 (.bin .Pow (.int 10) (.int 12))) n5) (.bin .Pow (.int 10) (.int 50))))),.ite (.cmp .Eq (.bin .Mod v0 n2) n1) [.set 1 (.frz (.bin .Sub n0 v1))] [],.ret (.lst [(.frz (.bin .Mod (.bin .FloorDiv v0 n2) n3)),v1,(.ix (.call "_law_names" 2 [(.frz (.bin .FloorDiv v0 n6)),n1]) n0)])]
def iC:List D3.S:=[.ite (.andL [(.cmp .Gt (.bcall .len [v1]) n0),(.cmp .Lt (.bin .Mod v0 n3) n2)]) [.ret (.tup [(.str "of"),(.ix v1 (.bin .Mod (.bin .FloorDiv v0 n3) (.bcall .len [v1])))])] [],.ret (.tup [(.str "just"),(.ix v2 (.bin .Mod (.bin .FloorDiv v0 n3) n3))])]
def lM:List D3.S:=[.set 4 (.frz (.bin .FloorDiv v0 n5)),.ite (.orL [(.cmp .Eq v1 n0),(.cmp .Lt (.bin .Mod v0 n5) n2)]) [.set 5 (.ix (.lst [(.str "same"),(.str "under")]) (.bin .Mod v0 n2)),.ret (.tup [v5,(.frz (.call "_law_part" 3 [v4,v2,v3])),(.frz (.call "_law_part" 3 [(.frz (.bin .FloorDiv v4 (.int 19))),v2,v3]))])] [],.ite (.cmp .Eq (.bin .Mod v0 n5) n2) [.ret (.tup [(.str "not"),(.frz (.call "_law_test" 4 [v4,(.frz (.bin .Sub v1 n1)),v2,v3]))])] [],.set 5 (.ix (.lst [(.str "both"),(.str "either")]) (.bin .Mod v0 n2)),.set 6 (.frz (.call "_law_test" 4 [v4,(.frz (.bin .Sub v1 n1)),v2,v3])),.ret (.tup [v5,v6,(.frz (.call "_law_test" 4 [(.frz (.bin .Mod (.bin .Mult (.bin .Add v4 n5) (.int 69621)) (.int 998244353))),(.frz (.bin .Sub v1 n1)),v2,v3]))])]
def lO:List D3.S:=[.ite (.cmp .Eq (.bcall .len [v1]) n0) [.retV 1] [],.set 2 (.frz (.bin .Mod v0 (.bcall .len [v1]))),.set 3 (.frz (.bin .Add (.slice v1 (some v2) none) (.slice v1 none (some v2)))),.ret (.slice v3 none (some (.bin .Sub (.bcall .len [v3]) (.bin .Mod (.bin .FloorDiv v0 (.int 7)) n2))))]
def sN:List D3.S:=[.set 4 (.tup [(.str "keep"),(.tup [(.str "table"),(.ix v2 v0)]),(.frz (.slice (.dix v3 (.ix v2 v0)) none (some (.bcall .len [v1]))))]),.ret (.tup [(.str "call"),v4,v1])]
def sO:List D3.S:=[.set 2 .dnew,.dput 2 (.ix v0 n0) (.tup [(.ix v1 n0),(.ix v1 n1)]),.dput 2 (.ix v0 n1) (.tup [(.ix v1 n1),(.ix v1 n2)]),.dput 2 (.ix v0 n2) (.tup [(.ix v1 n3),(.ix v1 n4)]),.retV 2]
def sP:List D3.S:=[.ite (.cmp .Eq v0 (.str "pick")) [.ret (.tup [(.tup [(.str "pick"),v2,(.frz (.call "_law_test" 4 [(.frz (.bin .FloorDiv v1 n3)),(.frz (.bin .Add n1 (.bin .FloorDiv (.bin .Mod v1 n3) n2))),v3,v5]))]),v3])] [],.ite (.cmp .Eq v0 (.str "call")) [.set 6 (.frz (.bin .Mod v1 (.bcall .len [v4]))),.set 3 (.frz (.slice (.bin .Add (.slice v4 (some v6) none) (.slice v4 none (some v6))) none (some (.bcall .len [v3])))),.ret (.tup [(.tup [(.str "call"),v2,v3]),v3])] [],.set 7 (.frz (.call "_law_some" 2 [v1,v3])),.ite (.orL [(.cmp .Eq v0 (.str "keep")),(.cmp .Eq (.bcall .len [v3]) n0)]) [.ret (.tup [(.tup [(.str "keep"),v2,v7]),v7])] [],.ret (.tup [(.tup [(.str "total"),v2,(.ix v3 (.bin .Mod (.bin .FloorDiv v1 (.int 14)) (.bcall .len [v3]))),v7]),v7])]
def sQ:List D3.S:=[.set 7 (.frz (.bin .Mod v1 n3)),.set 8 (.frz (.bin .Mod (.bin .FloorDiv v1 n3) n2)),.ite (.cmp .Eq v0 (.str "join")) [.set 9 (.frz (.bin .Mod (.bin .FloorDiv v1 n6) (.bcall .len [v4]))),.set 10 (.frz (.slice (.bin .Add (.slice v4 (some v9) none) (.slice v4 none (some v9))) none (some n2))),.set 11 (.frz (.call "_law_like" 4 [v7,v10,v5,v6])),.ite (.cmp .Eq v8 n1) [.ret (.tup [(.tup [(.str "join"),v11,v2]),(.frz (.bin .Add v10 (.tcall .tuple [(.comp v1 (.items v3) [(.cmp .NotIn v1 v0)] [10] (.nm 1) 1)])))])] [],.ret (.tup [(.tup [(.str "join"),v2,v11]),(.frz (.bin .Add v3 (.tcall .tuple [(.comp v1 (.items v10) [(.cmp .NotIn v1 v0)] [3] (.nm 1) 1)])))])] [],.ite (.cmp .Eq v0 (.str "leave")) [.ret (.tup [(.tup [(.str "leave"),v2,(.frz (.call "_law_like" 4 [v7,(.frz (.slice (.call "_law_some" 2 [v1,v3]) none (some n2))),v5,v6]))]),v3])] [],.ite (.cmp .Gt (.bcall .len [v3]) n2) [.set 3 (.frz (.slice v3 none (some n2))),.set 2 (.tup [(.str "keep"),v2,v3])] [],.set 11 (.frz (.call "_law_like" 4 [v7,v3,v5,v6])),.ite (.cmp .Eq v8 n1) [.ret (.tup [(.tup [(.str "pour"),v11,v2]),v3])] [],.ret (.tup [(.tup [(.str "pour"),v2,v11]),v3])]
def sR:List D3.S:=[.set 7 (.tup [(.str "table"),(.ix v3 n0)]),.set 8 (.dix v4 (.ix v3 n0)),.set 9 n0,.set 10 n0,.for (.items v0) (.nm 11) r6,.ret (.tup [v7,v8,v9])]
def sS:List D3.S:=[.set 2 (.frz (.lst [(.str "keep"),(.str "pick"),(.str "not"),(.str "of"),(.str "table"),(.str "same"),(.str "total"),(.str "join"),(.str "pour"),(.str "just"),(.str "both"),(.str "none")])),.set 3 (.frz (.bin .Mod v0 (.int 12))),.ret (.slice (.bin .Add (.slice v2 (some v3) none) (.slice v2 none (some v3))) none (some v1))]
def jO:List D3.S:=[.ite (.cmp .Eq (.bin .Mod v0 n4) n1) [.ret (.call "_law_like_words" 2 [(.frz (.bin .FloorDiv v0 n4)),v1])] [],.ret (.call "_law_names" 2 [(.frz (.bin .FloorDiv v0 n4)),v1])]
def eC:List D3.S:=[.set 1 (.ix v0 n0),.ite (.cmp .Eq v1 (.str "table")) [.ret (.lst [(.ix v0 n1)])] [],.ite (.cmp .Eq v1 (.str "of")) [.ret (.lst [(.frz (.bin .Add (.str ".") (.ix v0 n1)))])] [],.ite (.cmp .Eq v1 (.str "just")) [.ite (.tru (.bcall .isinstance [(.ix v0 n1),(.ty .str)])) [.ret (.lst [(.frz (.bin .Add (.str "'") (.ix v0 n1)))])] [],.ret (.lst [(.frz (.tcall .str [(.ix v0 n1)]))])] [],.set 2 (.frz (.bin .Add (.lst [(.str "("),v1]) (.call "_law_words" 1 [(.ix v0 n1)]))),.ite (.cmp .In v1 (.tup [(.str "keep"),(.str "call")])) [.set 2 (.frz (.bin .Add v2 (.tcall .list [(.ix v0 n2)])))] [.ite (.cmp .Eq v1 (.str "total")) [.set 2 (.frz (.bin .Add (.bin .Add v2 (.lst [(.ix v0 n2)])) (.tcall .list [(.ix v0 n3)])))] [.ite (.cmp .Eq (.bcall .len [v0]) n3) [.set 2 (.frz (.bin .Add v2 (.call "_law_words" 1 [(.ix v0 n2)])))] []]],.ret (.bin .Add v2 (.lst [(.str ")")]))]
def sU:List D3.S:=[.set 1 (.ix v0 n0),.for (.rng2 n1 (.bcall .len [v0])) (.nm 2) nN,.retV 1]
def sV:List D3.S:=[.ite (.cmp .Eq v0 n1) [.ret (.tup [(.str "keep"),v1,(.tup [(.ix v2 n1),(.ix v2 n0),(.ix v2 n1)])])] [],.ite (.cmp .Eq v0 n2) [.ret (.tup [(.str "call"),v1,(.tup [(.ix v2 n0),(.ix v2 n0)])])] [],.ite (.cmp .Eq v0 n3) [.ret (.tup [(.str "total"),v1,(.ix v2 n0),(.tup [(.ix v2 n0),(.ix v2 n0)])])] [],.retV 1]
def sW:List D3.S:=[.set 2 (.frz (.bin .Mult (.str " ") (.bin .Mod v1 n3))),.for (.rng1 (.bcall .len [v0])) (.nm 3) r8,.retV 2]
def sX:List D3.S:=[.set 1 (.frz (.tcall .tuple [(.call "_law_called" 2 [(.frz (.call "_law_cell_at" 2 [v0,n0])),(.int 7)])])),.set 2 (.frz (.call "_law_called" 2 [(.frz (.call "_law_cell_at" 2 [v0,n1])),n3])),.set 3 (.frz (.call "_law_values" 1 [(.frz (.call "_law_cell_at" 2 [v0,n2]))])),.set 4 (.frz (.call "_law_shapes" 2 [v2,v1])),.set 5 (.frz (.lst [(.str "pick"),(.str "keep"),(.str "pick"),(.str "call"),(.str "join"),(.str "pick"),(.str "pour"),(.str "total"),(.str "leave"),(.str "call")])),.set 6 (.frz (.bin .Mod (.bin .FloorDiv (.call "_law_cell_at" 2 [v0,n3]) n3) n6)),.set 7 (.frz (.slice v0 (some n4) (some (.int 24)))),.set 8 (.tup [(.str "table"),(.ix v2 n0)]),.set 9 (.frz (.bin .Mult (.str " ") (.int 1001))),.whl 1000000 (.cmp .Gt (.bcall .len [v9]) (.int 1000)) r9,.set 10 (.frz (.call "show" 1 [v8])),.ite (.orL [(.not (.tru (.bcall .isinstance [v10,(.ty .str)]))),(.cmp .NotEq v10 (.call "_law_line" 1 [(.frz (.call "_law_words" 1 [v8]))]))]) [.ret (.bl false)] [],.ret (.andL [(.cmp .Eq (.call "read" 1 [v10]) v8),(.cmp .Eq (.call "read" 1 [v9]) v8)])]
def y0:FD:=⟨["thing"],["thing"],jL,[]⟩
def y1:FD:=⟨["thing"],["thing"],lG,[]⟩
def y2:FD:=⟨["sign"],["sign"],nO,[]⟩
def y3:FD:=⟨["value"],["value"],jM,[]⟩
def y4:FD:=⟨["text"],["text"],jN,[]⟩
def y6:FD:=⟨["text"],["text", "figures"],gE,[]⟩
def y8:FD:=⟨["asking"],["asking", "word", "within"],iA,[]⟩
def y9:FD:=⟨["words"],["words"],sC,[]⟩
def zA:FD:=⟨["test"],["test", "word"],lH,[]⟩
def zB:FD:=⟨["part"],["part"],lI,[]⟩
def zC:FD:=⟨["text"],["text"],sD,[]⟩
def zD:FD:=⟨["text"],["text", "parted"],nP,[]⟩
def zE:FD:=⟨["words"],["words", "opened", "word", "done"],nQ,[]⟩
def zF:FD:=⟨["tree"],["tree", "word"],iB,[]⟩
def zG:FD:=⟨["tree"],["tree"],sJ,[]⟩
def zH:FD:=⟨["tree", "length"],["tree", "length"],lJ,[]⟩
def zI:FD:=⟨["trees"],["trees"],sK,[]⟩
def zJ:FD:=⟨["tree"],["tree"],sL,[]⟩
def zK:FD:=⟨["tree"],["tree", "word"],lK,[]⟩
def zL:FD:=⟨["tree"],["tree"],sM,[]⟩
def zM:FD:=⟨["_law_script", "_law_k"],["_law_script", "_law_k"],lL,[]⟩
def zN:FD:=⟨["_law_cell", "_law_prime"],["_law_cell", "_law_prime", "_law_number"],nR,[]⟩
def zO:FD:=⟨["_law_cell", "_law_many"],["_law_cell", "_law_many", "_law_size", "_law_at"],gG,[]⟩
def zP:FD:=⟨["_law_cell"],["_law_cell", "_law_far"],gH,[]⟩
def zQ:FD:=⟨["_law_cell", "_law_columns", "_law_values_here"],["_law_cell", "_law_columns", "_law_values_here"],iC,[]⟩
def zR:FD:=⟨["_law_cell", "_law_deep", "_law_columns", "_law_values_here"],["_law_cell", "_law_deep", "_law_columns", "_law_values_here", "_law_rest", "_law_word", "_law_one"],lM,[]⟩
def zS:FD:=⟨["_law_number", "_law_columns"],["_law_number", "_law_columns", "_law_at", "_law_some_here"],lO,[]⟩
def zT:FD:=⟨["_law_at", "_law_columns", "_law_tables", "_law_shapes_here"],["_law_at", "_law_columns", "_law_tables", "_law_shapes_here", "_law_within"],sN,[]⟩
def zU:FD:=⟨["_law_tables", "_law_pool"],["_law_tables", "_law_pool", "_law_shapes_here"],sO,[]⟩
def zV:FD:=⟨["_law_word", "_law_number", "_law_asking", "_law_columns", "_law_pool", "_law_values_here"],["_law_word", "_law_number", "_law_asking", "_law_columns", "_law_pool", "_law_values_here", "_law_at", "_law_some_here"],sP,[]⟩
def zW:FD:=⟨["_law_word", "_law_number", "_law_asking", "_law_columns", "_law_pool", "_law_tables", "_law_shapes_here"],["_law_word", "_law_number", "_law_asking", "_law_columns", "_law_pool", "_law_tables", "_law_shapes_here", "_law_at", "_law_turn", "_law_begin", "_law_added", "_law_other"],sQ,[]⟩
def zX:FD:=⟨["_law_cells", "_law_words_here", "_law_most", "_law_tables", "_law_shapes_here", "_law_pool", "_law_values_here"],["_law_cells", "_law_words_here", "_law_most", "_law_tables", "_law_shapes_here", "_law_pool", "_law_values_here", "_law_asking", "_law_columns", "_law_many", "_law_picks", "_law_cell", "_law_number", "_law_word"],sR,[]⟩
def zY:FD:=⟨["_law_cell", "_law_many"],["_law_cell", "_law_many", "_law_some_here", "_law_at"],sS,[]⟩
def zZ:FD:=⟨["_law_cell", "_law_many"],["_law_cell", "_law_many"],jO,[]⟩
def z5:FD:=⟨["_law_thing"],["_law_thing", "_law_word", "_law_words_here"],eC,[]⟩
def z6:FD:=⟨["_law_words_here"],["_law_words_here", "_law_line_here", "_law_k"],sU,[]⟩
def z7:FD:=⟨["_law_way", "_law_asking", "_law_pool"],["_law_way", "_law_asking", "_law_pool"],sV,[]⟩
def z8:FD:=⟨["_law_words_here", "_law_cell"],["_law_words_here", "_law_cell", "_law_line_here", "_law_k", "_law_many"],sW,[]⟩
def sY:FD:=⟨["_law_script"],["_law_script", "_law_pool", "_law_tables", "_law_values_here", "_law_shapes_here", "_law_words_here", "_law_way", "_law_cells", "_law_asking", "_law_line_here", "_law_shown"],sX,[]⟩
abbrev pFD(s:Str)(d:FD):Str×FD:=(s,d)
abbrev pGV(s:Str)(d:GV):Str×GV:=(s,d)
def T:List (Str×FD):=[pFD "is_whole" y0,pFD "is_name" y1,pFD "is_name_sign" y2,pFD "show_value" y3,pFD "read_value" y4,pFD "is_number" y6,pFD "show" y8,pFD "in_brackets" y9,pFD "show_test" zA,pFD "show_part" zB,pFD "read" zC,pFD "words_of" zD,pFD "tree_of" zE,pFD "read_asking" zF,pFD "head_of" zG,pFD "refuse_length" zH,pFD "read_names" zI,pFD "read_name" zJ,pFD "read_test" zK,pFD "read_part" zL,pFD "_law_cell_at" zM,pFD "_law_mixed" zN,pFD "_law_names" zO,pFD "_law_values" zP,pFD "_law_part" zQ,pFD "_law_test" zR,pFD "_law_some" zS,pFD "_law_like" zT,pFD "_law_shapes" zU,pFD "_law_narrowed" zV,pFD "_law_widened" zW,pFD "_law_grown" zX,pFD "_law_like_words" zY,pFD "_law_called" zZ,pFD "_law_words" z5,pFD "_law_line" z6,pFD "_law_twins" z7,pFD "_law_loose" z8,pFD "law" sY]
def TT:TB:=⟨T,[],[],[],[]⟩
abbrev okf(d:D):Res:=.ok .fz d
noncomputable abbrev Wk(k:Nat):WD:=WT TT k
noncomputable def GG:MG:=⟨[pGV "FIGURES" (.con (.s "0123456789")),pGV "LETTERS" (.con (.s "abcdefghijklmnopqrstuvwxyz")),pGV "LONGEST" (.con (.i 40)),pGV "LONGEST_NUMBER" (.con (.i 60)),pGV "MOST_OPEN" (.con (.i 30)),pGV "_law_called" (.fn 2),pGV "_law_cell_at" (.fn 2),pGV "_law_grown" (.fn 7),pGV "_law_like" (.fn 4),pGV "_law_like_words" (.fn 2),pGV "_law_line" (.fn 1),pGV "_law_loose" (.fn 2),pGV "_law_mixed" (.fn 2),pGV "_law_names" (.fn 2),pGV "_law_narrowed" (.fn 6),pGV "_law_part" (.fn 3),pGV "_law_shapes" (.fn 2),pGV "_law_some" (.fn 2),pGV "_law_test" (.fn 4),pGV "_law_twins" (.fn 3),pGV "_law_values" (.fn 1),pGV "_law_widened" (.fn 7),pGV "_law_words" (.fn 1),pGV "all" .no,pGV "bool" .no,pGV "head_of" (.fn 1),pGV "in_brackets" (.fn 1),pGV "int" .no,pGV "is_name" (.fn 1),pGV "is_name_sign" (.fn 1),pGV "is_number" (.fn 1),pGV "is_whole" (.fn 1),pGV "isinstance" .no,pGV "len" .no,pGV "list" .no,pGV "max" .no,pGV "range" .no,pGV "read" (.fn 1),pGV "read_asking" (.fn 1),pGV "read_name" (.fn 1),pGV "read_names" (.fn 1),pGV "read_part" (.fn 1),pGV "read_test" (.fn 1),pGV "read_value" (.fn 1),pGV "refuse_length" (.fn 2),pGV "show" (.fn 1),pGV "show_part" (.fn 1),pGV "show_test" (.fn 1),pGV "show_value" (.fn 1),pGV "str" .no,pGV "tree_of" (.fn 1),pGV "tuple" .no,pGV "words_of" (.fn 1)],[],[],[],[],[],[],[]⟩
def top(i:Nat):Stmt:=aSV.main.body.getD i (.Pass ⟨0,0,0,0⟩)
abbrev sZ:Stmt:=top 49
def z9(k:Nat):(Wk (k+1)).Φ "is_whole" = phi 1 1 (evB (Wk k) jL):=aX (d:=y0) rfl
def aLY(k:Nat):(Wk (k+1)).Φ "is_name" = phi 1 1 (evB (Wk k) lG):=aX (d:=y1) rfl
def aLZ(k:Nat):(Wk (k+1)).Φ "is_name_sign" = phi 1 1 (evB (Wk k) nO):=aX (d:=y2) rfl
def aAA(k:Nat):(Wk (k+1)).Φ "show_value" = phi 1 1 (evB (Wk k) jM):=aX (d:=y3) rfl
def aAB(k:Nat):(Wk (k+1)).Φ "read_value" = phi 1 1 (evB (Wk k) jN):=aX (d:=y4) rfl
def aL0(k:Nat):(Wk (k+1)).Φ "is_number" = phi 1 2 (evB (Wk k) gE):=aX (d:=y6) rfl
def lP(k:Nat):(Wk (k+1)).Φ "show" = phi 1 3 (evB (Wk k) iA):=aX (d:=y8) rfl
def aL1(k:Nat):(Wk (k+1)).Φ "in_brackets" = phi 1 1 (evB (Wk k) sC):=aX (d:=y9) rfl
def tB(k:Nat):(Wk (k+1)).Φ "show_test" = phi 1 2 (evB (Wk k) lH):=aX (d:=zA) rfl
def aL2(k:Nat):(Wk (k+1)).Φ "show_part" = phi 1 1 (evB (Wk k) lI):=aX (d:=zB) rfl
def aL3(k:Nat):(Wk (k+1)).Φ "read" = phi 1 1 (evB (Wk k) sD):=aX (d:=zC) rfl
def aL4(k:Nat):(Wk (k+1)).Φ "words_of" = phi 1 2 (evB (Wk k) nP):=aX (d:=zD) rfl
def aL5(k:Nat):(Wk (k+1)).Φ "tree_of" = phi 1 4 (evB (Wk k) nQ):=aX (d:=zE) rfl
def lQ(k:Nat):(Wk (k+1)).Φ "read_asking" = phi 1 2 (evB (Wk k) iB):=aX (d:=zF) rfl
def aL6(k:Nat):(Wk (k+1)).Φ "head_of" = phi 1 1 (evB (Wk k) sJ):=aX (d:=zG) rfl
def aL7(k:Nat):(Wk (k+1)).Φ "refuse_length" = phi 2 2 (evB (Wk k) lJ):=aX (d:=zH) rfl
def aL8(k:Nat):(Wk (k+1)).Φ "read_names" = phi 1 1 (evB (Wk k) sK):=aX (d:=zI) rfl
def aL9(k:Nat):(Wk (k+1)).Φ "read_name" = phi 1 1 (evB (Wk k) sL):=aX (d:=zJ) rfl
def tE(k:Nat):(Wk (k+1)).Φ "read_test" = phi 1 2 (evB (Wk k) lK):=aX (d:=zK) rfl
def aMA(k:Nat):(Wk (k+1)).Φ "read_part" = phi 1 1 (evB (Wk k) sM):=aX (d:=zL) rfl
def aMB(k:Nat):(Wk (k+1)).Φ "_law_cell_at" = phi 2 2 (evB (Wk k) lL):=aX (d:=zM) rfl
def aMC(k:Nat):(Wk (k+1)).Φ "_law_mixed" = phi 2 3 (evB (Wk k) nR):=aX (d:=zN) rfl
def aMD(k:Nat):(Wk (k+1)).Φ "_law_names" = phi 2 4 (evB (Wk k) gG):=aX (d:=zO) rfl
def aME(k:Nat):(Wk (k+1)).Φ "_law_values" = phi 1 2 (evB (Wk k) gH):=aX (d:=zP) rfl
def aAC(k:Nat):(Wk (k+1)).Φ "_law_part" = phi 3 3 (evB (Wk k) iC):=aX (d:=zQ) rfl
def tF(k:Nat):(Wk (k+1)).Φ "_law_test" = phi 4 7 (evB (Wk k) lM):=aX (d:=zR) rfl
def aMF(k:Nat):(Wk (k+1)).Φ "_law_some" = phi 2 4 (evB (Wk k) lO):=aX (d:=zS) rfl
def aMG(k:Nat):(Wk (k+1)).Φ "_law_like" = phi 4 5 (evB (Wk k) sN):=aX (d:=zT) rfl
def aMH(k:Nat):(Wk (k+1)).Φ "_law_shapes" = phi 2 3 (evB (Wk k) sO):=aX (d:=zU) rfl
def aMI(k:Nat):(Wk (k+1)).Φ "_law_narrowed" = phi 6 8 (evB (Wk k) sP):=aX (d:=zV) rfl
def aMJ(k:Nat):(Wk (k+1)).Φ "_law_widened" = phi 7 12 (evB (Wk k) sQ):=aX (d:=zW) rfl
def aMK(k:Nat):(Wk (k+1)).Φ "_law_grown" = phi 7 14 (evB (Wk k) sR):=aX (d:=zX) rfl
def aML(k:Nat):(Wk (k+1)).Φ "_law_like_words" = phi 2 4 (evB (Wk k) sS):=aX (d:=zY) rfl
def aAD(k:Nat):(Wk (k+1)).Φ "_law_called" = phi 2 2 (evB (Wk k) jO):=aX (d:=zZ) rfl
def fK(k:Nat):(Wk (k+1)).Φ "_law_words" = phi 1 3 (evB (Wk k) eC):=aX (d:=z5) rfl
def aMM(k:Nat):(Wk (k+1)).Φ "_law_line" = phi 1 3 (evB (Wk k) sU):=aX (d:=z6) rfl
def aMN(k:Nat):(Wk (k+1)).Φ "_law_twins" = phi 3 3 (evB (Wk k) sV):=aX (d:=z7) rfl
def aMO(k:Nat):(Wk (k+1)).Φ "_law_loose" = phi 2 5 (evB (Wk k) sW):=aX (d:=z8) rfl
def u_law(k:Nat):(Wk (k+1)).Φ "law" = phi 1 11 (evB (Wk k) sX):=aX (d:=sY) rfl
def eD{i:Int}{d:D}(h:atI ds i=some d):op2 ixD (.ok m (.lst ds)) (.ok m' (.int i))=okf d:=bQ (by show(atI ds i).map _=_;rw[h];rfl)
def ix_t{i:Int}{d:D}(h:atI ds i=some d):op2 ixD (.ok m (.tup ds)) (.ok m' (.int i))=okf d:=bQ (by show(atI ds i).map _=_;rw[h];rfl)
def ix_s{i:Int}(h:atI z.cps.toList i=some c):op2 ixD (.ok m (.str z)) (.ok m' (.int i))=okf (.str ⟨#[c]⟩):=bQ (by show(atI z.cps.toList i).map _=_;rw[h];rfl)
theorem tI(xs:List α)(v:Int)(n:Int)(hn:n=xs.length)(h:0<n):∃c,c∈xs/\atI xs (v % n)=some c:=by
 have h0:=aR6 v (show n≠0 by lia)
 have h1:=aR7 v h;obtain⟨j,hj⟩:=aR8 h0;have hl:j<xs.length:=by lia
 exact⟨xs[j],aQY hl,by rw[hj];exact cW (aQX hl)⟩
def ce(ns:List Int)(i:Int):Int:=if 0<=i then(ns[i.toNat]?).getD 0 else 0
theorem cell(k:Nat)(ns:List Int){i:Int}(h0:0<=i):(Wk (k+1)).Φ "_law_cell_at" [.lst (ns.map .int),.int i]=okf (.int (ce ns i)):=by
 rw[aMB];refine aJ rfl ?_;show evB _ lL [sf (.lst (ns.map .int)),si i]=_;obtain⟨j,rfl⟩:=aR8 h0;unfold ce;rw[if_pos h0];by_cases h:j<ns.length
 . have hx:op2 ixD (okf (.lst (ns.map .int))) (okf (.int j))=okf (.int ns[j]):=eD (cW (by rw[aPF,aQX h];rfl))
   have h':((j:Int)<(ns.length:Int)):=by lia
   simp[lL,h',hx,h]
 . have h':¬ ((j:Int)<(ns.length:Int)):=by lia
   simp[lL,h',aR9 (Nat.le_of_not_lt h)]
theorem rngI{n:Int}(h0:0<=n)(h1:n<=1000):gW (.ok [(m,.int n)])=okf (.lst (bF 0 n)):=by unfold gW;rw[bA.thn_ok];dsimp only;rw[if_pos];simp only[aPY,aQH];lia
theorem mem_range{d:D}{n:Int}(h:d∈bF 0 n):∃i:Nat,(i:Int)<n/\d=.int i:=by simp only[bF,aR5,aOC]at h;obtain⟨i,hi,rfl⟩:=h;exact⟨i,by lia,by simp⟩
section
variable {W:WD}{s:D3.S}{r a b:List D3.S}{x:aE}{e c:E}{d:D}{l:List D}
def nxt(h:evS W s ρ=.nx ρ')(h2:evB W r ρ'=x):evB W (s::r) ρ=x:=by rw[b_nx h];exact h2
def nxr(h:evS W s ρ=.rt m d):evB W (s::r) ρ=.rt m d:=by rw[cT,h];rfl
def aU(h:evE W e ρ=okf d):evB W [.ret e] ρ=.rt .fz d:=by rw[cT,nK,h];rfl
def jP(h:evE W e ρ=.ok .fr d):evB W [.ret e] ρ=.rt .fr d:=by rw[cT,nK,h];rfl
def aF(h:evE W c ρ=.ok m (.bl false))(h2:evB W b ρ=x):evS W (.ite c a b) ρ=x:=by rw[rL,h,yK,h2]
def aV(h:evE W c ρ=.ok m (.bl true))(h2:evB W a ρ=x):evS W (.ite c a b) ρ=x:=by rw[rL,h,x_ifT,h2]
def tJ(h:evE W e ρ=.ok m (.lst l)):evE W (.tcall .tuple [e]) ρ=okf (.tup l):=by show cY _ (aL (evE W e ρ) (.ok []))=_;rw[h];rfl
end
theorem aAE{W:WD}{ρ:Rho}:∀ws:List Str,bN W (ws.map E.str) ρ=.ok (ws.map λw=>(.fz,.str w))
 |[]=>rfl
 |w::ws=>by show aL (okf (.str w)) (bN W (ws.map E.str) ρ)=_;rw[aAE ws];rfl
def cE{W:WD}{e:E}{y:Str}{b:Bool}(h:evE W e ρ=.ok m (.str x))(hb:(x==y)=b):evE W (.cmp .Eq e (.str y)) ρ=okf (.bl b):=by show op2 (bB .Eq) (evE W e ρ) (okf (.str y))=_;rw[h];subst hb;simp
def aAF{C:List Str}:(C.map D.str).all cS=true:=by rw[List.all_map];exact aQU.mpr λ_ _=>rfl
def aAG{C:List Str}:((C.map D.str).any λy=>eqD y (.str z))=decide (z∈C):=by
 rw[aO2,List.any_map,aSA,aQH];constructor
 . rintro⟨y,hy,e⟩;have e:(y==z)=true:=e;rw[aQS]at e;subst e;exact hy
 . exact λh=>⟨z,h,by show(z==z)=true;exact aQ9 z⟩
def in_T{C:List Str}:op2 (bB .In) (.ok m (.str z)) (.ok m' (.tup (C.map .str)))=okf (.bl (decide (z∈C))):=by refine bQ ?_;show(if(cS (.str z)&&(C.map D.str).all cS)=true then some (Md.fz,D.bl (if false=true then _ else((C.map D.str).any λy=>eqD y (.str z))))else none)=_;rw[aAF,aAG];rfl
def aMP{C:List Str}:op2 (bB .NotIn) (.ok m (.str z)) (.ok m' (.tup (C.map .str)))=okf (.bl (!decide (z∈C))):=by refine bQ ?_;show(if(cS (.str z)&&(C.map D.str).all cS)=true then some (Md.fz,D.bl (if true=true then !((C.map D.str).any λy=>eqD y (.str z))else _))else none)=_;rw[aAF,aAG];rfl
theorem aAH:∀ws:List Str,cK (ws.map λw=>(Md.fz,D.str w))=some (ws.map D.str)
 |[]=>rfl
 |w::ws=>by show(cK (ws.map λw=>(Md.fz,D.str w))).map _=_;rw[aAH ws];rfl
theorem cI{W:WD}{e:E}{b:Bool}(ws:List Str)(h:evE W e ρ=.ok m (.str x))(hl:ws.length<=100)(hb:decide (x∈ws)=b):evE W (.cmp .In e (.tup (ws.map E.str))) ρ=okf (.bl b):=by
 show op2 (bB .In) (evE W e ρ) (dD (bN W (ws.map E.str) ρ))=_;have:dD (.ok (ws.map λw=>(Md.fz,D.str w)))=okf (.tup (ws.map .str)):=by unfold dD;rw[bA.thn_ok,aAH];dsimp only;rw[if_pos (by rw[aPI,aO3];lia)]
 rw[h,aAE,this,in_T,hb]
def aO{W:WD}{e:E}{d:D}(j:Nat)(h:evE W e ρ=.ok m (.tup ds))(hd:ds[j]? = some d):evE W (.ix e (.int (j:Int))) ρ=okf d:=by show op2 ixD (evE W e ρ) (okf (.int j))=_;rw[h];exact ix_t (cW hd)
def cF{W:WD}{e:E}{d:D}(j:Nat)(h:evE W e ρ=.ok m (.lst ds))(hd:ds[j]? = some d):evE W (.ix e (.int (j:Int))) ρ=okf d:=by show op2 ixD (evE W e ρ) (okf (.int j))=_;rw[h];exact eD (cW hd)
def c1{W:WD}{f:Str}{e:E}{x d:D}(h:evE W e ρ=okf x)(hf:W.Φ f [x]=okf d):evE W (.call f 1 [e]) ρ=okf d:=by show bD 1 (W.Φ f) (aL (evE W e ρ) (.ok []))=_;rw[h];exact call1 hf
def frzE{W:WD}{e:E}{d:D}(hm:m ≠ .bo)(h:evE W e ρ=.ok m d):evE W (.frz e) ρ=okf d:=by
 show bR (evE W e ρ)=_;rw[h];cases m with
 |bo=>exact absurd rfl hm
 |_=>rfl
def aK{W:WD}{e:E}{d:D}(h:evE W e ρ=okf d):evE W (.frz e) ρ=okf d:=frzE (by decide) h
def dR{W:WD}{e:E}{d:D}(h:evE W e ρ=.ok .fr d):evE W (.frz e) ρ=okf d:=frzE (by decide) h
def aH{W:WD}{e:E}{d:D}(h:evE W e ρ=okf d):evS W (.set i e) ρ=.nx (ρ.set i (sf d)):=by rw[rK,h];rfl
def jQ{xs:List (Md×D)}{d:D}(hl:ds.length=n)(ha:cK xs=some ds)(h:Φ ds=.ok .fr d):bD n Φ (.ok xs)=.ok .fr d:=by
 show(match cK xs with|some ds=>if ds.length=n then(match Φ ds with|.ok .bo _=>Res.stuck|r=>r)else .stuck|none=>.stuck)=_
 rw[ha];show(if ds.length=n then(match Φ ds with|.ok .bo _=>Res.stuck|r=>r)else .stuck)=_
 rw[if_pos hl,h]
def tx(l:List Nat):Str:=⟨l.toArray⟩
def cU{l:List Nat}:(tx l).cps.toList=l:=by simp[tx]
def bH(z:Str):z=tx z.cps.toList:=by cases z;simp[tx]
def eE{a b:List Nat}:tx a++tx b=tx (a++b):=by show(⟨a.toArray++b.toArray⟩:Str)=_;simp[tx]
def aY{l:List Nat}:(tx l).length=l.length:=by simp[tx,Str.length]
def spl(c:Nat):List Nat->List (List Nat)
 |[]=>[[]]
 |x::r=>if x=c then[]::spl c r else(match spl c r with|h::t=>(x::h)::t|[]=>[[x]])
def aMQ{x:Nat}{r:List Nat}:spl c (x::r)=if x=c then[]::spl c r else(match spl c r with|h::t=>(x::h)::t|[]=>[[x]]):=rfl
def jn(s:List Nat):List (List Nat)->List Nat
 |[]=>[]
 |[p]=>p
 |p::q::r=>p++s++jn s (q::r)
theorem nS{z:List Nat}:∀ps:List Str,Str.join (tx z) ps=tx (jn z (ps.map λp=>p.cps.toList))
 |[]=>rfl
 |[p]=>by show p=_;exact bH p
 |p::q::r=>by have ih:=nS (z:=z) (q::r);show p++tx z++Str.join (tx z) (q::r)=_;rw[ih,bH p,eE,eE];simp only[cU,aQD,jn]
theorem tK{c:Nat}:∀{p:List Nat},c∉p->spl c p=[p]
 |[],_=>rfl
 |x::p,h=>by rw[aOG,not_or]at h;unfold spl;rw[if_neg (Ne.symm h.1),tK h.2]
theorem nT{c:Nat}{r:List Nat}:∀{p:List Nat},c∉p->spl c (p++c::r)=p::spl c r
 |[],_=>by show spl c (c::r)=_;rw[spl,if_pos rfl]
 |x::p,h=>by rw[aOG,not_or]at h;show spl c (x::(p++c::r))=_;rw[spl,if_neg (Ne.symm h.1),nT h.2]
theorem aAI{c:Nat}:∀{ps:List (List Nat)},ps≠[]->(∀p∈ps,c∉p)->spl c (jn [c] ps)=ps
 |[p],_,h=>tK (h p mcs)
 |p::q::r,_,h=>by show spl c (p++[c]++jn [c] (q::r))=_;rw[aSB,List.singleton_append,nT (h p mcs),aAI (by simp) λx hx=>h x (mcm hx)]
def aMR(x y:Str):Txt.split x y≠[]:=by
 unfold Txt.split;split
 . simp
 . split
   . simp
   . intro e;have:=length_partsBetween x (Builtin.Str.occurrences x y 0 x.length (x.length+1)) y.length;rw[e]at this;simp at this
def aAJ{l:List Nat}:(Txt.split (tx l) (tx [c])).map (λp=>p.cps.toList)=spl c l:=by
 have h1:Str.join (tx [c]) (Txt.split (tx l) (tx [c]))=tx l:=StrLaws.join_split _ _;have h2:∀p∈Txt.split (tx l) (tx [c]),c∉p.cps.toList:=StrLaws.split_free (tx l) c;rw[nS]at h1;have h3:=congrArg (λz:Str=>z.cps.toList) h1;simp only[cU]at h3
 have h4:=aAI (c:=c) (ps:=(Txt.split (tx l) (tx [c])).map λp=>p.cps.toList) (by simpa using aMR _ _) (λp hp=>by
  obtain⟨q,hq,rfl⟩:=aR5.mp hp;exact h2 q hq)
 rw[h3]at h4;exact h4.symm
def rp(c:Nat)(z:List Nat)(l:List Nat):List Nat:=l.flatMap λx=>if x=c then z else[x]
theorem aAK{c:Nat}{z:List Nat}:∀{l:List Nat},jn z (spl c l)=rp c z l/\spl c l≠[]
 |[]=>⟨rfl,by simp[spl]⟩
 |x::r=>by
  obtain⟨ih,hn⟩:=aAK (c:=c) (z:=z) (l:=r);obtain⟨h,t,e⟩:=aSC hn;unfold rp at ih ⊢;rw[aSD,<- ih,aMQ];by_cases hx:x=c
  . rw[if_pos hx,if_pos hx,e];exact⟨rfl,by simp⟩
  . rw[if_neg hx,if_neg hx,e];refine⟨?_,by simp⟩
    cases t <;> rfl
def tL{l z:List Nat}:Txt.replace (tx l) (tx [c]) (tx z)=tx (rp c z l):=by have h:Txt.replace (tx l) (tx [c]) (tx z)=Str.join (tx z) (Txt.split (tx l) (tx [c])):=StrLaws.replace_one _ _ _;rw[h,nS,aAJ,aAK.1]
def spc(l:List Nat):List Nat:=rp 41 [32,41,32] (rp 40 [32,40,32] l)
def aAL{l:List Nat}:kX (tx l)=tx (spc l):=by unfold kX spc;rw[show Str.ofString "(" = tx [40] by decide +kernel,show Str.ofString " ( " = tx [32,40,32] by decide +kernel,show Str.ofString ")" = tx [41] by decide +kernel,show Str.ofString " ) " = tx [32,41,32] by decide +kernel,tL,tL]
def wd(c:Nat):Prop:=c≠32/\c≠40/\c≠41
inductive bW:List (List Nat)->List Nat->Prop
 |nil:bW [] []
 |bl {ts x:_}:bW ts x->bW ts (32::x)
 |br {ts x c:_}:(c=40\/c=41)->bW ts x->bW ([c]::ts) (c::x)
 |wd {ts x w:_}:w≠[]->(∀c∈w,wd c)->bW ts x->(∀c,x.head? = some c -> ¬ wd c)->bW (w::ts) (w++x)
def nU{l:List Nat}:spc (c::l)=(if c=40 then[32,40,32]else if c=41 then[32,41,32]else[c])++spc l:=by
 unfold spc rp;rw[aSD,List.flatMap_append];congr 1;by_cases h:c=40
 . rw[if_pos h,if_pos h];rfl
 . rw[if_neg h,if_neg h];by_cases h1:c=41
   . rw[if_pos h1];subst h1;rfl
   . rw[if_neg h1];simp[h1]
theorem aAM{x:List Nat}:∀{w:List Nat},(∀c∈w,wd c)->spc (w++x)=w++spc x
 |[],_=>rfl
 |c::w,h=>by obtain⟨_,h1,h2⟩:=h c mcs;rw[List.cons_append,nU,if_neg h1,if_neg h2,aAM λd hd=>h d (mcm hd)];rfl
def ne(p:List Nat):Bool:=!p.isEmpty
def tM{l:List Nat}:(spl 32 (32::l)).filter ne=(spl 32 l).filter ne:=by rw[spl,if_pos rfl];rfl
def aMS{ts:List (List Nat)}{x:List Nat}(h:bW ts x):(spl 32 (spc x)).filter ne=ts:=by
 induction h with
 |nil=>rfl
 |bl _ ih=>rw[nU];exact tM.trans ih
 | @br ts x c hc _ ih =>
  have e:spc (c::x)=32::([c]++32::spc x):=by rw[nU];rcases hc with rfl|rfl <;> rfl
  rw[e,tM,nT (by rcases hc with rfl|rfl <;> decide),aSE (by rfl),ih]
 | @wd ts x w hn hw _ hx ih =>
  have nw:(32:Nat)∉w:=λh=>(hw 32 h).1 rfl;have pw:ne w=true:=by cases w with|nil=>exact absurd rfl hn|cons _ _=>rfl
  rw[aAM hw];cases x with
  |nil =>
   rw[show spc []=[]from rfl,aO7,tK nw,aSE pw]
   rw[show(spl 32 (spc [])).filter ne=[]from rfl]at ih
   rw[<- ih];rfl
  |cons c r =>
   have hc:=hx c rfl;obtain⟨y,ey⟩:∃y,spc (c::r)=32::y:=by
    rw[nU];by_cases h1:c=40
    . rw[if_pos h1];exact⟨_,rfl⟩
    . rw[if_neg h1];by_cases h2:c=41
      . rw[if_pos h2];exact⟨_,rfl⟩
      . rw[if_neg h2];by_cases h3:c=32
        . subst h3;exact⟨_,rfl⟩
        . exact absurd ⟨h3,h1,h2⟩ hc
   rw[ey]at ih ⊢;rw[nT nw,aSE pw,<- tM,ih]
def aMT{x:List Nat}:(dH (tx x)).map (λp=>p.cps.toList)=spl 32 (spc x):=by
 unfold dH;rw[aAL,show Str.ofString " " = tx [32] by decide +kernel]
 exact aAJ
theorem tN{c:Nat}{z:List Nat}{n:Nat}(hz:z.length<=n+1):∀{l:List Nat},(rp c z l).length<=(n+1) * l.length
 |[]=>aQF _
 |x::r=>by
  have ih:=tN (c:=c) hz (l:=r);unfold rp at ih ⊢;rw[aSD,aPH,aQB,Nat.mul_succ];have:(if x=c then z else[x]).length<=n+1:=by
   split
   . exact hz
   . simp
  lia
theorem aAN{c:Nat}:∀{l:List Nat},(spl c l).length<=l.length+1/\∀p∈spl c l,p.length<=l.length/\∀x∈p,x∈l
 |[]=>⟨aOY _,λp hp=>by rw[aRF.mp hp];exact⟨aOY _,λx hx=>hx⟩⟩
 |x::r=>by
  obtain⟨h1,h2⟩:=aAN (c:=c) (l:=r);unfold spl;split
  . refine⟨by simp;lia,λp hp=>?_⟩
    rcases aOG.mp hp with rfl|hp
    . exact⟨aQF _,λx hx=>nomatch hx⟩
    . exact⟨by have:=(h2 p hp).1;simp;lia,λy hy=>mcm ((h2 p hp).2 y hy)⟩
  . cases e:spl c r with
    |nil=>exact⟨by simp,λp hp=>by rw[aRF.mp hp];exact⟨by simp,λy hy=>by rw[aRF.mp hy];exact mcs⟩⟩
    |cons h t =>
     rw[e]at h1 h2;refine⟨by simpa using Nat.le_succ_of_le h1,λp hp=>?_⟩
     rcases aOG.mp hp with rfl|hp
     . have:=h2 h mcs;refine⟨by simpa using this.1,λy hy=>?_⟩
       rcases aOG.mp hy with rfl|hy
       . exact mcs
       . exact mcm (this.2 y hy)
     . have:=h2 p (mcm hp);exact⟨by have:=this.1;simp;lia,λy hy=>mcm (this.2 y hy)⟩
theorem aAO{k:D->Rho->Option Rho}{t e:Rho->Res}{ρ0:Rho}{p:D->Bool}:∀{ds:List D},(∀d∈ds,∃ρ1 m,k d ρ0=some ρ1/\t ρ1=.ok m (.bl (p d))/\∃m',bR (e ρ1)=.ok m' d)->eG k t e ρ0 ds=some (ds.filter p)
 |[],_=>rfl
 |d::ds,h=>by
  obtain⟨ρ1,m,e1,e2,m',e3⟩:=h d mcs;have ih:=aAO (ds:=ds) λd hd=>h d (mcm hd);unfold eG;rw[e1];dsimp only;rw[e2];cases hp:p d with
  |true=>dsimp only;rw[e3,ih,aSE hp];rfl
  |false=>dsimp only;rw[ih,List.filter_cons_of_neg (by rw[hp];decide)]
def aAP{k:D->Rho->Option Rho}{t e:Rho->Res}(p:D->Bool)(hl:ds.length<sizeLine)(h:∀d∈ds,∃ρ1 m,k d (cM caps ρ++List.replicate n none)=some ρ1/\t ρ1=.ok m (.bl (p d))/\∃m',bR (e ρ1)=.ok m' d):dP (.ok m (.lst ds)) ρ caps n k t e=.ok .fr (.lst (ds.filter p)):=by unfold dP;rw[Res.thn_ok];dsimp only;rw[if_pos hl,aAO h]
def aAQ{p:Str}:D.str (tx p.cps.toList)=.str p:=by rw[<- bH]
theorem wdsOf(k:Nat){ts:List (List Nat)}{x:List Nat}(h:bW ts x)(hl:x.length<=10000)(hc:∀c∈x,c<1000):(Wk (k+1)).Φ "words_of" [.str (tx x)]=.ok .fr (.lst (ts.map λt=>.str (tx t))):=by
 have z:=aO3;have l1:(rp 40 [32,40,32] x).length<=3 * x.length:=tN (n:=2) (by decide)
 have l2:(spc x).length<=3 * (rp 40 [32,40,32] x).length:=tN (n:=2) (by decide)
 have mem:∀c∈spc x,c<1000:=by
  intro c hc';unfold spc rp at hc';simp only[List.mem_flatMap]at hc';obtain⟨d,⟨e,he,hd⟩,hc'⟩:=hc';have:∀{q:Nat}{a:Nat}{s:List Nat},(∀y∈s,y<1000)->a<1000->∀y∈(if a=q then s else[a]),y<1000:=λ{q a s} h1 h2 y hy=>by
   split at hy
   . exact h1 y hy
   . rw[aRF.mp hy];exact h2
  exact this (by decide) (this (by decide) (hc e he) d hd) c hc'
 have ps:=aMT (x:=x);have sl:=aAN (c:=32) (l:=spc x);have pl:(dH (tx x)).length<=100000:=by have:=congrArg List.length ps;rw[aPI]at this;lia
 have pe:∀p∈dH (tx x),p.length<=100000/\∀c∈p.cps.toList,c<1000:=λp hp=>by
  have:p.cps.toList∈spl 32 (spc x):=by rw[<- ps];exact List.mem_map_of_mem hp
  obtain⟨h1,h2⟩:=sl.2 _ this;have e:p.length=p.cps.toList.length:=rfl;exact⟨by lia,λc hc=>mem c (h2 c hc)⟩
 have ok:f6 (tx x)=true:=by
  unfold f6;rw[show Str.ofString "(" = tx [40] by decide +kernel,show Str.ofString " ( " = tx [32,40,32] by decide +kernel,tL,aAL]
  simp only[aPY,aQH,aY,aQU];refine⟨⟨⟨⟨by lia,by lia⟩,by lia⟩,by lia⟩,λp hp=>?_⟩
  obtain⟨h1,h2⟩:=pe p hp;refine⟨by lia,?_⟩
  unfold PyData.strOk;rw[<- Array.all_toList,aQU];exact λc hc=>aQA (by have:=h2 c hc;lia)
 have fl:((dH (tx x)).map D.str).filter (λd=>match d with|.str p=>ne p.cps.toList|_=>false)=ts.map λt=>D.str (tx t):=by rw[<- aMS h,<- ps,aSF,aSF,aR2];exact aSG λp _=>aAQ.symm
 have ec:dP (okf (.lst ((dH (tx x)).map D.str))) [sf (.str (tx x)),sf (.lst ((dH (tx x)).map D.str))] [] 1 (a9 (.nm 0)) (evF (Wk k) [.cmp .NotEq v0 (.str "")]) (evE (Wk k) v0)=.ok .fr (.lst (ts.map λt=>.str (tx t))):=by
  rw[<- fl];refine aAP _ (by rw[aPI];lia) λd hd=>?_
  obtain⟨p,_,rfl⟩:=aR5.mp hd;refine⟨[sf (.str p)],.fz,rfl,?_,.fz,by simp⟩
  have:(!(p==Str.ofString ""))=ne p.cps.toList:=by
   rw[bH p,show Str.ofString "" = tx [] by decide +kernel]
   unfold ne;congr 1;cases p.cps.toList with
   |nil=>rfl
   |cons a l=>rw[cU];rfl
  show _=Res.ok .fz (.bl (ne p.cps.toList));rw[<- this];simp;rfl
 rw[aL4];refine aJ rfl ?_;show evB (Wk k) nP [sf (.str (tx x)),none]=_;have e1:f7 [sf (.str (tx x)),none]=.nx [sf (.str (tx x)),sf (.lst ((dH (tx x)).map D.str))]:=by show(if f6 (tx x)=true then _ else _)=_;rw[if_pos ok];rfl
 rw[show nP=[.wds,.ret (.comp v0 (.items v1) [(.cmp .NotEq v0 (.str ""))] [] (.nm 0) 1)]from rfl,cT,s_wds,e1,aE.thn_nx,cT,nK,k9,k8]
 exact(congrArg (λr=>(gU r _).thn _) ec).trans rfl
noncomputable def gT(W:WD):Rho->Stk->bJ:=hZ (evE W (.bin .Add (.glob "MOST_OPEN" (.i 30)) (.int 1))) (evS W .never) (evS W .never)
section
variable {W:WD}{z:Stk}{top:List D}
theorem aMU(h:z.length<=31):hU (evE W (.bin .Add (.glob "MOST_OPEN" (.i 30)) (.int 1))) ρ z=some false:=by
 have e:evE W (.bin .Add (.glob "MOST_OPEN" (.i 30)) (.int 1)) ρ=okf (.int 31):=by simp
 unfold hU;rw[e];dsimp only;rw[aN2 (by lia)]
def tO{f g:Rho->Stk->bJ}{z':Stk}(e:f ρ z=.nx ρ' z')(h:z'.length<=31):seqT f (ifT (hU (evE W (.bin .Add (.glob "MOST_OPEN" (.i 30)) (.int 1)))) g nxT) ρ z=.nx ρ' z':=by unfold seqT;rw[e];dsimp only;unfold ifT;rw[aMU h];rfl
theorem lR(hl:ρ.length=4){w:Str}:hR w (ρ.set 2 (sf (.str x))) z=some (decide (x=w)):=by unfold hR;rw[aOK (by lia)]
def aAR{d:D}(hi:i<ρ.length)(h:top.length<sizeLine):hO i (ρ.set i (sf d)) (top::z)=.nx (ρ.set i (sf d)) ((top++[d])::z):=by unfold hO;rw[aOK hi];dsimp only;rw[if_pos h]
theorem aMV(hl:ρ.length=4)(h1:x≠Str.ofString "(")(h2:x≠Str.ofString ")")(ht:top.length<sizeLine)(hz:z.length<=30):gT W (ρ.set 2 (sf (.str x))) (top::z)=.nx (ρ.set 2 (sf (.str x))) ((top++[.str x])::z):=by
 unfold gT hZ;refine tO ?_ (by simpa using hz)
 unfold ifT;rw[lR hl,aN2 h1];dsimp only;rw[lR hl,aN2 h2];exact aAR (by lia) ht
theorem aMW(hl:ρ.length=4)(hz:z.length<=30):gT W (ρ.set 2 (sf (.str (Str.ofString "(")))) z=.nx (ρ.set 2 (sf (.str (Str.ofString "(")))) ([]::z):=by
 unfold gT hZ;refine tO ?_ (by simpa using hz)
 unfold ifT;rw[lR hl,aQA rfl];show(if z.length<1000 then _ else _)=_;rw[if_pos (by lia)]
theorem aMX(hl:ρ.length=4){nx:List D}(ht:nx.length<sizeLine)(hz:z.length<=30):gT W (ρ.set 2 (sf (.str (Str.ofString ")")))) (top::nx::z)=.nx ((ρ.set 2 (sf (.str (Str.ofString ")")))).set 3 (sf (.lst top))) ((nx++[.lst top])::z):=by
 unfold gT hZ;refine tO ?_ (by simpa using hz)
 unfold ifT;rw[lR hl,aN2 (by decide +kernel)]
 dsimp only;rw[lR hl,aQA rfl]
 exact aAR (ρ:=ρ.set 2 (sf (.str (Str.ofString ")")))) (i:=3) (z:=z) (by rw[aQZ];lia) ht
end
def tD(ts:List (List Nat)):List D:=ts.map λt=>.str (tx t)
def Rd(W:WD)(ts:List (List Nat))(ds:List D)(n:Nat):Prop:=ds.length<=ts.length/\∀(rest:List D) (ρ:Rho) (top:List D) (z:Stk),ρ.length=4->z.length+n<=30->top.length+ts.length<=100000->∃ρ':Rho,ρ'.length=4/\eK (gT W) (tD ts++rest) ρ (top::z)=eK (gT W) rest ρ' ((top++ds)::z)
section
variable {W:WD}{ts:List (List Nat)}{es:List D}{m:Nat}
def Rd.nil:Rd W [] [] n:=⟨aOY _,λrest ρ top z hl _ _=>⟨ρ,hl,by rw[aO7];rfl⟩⟩
theorem Rd.mono(h:Rd W ts ds n)(hm:n<=m):Rd W ts ds m:=⟨h.1,λrest ρ top z hl hz ht=>h.2 rest ρ top z hl (by lia) ht⟩
theorem Rd.app(h:Rd W ts ds n)(h':Rd W us es n):Rd W (ts++us) (ds++es) n:=by
 refine⟨by simp only[aPH];have:=h.1;have:=h'.1;lia,λrest ρ top z hl hz ht=>?_⟩
 rw[aPH]at ht;obtain⟨ρ1,l1,e1⟩:=h.2 (tD us++rest) ρ top z hl hz (by lia)
 obtain⟨ρ2,l2,e2⟩:=h'.2 rest ρ1 (top++ds) z l1 hz (by rw[aPH];have:=h.1;lia)
 refine⟨ρ2,l2,?_⟩;have:tD (ts++us)++rest=tD ts++(tD us++rest):=by unfold tD;rw[aRV,aSB]
 rw[this,e1,e2,aSB]
theorem Rd.word{t:List Nat}(h1:t≠[40])(h2:t≠[41]):Rd W [t] [.str (tx t)] n:=by
 have z0:=aO3;refine⟨aOY _,λrest ρ top z hl hz ht=>⟨ρ.set 2 (sf (.str (tx t))),by rw[aQZ];exact hl,?_⟩⟩
 have n1:tx t≠Str.ofString "(" := λe=>h1 (by
  have:=congrArg (λz:Str=>z.cps.toList) e;rw[cU]at this
  exact this.trans (by decide +kernel))
 have n2:tx t≠Str.ofString ")" := λe=>h2 (by
  have:=congrArg (λz:Str=>z.cps.toList) e;rw[cU]at this
  exact this.trans (by decide +kernel))
 have ht:top.length+1<=100000:=ht;show seqT (gT W) (eK (gT W) rest) _ _=_;unfold seqT;rw[aMV hl n1 n2 (by lia) (by lia)]
theorem Rd.br(h:Rd W ts ds n):Rd W ([40]::ts++[[41]]) [.lst ds] (n+1):=by
 have z0:=aO3;refine⟨by simp,λrest ρ top z hl hz ht=>?_⟩
 rw[aPH,aQB,aP8]at ht
 obtain⟨ρ1,l1,e1⟩:=h.2 (.str (tx [41])::rest) (ρ.set 2 (sf (.str (Str.ofString "(")))) [] (top::z) (by rw[aQZ];exact hl) (by rw[aQB];lia) (by rw[aQC];lia)
 refine⟨(ρ1.set 2 (sf (.str (Str.ofString ")")))).set 3 (sf (.lst ds)),by rw[aQZ,aQZ];exact l1,?_⟩
 have e0:tD ([40]::ts++[[41]])++rest=.str (Str.ofString "(")::(tD ts++(.str (tx [41])::rest)):=by
  unfold tD;rw[aRV,aSB,show Str.ofString "(" = tx [40] by decide +kernel];rfl
 rw[e0];show seqT (gT W) (eK (gT W) (tD ts++(.str (tx [41])::rest))) _ _=_;unfold seqT;rw[aMW hl (by rw[aQB];lia)]
 dsimp only;rw[e1,show tx [41]=Str.ofString ")" by decide +kernel,aRJ]
 show seqT (gT W) (eK (gT W) rest) _ _=_;unfold seqT;rw[aMX l1 (by lia) (by lia)]
end
def trOf(k:Nat){ts:List (List Nat)}{d:D}(h:Rd (Wk k) ts [d] n)(hn:n<=30)(hl:ts.length<=100000):(Wk (k+1)).Φ "tree_of" [.lst (tD ts)]=okf d:=by
 obtain⟨ρ',_,e⟩:=h.2 [] [sf (.lst (tD ts)),none,none,none] [] [] rfl (by simpa using hn) (by simpa using hl)
 rw[aO7]at e;have e:eK (gT (Wk k)) (tD ts) [sf (.lst (tD ts)),none,none,none] [[]]=.nx ρ' [[d]]:=e;rw[aL5];refine aJ rfl ?_;show evB (Wk k) nQ [sf (.lst (tD ts)),none,none,none]=_;rw[show nQ=[.tree (.bin .Add (.glob "MOST_OPEN" (.i 30)) (.int 1)) .never .never .never]from rfl,cT,aLH]
 have:eW (evE (Wk k) (.items v0)) (gT (Wk k)) (evS (Wk k) .never) [sf (.lst (tD ts)),none,none,none]=.rt .fz d:=by
  unfold eW;rw[if_pos (by rfl)]
  unfold qS seqT hV;have ei:evE (Wk k) (.items v0) ([sf (D.lst (tD ts)),none,none,none].set 1 none)=okf (.lst (tD ts)):=by show evE (Wk k) (.items v0) [sf (D.lst (tD ts)),none,none,none]=_;rw[k8,nJ];rfl
  rw[ei];dsimp only;rw[show([sf (D.lst (tD ts)),none,none,none].set 1 none:Rho)=[sf (.lst (tD ts)),none,none,none]from rfl,e]
  rfl
 show(eW (evE (Wk k) (.items v0)) (gT (Wk k)) (evS (Wk k) .never) _).thn _=_;rw[this];rfl
end K71
namespace K71
open D3 NumText
def jR(c:D):Bool:=match c with|.str x=>cX x (Str.ofString "abcdefghijklmnopqrstuvwxyz")||cX x (Str.ofString "0123456789")|_=>false
def hd(z:Str):Str:=⟨#[z.cps.toList.headD 0]⟩
def gI(z:Str):Bool:=!(decide (z.length<1)||decide (40<z.length))&&(cX (hd z) (Str.ofString "abcdefghijklmnopqrstuvwxyz")&&(cC z).all jR)
def aMY(k:Nat):(Wk (k+1)).Φ "is_name_sign" [.str x]=okf (.bl (jR (.str x))):=by rw[aLZ];refine aJ rfl ?_;show evB _ nO [sf (.str x)]=_;simp[nO,jR]
def aAS{d:D}(h:d∈cC z):∃x:Str,d=.str x:=by simp only[cC,aR5]at h;obtain⟨c,_,rfl⟩:=h;exact⟨_,rfl⟩
theorem aAT{f:D->Bool}:∀{ds:List D},fD (ds.map λd=>.bl (f d))=some (ds.map f)
 |[]=>rfl
 |d::ds=>by show(fD (ds.map _)).map _=_;rw[aAT];rfl
def aAU:(cC z).length=z.length:=by simp[cC,Str.length]
def all_map{f:D->Bool}:kM [(m,.lst (ds.map λd=>.bl (f d)))]=some (.fz,.bl (ds.all f)):=by show(fD _).map _=_;rw[aAT];simp[Function.comp_def]
def fstN(h:1<=z.length):op2 ixD (.ok m (.str z)) (.ok m' (.int 0))=okf (.str (hd z)):=by
 refine bQ ?_;show(atI z.cps.toList 0).map _=_;have:z.cps.toList≠[]:=by intro e;simp[Str.length,<- aOQ,e]at h
 obtain⟨a,l,e⟩:=aSC this;rw[e,show atI (a::l) (0:Int)=some a from cW (j:=0) rfl]
 unfold hd;rw[e];rfl
theorem aAV(k:Nat):(Wk (k+2)).Φ "is_name" [.str z]=okf (.bl (gI z)):=by
 rw[aLY];refine aJ rfl ?_;show evB _ lG [sf (.str z)]=_;have ei:cQ [(.fz,.str z),(.fz,.ty "str")]=some (.fz,.bl true):=rfl;by_cases h1:(decide (z.length<1)||decide (40<z.length))=true
 . have h1':(decide ((z.length:Int)<1)||decide (40<(z.length:Int)))=true:=by simp only[aQJ,aQH]at h1 ⊢;lia
   have hn:gI z=false:=by unfold gI;rw[h1];rfl
   simp[lG,ei,h1',hn,Ty.id]
 . have h2:1<=z.length/\z.length<=40:=by simp at h1;lia
   have h1':(decide ((z.length:Int)<1)||decide (40<(z.length:Int)))=false:=by simp only[aQR,decide_eq_false_iff_not];lia
   rw[aSH]at h1;have hl:(cC z).length<sizeLine:=by rw[aAU];have:sizeLine=16777216:=aO3;lia
   have ec:dP (okf (.lst (cC z))) [sf (.str z)] [] 1 (a9 (.nm 0)) (λρ=>okf (.bl true)) (λρ=>bD 1 ((Wk (k+1)).Φ "is_name_sign") (aL (d8 ρ 0) (.ok [])))=.ok .fr (.lst ((cC z).map λd=>.bl (jR d))):=by refine lF _ hl λd hd=>?_;obtain⟨x,rfl⟩:=aAS hd;exact⟨[sf (.str x)],.fz,by simp[cM],rfl,.fz,by simp[aMY k]⟩
   have hn:gI z=(cX (hd z) (Str.ofString "abcdefghijklmnopqrstuvwxyz")&&(cC z).all jR):=by unfold gI;rw[h1];rfl
   simp[lG,ei,h1',hn,fstN h2.1,Ty.id,ec,all_map]
def gJ:List Nat:=(Str.ofString "abcdefghijklmnopqrstuvwxyz").cps.toList
def gK:List Nat:=(Str.ofString "abcdefghijklmnopqrstuvwxyz0123456789").cps.toList
def aMZ:∀c∈gJ,cX ⟨#[c]⟩ (Str.ofString "abcdefghijklmnopqrstuvwxyz")=true:=by decide +kernel
def sg_in:∀c∈gK,jR (.str ⟨#[c]⟩)=true:=by decide +kernel
def tP:∀c∈gJ,c∈gK:=by decide +kernel
def Nm(z:Str):Prop:=(∃c l,z.cps.toList=c::l/\c∈gJ)/\(∀c∈z.cps.toList,c∈gK)/\z.length<=40
def Nm.pos(h:Nm z):1<=z.length:=by obtain⟨⟨c,l,e,_⟩,_⟩:=h;simp[Str.length,<- aOQ,e]
theorem Nm.name(h:Nm z):gI z=true:=by
 have hp:=h.pos;obtain⟨⟨c,l,e,hc⟩,ha,hl⟩:=h;unfold gI;simp only[aPY,aRO,aQR,decide_eq_false_iff_not];refine⟨⟨by lia,by lia⟩,?_,?_⟩
 . unfold hd;rw[e];exact aMZ c hc
 . rw[aQU];intro d hd;simp only[cC,aR5]at hd;obtain⟨x,hx,rfl⟩:=hd;exact sg_in x (ha x hx)
def aM0{a b:List Nat}(h:tx a=tx b):a=b:=by have:=congrArg (λz:Str=>z.cps.toList) h;simpa[cU]using this
theorem aM1{l:List Nat}:Txt.slice (tx l) (some 1) none=tx (l.drop 1):=by
 cases l with
 |nil=>exact PyProof.Rows.slice_from_beyond (by rw[aY];decide)
 |cons c r =>
  rw[PyProof.Rows.slice_from_eq (b:=((tx (c::r)).length:Int)) (by decide) (by rw[aY];simp;lia) rfl]
  rw[aY];simp[tx]
def aAW{l:List Nat}{W:WD}:slP (.ok m (.str (tx l))) (some (evE W (.int 1))) none ρ=okf (.str (tx (l.drop 1))):=by
 show((evE W (.int 1) ρ).thn λ_ d=>match d with|.int i=>Res.ok .fz (.str (Txt.slice (tx l) (some i) none))|_=>.stuck)=_
 simp[aM1]
def sub1{l:List Nat}:(decide (0+(tx [c]).length<=(tx l).length)&&Builtin.Str.subAt (tx l) (tx [c]) 0)=(l.head?==some c):=by rw[aO2,aPY,aQH];have:=StrLaws.subAt_one (tx l) c 0;rw[aQS,List.head?_eq_getElem?];simpa[tx]using this
def sw1{l:List Nat}:Txt.startswith (tx l) (tx [c])=(l.head?==some c):=sub1
theorem rp1{l:List Nat}:Txt.removeprefix (tx l) (tx [c])=tx (if l.head? = some c then l.drop 1 else l):=by
 rw[StrLaws.removeprefix_eq,sub1];by_cases h:l.head? = some c
 . rw[if_pos (by rw[h];simp),if_pos h,aY,aY]
   have:l.tail.length=l.length-1:=List.length_tail;simp[tx];exact aRD (by lia)
 . rw[if_neg (by simpa using h),if_neg h]
def isIn1:cX ⟨#[c]⟩ z=decide (c∈z.cps.toList):=StrLaws.found_one z c
def nV:List Nat:=[48,49,50,51,52,53,54,55,56,57]
def aM2:(Str.ofString "0123456789").cps.toList=nV:=by decide +kernel
theorem aM3:c∈nV↔48<=c/\c<=57:=by simp only[nV,aOG,aRM,aRY];omega
def dig(c:Nat):Bool:=decide (c∈nV)
def fig(l:List Nat):List Nat:=if l.head? = some 45 then l.drop 1 else l
def eF(l:List Nat):Bool:=l==[48]||(decide (1<=(fig l).length)&&decide ((fig l).length<=60)&&!((fig l).head?==some 48)&&(fig l).all dig)
def tQ(d:D):Bool:=match d with|.str x=>cX x (Str.ofString "0123456789")|_=>false
def aM4{l:List Nat}:(cC (tx l)).all tQ=l.all dig:=by
 simp only[cC,List.all_map];show(tx l).cps.toList.all _=_;rw[show(tx l).cps.toList=l by simp[tx]]
 congr 1;funext c;show cX ⟨#[c]⟩ (Str.ofString "0123456789")=_;rw[isIn1,aM2];rfl
def jS{a b:List Nat}:(tx a==tx b)=(a==b):=by rw[aO2,aQS,aQS];exact⟨aM0,λh=>by rw[h]⟩
def s0:Str.ofString "0" = tx [48]:=by decide +kernel
def sm:Str.ofString "-" = tx [45]:=by decide +kernel
def sq:Str.ofString "'" = tx [39]:=by decide +kernel
def ix0{l:List Nat}(h:1<=l.length):op2 ixD (.ok m (.str (tx l))) (.ok m' (.int 0))=okf (.str (tx (l.take 1))):=by
 refine bQ ?_;show(atI (tx l).cps.toList 0).map _=_;cases l with
 |nil=>simp at h
 |cons c r =>
  rw[show(tx (c::r)).cps.toList=c::r by simp[tx],show atI (c::r) (0:Int)=some c from cW (j:=0) rfl]
  rfl
def aAX{l:List Nat}:(l.take 1==[c])=(l.head?==some c):=by cases l <;> simp
theorem aM5(k:Nat){l:List Nat}(hl:l.length<=1000):(Wk (k+1)).Φ "is_number" [.str (tx l)]=okf (.bl (eF l)):=by
 have hs:sizeLine=16777216:=aO3;rw[aL0];refine aJ rfl ?_;show evB _ gE [sf (.str (tx l)),none]=_;by_cases h0:l=[48]
 . subst h0;have:eF [48]=true:=by decide
   simp[gE,s0,this]
 . have h0':(l==[48])=false:=by simpa using h0
   have e1:fT "str" rpD (okf (.str (tx l))) (.ok [(.fz,.str (tx [45]))])=okf (.str (tx (fig l))):=by show Res.ok .fz (.str (Txt.removeprefix (tx l) (tx [45])))=_;rw[rp1];rfl
   have nb:eF l=(decide (1<=(fig l).length)&&decide ((fig l).length<=60)&&!((fig l).head?==some 48)&&(fig l).all dig):=by unfold eF;rw[h0'];rfl
   have fl:(fig l).length<=1000:=by
    unfold fig;split
    . rw[aPV];lia
    . exact hl
   by_cases h1:(fig l).length<1
   . have:eF l=false:=by rw[nb,aN2 (by lia)];rfl
     have h1':decide (((fig l).length:Int)<1)=true:=aQA (by lia)
     simp[gE,s0,sm,jS,h0',e1,aY,h1',this]
   by_cases h2:60<(fig l).length
   . have:eF l=false:=by rw[nb,aN2 (show ¬ (fig l).length<=60 by lia)];simp
     have h1':decide (((fig l).length:Int)<1)=false:=aN2 (by lia)
     have h2':decide ((60:Int)<((fig l).length:Int))=true:=aQA (by lia)
     simp[gE,s0,sm,jS,h0',e1,aY,h1',h2',this]
   have h1':decide (((fig l).length:Int)<1)=false:=aN2 (by lia)
   have h2':decide ((60:Int)<((fig l).length:Int))=false:=aN2 (by lia)
   have i0:=ix0 (l:=fig l) (by lia) (m:=.fz) (m':=.fz)
   by_cases h3:(fig l).head? = some 48
   . have:eF l=false:=by rw[nb,h3];simp
     have h3':((fig l).take 1==[48])=true:=by rw[aAX,h3];rfl
     simp[gE,s0,sm,jS,h0',e1,aY,h1',h2',i0,h3',this]
   . have h3':((fig l).take 1==[48])=false:=by rw[aAX];simpa using h3
     have:eF l=(fig l).all dig:=by
      rw[nb,aQA (show 1<=(fig l).length by lia),aQA (show(fig l).length<=60 by lia)]
      simp[h3]
     have ec:dP (okf (.lst (cC (tx (fig l))))) [sf (.str (tx l)),sf (.str (tx (fig l)))] [] 1 (a9 (.nm 0)) (λρ=>okf (.bl true)) (λρ=>op2 (bB .In) (d8 ρ 0) (okf (.str (Str.ofString "0123456789"))))=.ok .fr (.lst ((cC (tx (fig l))).map λd=>.bl (tQ d))):=by
      refine lF _ (by rw[aAU,aY];lia) λd hd=>?_
      obtain⟨x,rfl⟩:=aAS hd;exact⟨[sf (.str x)],.fz,by simp[cM],rfl,.fz,by simp[tQ]⟩
     simp[gE,s0,sm,jS,h0',e1,aY,h1',h2',i0,h3',this,ec,all_map,aM4]
theorem dgOf:∀m:Nat,AllDigits ((Nat.toDigits 10 m).map Char.toNat)/\digitsVal ((Nat.toDigits 10 m).map Char.toNat)=m/\(Nat.toDigits 10 m).map Char.toNat≠[]/\(0<m->((Nat.toDigits 10 m).map Char.toNat).head?≠some 48):=by
 intro m
 induction m using Nat.strongRecOn with
 |_ m ih =>
  have one:∀d:Nat,d<10->(Nat.digitChar d).toNat=d+48:=by decide
  by_cases h:m<10
  . rw[Nat.toDigits_of_lt_base h,List.map_singleton,one m h];refine⟨λc hc=>by rw[aRF.mp hc];lia,by show 0 * 10+(m+48-48)=m;lia,by simp,λh0 e=>?_⟩
    simp at e;lia
  . have hm:m % 10<10:=Nat.mod_lt m (by decide)
    have t:Nat.toDigits 10 (m / 10)++Nat.toDigits 10 (m % 10)=Nat.toDigits 10 (10 * (m / 10)+m % 10):=Nat.toDigits_append_toDigits (by decide) (by lia) hm
    rw[Nat.div_add_mod]at t;obtain⟨h1,h2,h3,h4⟩:=ih (m / 10) (by lia)
    rw[<- t,aRV,Nat.toDigits_of_lt_base hm,List.map_singleton,one _ hm];generalize (Nat.toDigits 10 (m / 10)).map Char.toNat=L at *;refine⟨λc hc=>?_,?_,by simp,λ_ e=>?_⟩
    . rcases aOH.mp hc with hc|hc
      . exact h1 c hc
      . rw[aRF.mp hc];lia
    . unfold digitsVal at h2 ⊢;rw[List.foldl_append,h2];show m / 10 * 10+(m % 10+48-48)=m;lia
    . cases L with
      |nil=>exact h3 rfl
      |cons a r=>exact h4 (by lia) e
theorem nW{i:Int}(h:i.natAbs<10 ^ 60):∃l,bT i=tx l/\eF l=true/\intText? (tx l)=some i/\l.length<=61/\(∀c∈l,c=45\/(48<=c/\c<=57))/\l≠[]/\eV i=true:=by
 have L:(10:Nat) ^ 60<10 ^ 500:=by decide +kernel
 have sm':eV i=true:=aLQ (by lia)
 have pos:∀n:Nat,bT (n:Int)=tx ((Nat.toDigits 10 n).map Char.toNat):=λn=>by unfold bT;rw[show((n:Nat):Int)=Int.ofNat n from rfl,PyProof.Rows.text_ofNat];rfl
 have bnd:∀n:Nat,n<10 ^ 60->((Nat.toDigits 10 n).map Char.toNat).length<=60:=λn hn=>by rw[aPI];exact PyProof.Rows.digits10_le (by decide) hn
 have ad:∀{cs:List Nat},AllDigits cs->cs.all dig=true:=λ{cs} h=>aQU.mpr λc hc=>aQA (aM3.mpr (h c hc));by_cases h0:0<=i
 . obtain⟨n,rfl⟩:=aR8 h0;have hn:n<10 ^ 60:=by simpa using h
   obtain⟨d1,d2,d3,d4⟩:=dgOf n;have lb:=bnd n hn;refine⟨_,pos n,?_,?_,by lia,λc hc=>.inr (d1 c hc),d3,sm'⟩
   . by_cases hz:n=0
     . subst hz;decide +kernel
     . have d4:=d4 (by lia)
       generalize (Nat.toDigits 10 n).map Char.toNat=cs at *;have hf:fig cs=cs:=by
        unfold fig;rw[if_neg];intro e;cases cs with
        |nil=>cases e
        |cons a r=>have:=(d1 a mcs).1;cases e;lia
       unfold eF;rw[hf,ad d1,aQA (show 1<=cs.length by cases cs with|nil=>exact absurd rfl d3|cons _ _=>simp),aQA lb]
       simp[d4]
   . rw[intText_digits (by rw[cU];exact d1) (by rw[cU];exact d3) (by rw[aY];lia),cU,d2]
 . obtain⟨n,e⟩:=aR8 (show 0 <= -i by lia)
   have hn:n<10 ^ 60:=by lia
   obtain⟨d1,d2,d3,d4⟩:=dgOf n;have d4:=d4 (by lia)
   have lb:=bnd n hn;refine⟨45::(Nat.toDigits 10 n).map Char.toNat,by rw[aLR (by lia),e,pos n,sm,eE];rfl,?_,?_,by rw[aQB];lia,λc hc=>?_,by simp,sm'⟩
   . generalize (Nat.toDigits 10 n).map Char.toNat=cs at *;have hf:fig (45::cs)=cs:=rfl;unfold eF;rw[hf,ad d1,aQA (show 1<=cs.length by cases cs with|nil=>exact absurd rfl d3|cons _ _=>simp),aQA lb]
     simp[d4]
   . rw[intText_neg (x:=tx (45::(Nat.toDigits 10 n).map Char.toNat)) cU d1 d3 (by rw[aY,aQB];lia),d2]
     congr 1;lia
   . rcases aOG.mp hc with rfl|hc
     . exact .inl rfl
     . exact .inr (d1 c hc)
theorem toInt{l:List Nat}{i:Int}(h1:intText? (tx l)=some i)(h4:l.length<=61):hG [(.fz,.str (tx l))]=some (.fz,.int i):=by
 show(if(tx l).length<=640 then(PySem.intText? (tx l)).map λn=>(Md.fz,D.int n)else none)=_;rw[if_pos (by rw[aY];lia)]
 have:PySem.intText? (tx l)=some i:=h1;rw[this];rfl
theorem aM6(k:Nat){l:List Nat}{i:Int}(hl:l.length<=61)(hh:(l.head?==some 39)=false)(hn:eF l=true)(hi:intText? (tx l)=some i):(Wk (k+2)).Φ "read_value" [.str (tx l)]=okf (.int i):=by
 have ei:cQ [(.fz,.str (tx l)),(.fz,.ty "str")]=some (.fz,.bl true):=rfl;have e1:fT "str" swD (okf (.str (tx l))) (.ok [(.fz,.str (tx [39]))])=okf (.bl false):=by show Res.ok .fz (.bl (Txt.startswith (tx l) (tx [39])))=_;rw[sw1,hh]
 have e2:=aM5 k (l:=l) (by lia)
 rw[aAB];refine aJ rfl ?_;show evB _ jN [sf (.str (tx l))]=_;simp[jN,ei,Ty.id,sq,e1,e2,hn,toInt hi hl]
def aM7(k:Nat){r:List Nat}(hn:gI (tx r)=true):(Wk (k+3)).Φ "read_value" [.str (tx (39::r))]=okf (.str (tx r)):=by
 have ei:cQ [(.fz,.str (tx (39::r))),(.fz,.ty "str")]=some (.fz,.bl true):=rfl;have e1:fT "str" swD (okf (.str (tx (39::r)))) (.ok [(.fz,.str (tx [39]))])=okf (.bl true):=by show Res.ok .fz (.bl (Txt.startswith (tx (39::r)) (tx [39])))=_;rw[sw1];rfl
 have e4:=aAV k (z:=tx r);have sl:∀{ρ:Rho},slP (okf (.str (tx (39::r)))) (some (evE (Wk (k+2)) (.int 1))) none ρ=okf (.str (tx r)):=aAW;rw[aAB];refine aJ rfl ?_;show evB _ jN [sf (.str (tx (39::r)))]=_;simp[jN,ei,Ty.id,sq,e1,sl,e4,hn]
def aM8(k:Nat){i:Int}(h:eV i=true):(Wk (k+2)).Φ "show_value" [.int i]=okf (.str (bT i)):=by
 have w:(Wk (k+1)).Φ "is_whole" [.int i]=okf (.bl true):=by have h1:cQ [(.fz,.int i),(.fz,.ty "int")]=some (.fz,.bl true):=rfl;have h2:cQ [(.fz,.int i),(.fz,.ty "bool")]=some (.fz,.bl false):=rfl;rw[z9];refine aJ rfl ?_;show evB _ jL [si i]=_;simp[jL,h1,h2,Ty.id]
 rw[aAA];refine aJ rfl ?_;show evB _ jM [si i]=_;simp[jM,w,h]
theorem aM9(k:Nat)(h:z.length<=1000):(Wk (k+2)).Φ "show_value" [.str z]=okf (.str (tx (39::z.cps.toList))):=by
 have w:(Wk (k+1)).Φ "is_whole" [.str z]=okf (.bl false):=by have h1:cQ [(.fz,.str z),(.fz,.ty "int")]=some (.fz,.bl false):=rfl;have h2:cQ [(.fz,.str z),(.fz,.ty "bool")]=some (.fz,.bl false):=rfl;rw[z9];refine aJ rfl ?_;show evB _ jL [sf (.str z)]=_;simp[jL,h1,h2,Ty.id]
 have hs:sizeLine=16777216:=aO3;have ha:op2 (aQ .Add) (okf (.str (Str.ofString "'"))) (okf (.str z))=okf (.str (tx (39::z.cps.toList))):=by
  rw[sq,eZ (by rw[aY];simp;lia)]
  show Res.ok .fz (.str ⟨(tx [39]).cps++z.cps⟩)=_;congr 3;apply Array.toList_inj.mp;simp[tx]
 rw[aAA];refine aJ rfl ?_;show evB _ jM [sf (.str z)]=_;simp[jM,w,ha]
end K71
namespace K71
open D3
abbrev ch(z:Str):List Nat:=z.cps.toList
inductive Pt|of (n:Str)|num (i:Int)|nam (z:Str)
inductive Ts|atom (s:Bool) (p q:Pt)|no (t:Ts)|two (e:Bool) (a b:Ts)
inductive W3|join|pour|leave
inductive As|tb (n:Str)|pick (a:As) (t:Ts)|kc (k:Bool) (a:As) (ns:List Str)|tot (a:As) (n:Str) (ns:List Str)|two (v:W3) (a b:As)
abbrev Tp(C:List Str):D:=.tup (C.map D.str)
def W3.s:W3->Str|.join => "join" |.pour => "pour" |.leave => "leave"
def sw(s:Bool):Str:=if s=true then "same" else "under"
def ew(e:Bool):Str:=if e=true then "either" else "both"
def kw(k:Bool):Str:=if k=true then "keep" else "call"
def Pt.d:Pt->D|.of n=>.tup [.str "of", .str n]|.num i=>.tup [.str "just", .int i]|.nam z=>.tup [.str "just", .str z]
def Ts.d:Ts->D|.atom s p q=>.tup [.str (sw s),p.d,q.d]|.no t=>.tup [.str "not", t.d]|.two e a b=>.tup [.str (ew e),a.d,b.d]
def As.d:As->D
 |.tb n=>.tup [.str "table", .str n]
 |.pick a t=>.tup [.str "pick", a.d,t.d]
 |.kc k a ns=>.tup [.str (kw k),a.d,Tp ns]
 |.tot a n ns=>.tup [.str "total", a.d,.str n,Tp ns]
 |.two v a b=>.tup [.str v.s,a.d,b.d]
def Pt.ok:Pt->Prop|.of n=>Nm n|.num i=>i.natAbs<10 ^ 60|.nam z=>Nm z
def Ts.ok:Ts->Prop|.atom _ p q=>p.ok/\q.ok|.no t=>t.ok|.two _ a b=>a.ok/\b.ok
def nms(ns:List Str):Prop:=ns.length<=20/\∀z∈ns,Nm z
def As.ok:As->Prop
 |.tb n=>Nm n
 |.pick a t=>a.ok/\t.ok
 |.kc _ a ns=>a.ok/\nms ns
 |.tot a n ns=>a.ok/\Nm n/\nms ns
 |.two _ a b=>a.ok/\b.ok
def Ts.dp:Ts->Nat|.atom _ _ _=>1|.no t=>t.dp+1|.two _ a b=>max a.dp b.dp+1
def As.dp:As->Nat|.tb _=>0|.pick a t=>max a.dp t.dp+1|.kc _ a _=>a.dp+1|.tot a _ _=>a.dp+1|.two _ a b=>max a.dp b.dp+1
def brk(ts:List (List Nat)):List (List Nat):=[40]::ts++[[41]]
def Pt.t:Pt->List Nat|.of n=>46::ch n|.num i=>ch (bT i)|.nam z=>39::ch z
def Ts.w:Ts->List (List Nat)|.atom s p q=>brk [ch (sw s),p.t,q.t]|.no t=>brk (ch "not" :: t.w)|.two e a b=>brk (ch (ew e)::(a.w++b.w))
def As.w:As->List (List Nat)
 |.tb n=>[ch n]
 |.pick a t=>brk (ch "pick" :: (a.w++t.w))
 |.kc k a ns=>brk (ch (kw k)::(a.w++ns.map ch))
 |.tot a n ns=>brk (ch "total" :: (a.w++ch n::ns.map ch))
 |.two v a b=>brk (ch v.s::(a.w++b.w))
def Ts.r:Ts->D|.atom s p q=>.lst [.str (sw s),.str (tx p.t),.str (tx q.t)]|.no t=>.lst [.str "not", t.r]|.two e a b=>.lst [.str (ew e),a.r,b.r]
def As.r:As->D
 |.tb n=>.str n
 |.pick a t=>.lst [.str "pick", a.r,t.r]
 |.kc k a ns=>.lst (.str (kw k)::a.r::ns.map D.str)
 |.tot a n ns=>.lst (.str "total" :: a.r :: .str n::ns.map D.str)
 |.two v a b=>.lst [.str v.s,a.r,b.r]
def Wd(t:List Nat):Prop:=(t≠[]/\t.length<=100)/\∀c∈t,wd c/\c<1000
def Wd.n1{t:List Nat}(h:Wd t):t≠[40]:=λe=>(h.2 40 (by rw[e];exact mcs)).1.2.1 rfl
def Wd.n2{t:List Nat}(h:Wd t):t≠[41]:=λe=>(h.2 41 (by rw[e];exact mcs)).1.2.2 rfl
instance (c:Nat):Decidable (wd c):=by unfold wd;infer_instance
instance (t:List Nat):Decidable (Wd t):=by unfold Wd;infer_instance
def sg_wd:∀c∈gK,wd c/\c<1000:=by decide +kernel
theorem Nm.wd{z:Str}(h:Nm z):Wd (ch z):=by obtain⟨⟨c,l,e,_⟩,h2,h3⟩:=h;exact⟨⟨by show z.cps.toList≠[];rw[e];simp,by have:(ch z).length<=40:=h3;lia⟩,λc hc=>sg_wd c (h2 c hc)⟩
theorem Pt.wd{p:Pt}(h:p.ok):Wd p.t:=by
 cases p with
 | of n => exact ⟨⟨by simp [Pt.t], by have : (ch n).length ≤ 40 := h.2.2; exact aOE (aRZ this) (by decide)⟩, fun c hc => by
     rcases aOG.mp hc with rfl|hc
     . exact⟨by decide,by decide⟩
     . exact(Nm.wd h).2 c hc⟩
 | nam n => exact ⟨⟨by simp [Pt.t], by have : (ch n).length ≤ 40 := h.2.2; exact aOE (aRZ this) (by decide)⟩, fun c hc => by
     rcases aOG.mp hc with rfl|hc
     . exact⟨by decide,by decide⟩
     . exact(Nm.wd h).2 c hc⟩
 |num i =>
  obtain⟨l,e,_,_,h4,h5,h6,_⟩:=nW h;have e:ch (bT i)=l:=by rw[e];exact cU
  show Wd (ch (bT i));rw[e];refine⟨⟨h6,by lia⟩,λc hc=>?_⟩
  have:=h5 c hc;unfold K71.wd;lia
def lS(s:Bool):Wd (ch (sw s)):=by cases s <;> decide +kernel
def nX(s:Bool):Wd (ch (ew s)):=by cases s <;> decide +kernel
def nY(s:Bool):Wd (ch (kw s)):=by cases s <;> decide +kernel
def nZ(v:W3):Wd (ch v.s):=by cases v <;> decide +kernel
def n8:Wd (ch "pick"):=by decide +kernel
def lU:Wd (ch "not"):=by decide +kernel
def n9:Wd (ch "total"):=by decide +kernel
section
variable {W:WD}
def Rd.w{t:List Nat}(h:Wd t)(e:x=tx t):Rd W [t] [.str x] n:=e ▸ Rd.word h.n1 h.n2
def Rd.cons{t:List Nat}{ts:List (List Nat)}{ds:List D}(h:Wd t){x:Str}(e:x=tx t)(r:Rd W ts ds n):Rd W (t::ts) (.str x::ds) n:=(Rd.w h e).app r
theorem Rd.nms:∀{ns:List Str},(∀z∈ns,Nm z)->Rd W (ns.map ch) (ns.map D.str) n
 |[],_=>Rd.nil
 |z::ns,h=>Rd.cons (h z mcs).wd (bH z) (Rd.nms λy hy=>h y (mcm hy))
theorem Ts.rd:∀{t:Ts},t.ok->Rd W t.w [t.r] t.dp
 |.atom s p q,⟨hp,hq⟩=>Rd.br (Rd.cons (lS s) (bH _) (Rd.cons (Pt.wd hp) rfl (Rd.w (Pt.wd hq) rfl)))
 |.no t,h=>Rd.br (Rd.cons lU (bH _) (Ts.rd (t:=t) h))
 |.two e a b,⟨h1,h2⟩=>Rd.br (Rd.cons (nX e) (bH _) ((Ts.rd h1).mono (aSI _ _) |>.app ((Ts.rd h2).mono (aSJ _ _))))
theorem As.rd:∀{a:As},a.ok->Rd W a.w [a.r] a.dp
 |.tb n,h=>Rd.w (Nm.wd h) (bH n)
 |.pick a t,⟨h1,h2⟩=>Rd.br (Rd.cons n8 (bH _) ((As.rd h1).mono (aSI _ _) |>.app ((Ts.rd h2).mono (aSJ _ _))))
 |.kc k a ns,⟨h1,h2⟩=>Rd.br (Rd.cons (nY k) (bH _) ((As.rd h1).app (Rd.nms h2.2)))
 |.tot a n ns,⟨h1,h2,h3⟩=>Rd.br (Rd.cons n9 (bH _) ((As.rd h1).app (Rd.cons (Nm.wd h2) (bH _) (Rd.nms h3.2))))
 |.two v a b,⟨h1,h2⟩=>Rd.br (Rd.cons (nZ v) (bH _) ((As.rd h1).mono (aSI _ _) |>.app ((As.rd h2).mono (aSJ _ _))))
end
def Tk(t:List Nat):Prop:=t=[40]\/t=[41]\/Wd t
def iD{ts:List (List Nat)}(h:∀t∈ts,Tk t):∀t∈brk ts,Tk t:=λt ht=>by
 unfold brk at ht;rw[aOH,aOG,aRF]at ht;rcases ht with(rfl|ht)|rfl
 . exact .inl rfl
 . exact h t ht
 . exact .inr (.inl rfl)
def eM{t:List Nat}{ts:List (List Nat)}(h:Wd t)(hs:∀t∈ts,Tk t):∀u∈t::ts,Tk u:=λu hu=>by
 rcases aOG.mp hu with rfl|hu
 . exact .inr (.inr h)
 . exact hs u hu
def lV{ts:List (List Nat)}(h:∀t∈ts,Tk t)(hs:∀t∈us,Tk t):∀u∈ts++us,Tk u:=λu hu=>(aOH.mp hu).elim (h u) (hs u)
def aAY{ns:List Str}(h:∀z∈ns,Nm z):∀t∈ns.map ch,Tk t:=λt ht=>by obtain⟨z,hz,rfl⟩:=aR5.mp ht;exact .inr (.inr (h z hz).wd)
def aAZ:∀t∈([]:List (List Nat)),Tk t:=λ_ h=>nomatch h
theorem Ts.tk:∀{t:Ts},t.ok->∀x∈t.w,Tk x
 |.atom s p q,⟨hp,hq⟩=>iD (eM (lS s) (eM (Pt.wd hp) (eM (Pt.wd hq) aAZ)))
 |.no t,h=>iD (eM lU (Ts.tk (t:=t) h))
 |.two e a b,⟨h1,h2⟩=>iD (eM (nX e) (lV (Ts.tk h1) (Ts.tk h2)))
theorem As.tk:∀{a:As},a.ok->∀x∈a.w,Tk x
 |.tb n,h=>eM (Nm.wd h) aAZ
 |.pick a t,⟨h1,h2⟩=>iD (eM n8 (lV (As.tk h1) (Ts.tk h2)))
 |.kc k a ns,⟨h1,h2⟩=>iD (eM (nY k) (lV (As.tk h1) (aAY h2.2)))
 |.tot a n ns,⟨h1,h2,h3⟩=>iD (eM n9 (lV (As.tk h1) (eM (Nm.wd h2) (aAY h3.2))))
 |.two v a b,⟨h1,h2⟩=>iD (eM (nZ v) (lV (As.tk h1) (As.tk h2)))
def sp(w:List Nat)(r:List (List Nat)):List Nat:=match r with
 |[]=>[]
 |v::_=>if w=[40]\/v=[41]then[]else[32]
def gl:List (List Nat)->List Nat
 |[]=>[]
 |w::r=>w++(sp w r++gl r)
theorem tR:∀{ts:List (List Nat)},(∀t∈ts,Tk t)->bW ts (gl ts)
 |[],_=>.nil
 |w::r,h=>by
  have ih:=tR (ts:=r) λt ht=>h t (mcm ht);have ih':bW r (sp w r++gl r):=by
   cases r with
   |nil=>exact ih
   |cons v r =>
    unfold sp;dsimp only;split
    . exact ih
    . exact .bl ih
  rcases h w mcs with rfl|rfl|hw
  . exact .br (.inl rfl) ih'
  . exact .br (.inr rfl) ih'
  . refine .wd hw.1.1 (λc hc=>(hw.2 c hc).1) ih' λc hc=>?_;cases r with
    |nil=>cases hc
    |cons v r =>
     unfold sp at hc;dsimp only at hc;split at hc
     . rename_i q;rcases q with q|q
       . exact absurd q hw.n1
       . subst q;cases hc;exact λz=>z.2.2 rfl
     . cases hc;exact λz=>z.1 rfl
def Bk(ts:List (List Nat)):Prop:=ts≠[]/\ts.head?≠some [41]/\ts.getLast?≠some [40]
theorem aA0:∀{ts:List (List Nat)},gl (ts++[[41]])=gl ts++[41]
 |[]=>rfl
 |[w]=>by show w++(sp w [[41]]++_)=(w++_)++[41];simp[sp,gl]
 |w::v::r=>by have ih:=aA0 (ts:=v::r);show w++(sp w (v::(r++[[41]]))++gl (v::r++[[41]]))=_;rw[ih];show _=w++(sp w (v::r)++gl (v::r))++[41];simp[sp]
theorem aA1:∀{ts us:List (List Nat)},ts≠[]->ts.getLast?≠some [40]->us≠[]->us.head?≠some [41]->gl (ts++us)=gl ts++32::gl us
 |[w],v::us,_,h,_,h'=>by
  have n1:w≠[40]:=λe=>h (by rw[e];rfl)
  have n2:v≠[41]:=λe=>h' (by rw[e];rfl)
  show w++(sp w (v::us)++gl (v::us))=(w++(sp w []++gl []))++32::gl (v::us);simp[sp,n1,n2,gl]
 |w::v::r,us,_,h,hu,h'=>by
  have ih:=aA1 (ts:=v::r) (us:=us) (by simp) (by rwa [List.getLast?_cons_cons]at h) hu h'
  show w++(sp w (v::(r++us))++gl (v::r++us))=w++(sp w (v::r)++gl (v::r))++_;rw[ih];simp[sp]
def Bk.app{ts:List (List Nat)}(h:Bk ts)(h':Bk us):Bk (ts++us)/\gl (ts++us)=gl ts++32::gl us:=by
 refine⟨⟨by simp[h.1],?_,?_⟩,aA1 h.1 h.2.2 h'.1 h'.2.1⟩
 . obtain⟨a,l,e⟩:=aSC h.1;have:=h.2.1;rw[e]at this ⊢;exact this
 . obtain⟨l,x,e⟩:∃l x,us=l++[x]:=⟨us.dropLast,us.getLast h'.1,(List.dropLast_concat_getLast h'.1).symm⟩;have:=h'.2.2;rw[e]at this ⊢;rw[<- aSB];simpa using this
theorem Bk.brk{ts:List (List Nat)}(h:Bk ts):Bk (brk ts)/\gl (brk ts)=40::(gl ts++[41]):=by
 obtain⟨a,l,e⟩:=aSC h.1;refine⟨⟨by simp[K71.brk],by simp[K71.brk],by show([40]::ts++[[41]]).getLast?≠_;rw[List.getLast?_concat];simp⟩,?_⟩
 show[40]++(sp [40] (ts++[[41]])++gl (ts++[[41]]))=_;rw[aA0];have:sp [40] (ts++[[41]])=[]:=by rw[e];simp[sp]
 rw[this];rfl
def Wd.bk{t:List Nat}(h:Wd t):Bk [t]/\gl [t]=t:=⟨⟨by simp,λe=>h.n2 (by simpa using e),λe=>h.n1 (by simpa using e)⟩,by simp[gl,sp]⟩
theorem oA:∀{ns:List Str}{ts:List (List Nat)},Bk ts->(∀z∈ns,Nm z)->Bk (ts++ns.map ch)/\gl (ts++ns.map ch)=jn [32] (gl ts::ns.map ch)
 |[],ts,h,_=>by rw[aQE,aO7];exact⟨h,rfl⟩
 |z::ns,ts,h,hn=>by
  have hz:=(hn z mcs).wd;obtain⟨b1,e1⟩:=h.app hz.bk.1;obtain⟨b2,e2⟩:=oA b1 λy hy=>hn y (mcm hy);rw[aSB]at b2 e2;refine⟨b2,?_⟩;rw[show ts++(z::ns).map ch=ts++([ch z]++ns.map ch)from rfl,e2,e1,hz.bk.2]
  cases ns with
  |nil=>simp[jn]
  |cons y ns=>simp[jn]
theorem Ts.bk:∀{t:Ts},t.ok->Bk t.w
 |.atom s p q,⟨hp,hq⟩=>((lS s).bk.1.app ((Pt.wd hp).bk.1.app (Pt.wd hq).bk.1).1).1.brk.1
 |.no t,h=>(lU.bk.1.app (Ts.bk (t:=t) h)).1.brk.1
 |.two e a b,⟨h1,h2⟩=>((nX e).bk.1.app ((Ts.bk h1).app (Ts.bk h2)).1).1.brk.1
theorem As.bk:∀{a:As},a.ok->Bk a.w
 |.tb n,h=>(Nm.wd h).bk.1
 |.pick a t,⟨h1,h2⟩=>(n8.bk.1.app ((As.bk h1).app (Ts.bk h2)).1).1.brk.1
 |.kc k a ns,⟨h1,h2⟩=>((nY k).bk.1.app (oA (As.bk h1) h2.2).1).1.brk.1
 |.tot a n ns,⟨h1,h2,h3⟩=>(n9.bk.1.app (oA (ns:=n::ns) (As.bk h1) (λz hz=>(aOG.mp hz).elim (λe=>e ▸ h2) (h3.2 z))).1).1.brk.1
 |.two v a b,⟨h1,h2⟩=>((nZ v).bk.1.app ((As.bk h1).app (As.bk h2)).1).1.brk.1
def aNA{s:Bool}{p q:Pt}(hp:p.ok)(hq:q.ok):gl (Ts.atom s p q).w=40::(ch (sw s)++32::(p.t++32::q.t)++[41]):=by show gl (brk ([ch (sw s)]++([p.t]++[q.t])))=_;have a:=(Pt.wd hp).bk.1.app (Pt.wd hq).bk.1;have b:=(lS s).bk.1.app a.1;rw[b.1.brk.2,b.2,a.2,(lS s).bk.2,(Pt.wd hp).bk.2,(Pt.wd hq).bk.2]
def gl_no{t:Ts}(h:t.ok):gl (Ts.no t).w=40::(ch "not" ++ 32::gl t.w++[41]):=by show gl (brk ([ch "not"]++t.w))=_;have b:=lU.bk.1.app (Ts.bk h);rw[b.1.brk.2,b.2,lU.bk.2]
def tU{x:List Nat}{vs:List (List Nat)}(hx:Wd x)(h1:Bk us)(h2:Bk vs):gl (brk (x::(us++vs)))=40::(x++32::(gl us++32::gl vs)++[41]):=by show gl (brk ([x]++(us++vs)))=_;have a:=h1.app h2;have b:=hx.bk.1.app a.1;rw[b.1.brk.2,b.2,a.2,hx.bk.2]
def aA2{x:List Nat}{ns:List Str}(hx:Wd x)(h1:Bk us)(h2:∀z∈ns,Nm z):gl (brk (x::(us++ns.map ch)))=40::(jn [32] (x::gl us::ns.map ch)++[41]):=by show gl (brk ([x]++(us++ns.map ch)))=_;have a:=oA h1 h2;have b:=hx.bk.1.app a.1;rw[b.1.brk.2,b.2,a.2,hx.bk.2];show _=40::(x++[32]++jn [32] (gl us::ns.map ch)++[41]);simp
theorem jf{o y:List Nat}{gs:List (Rho->Res)}(e:g ρ=.ok m (.str (tx y)))(h:o.length+y.length<=10000000):dF (tx o) (g::gs) ρ=dF (tx (o++y)) gs ρ:=by show(g ρ).thn _=_;rw[e,Res.thn_ok];show(if(tx o++tx y).length<=sizeLine then dF (tx o++tx y) gs ρ else .stuck)=_;rw[eE,if_pos (by rw[aY,aPH,aO3];lia)]
def e_s{W:WD}:evE W (.str z) ρ=okf (.str (tx (ch z))):=by rw[<- bH];rfl
def e_f{W:WD}{e:E}(h:evE W e ρ=.ok m (.str z)):evE W (.fmt e) ρ=okf (.str z):=by show kS (evE W e ρ)=_;rw[h];rfl
section
variable {W:WD}{a:Str}{b c d x y z:List Nat}{m1 m2 m3:Md}{s:Str}{A B:Str}
def e9:ch " " = [32]:=by decide +kernel
def jT:ch ")" = [41]:=by decide +kernel
def gM:ch "(" = [40]:=by decide +kernel
theorem fs3(h1:evE W e1 ρ=.ok m1 (.str (tx x)))(hl:x.length<=1000000)(hs:ch s=40::(y++[32]))(hy:y.length<=100):evE W (.fstr [.str s,.fmt e1,.str ")"]) ρ=okf (.str (tx (40::(y++32::x++[41])))):=by
 have l:(ch s).length=y.length+2:=by rw[hs];simp
 refine(jf (o:=[]) e_s (by rw[l,aQC];lia)).trans ((jf (e_f h1) (by simp[l];lia)).trans ((jf e_s (by rw[jT];simp[l];lia)).trans ?_))
 rw[jT,hs];have:=aO3;simp[dF,aY];lia
theorem fs5(h1:evE W e1 ρ=.ok m1 (.str (tx x)))(h2:evE W e2 ρ=.ok m2 (.str (tx z)))(hl:x.length<=1000000)(hl2:z.length<=1000000)(hs:ch s=40::(y++[32]))(hy:y.length<=100):evE W (.fstr [.str s,.fmt e1,.str " ", .fmt e2,.str ")"]) ρ=okf (.str (tx (40::(y++32::(x++32::z)++[41])))):=by
 have l:(ch s).length=y.length+2:=by rw[hs];simp
 refine(jf (o:=[]) e_s (by rw[l,aQC];lia)).trans ((jf (e_f h1) (by simp[l];lia)).trans ((jf e_s (by rw[e9];simp[l];lia)).trans ((jf (e_f h2) (by rw[e9];simp[l];lia)).trans ((jf e_s (by rw[jT,e9];simp[l];lia)).trans ?_))))
 rw[jT,e9,hs];have:=aO3;simp[dF,aY];lia
theorem fs7(h0:evE W e3 ρ=.ok m3 (.str (tx y)))(h1:evE W e1 ρ=.ok m1 (.str (tx x)))(h2:evE W e2 ρ=.ok m2 (.str (tx z)))(hl:x.length<=1000000)(hl2:z.length<=1000000)(hy:y.length<=100):evE W (.fstr [.str "(", .fmt e3,.str " ", .fmt e1,.str " ", .fmt e2,.str ")"]) ρ=okf (.str (tx (40::(y++32::(x++32::z)++[41])))):=by
 refine(jf (o:=[]) e_s (by rw[gM];simp)).trans ((jf (e_f h0) (by rw[gM];simp;lia)).trans ((jf e_s (by rw[e9,gM];simp;lia)).trans ((jf (e_f h1) (by rw[e9,gM];simp;lia)).trans ((jf e_s (by rw[gM,e9];simp;lia)).trans ((jf (e_f h2) (by rw[e9,gM];simp;lia)).trans ((jf e_s (by rw[jT,gM,e9];simp;lia)).trans ?_))))))
 rw[jT,e9,gM];have:=aO3;simp[dF,aY];lia
end
theorem dotE{n:Str}(h:n.length<=1000){W:WD}{e:E}(he:evE W e ρ=.ok m (.str n)):evE W (.bin .Add (.str ".") e) ρ=okf (.str (tx (46::ch n))):=by
 show op2 (aQ .Add) (okf (.str (Str.ofString "."))) (evE W e ρ)=_;have hs:sizeLine=16777216:=aO3;rw[he,show Str.ofString "." = tx [46] by decide +kernel,eZ (by rw[aY];simp;lia)]
 conv=>lhs;rw[bH n,eE]
 rfl
theorem aA3(k:Nat){p:Pt}(h:p.ok):(Wk (k+3)).Φ "show_part" [p.d]=okf (.str (tx p.t)):=by
 rw[aL2];refine aJ rfl ?_;cases p with
 |of n=>show evB _ lI [sf (.tup [.str "of", .str n])]=_;exact nxr (aV (cE (aO 0 rfl rfl) (aQ9 _)) (aU (dotE (n:=n) (by have:=h.2.2;lia) (aO 1 rfl rfl))))
 |num i=>obtain⟨l,e,_,_,_,_,_,sm⟩:=nW h;show evB _ lI [sf (.tup [.str "just", .int i])]=.rt .fz (.str (tx (ch (bT i))));rw[<- bH];exact nxt (aF (cE (aO 0 rfl rfl) (by decide +kernel)) rfl) (aU (c1 (aO 1 rfl rfl) (aM8 k sm)))
 |nam z=>show evB _ lI [sf (.tup [.str "just", .str z])]=_;exact nxt (aF (cE (aO 0 rfl rfl) (by decide +kernel)) rfl) (aU (c1 (aO 1 rfl rfl) (aM9 k (by have:=h.2.2;lia))))
theorem mx1(k n m:Nat):∃j,k+max n m=j+n:=⟨k+max n m-n,by lia⟩
theorem mx2(k n m:Nat):∃j,k+max n m=j+m:=⟨k+max n m-m,by lia⟩
def e_w{W:WD}{e:E}(h:evE W e ρ=.ok m (.str x)):evE W e ρ=.ok m (.str (tx (ch x))):=by rw[<- bH];exact h
def aNB(s:Bool):(ch (sw s)).length<=100:=by cases s <;> decide +kernel
def aNC(s:Bool):(ch (ew s)).length<=100:=by cases s <;> decide +kernel
def v_len(v:W3):(ch v.s).length<=100:=by cases v <;> decide +kernel
theorem oB:∀(t:Ts) (k:Nat),t.ok->(gl t.w).length<=1000000->(Wk (k+t.dp+3)).Φ "show_test" [t.d]=okf (.str (tx (gl t.w)))
 |.atom s p q,k,⟨hp,hq⟩,hl=>by
  rw[aNA hp hq]at hl ⊢;simp only[aQB,aPH,aP8]at hl;rw[show k+(Ts.atom s p q).dp+3=(k+3)+1 from rfl,tB]
  refine aJ rfl ?_;show evB _ lH [sf (.tup [.str (sw s),p.d,q.d]),none]=_
  exact nxt (aH (aO 0 rfl rfl)) (nxt (aF (cE rfl (by cases s <;> decide +kernel)) rfl) (nxt (aF (cI ["both", "either"] rfl (by decide) (by cases s <;> decide +kernel)) rfl)
   (aU (fs7 (e_w rfl) (c1 (aO 1 rfl rfl) (aA3 k hp)) (c1 (aO 2 rfl rfl) (aA3 k hq)) (by lia) (by lia) (aNB s)))))
 |.no t,k,h,hl=>by
  have h:t.ok:=h;rw[gl_no h]at hl ⊢;simp only[aQB,aPH,aP8]at hl;rw[show k+(Ts.no t).dp+3=(k+t.dp+3)+1 from by show k+(t.dp+1)+3=_;lia,tB]
  refine aJ rfl ?_;show evB _ lH [sf (.tup [.str "not", t.d]),none]=_;exact nxt (aH (aO 0 rfl rfl)) (nxr (aV (cE rfl (aQ9 _)) (aU (fs3 (c1 (aO 1 rfl rfl) (oB t k h (by lia))) (by lia) (by decide +kernel) (by decide +kernel)))))
 |.two e a b,k,⟨h1,h2⟩,hl=>by
  have eg:gl (Ts.two e a b).w=_:=tU (nX e) (Ts.bk h1) (Ts.bk h2);rw[eg]at hl ⊢;simp only[aQB,aPH,aP8]at hl;rw[show k+(Ts.two e a b).dp+3=(k+max a.dp b.dp+3)+1 from by show k+(max a.dp b.dp+1)+3=_;lia,tB]
  have sa:(Wk (k+max a.dp b.dp+3)).Φ "show_test" [a.d]=okf (.str (tx (gl a.w))):=by obtain⟨j,e⟩:=mx1 k a.dp b.dp;rw[e];exact oB a j h1 (by lia)
  have sb:(Wk (k+max a.dp b.dp+3)).Φ "show_test" [b.d]=okf (.str (tx (gl b.w))):=by obtain⟨j,e⟩:=mx2 k a.dp b.dp;rw[e];exact oB b j h2 (by lia)
  refine aJ rfl ?_;show evB _ lH [sf (.tup [.str (ew e),a.d,b.d]),none]=_
  exact nxt (aH (aO 0 rfl rfl)) (nxt (aF (cE rfl (by cases e <;> decide +kernel)) rfl) (nxr (aV (cI ["both", "either"] rfl (by decide) (by cases e <;> decide +kernel))
   (aU (fs7 (e_w rfl) (c1 (aO 1 rfl rfl) sa) (c1 (aO 2 rfl rfl) sb) (by lia) (by lia) (aNC e))))))
def aND(z:List Nat)(ps:List (List Nat)):Str.join (tx z) (ps.map tx)=tx (jn z ps):=by rw[nS,aR2];congr 2;exact List.map_id'' (λp=>cU) ps
theorem aA4:∀l:List Str,fU (l.map .str)=some l
 |[]=>rfl
 |x::l=>by show(fU (l.map .str)).map _=_;rw[aA4 l];rfl
theorem oC{z:List Nat}:∀{ps:List (List Nat)},(jn z ps).length=(ps.map List.length).sum+(ps.length-1) * z.length
 |[]=>by simp[jn]
 |[p]=>by simp[jn]
 |p::q::r=>by have ih:=oC (z:=z) (ps:=q::r);show(p++z++jn z (q::r)).length=_;rw[aPH,aPH,ih];simp only[aQD,aSK,aQB,Nat.add_sub_cancel,Nat.succ_mul];lia
theorem brkE(k:Nat)(ps:List (List Nat))(hl:(jn [32] ps).length<=1000000)(hn:ps.length<=10000):(Wk (k+1)).Φ "in_brackets" [.lst (ps.map λp=>.str (tx p))]=okf (.str (tx (40::(jn [32] ps++[41])))):=by
 have z:=aO3;rw[aL1];refine aJ rfl ?_;show evB _ sC [sf (.lst (ps.map λp=>.str (tx p)))]=_;have l:=oC (z:=[32]) (ps:=ps);have ej:fT "str" gX (okf (.str (Str.ofString " "))) (.ok [(.fz,.lst (ps.map λp=>.str (tx p)))])=okf (.str (tx (jn [32] ps))):=by
  have:gX .fz (.str (Str.ofString " ")) [(.fz,.lst (ps.map λp=>.str (tx p)))]=some (.fz,.str (tx (jn [32] ps))):=by
   show(match fU (ps.map λp=>.str (tx p))with|some ys=>if(ys.map λy:Str=>y.length).sum+ys.length * (Str.ofString " ").length<=sizeLine then some (Md.fz,D.str (Txt.join (Str.ofString " ") ys))else none|none=>none)=_
   rw[show(ps.map λp=>D.str (tx p))=(ps.map tx).map D.str by rw[aR2];rfl,aA4]
   dsimp only;have e1:((ps.map tx).map λy:Str=>y.length)=ps.map List.length:=by rw[aR2];exact aSG λp _=>aY
   rw[if_pos (by
    rw[e1,aPI,show(Str.ofString " ").length=1 by decide +kernel]
    simp only[aP8]at l;lia)]
   have:Txt.join (Str.ofString " ") (ps.map tx)=tx (jn [32] ps):=by
    show Builtin.Str.glued _ _=_;rw[StrLaws.glued_eq_join,show Str.ofString " " = tx [32] by decide +kernel]
    exact aND _ _
   rw[this]
  show(match gX .fz (.str (Str.ofString " ")) [(.fz,.lst (ps.map λp=>.str (tx p)))]with|some (m,d)=>Res.ok m d|none=>.stuck)=_
  rw[this]
 refine aU ?_;have a1:op2 (aQ .Add) (okf (.str (Str.ofString "("))) (okf (.str (tx (jn [32] ps))))=okf (.str (tx (40::jn [32] ps))):=by
  rw[show Str.ofString "(" = tx [40] by decide +kernel,eZ (by rw[aY,aY];simp;lia),eE];rfl
 have a2:op2 (aQ .Add) (okf (.str (tx (40::jn [32] ps)))) (okf (.str (Str.ofString ")")))=okf (.str (tx (40::(jn [32] ps++[41])))):=by
  rw[show Str.ofString ")" = tx [41] by decide +kernel,eZ (by rw[aY,aY];simp;lia),eE];rfl
 simp[ej,a1,a2]
def oD{W:WD}{e:E}(h:evE W e ρ=.ok m (.tup ds)):evE W (.tcall .list [e]) ρ=.ok .fr (.lst ds):=by show cY _ (aL (evE W e ρ) (.ok []))=_;rw[h];rfl
theorem jU{W:WD}{e f:E}{xs ys:List D}(h:evE W e ρ=.ok m (.lst xs))(h':evE W f ρ=.ok m' (.lst ys))(hl:xs.length+ys.length<=1000000):evE W (.bin .Add e f) ρ=.ok .fr (.lst (xs++ys)):=by show op2 (aQ .Add) (evE W e ρ) (evE W f ρ)=_;rw[h,h'];exact aLL (by rw[aO3];lia)
def c1r{W:WD}{f:Str}{e:E}{x d:D}(h:evE W e ρ=.ok .fr x)(hf:W.Φ f [x]=okf d):evE W (.call f 1 [.frz e]) ρ=okf d:=c1 (dR h) hf
def tV{ns:List Str}:ns.map D.str=(ns.map ch).map λp=>D.str (tx p):=by rw[aR2];exact aSG λp _=>aAQ.symm
theorem jV:∀(a:As) (k:Nat),a.ok->(gl a.w).length<=1000000->(Wk (k+a.dp+5)).Φ "show" [a.d]=okf (.str (tx (gl a.w)))
 |.tb n,k,h,_=>by
  rw[show k+(As.tb n).dp+5=(k+4)+1 from rfl,lP]
  refine aJ rfl ?_;rw[show gl (As.tb n).w=ch n from(Nm.wd h).bk.2,<- bH]
  show evB _ iA [sf (.tup [.str "table", .str n]),none,none]=_;exact nxt (aH (aO 0 rfl rfl)) (nxr (aV (cE rfl (aQ9 _)) (aU (aO 1 rfl rfl))))
 |.pick a t,k,⟨h1,h2⟩,hl=>by
  have eg:gl (As.pick a t).w=_:=tU n8 (As.bk h1) (Ts.bk h2);rw[eg]at hl ⊢;simp only[aQB,aPH,aP8]at hl;rw[show k+(As.pick a t).dp+5=(k+max a.dp t.dp+5)+1 from by show k+(max a.dp t.dp+1)+5=_;lia,lP]
  have sa:(Wk (k+max a.dp t.dp+5)).Φ "show" [a.d]=okf (.str (tx (gl a.w))):=by obtain⟨j,e⟩:=mx1 k a.dp t.dp;rw[e];exact jV a j h1 (by lia)
  have sb:(Wk (k+max a.dp t.dp+5)).Φ "show_test" [t.d]=okf (.str (tx (gl t.w))):=by obtain⟨j,e⟩:=mx2 k a.dp t.dp;rw[show k+max a.dp t.dp+5=(j+2)+t.dp+3 by lia];exact oB t (j+2) h2 (by lia)
  refine aJ rfl ?_;show evB _ iA [sf (.tup [.str "pick", a.d,t.d]),none,none]=_;exact nxt (aH (aO 0 rfl rfl)) (nxt (aF (cE rfl (by decide +kernel)) rfl) (nxt (aH (aK (c1 (aO 1 rfl rfl) sa))) (nxr (aV (cE rfl (aQ9 _)) (aU (fs5 rfl (c1 (aO 2 rfl rfl) sb) (by lia) (by lia) (by decide +kernel) (by decide +kernel)))))))
 |.two v a b,k,⟨h1,h2⟩,hl=>by
  have eg:gl (As.two v a b).w=_:=tU (nZ v) (As.bk h1) (As.bk h2);rw[eg]at hl ⊢;simp only[aQB,aPH,aP8]at hl;rw[show k+(As.two v a b).dp+5=(k+max a.dp b.dp+5)+1 from by show k+(max a.dp b.dp+1)+5=_;lia,lP]
  have sa:(Wk (k+max a.dp b.dp+5)).Φ "show" [a.d]=okf (.str (tx (gl a.w))):=by obtain⟨j,e⟩:=mx1 k a.dp b.dp;rw[e];exact jV a j h1 (by lia)
  have sb:(Wk (k+max a.dp b.dp+5)).Φ "show" [b.d]=okf (.str (tx (gl b.w))):=by obtain⟨j,e⟩:=mx2 k a.dp b.dp;rw[e];exact jV b j h2 (by lia)
  refine aJ rfl ?_;show evB _ iA [sf (.tup [.str v.s,a.d,b.d]),none,none]=_
  exact nxt (aH (aO 0 rfl rfl)) (nxt (aF (cE rfl (by cases v <;> decide +kernel)) rfl) (nxt (aH (aK (c1 (aO 1 rfl rfl) sa))) (nxt (aF (cE rfl (by cases v <;> decide +kernel)) rfl) (nxr (aV (cI ["join", "pour", "leave"] rfl (by decide) (by cases v <;> decide +kernel))
   (aU (fs7 (e_w rfl) rfl (c1 (aO 2 rfl rfl) sb) (by lia) (by lia) (v_len v))))))))
 |.kc w a ns,k,⟨h1,h2⟩,hl=>by
  have eg:gl (As.kc w a ns).w=_:=aA2 (nY w) (As.bk h1) h2.2;rw[eg]at hl ⊢;have hl:(jn [32] (ch (kw w)::gl a.w::ns.map ch)).length+2<=1000000:=by simpa using hl
  have ll:=oC (z:=[32]) (ps:=ch (kw w)::gl a.w::ns.map ch);simp only[aQD,aSK]at ll;rw[show k+(As.kc w a ns).dp+5=(k+a.dp+5)+1 from by show k+(a.dp+1)+5=_;lia,lP]
  have sa:=jV a k h1 (by lia)
  refine aJ rfl ?_;show evB _ iA [sf (.tup [.str (kw w),a.d,Tp ns]),none,none]=_
  refine nxt (aH (aO 0 rfl rfl)) (nxt (aF (cE rfl (by cases w <;> decide +kernel)) rfl) (nxt (aH (aK (c1 (aO 1 rfl rfl) sa))) (nxt (aF (cE rfl (by cases w <;> decide +kernel)) rfl) (nxt (aF (cI ["join", "pour", "leave"] rfl (by decide) (by cases w <;> decide +kernel)) rfl)
   (nxt (aF (cE rfl (by cases w <;> decide +kernel)) rfl) (aU (c1r (jU (xs:=[.str (kw w),.str (tx (gl a.w))]) (ys:=ns.map D.str) rfl (oD (aO 2 rfl rfl)) (by have:=h2.1;simp;lia)) ?_)))))))
  have:=brkE (k+a.dp+4) (ch (kw w)::gl a.w::ns.map ch) (by lia) (by have:=h2.1;simp;lia)
  rw[aQD,aQD,<- tV,<- bH]at this;exact this
 |.tot a n ns,k,⟨h1,h2,h3⟩,hl=>by
  have eg:gl (As.tot a n ns).w=_:=aA2 (ns:=n::ns) n9 (As.bk h1) (λz hz=>(aOG.mp hz).elim (λe=>e ▸ h2) (h3.2 z));rw[eg]at hl ⊢;have hl:(jn [32] (ch "total" :: gl a.w::(n::ns).map ch)).length+2<=1000000:=by simpa using hl
  have ll:=oC (z:=[32]) (ps:=ch "total" :: gl a.w::(n::ns).map ch);simp only[aQD,aSK]at ll hl;rw[show k+(As.tot a n ns).dp+5=(k+a.dp+5)+1 from by show k+(a.dp+1)+5=_;lia,lP]
  have sa:=jV a k h1 (by lia)
  refine aJ rfl ?_;show evB _ iA [sf (.tup [.str "total", a.d,.str n,Tp ns]),none,none]=_
  refine nxt (aH (aO 0 rfl rfl)) (nxt (aF (cE rfl (by decide +kernel)) rfl) (nxt (aH (aK (c1 (aO 1 rfl rfl) sa))) (nxt (aF (cE rfl (by decide +kernel)) rfl) (nxt (aF (cI ["join", "pour", "leave"] rfl (by decide) (by decide +kernel)) rfl)
   (nxr (aV (cE rfl (aQ9 _)) (aU (c1r (jU (xs:=[.str "total", .str (tx (gl a.w)),.str n]) (ys:=ns.map D.str) rfl (oD (aO 3 rfl rfl)) (by have:=h3.1;simp;lia)) ?_))))))))
  have:=brkE (k+a.dp+4) (ch "total" :: gl a.w::(n::ns).map ch) (by rw[aQD];lia) (by have:=h3.1;simp;lia)
  rw[aQD,aQD,<- tV,<- bH]at this;exact this
theorem iE(k:Nat):(Wk (k+1)).Φ "head_of" [.lst (.str x::ds)]=okf (.str x):=by
 rw[aL6];refine aJ rfl ?_;show evB _ sJ [sf (.lst (.str x::ds))]=_;refine nxt (aF (m:=.fz) ?_ rfl) (aU (cF 0 rfl rfl));have el:cL [(.fz,.lst (.str x::ds))]=some (.fz,.int ((ds.length+1:Nat):Int)):=rfl;have h:((((ds.length+1:Nat):Int))==0)=false:=aN3.mpr (by lia)
 simp[el];lia
def lW(k:Nat)(hn:ds.length=n):(Wk (k+1)).Φ "refuse_length" [.lst ds,.int (n:Int)]=okf .non:=by
 rw[aL7];subst hn;have:evB (Wk k) lJ [sf (.lst ds),si (ds.length:Int)]=.nx [sf (.lst ds),si (ds.length:Int)]:=by have el:cL [(.fz,.lst ds)]=some (.fz,.int (ds.length:Int)):=rfl;simp[lJ,el]
 show(if[D.lst ds,.int (ds.length:Int)].length=2 then endR (evB (Wk k) lJ [sf (.lst ds),si (ds.length:Int)])else .stuck)=_;rw[this];rfl
def aNE{W:WD}{e:E}(h:evE W e ρ=okf (.str x)):evE W (.not (.tru (.bcall .isinstance [e,(.ty .list)]))) ρ=okf (.bl true):=by have:cQ [(.fz,.str x),(.fz,.ty "list")]=some (.fz,.bl false):=rfl;simp[h,Ty.id,this]
def iF{W:WD}{e:E}(h:evE W e ρ=okf (.lst ds)):evE W (.not (.tru (.bcall .isinstance [e,(.ty .list)]))) ρ=okf (.bl false):=by have:cQ [(.fz,.lst ds),(.fz,.ty "list")]=some (.fz,.bl true):=rfl;simp[h,Ty.id,this]
def oE(k:Nat){n:Str}(h:Nm n):(Wk (k+3)).Φ "read_name" [.str n]=okf (.str n):=by
 rw[aL9];refine aJ rfl ?_;show evB _ sL [sf (.str n)]=_;have e:=aAV k (z:=n);rw[h.name]at e;have:evE (Wk (k+2)) (.not (.tru (.call "is_name" 1 [v0]))) [sf (.str n)]=okf (.bl false):=by simp[e]
 exact nxt (aF this rfl) (by rw[cT,lA];rfl)
theorem aA5(k:Nat){ns:List Str}(h:nms ns):(Wk (k+4)).Φ "read_names" [.lst (ns.map .str)]=okf (Tp ns):=by
 rw[aL8];refine aJ rfl ?_;show evB _ sK [sf (.lst (ns.map .str))]=_;refine aU (tJ (m:=.fr) ?_);rw[k9,k8];have:=lF (m:=.fz) (ds:=ns.map D.str) (ρ:=[sf (.lst (ns.map .str))]) (caps:=[]) (n:=1) (k:=a9 (.nm 0)) (t:=λρ=>evF (Wk (k+3)) [] ρ) (e:=λρ=>evE (Wk (k+3)) (.call "read_name" 1 [v0]) ρ) (λd=>d) (by rw[aPI,aO3];have:=h.1;lia) λd hd=>by
  obtain⟨z,hz,rfl⟩:=aR5.mp hd;exact⟨[sf (.str z)],.fz,rfl,rfl,.fz,by
   show bR _=_;rw[c1 (x:=.str z) rfl (oE k (h.2 z hz))];rfl⟩
 rw[List.map_id']at this;exact this
theorem aA6(k:Nat){p:Pt}(h:p.ok):(Wk (k+5)).Φ "read_part" [.str (tx p.t)]=okf p.d:=by
 rw[aMA];refine aJ rfl ?_;show evB (Wk (k+4)) sM [sf (.str (tx p.t))]=_;have sw:∀b:Bool,((p.t).head?==some 46)=b->evE (Wk (k+4)) (.andL [(.not (.tru (.bcall .isinstance [v0,(.ty .list)]))),(.tru (.mt .startswith v0 [(.str ".")]))]) [sf (.str (tx p.t))]=okf (.bl b):=λb hb=>by
  have e1:fT "str" swD (okf (.str (tx p.t))) (.ok [(.fz,.str (Str.ofString "."))])=okf (.bl b):=by
   rw[show Str.ofString "." = tx [46] by decide +kernel]
   show Res.ok .fz (.bl (Txt.startswith (tx p.t) (tx [46])))=_;rw[sw1,hb]
  have e2:cQ [(.fz,.str (tx p.t)),(.fz,.ty "list")]=some (.fz,.bl false):=rfl;simp[e1,e2,Ty.id]
 have t2:∀{a b:D},dD (.ok [(.fz,a),(.fz,b)])=okf (.tup [a,b]):=λ{a b}=>rfl;cases p with
 |of n =>
  have sl:evE (Wk (k+4)) (.frz (.slice v0 (some (.int 1)) none)) [sf (.str (tx (46::ch n)))]=okf (.str n):=by refine aK ?_;refine(aAW (W:=Wk (k+4)) (m:=.fz) (l:=46::ch n) (ρ:=[sf (.str (tx (46::ch n)))])).trans ?_;show Res.ok .fz (.str (tx (ch n)))=_;rw[<- bH]
  refine nxr (aV (sw true rfl) (aU ?_));show dD (aL (okf (.str "of")) (aL (evE (Wk (k+4)) (.frz (.call "read_name" 1 [(.frz (.slice v0 (some (.int 1)) none))])) [sf (.str (tx (46::ch n)))]) (.ok [])))=_;rw[aK (c1 sl (oE (k+1) h))];exact t2
 |num i =>
  obtain⟨l,e,h1,h2,h3,h4,h5,_⟩:=nW h;have e:ch (bT i)=l:=by rw[e];exact cU
  have hd:∀c,(c=46\/c=39)->(l.head?==some c)=false:=λc hc=>by
   cases l with
   |nil=>rfl
   |cons a r=>rw[aN3];intro q;cases q;have:=h4 c mcs;lia
  refine nxt (aF (sw false (by show((ch (bT i)).head?==some 46)=false;rw[e];exact hd 46 (.inl rfl))) rfl) (aU ?_)
  show dD (aL (okf (.str "just")) (aL (evE (Wk (k+4)) (.frz (.call "read_value" 1 [v0])) [sf (.str (tx (ch (bT i))))]) (.ok [])))=_;rw[e,aK (c1 (x:=.str (tx l)) rfl (aM6 (k+2) h3 (hd 39 (.inr rfl)) h1 h2))];exact t2
 |nam z =>
  refine nxt (aF (sw false rfl) rfl) (aU ?_);show dD (aL (okf (.str "just")) (aL (evE (Wk (k+4)) (.frz (.call "read_value" 1 [v0])) [sf (.str (tx (39::ch z)))]) (.ok [])))=_;have:=aM7 (k+1) (r:=ch z) (by rw[<- bH];exact Nm.name h)
  rw[<- bH z]at this;rw[aK (c1 (x:=.str (tx (39::ch z))) rfl this)];exact t2
section
variable {W:WD}{e:E}
theorem aA7:dG ds none (some (i:Int))=ds.take i:=by
 unfold dG;rw[HT.vN,HT.kA,aRC,Nat.sub_zero];by_cases h:i<=ds.length
 . rw[aSL h]
 . rw[Nat.min_eq_right (by lia),aRG,aRD (by lia)]
theorem aA8:dG ds (some (i:Int)) none=ds.drop i:=by
 unfold dG;rw[HT.vN,HT.kA];by_cases h:i<=ds.length
 . rw[aSL h];exact aRD (by rw[aPV];lia)
 . rw[Nat.min_eq_right (by lia),aQ4,List.drop_of_length_le (by lia)];simp
def sl_hi(h:evE W e ρ=.ok m (.int (i:Int))):slP (okf (.tup ds)) (evO W none) (evO W (some e)) ρ=okf (.tup (ds.take i)):=by simp only[evO,slP,Res.thn_ok,cP,h];rw[if_neg (by simp),aA7]
def sl_lo(h:evE W e ρ=.ok m (.int (i:Int))):slP (okf (.tup ds)) (evO W (some e)) (evO W none) ρ=okf (.tup (ds.drop i)):=by simp only[evO,slP,Res.thn_ok,cP,h];rw[if_neg (by simp),aA8]
def tW(h:evE W e ρ=.ok m (.int (i:Int))):slP (.ok m' (.lst ds)) (evO W none) (evO W (some e)) ρ=.ok .fr (.lst (ds.take i)):=by simp only[evO,slP,Res.thn_ok,cP,h];rw[aA7]
def aA9(h:evE W e ρ=.ok m (.int (i:Int))):slP (.ok m' (.lst ds)) (evO W (some e)) (evO W none) ρ=.ok .fr (.lst (ds.drop i)):=by simp only[evO,slP,Res.thn_ok,cP,h];rw[aA8]
end
def aBA{W:WD}{e:E}(i:Nat)(h:evE W e ρ=.ok m (.lst ds)):evE W (.frz (.slice e (some (.int (i:Int))) none)) ρ=okf (.lst (ds.drop i)):=by refine dR ?_;rw[gC,h];exact aA9 (m:=.fz) rfl
def t2{a b:D}:dD (.ok [(.fz,a),(.fz,b)])=okf (.tup [a,b]):=by rfl
def t3{a b c:D}:dD (.ok [(.fz,a),(.fz,b),(.fz,c)])=okf (.tup [a,b,c]):=by rfl
def tp2{W:WD}{e f:E}{a b:D}(h1:evE W e ρ=okf a)(h2:evE W f ρ=okf b):evE W (.tup [e,f]) ρ=okf (.tup [a,b]):=by show dD (aL (evE W e ρ) (aL (evE W f ρ) (.ok [])))=_;rw[h1,h2];rfl
def tp3{W:WD}{e f g:E}{a b c:D}(h1:evE W e ρ=okf a)(h2:evE W f ρ=okf b)(h3:evE W g ρ=okf c):evE W (.tup [e,f,g]) ρ=okf (.tup [a,b,c]):=by show dD (aL (evE W e ρ) (aL (evE W f ρ) (aL (evE W g ρ) (.ok []))))=_;rw[h1,h2,h3];rfl
def tp4{W:WD}{e f g h:E}{a b c d:D}(h1:evE W e ρ=okf a)(h2:evE W f ρ=okf b)(h3:evE W g ρ=okf c)(h4:evE W h ρ=okf d):evE W (.tup [e,f,g,h]) ρ=okf (.tup [a,b,c,d]):=by show dD (aL (evE W e ρ) (aL (evE W f ρ) (aL (evE W g ρ) (aL (evE W h ρ) (.ok [])))))=_;rw[h1,h2,h3,h4];rfl
def rl{W:WD}(h:evE W v0 ρ=okf (.lst ds))(hr:W.Φ "refuse_length" [.lst ds,.int (n:Int)]=okf .non):evS W (.expr (.call "refuse_length" 2 [v0,(.int (n:Int))])) ρ=.nx ρ:=by rw[aLF];show(bD 2 (W.Φ "refuse_length") (aL (evE W v0 ρ) (.ok [(.fz,.int (n:Int))]))).thS ρ _=_;rw[h];show(bD 2 (W.Φ "refuse_length") (.ok [(.fz,.lst ds),(.fz,.int (n:Int))])).thS ρ _=_;rw[yM hr];rfl
theorem oF:∀(t:Ts) (k:Nat),t.ok->(Wk (k+t.dp+5)).Φ "read_test" [t.r]=okf t.d
 |.atom s p q,k,⟨hp,hq⟩=>by
  rw[show k+(Ts.atom s p q).dp+5=(k+5)+1 from rfl,tE]
  refine aJ rfl ?_;show evB _ lK [sf (.lst [.str (sw s),.str (tx p.t),.str (tx q.t)]),none]=_
  exact nxt (aF (iF rfl) rfl) (nxt (aH (aK (c1 rfl (iE (k+4))))) (nxt (aF (cE rfl (by cases s <;> decide +kernel)) rfl) (nxt (rl (n:=3) rfl (lW (k+4) rfl)) (nxt (aF (cI ["both", "either"] rfl (by decide) (by cases s <;> decide +kernel)) rfl)
   (nxr (aV (cI ["same", "under"] rfl (by decide) (by cases s <;> decide +kernel)) (aU (tp3 rfl (aK (c1 (cF 1 rfl rfl) (aA6 k hp))) (aK (c1 (cF 2 rfl rfl) (aA6 k hq)))))))))))
 |.no t,k,h=>by
  have h:t.ok:=h;rw[show k+(Ts.no t).dp+5=(k+t.dp+5)+1 from by show k+(t.dp+1)+5=_;lia,tE]
  refine aJ rfl ?_;show evB _ lK [sf (.lst [.str "not", t.r]),none]=_;exact nxt (aF (iF rfl) rfl) (nxt (aH (aK (c1 rfl (iE (k+t.dp+4))))) (nxr (aV (cE rfl (aQ9 _)) (nxt (rl (n:=2) rfl (lW (k+t.dp+4) rfl)) (aU (tp2 rfl (aK (c1 (cF 1 rfl rfl) (oF t k h)))))))))
 |.two e a b,k,⟨h1,h2⟩=>by
  rw[show k+(Ts.two e a b).dp+5=(k+max a.dp b.dp+5)+1 from by show k+(max a.dp b.dp+1)+5=_;lia,tE]
  have sa:(Wk (k+max a.dp b.dp+5)).Φ "read_test" [a.r]=okf a.d:=by obtain⟨j,e⟩:=mx1 k a.dp b.dp;rw[e];exact oF a j h1
  have sb:(Wk (k+max a.dp b.dp+5)).Φ "read_test" [b.r]=okf b.d:=by obtain⟨j,e⟩:=mx2 k a.dp b.dp;rw[e];exact oF b j h2
  refine aJ rfl ?_;show evB _ lK [sf (.lst [.str (ew e),a.r,b.r]),none]=_
  exact nxt (aF (iF rfl) rfl) (nxt (aH (aK (c1 rfl (iE (k+max a.dp b.dp+4))))) (nxt (aF (cE rfl (by cases e <;> decide +kernel)) rfl) (nxt (rl (n:=3) rfl (lW (k+max a.dp b.dp+4) rfl)) (nxr (aV (cI ["both", "either"] rfl (by decide) (by cases e <;> decide +kernel))
   (aU (tp3 rfl (aK (c1 (cF 1 rfl rfl) sa)) (aK (c1 (cF 2 rfl rfl) sb)))))))))
def andW{W:WD}{c:E}(h1:evE W c ρ=okf (.bl true))(h:evE W v0 ρ=okf (.lst ds))(hn:n<ds.length):evE W (.andL [c,(.cmp .Gt (.bcall .len [v0]) (.int (n:Int)))]) ρ=okf (.bl true):=by have el:cL [(.fz,.lst ds)]=some (.fz,.int (ds.length:Int)):=rfl;simp[h1,h,el,hn]
def andF{W:WD}{c:E}{es:List E}(h1:evE W c ρ=okf (.bl false)):evE W (.andL (c::es)) ρ=okf (.bl false):=by
 show evA W (c::es) ρ=_;cases es with
 |nil=>simp[evA,h1]
 |cons e es=>simp[evA,h1]
theorem jW:∀(a:As) (k:Nat),a.ok->(Wk (k+a.dp+6)).Φ "read_asking" [a.r]=okf a.d
 |.tb n,k,h=>by
  rw[show k+(As.tb n).dp+6=(k+5)+1 from rfl,lQ]
  refine aJ rfl ?_;show evB _ iB [sf (.str n),none]=_;exact nxr (aV (aNE rfl) (aU (tp2 rfl (aK (c1 rfl (oE (k+2) h))))))
 |.two v a b,k,⟨h1,h2⟩=>by
  rw[show k+(As.two v a b).dp+6=(k+max a.dp b.dp+6)+1 from by show k+(max a.dp b.dp+1)+6=_;lia,lQ]
  have sa:(Wk (k+max a.dp b.dp+6)).Φ "read_asking" [a.r]=okf a.d:=by obtain⟨j,e⟩:=mx1 k a.dp b.dp;rw[e];exact jW a j h1
  have sb:(Wk (k+max a.dp b.dp+6)).Φ "read_asking" [b.r]=okf b.d:=by obtain⟨j,e⟩:=mx2 k a.dp b.dp;rw[e];exact jW b j h2
  refine aJ rfl ?_;show evB _ iB [sf (.lst [.str v.s,a.r,b.r]),none]=_
  exact nxt (aF (iF rfl) rfl) (nxt (aH (aK (c1 rfl (iE (k+max a.dp b.dp+5))))) (nxr (aV (cI ["join", "pour", "leave"] rfl (by decide) (by cases v <;> decide +kernel)) (nxt (rl (n:=3) rfl (lW (k+max a.dp b.dp+5) rfl))
   (aU (tp3 rfl (aK (c1 (cF 1 rfl rfl) sa)) (aK (c1 (cF 2 rfl rfl) sb))))))))
 |.pick a t,k,⟨h1,h2⟩=>by
  rw[show k+(As.pick a t).dp+6=(k+max a.dp t.dp+6)+1 from by show k+(max a.dp t.dp+1)+6=_;lia,lQ]
  have sa:(Wk (k+max a.dp t.dp+6)).Φ "read_asking" [a.r]=okf a.d:=by obtain⟨j,e⟩:=mx1 k a.dp t.dp;rw[e];exact jW a j h1
  have sb:(Wk (k+max a.dp t.dp+6)).Φ "read_test" [t.r]=okf t.d:=by obtain⟨j,e⟩:=mx2 k a.dp t.dp;rw[show k+max a.dp t.dp+6=(j+1)+t.dp+5 by lia];exact oF t (j+1) h2
  refine aJ rfl ?_;show evB _ iB [sf (.lst [.str "pick", a.r,t.r]),none]=_
  exact nxt (aF (iF rfl) rfl) (nxt (aH (aK (c1 rfl (iE (k+max a.dp t.dp+5))))) (nxt (aF (cI ["join", "pour", "leave"] rfl (by decide) (by decide +kernel)) rfl) (nxr (aV (cE rfl (aQ9 _)) (nxt (rl (n:=3) rfl (lW (k+max a.dp t.dp+5) rfl))
   (aU (tp3 rfl (aK (c1 (cF 1 rfl rfl) sa)) (aK (c1 (cF 2 rfl rfl) sb)))))))))
 |.kc w a ns,k,⟨h1,h2⟩=>by
  rw[show k+(As.kc w a ns).dp+6=(k+a.dp+6)+1 from by show k+(a.dp+1)+6=_;lia,lQ]
  refine aJ rfl ?_;show evB _ iB [sf (.lst (.str (kw w)::a.r::ns.map D.str)),none]=_
  exact nxt (aF (iF rfl) rfl) (nxt (aH (aK (c1 rfl (iE (k+a.dp+5))))) (nxt (aF (cI ["join", "pour", "leave"] rfl (by decide) (by cases w <;> decide +kernel)) rfl) (nxt (aF (cE rfl (by cases w <;> decide +kernel)) rfl) (nxr (aV (andW (n:=1) (cI ["keep", "call"] rfl (by decide) (by cases w <;> decide +kernel)) rfl (by simp))
   (aU (tp3 rfl (aK (c1 (cF 1 rfl rfl) (jW a k h1))) (aK (c1 (aBA 2 rfl) (aA5 (k+a.dp+2) h2))))))))))
 |.tot a n ns,k,⟨h1,h2,h3⟩=>by
  rw[show k+(As.tot a n ns).dp+6=(k+a.dp+6)+1 from by show k+(a.dp+1)+6=_;lia,lQ]
  refine aJ rfl ?_;show evB _ iB [sf (.lst (.str "total" :: a.r :: .str n::ns.map D.str)),none]=_
  exact nxt (aF (iF rfl) rfl) (nxt (aH (aK (c1 rfl (iE (k+a.dp+5))))) (nxt (aF (cI ["join", "pour", "leave"] rfl (by decide) (by decide +kernel)) rfl) (nxt (aF (cE rfl (by decide +kernel)) rfl) (nxt (aF (andF (cI ["keep", "call"] rfl (by decide) (by decide +kernel))) rfl) (nxr (aV (andW (n:=2) (cE rfl (aQ9 _)) rfl (by simp))
   (aU (tp4 rfl (aK (c1 (cF 1 rfl rfl) (jW a k h1))) (aK (c1 (cF 2 rfl rfl) (oE (k+a.dp+3) h2))) (aK (c1 (aBA 3 rfl) (aA5 (k+a.dp+2) h3)))))))))))
theorem aBB(k:Nat){a:As}{x:List Nat}(h:a.ok)(hs:bW a.w x)(hl:x.length<=10000)(hc:∀c∈x,c<1000)(hd:a.dp<=30)(hw:a.w.length<=100000):(Wk (k+40)).Φ "read" [.str (tx x)]=okf a.d:=by
 rw[aL3];refine aJ rfl ?_;show evB (Wk (k+39)) sD [sf (.str (tx x))]=_;have e0:evE (Wk (k+39)) (.not (.tru (.bcall .isinstance [v0,(.ty .str)]))) [sf (.str (tx x))]=okf (.bl false):=by have:cQ [(.fz,.str (tx x)),(.fz,.ty "str")]=some (.fz,.bl true):=rfl;simp[Ty.id,this]
 have e1:=wdsOf (k+38) hs hl hc;have e2:=trOf (k+38) (As.rd (W:=Wk (k+38)) h) hd hw;have e3:=jW a (k+33-a.dp) h;rw[show k+33-a.dp+a.dp+6=k+39 by lia]at e3
 refine nxt (aF e0 rfl) (aU (c1 (aK (c1 (x:=.lst (tD a.w)) (dR ?_) e2)) e3));show bD 1 ((Wk (k+39)).Φ "words_of") (.ok [(.fz,.str (tx x))])=_;exact jQ (ds:=[.str (tx x)]) rfl rfl e1
def c1f{W:WD}{f:Str}{e:E}{x d:D}(h:evE W e ρ=okf x)(hf:W.Φ f [x]=.ok .fr d):evE W (.call f 1 [e]) ρ=.ok .fr d:=by show bD 1 (W.Φ f) (aL (evE W e ρ) (.ok []))=_;rw[h];exact jQ (ds:=[x]) rfl rfl hf
def aBC{a b:List (List Nat)}:tD (a++b)=tD a++tD b:=aRV
def iG{a:List (List Nat)}:(tD a).length=a.length:=aPI ..
def aBD{ns:List Str}:ns.map D.str=tD (ns.map ch):=tV
def lw1{W:WD}{e:E}{d:D}(h:evE W e ρ=okf d):evE W (.lst [e]) ρ=.ok .fr (.lst [d]):=by show gS (aL (evE W e ρ) (.ok []))=_;rw[h];rfl
def l0:Str.ofString "(" = tx [40]:=by decide +kernel
def l9:Str.ofString ")" = tx [41]:=by decide +kernel
def is_i{W:WD}{e:E}{i:Int}(h:evE W e ρ=okf (.int i)):evE W (.tru (.bcall .isinstance [e,(.ty .str)])) ρ=okf (.bl false):=by have:cQ [(.fz,.int i),(.fz,.ty "str")]=some (.fz,.bl false):=rfl;simp[h,Ty.id,this]
def is_s{W:WD}{e:E}(h:evE W e ρ=okf (.str x)):evE W (.tru (.bcall .isinstance [e,(.ty .str)])) ρ=okf (.bl true):=by have:cQ [(.fz,.str x),(.fz,.ty "str")]=some (.fz,.bl true):=rfl;simp[h,Ty.id,this]
def str_i{W:WD}{e:E}{i:Int}(h:evE W e ρ=okf (.int i))(sm:eV i=true):evE W (.tcall .str [e]) ρ=okf (.str (bT i)):=by simp[h,sm]
theorem quoE{n:Str}(h:n.length<=1000){W:WD}{e:E}(he:evE W e ρ=.ok m (.str n)):evE W (.bin .Add (.str "'") e) ρ=okf (.str (tx (39::ch n))):=by
 show op2 (aQ .Add) (okf (.str (Str.ofString "'"))) (evE W e ρ)=_;have hs:sizeLine=16777216:=aO3;rw[he,sq,eZ (by rw[aY];simp;lia)]
 conv=>lhs;rw[bH n,eE]
 rfl
theorem w_pt(k:Nat){p:Pt}(h:p.ok):(Wk (k+1)).Φ "_law_words" [p.d]=.ok .fr (.lst (tD [p.t])):=by
 rw[fK];refine aJ rfl ?_;cases p with
 |of n=>show evB _ eC [sf (.tup [.str "of", .str n]),none,none]=_;exact nxt (aH (aO 0 rfl rfl)) (nxt (aF (cE rfl (by decide +kernel)) rfl) (nxr (aV (cE rfl (aQ9 _)) (jP (lw1 (aK (dotE (n:=n) (by have:=h.2.2;lia) (aO 1 rfl rfl))))))))
 |num i =>
  obtain⟨l,e,_,_,_,_,_,sm⟩:=nW h;show evB _ eC [sf (.tup [.str "just", .int i]),none,none]=.rt .fr (.lst [.str (tx (ch (bT i)))]);rw[<- bH];refine nxt (aH (aO 0 rfl rfl)) (nxt (aF (cE rfl (by decide +kernel)) rfl) (nxt (aF (cE rfl (by decide +kernel)) rfl) (nxr (aV (cE rfl (aQ9 _)) (nxt (aF (m:=.fz) ?_ rfl) (jP (lw1 (aK ?_))))))))
  . exact is_i (aO 1 rfl rfl)
  . exact str_i (aO 1 rfl rfl) sm
 |nam z=>show evB _ eC [sf (.tup [.str "just", .str z]),none,none]=_;exact nxt (aH (aO 0 rfl rfl)) (nxt (aF (cE rfl (by decide +kernel)) rfl) (nxt (aF (cE rfl (by decide +kernel)) rfl) (nxr (aV (cE rfl (aQ9 _)) (nxr (aV (is_s (aO 1 rfl rfl)) (jP (lw1 (aK (quoE (n:=z) (by have:=h.2.2;lia) (aO 1 rfl rfl)))))))))))
theorem aNF{W:WD}{w:Str}{x:D}(h1:evE W v1 ρ=okf (.str w))(h:evE W (.ix v0 (.int ((1:Nat):Int))) ρ=okf x)(hf:W.Φ "_law_words" [x]=.ok .fr (.lst (tD us)))(hl:us.length<=100000):evS W (.set 2 (.frz (.bin .Add (.lst [(.str "("),v1]) (.call "_law_words" 1 [(.ix v0 (.int 1))])))) ρ=.nx (ρ.set 2 (sf (.lst (tD ([40]::ch w::us))))):=by
 refine aH (dR (jU (m:=.fr) (m':=.fr) (xs:=[.str (Str.ofString "("),.str w]) (ys:=tD us) ?_ (c1f h hf) (by rw[iG];simp;lia))) |>.trans ?_
 . show gS (aL (okf (.str (Str.ofString "("))) (aL (evE W v1 ρ) (.ok [])))=_
   rw[h1];rfl
 . rw[l0]
   conv=>lhs;rw[bH w]
   rfl
theorem oG{W:WD}(h:evE W v2 ρ=okf (.lst (tD us)))(hl:us.length<=300000):evB W [.ret (.bin .Add v2 (.lst [(.str ")")]))] ρ=.rt .fr (.lst (tD (us++[[41]]))):=by
 refine(jP (jU (m':=.fr) (ys:=[.str (Str.ofString ")")]) h (by rfl) (by rw[iG];simp;lia))).trans ?_
 rw[l9,aBC];rfl
theorem oH{W:WD}{vs:List (List Nat)}{e f:E}(h:evE W e ρ=.ok m (.lst (tD us)))(h':evE W f ρ=.ok m' (.lst (tD vs)))(hl:us.length<=300000)(hl':vs.length<=300000):evE W (.bin .Add e f) ρ=.ok .fr (.lst (tD (us++vs))):=by rw[aBC];exact jU h h' (by rw[iG,iG];lia)
def len3{W:WD}{e:E}{a b c:D}(h:evE W e ρ=okf (.tup [a,b,c])):evE W (.cmp .Eq (.bcall .len [e]) (.int 3)) ρ=okf (.bl true):=by have:cL [(.fz,.tup [a,b,c])]=some (.fz,.int 3):=rfl;simp[h,this]
def len2{W:WD}{e:E}{a b:D}(h:evE W e ρ=okf (.tup [a,b])):evE W (.cmp .Eq (.bcall .len [e]) (.int 3)) ρ=okf (.bl false):=by have:cL [(.fz,.tup [a,b])]=some (.fz,.int 2):=rfl;simp[h,this]
def wR:List D3.S:=eC.drop 5
def oI{W:WD}{w:Str}{x:D}{r:aE}(h0:ds[0]? = some (.str w))(n1:(w==Str.ofString "table")=false)(n2:(w==Str.ofString "of")=false)(n3:(w==Str.ofString "just")=false)(h1:ds[1]? = some x)(hf:W.Φ "_law_words" [x]=.ok .fr (.lst (tD us)))(hl:us.length<=100000)(h:evB W wR [sf (.tup ds),sf (.str w),sf (.lst (tD ([40]::ch w::us)))]=r):evB W eC [sf (.tup ds),none,none]=r :=
 nxt (aH (aO 0 rfl h0)) (nxt (aF (cE rfl n1) rfl) (nxt (aF (cE rfl n2) rfl) (nxt (aF (cE rfl n3) rfl) (nxt (aNF rfl (aO 1 rfl h1) hf hl) h))))
theorem w_3{W:WD}{w:Str}{x y:D}{vs:List (List Nat)}(n1:(w==Str.ofString "table")=false)(n2:(w==Str.ofString "of")=false)(n3:(w==Str.ofString "just")=false)(n4:decide (w∈[Str.ofString "keep", Str.ofString "call"])=false)(n5:(w==Str.ofString "total")=false)(hx:W.Φ "_law_words" [x]=.ok .fr (.lst (tD us)))(hy:W.Φ "_law_words" [y]=.ok .fr (.lst (tD vs)))(hl:us.length<=100000)(hl':vs.length<=100000):evB W eC [sf (.tup [.str w,x,y]),none,none]=.rt .fr (.lst (tD (brk (ch w::(us++vs))))) :=
 oI rfl n1 n2 n3 rfl hx hl (nxt (aF (cI ["keep", "call"] rfl (by decide) n4) (nxt (aF (cE rfl n5) (nxt (aV (len3 rfl) (nxt (aH (dR (oH (us:=[40]::ch w::us) rfl (c1f (aO 2 rfl rfl) hy) (by simp;lia) (by lia)))) rfl)) rfl)) rfl))
  (oG (us:=[40]::ch w::us++vs) rfl (by simp;lia)))
def bX{ts:List (List Nat)}:(brk ts).length=ts.length+2:=by simp[brk]
theorem oJ:∀(t:Ts) (k:Nat),t.ok->t.w.length<=90000->(Wk (k+t.dp+1)).Φ "_law_words" [t.d]=.ok .fr (.lst (tD t.w))
 |.atom s p q,k,⟨hp,hq⟩,_=>by
  rw[show k+(Ts.atom s p q).dp+1=(k+1)+1 from rfl,fK]
  exact aJ rfl (w_3 (us:=[p.t]) (vs:=[q.t]) (by cases s <;> decide +kernel) (by cases s <;> decide +kernel) (by cases s <;> decide +kernel) (by cases s <;> decide +kernel) (by cases s <;> decide +kernel) (w_pt k hp) (w_pt k hq) (by simp) (by simp))
 |.no t,k,h,hl=>by
  have h:t.ok:=h;have hl:t.w.length+1+2<=90000:=by rw[<- aQB (a:=ch "not"),<- bX];exact hl
  rw[show k+(Ts.no t).dp+1=(k+t.dp+1)+1 from by show k+(t.dp+1)+1=_;lia,fK]
  refine aJ rfl ?_;show evB _ eC [sf (.tup [.str "not", t.d]),none,none]=.rt .fr (.lst (tD ([40]::ch "not" :: t.w++[[41]])));exact oI rfl (by decide +kernel) (by decide +kernel) (by decide +kernel) rfl (oJ t k h (by lia)) (by lia) (nxt (aF (cI ["keep", "call"] rfl (by decide) (by decide +kernel)) (nxt (aF (cE rfl (by decide +kernel)) (nxt (aF (len2 rfl) rfl) rfl)) rfl)) (oG (us:=[40]::ch "not" :: t.w) rfl (by simp;lia)))
 |.two e a b,k,⟨h1,h2⟩,hl=>by
  have hl:(a.w++b.w).length+1+2<=90000:=by rw[<- aQB (a:=ch (ew e)),<- bX];exact hl
  rw[aPH]at hl;rw[show k+(Ts.two e a b).dp+1=(k+max a.dp b.dp+1)+1 from by show k+(max a.dp b.dp+1)+1=_;lia,fK]
  have sa:(Wk (k+max a.dp b.dp+1)).Φ "_law_words" [a.d]=.ok .fr (.lst (tD a.w)):=by obtain⟨j,e⟩:=mx1 k a.dp b.dp;rw[e];exact oJ a j h1 (by lia)
  have sb:(Wk (k+max a.dp b.dp+1)).Φ "_law_words" [b.d]=.ok .fr (.lst (tD b.w)):=by obtain⟨j,e⟩:=mx2 k a.dp b.dp;rw[e];exact oJ b j h2 (by lia)
  exact aJ rfl (w_3 (by cases e <;> decide +kernel) (by cases e <;> decide +kernel) (by cases e <;> decide +kernel) (by cases e <;> decide +kernel) (by cases e <;> decide +kernel) sa sb (by lia) (by lia))
theorem iH:∀(a:As) (k:Nat),a.ok->a.w.length<=90000->(Wk (k+a.dp+1)).Φ "_law_words" [a.d]=.ok .fr (.lst (tD a.w))
 |.tb n,k,h,_=>by
  rw[show k+(As.tb n).dp+1=k+1 from rfl,fK]
  refine aJ rfl ?_;show evB _ eC [sf (.tup [.str "table", .str n]),none,none]=.rt .fr (.lst [.str (tx (ch n))]);rw[<- bH];exact nxt (aH (aO 0 rfl rfl)) (nxr (aV (cE rfl (aQ9 _)) (jP (lw1 (aO 1 rfl rfl)))))
 |.pick a t,k,⟨h1,h2⟩,hl=>by
  have hl:(a.w++t.w).length+1+2<=90000:=by rw[<- aQB (a:=ch "pick"),<- bX];exact hl
  rw[aPH]at hl;rw[show k+(As.pick a t).dp+1=(k+max a.dp t.dp+1)+1 from by show k+(max a.dp t.dp+1)+1=_;lia,fK]
  have sa:(Wk (k+max a.dp t.dp+1)).Φ "_law_words" [a.d]=.ok .fr (.lst (tD a.w)):=by obtain⟨j,e⟩:=mx1 k a.dp t.dp;rw[e];exact iH a j h1 (by lia)
  have sb:(Wk (k+max a.dp t.dp+1)).Φ "_law_words" [t.d]=.ok .fr (.lst (tD t.w)):=by obtain⟨j,e⟩:=mx2 k a.dp t.dp;rw[e];exact oJ t j h2 (by lia)
  exact aJ rfl (w_3 (by decide +kernel) (by decide +kernel) (by decide +kernel) (by decide +kernel) (by decide +kernel) sa sb (by lia) (by lia))
 |.two v a b,k,⟨h1,h2⟩,hl=>by
  have hl:(a.w++b.w).length+1+2<=90000:=by rw[<- aQB (a:=ch v.s),<- bX];exact hl
  rw[aPH]at hl;rw[show k+(As.two v a b).dp+1=(k+max a.dp b.dp+1)+1 from by show k+(max a.dp b.dp+1)+1=_;lia,fK]
  have sa:(Wk (k+max a.dp b.dp+1)).Φ "_law_words" [a.d]=.ok .fr (.lst (tD a.w)):=by obtain⟨j,e⟩:=mx1 k a.dp b.dp;rw[e];exact iH a j h1 (by lia)
  have sb:(Wk (k+max a.dp b.dp+1)).Φ "_law_words" [b.d]=.ok .fr (.lst (tD b.w)):=by obtain⟨j,e⟩:=mx2 k a.dp b.dp;rw[e];exact iH b j h2 (by lia)
  exact aJ rfl (w_3 (by cases v <;> decide +kernel) (by cases v <;> decide +kernel) (by cases v <;> decide +kernel) (by cases v <;> decide +kernel) (by cases v <;> decide +kernel) sa sb (by lia) (by lia))
 |.kc w a ns,k,⟨h1,h2⟩,hl=>by
  have hl:(a.w++ns.map ch).length+1+2<=90000:=by rw[<- aQB (a:=ch (kw w)),<- bX];exact hl
  rw[aPH,aPI]at hl;rw[show k+(As.kc w a ns).dp+1=(k+a.dp+1)+1 from by show k+(a.dp+1)+1=_;lia,fK]
  refine aJ rfl ?_;show evB _ eC [sf (.tup [.str (kw w),a.d,Tp ns]),none,none]=.rt .fr (.lst (tD ([40]::ch (kw w)::a.w++ns.map ch++[[41]])))
  exact oI rfl (by cases w <;> decide +kernel) (by cases w <;> decide +kernel) (by cases w <;> decide +kernel) rfl (iH a k h1 (by lia)) (by lia) (nxt (aV (cI ["keep", "call"] rfl (by decide) (by cases w <;> decide +kernel)) (nxt (aH (dR (oH (us:=[40]::ch (kw w)::a.w) (vs:=ns.map ch) rfl (oD (aO 2 rfl (by rw[<- aBD];rfl))) (by simp;lia) (by simp;lia)))) rfl))
   (oG (us:=[40]::ch (kw w)::a.w++ns.map ch) rfl (by simp;lia)))
 |.tot a n ns,k,⟨h1,h2,h3⟩,hl=>by
  have hl:(a.w++ch n::ns.map ch).length+1+2<=90000:=by rw[<- aQB (a:=ch "total"),<- bX];exact hl
  rw[aPH,aQB,aPI]at hl;rw[show k+(As.tot a n ns).dp+1=(k+a.dp+1)+1 from by show k+(a.dp+1)+1=_;lia,fK]
  refine aJ rfl ?_;show evB _ eC [sf (.tup [.str "total", a.d,.str n,Tp ns]),none,none]=.rt .fr (.lst (tD ([40]::ch "total" :: (a.w++ch n::ns.map ch)++[[41]])));have e:[40]::ch "total" :: (a.w++ch n::ns.map ch)=[40]::ch "total" :: a.w++[ch n]++ns.map ch:=by simp
  rw[e]
  exact oI rfl (by decide +kernel) (by decide +kernel) (by decide +kernel) rfl (iH a k h1 (by lia)) (by lia) (nxt (aF (cI ["keep", "call"] rfl (by decide) (by decide +kernel)) (nxt (aV (cE rfl (aQ9 _)) (nxt (aH (dR (oH (us:=[40]::ch "total" :: a.w++[ch n]) (vs:=ns.map ch) (oH (us:=[40]::ch "total" :: a.w) (vs:=[ch n]) (m':=.fr) rfl (lw1 (aO 2 rfl (by show _=some (D.str (tx (ch n)));rw[<- bH];rfl))) (by simp;lia) (by simp)) (oD (aO 3 rfl (by rw[<- aBD];rfl))) (by simp;lia) (by simp;lia)))) rfl)) rfl))
   (oG (us:=[40]::ch "total" :: a.w++[ch n]++ns.map ch) rfl (by simp;lia)))
theorem oK{k:D->Rho->Option Rho}{bdL:Rho->aE}(I:Nat->Rho->Prop):∀(ds:List D) (i:Nat) {ρ:Rho},(∀j d,ds[j]? = some d->∀ρ,I (i+j) ρ->∃ρ1 ρ2,k d ρ=some ρ1/\bdL ρ1=.nx ρ2/\I (i+j+1) ρ2)->I i ρ->∃ρ',fE k bdL ds ρ=.nx ρ'/\I (i+ds.length) ρ'
 |[],i,ρ,_,h=>⟨ρ,rfl,h⟩
 |d::ds,i,ρ,hs,h=>by
  obtain⟨ρ1,ρ2,e1,e2,h2⟩:=hs 0 d rfl ρ h;obtain⟨ρ',e3,h3⟩:=oK I ds (i+1) (λj d' e ρ q=>by
   have:=hs (j+1) d' e ρ (by rw[show i+(j+1)=i+1+j by lia];exact q)
   rwa [show i+(j+1)+1=i+1+j+1 by lia]at this) h2
  refine⟨ρ',?_,by rw[aQB,show i+(ds.length+1)=i+1+ds.length by lia];exact h3⟩
  unfold fE;rw[e1];dsimp only;rw[e2];exact e3
def wt(ts:List (List Nat)):Nat:=(ts.map λt=>t.length+1).sum
def aBE{a b:List (List Nat)}:wt (a++b)=wt a+wt b:=by unfold wt;rw[aRV,List.sum_append_nat]
theorem tX{ts:List (List Nat)}(j:Nat):wt (ts.take j)<=wt ts:=by have:=aBE (a:=ts.take j) (b:=ts.drop j);rw[List.take_append_drop]at this;lia
def aNG{w:List Nat}{r:List (List Nat)}:(sp w r).length<=1:=by
 unfold sp;split
 . exact aQF _
 . split <;> simp
theorem tY:∀{ts:List (List Nat)},(gl ts).length<=wt ts
 |[]=>aOY _
 |w::r=>by have:=tY (ts:=r);have:=aNG (w:=w) (r:=r);show(w++(sp w r++gl r)).length<=(w.length+1)+wt r;rw[aPH,aPH];lia
theorem tZ:∀{ts:List (List Nat)},(∀t∈ts,Tk t)->wt ts<=101 * ts.length
 |[],_=>aOY _
 |w::r,h=>by
  have:=tZ (ts:=r) λt ht=>h t (mcm ht);have hw:w.length<=100:=by
   rcases h w mcs with rfl|rfl|q
   . decide
   . decide
   . exact q.1.2
  show(w.length+1)+wt r<=101 * (r.length+1);lia
theorem aBF:∀{xs:List (List Nat)}{u v:List Nat},gl (xs++[u]++[v])=gl (xs++[u])++(sp u [v]++v)
 |[],u,v=>by simp[gl,sp]
 |[x],u,v=>by simp[gl,sp]
 |x::y::r,u,v=>by have ih:=aBF (xs:=y::r) (u:=u) (v:=v);show x++(sp x (y::(r++[u]++[v]))++gl (y::r++[u]++[v]))=x++(sp x (y::(r++[u]))++gl (y::r++[u]))++_;rw[ih];simp[sp]
def tk_40{u:List Nat}:((tx u==Str.ofString "(")=true)↔u=[40]:=by rw[l0,jS];simp
def tk_41{u:List Nat}:((tx u==Str.ofString ")")=true)↔u=[41]:=by rw[l9,jS];simp
theorem aNH{W:WD}{ts:List (List Nat)}{u v:List Nat}{x:List Nat}(hu:ts[j]? = some u)(hv:ts[j+1]? = some v)(hx:x.length<=2000000)(hl:v.length<=2000000):evB W nN [sf (.lst (tD ts)),sf (.str (tx x)),si (1+(j:Int))]=.nx [sf (.lst (tD ts)),sf (.str (tx (x++(sp u [v]++v)))),si (1+(j:Int))]:=by
 have z:=aO3;have i1:op2 ixD (okf (.lst (tD ts))) (okf (.int (1+(j:Int)-1)))=okf (.str (tx u)):=by
  rw[show(1+(j:Int)-1)=(j:Int) by lia]
  exact eD (cW (by unfold tD;rw[aPF,hu];rfl))
 have i2:op2 ixD (okf (.lst (tD ts))) (okf (.int (1+(j:Int))))=okf (.str (tx v)):=by
  rw[show(1+(j:Int))=((j+1:Nat):Int) by lia]
  exact eD (cW (by unfold tD;rw[aPF,hv];rfl))
 have a1:op2 (aQ .Add) (okf (.str (tx x))) (okf (.str (Str.ofString " ")))=okf (.str (tx (x++[32]))):=by rw[show Str.ofString " " = tx [32] by decide +kernel,eZ (by rw[aY,aY];simp;lia),eE]
 have a2:∀{y:List Nat},y.length<=2000001->op2 (aQ .Add) (okf (.str (tx y))) (okf (.str (tx v)))=okf (.str (tx (y++v))):=λ{y} hy=>by rw[eZ (by rw[aY,aY];lia),eE]
 generalize tD ts=L at *;have et:evE W (.andL [(.cmp .NotEq (.ix v0 (.bin .Sub v2 (.int 1))) (.str "(")),(.cmp .NotEq (.ix v0 v2) (.str ")"))]) [sf (.lst L),sf (.str (tx x)),si (1+(j:Int))]=okf (.bl (!(tx u==Str.ofString "(")&&!(tx v==Str.ofString ")"))):=by simp[i1,i2];rfl
 have add:∀{y:List Nat},y.length<=2000001->evS W (.set 1 (.frz (.bin .Add v1 (.ix v0 v2)))) [sf (.lst L),sf (.str (tx y)),si (1+(j:Int))]=.nx [sf (.lst L),sf (.str (tx (y++v))),si (1+(j:Int))]:=λ{y} hy=>by simp[i2,a2 hy]
 have hs:sp u [v]=if(!(tx u==Str.ofString "(")&&!(tx v==Str.ofString ")"))=true then[32]else[]:=by unfold sp;simp only[aPY,aRO,<- aSH,tk_40,tk_41];by_cases h1:u=[40] <;> by_cases h2:v=[41] <;> simp[h1,h2]
 rw[hs];cases hb:(!(tx u==Str.ofString "(")&&!(tx v==Str.ofString ")"))with
 |false=>rw[hb]at et;rw[if_neg aOU,aRJ];exact nxt (aF et rfl) (nxt (add (by lia)) rfl)
 |true=>rw[hb]at et;rw[if_pos rfl,<- aSB];exact nxt (aV et (nxt (aH (aK a1)) rfl)) (nxt (add (by simp;lia)) rfl)
theorem aNI{i n:Int}(h1:0<=i)(h2:i<=1000000)(h3:0<=n)(h4:n<=1000000):i5 (.ok [(m,.int i),(m',.int n)])=okf (.lst (bF i n)):=by unfold i5;rw[bA.thn_ok];dsimp only;rw[if_pos];simp only[aPY,aQH];lia
theorem lnAll(k:Nat){ts:List (List Nat)}(hn:ts≠[])(hl:wt ts<=1000000)(hs:ts.length<=100000):(Wk (k+1)).Φ "_law_line" [.lst (tD ts)]=okf (.str (tx (gl ts))):=by
 obtain⟨w,r,rfl⟩:=aSC hn;rw[aMM];refine aJ rfl ?_;show evB _ sU [sf (.lst (tD (w::r))),none,none]=_;have hr:(w::r).length=r.length+1:=rfl;obtain⟨ρ',e,I⟩:=oK (k:=a9 (.nm 2)) (bdL:=evB (Wk k) nN) (λj ρ=>j+1<=r.length+1/\∃x,ρ=[sf (.lst (tD (w::r))),sf (.str (tx (gl ((w::r).take (j+1))))),x]) (bF 1 ((r.length+1:Nat):Int)) 0 (ρ:=[sf (.lst (tD (w::r))),sf (.str (tx w)),none]) (λj d hd ρ hρ=>by
  obtain⟨_,x,rfl⟩:=hρ;obtain⟨hj,rfl⟩:j<r.length/\d=.int (1+(j:Int)):=by
   simp only[bF,aPF]at hd;by_cases hj:j<r.length
   . rw[aQ1 (by lia)]at hd
     exact⟨hj,(aN5 hd).symm⟩
   . rw[aR9 (by simp;lia)]at hd
     cases hd
  rw[aRE];have g1:(w::r)[j]? = some (w::r)[j]:=aQX (by rw[hr];lia)
  have g2:(w::r)[j+1]? = some (w::r)[j+1]:=aQX (by rw[hr];lia)
  have t1:(w::r).take (j+1)=(w::r).take j++[(w::r)[j]]:=by rw[aSM,g1];rfl
  have t2:(w::r).take (j+1+1)=(w::r).take (j+1)++[(w::r)[j+1]]:=by rw[aSM,g2];rfl
  have b1:=tY (ts:=(w::r).take (j+1));have b2:=tX (ts:=w::r) (j+1);have b3:=tX (ts:=w::r) (j+1+1);have b4:(w::r)[j+1].length<=2000000:=by
   rw[t2,aBE]at b3;have:wt [(w::r)[j+1]]=(w::r)[j+1].length+1:=by simp[wt]
   lia
  refine⟨_,_,rfl,aNH (ts:=w::r) g1 g2 (by lia) b4,by lia,si (1+(j:Int)),?_⟩
  rw[t2,t1,aBF])
  ⟨by lia,none,by simp[gl,sp]⟩
 obtain⟨_,x,rfl⟩:=I;have ln:(bF 1 ((r.length+1:Nat):Int)).length=r.length:=by simp[bF]
 rw[ln,aRE,aRD (by rw[hr];exact aOY _)]at e
 have er:evE (Wk k) (.rng2 (.int 1) (.bcall .len [v0])) [sf (.lst (tD (w::r))),sf (.str (tx w)),none]=okf (.lst (bF 1 ((r.length+1:Nat):Int))):=by
  have el:cL [(.fz,.lst (tD (w::r)))]=some (.fz,.int ((r.length+1:Nat):Int)):=by show some (Md.fz,D.int ((tD (w::r)).length:Int))=_;rw[iG];rfl
  have e1:evE (Wk k) (.bcall .len [v0]) [sf (.lst (tD (w::r))),sf (.str (tx w)),none]=okf (.int ((r.length+1:Nat):Int)):=by generalize tD (w::r)=L at *;simp[el]
  rw[aLC,e1];exact aNI (by decide) (by decide) (by lia) (by have:r.length+1<=100000:=hs;lia)
 refine nxt (aH (cF 0 rfl rfl)) (nxt (ρ':=[sf (.lst (tD (w::r))),sf (.str (tx (gl (w::r)))),x]) ?_ (by rw[cT,lA];rfl))
 show evS _ (.for (.rng2 (.int 1) (.bcall .len [v0])) (.nm 2) nN) [sf (.lst (tD (w::r))),sf (.str (tx w)),none]=_;rw[rM,er];exact e
theorem md{c n:Int}(h:0<n):∃j:Nat,c % n=(j:Int)/\(j:Int)<n:=by
 have h0:=aR6 c (show n≠0 by lia)
 have h1:=aR7 c h;exact⟨(c % n).toNat,by lia,by lia⟩
theorem aBG(x:Nat):∀(k:Nat) (acc:Array Nat),(List.replicate k #[x]).foldl (· ++ ·) acc=acc++(List.replicate k x).toArray
 |0,acc=>by simp
 |k+1,acc=>by rw[aQP,aQQ,aBG x k,aQP];apply Array.ext';simp
theorem aNJ(x k:Nat):Txt.mul ⟨#[x]⟩ ((k+1:Nat):Int)=⟨(List.replicate (k+1) x).toArray⟩:=by
 unfold Txt.mul;rw[if_neg (by lia)]
 cases k with
 |zero=>rfl
 |succ k =>
  have h:((((k+1+1:Nat):Int)==1)||((⟨#[x]⟩:Str).length==0))=false:=by have:(⟨#[x]⟩:Str).length=1:=rfl;rw[this,aQR];exact⟨by simpa using(by lia:¬ ((k+1+1:Nat):Int)=1),rfl⟩
  rw[h];rw[if_neg (by decide),aPR,aBG]
  simp
theorem oM(x n:Nat)(hn:n<=1001):op2 (aQ .Mult) (.ok m (.str ⟨#[x]⟩)) (.ok m' (.int (n:Int)))=okf (.str ⟨(List.replicate n x).toArray⟩):=by
 have hs:sizeLine=16777216:=aO3;have l1:(⟨#[x]⟩:Str).length=1:=rfl;refine bQ ?_;show orO (orO _ gR) m7 m (.str ⟨#[x]⟩) m' (.int (n:Int))=_;unfold orO;cases n with
 |zero =>
  have e1:gR m (.str ⟨#[x]⟩) m' (.int ((0:Nat):Int))=none:=by simp[gR]
  rw[e1];rfl
 |succ k =>
  have e1:gR m (.str ⟨#[x]⟩) m' (.int ((k+1:Nat):Int))=some (.fz,.str ⟨(List.replicate (k+1) x).toArray⟩):=by show(if(decide ((1:Int)<=((k+1:Nat):Int))&&decide (((k+1:Nat):Int)<=1000000)&&decide ((⟨#[x]⟩:Str).length * (((k+1:Nat):Int)).toNat<=sizeLine))=true then some (Md.fz,D.str (Txt.mul ⟨#[x]⟩ ((k+1:Nat):Int)))else none)=_;rw[if_pos (by rw[l1,aPR];simp only[aPY,aQH];lia),aNJ]
  rw[e1];rfl
def mxd(c p:Int):Int:=((c+7) * 48271 % 2147483647) * ((c+7) * 48271 % 2147483647) % p
theorem aBH(k:Nat)(c:Int){p:Int}(h:0<p):(Wk (k+1)).Φ "_law_mixed" [.int c,.int p]=okf (.int (mxd c p)):=by
 have f0:=aR6 ((c+7) * 48271) (show(2147483647:Int)≠0 by decide)
 have f1:=aR7 ((c+7) * 48271) (show(0:Int)<2147483647 by decide)
 rw[aMC];refine aJ rfl ?_;show evB _ nR [si c,si p,none]=_;have m1:op2 (aQ .Mult) (okf (.int (c+7))) (okf (.int 48271))=okf (.int ((c+7) * 48271)):=lE (by decide)
 have m2:op2 (aQ .Mult) (okf (.int ((c+7) * 48271 % 2147483647))) (okf (.int ((c+7) * 48271 % 2147483647)))=okf (.int (((c+7) * 48271 % 2147483647) * ((c+7) * 48271 % 2147483647))):=lE (by lia)
 simp[nR,m1,m2,h,mxd]
def bl(n:Nat):List Nat:=List.replicate n 32
def t0(hn:n<=1001):op2 (aQ .Mult) (.ok m (.str (Str.ofString " "))) (.ok m' (.int (n:Int)))=okf (.str (tx (bl n))):=by
 rw[show Str.ofString " " = ⟨#[32]⟩ by decide +kernel]
 exact oM 32 n hn
def isB(t:List Nat):Bool:=t==[40]||t==[41]
def aBI{t:List Nat}(h:Tk t):cX (tx t) (Str.ofString "()")=isB t:=by
 rcases h with rfl|rfl|h
 . decide +kernel
 . decide +kernel
 . have e1:isB t=false:=by unfold isB;rw[aQR,aN3,aN3];exact⟨h.n1,h.n2⟩
   rw[e1,<- aSH];unfold cX;rw[show Str.ofString "()" = tx [40,41] by decide +kernel,StrLaws.found_iff]
   rintro⟨i,h1,h2⟩;rw[StrLaws.subAt_eq,aQS,cU,cU]at h2;obtain⟨c,r,e⟩:=aSC h.1.1;have hc:c∈[40,41]:=by
    have q:c∈(([40,41]:List Nat).drop i).take (tx t).length:=by rw[h2,e];exact mcs
    exact aRH (aRI q)
   have:=(h.2 c (by rw[e];exact mcs)).1
   rcases aOG.mp hc with rfl|hc
   . exact this.2.1 rfl
   . rw[aRF]at hc;exact this.2.2 hc
def bld(f:Nat->Nat):Nat->List (List Nat)->List Nat
 |_,[]=>[]
 |i,t::r=>t++(bl (f i)++bld f (i+1) r)
theorem aBJ{f:Nat->Nat}:∀{ts:List (List Nat)}{i:Nat}{t:List Nat},bld f i (ts++[t])=bld f i ts++(t++bl (f (i+ts.length)))
 |[],i,t=>by simp[bld]
 |u::ts,i,t=>by
  show u++(bl (f i)++bld f (i+1) (ts++[t]))=u++(bl (f i)++bld f (i+1) ts)++_;rw[aBJ,aQB,show i+(ts.length+1)=i+1+ts.length by lia]
  simp
theorem t5{ts:List (List Nat)}{x:List Nat}(h:bW ts x):∀n,bW ts (bl n++x)
 |0=>h
 |n+1=>by show bW ts (32::(bl n++x));exact .bl (t5 h n)
theorem aBK{f:Nat->Nat}:∀{ts:List (List Nat)}{i:Nat},(∀t∈ts,Tk t)->(∀j u v,ts[j]? = some u->ts[j+1]? = some v->isB u=false->isB v=false->1<=f (i+j))->bW ts (bld f i ts)
 |[],_,_,_=>.nil
 |t::r,i,h,hf=>by
  have ih:=aBK (f:=f) (ts:=r) (i:=i+1) (λt ht=>h t (mcm ht)) λj u v h1 h2 h3 h4=>by
   have:=hf (j+1) u v h1 h2 h3 h4
   rwa [show i+(j+1)=i+1+j by lia]at this
  have ih':=t5 ih (f i);rcases h t mcs with rfl|rfl|hw
  . exact .br (.inl rfl) ih'
  . exact .br (.inr rfl) ih'
  . refine .wd hw.1.1 (λc hc=>(hw.2 c hc).1) ih' λc hc=>?_;have bt:isB t=false:=by unfold isB;rw[aQR,aN3,aN3];exact⟨hw.n1,hw.n2⟩
    cases e:f i with
    |succ n=>rw[e]at hc;cases hc;exact λz=>z.1 rfl
    |zero =>
     rw[e]at hc;have hc:(bld f (i+1) r).head? = some c:=hc;cases r with
     |nil=>cases hc
     |cons v r =>
      rcases h v (mcm mcs)with rfl|rfl|hv
      . cases hc;exact λz=>z.2.1 rfl
      . cases hc;exact λz=>z.2.2 rfl
      . have bv:isB v=false:=by unfold isB;rw[aQR,aN3,aN3];exact⟨hv.n1,hv.n2⟩
        have:=hf 0 t v rfl rfl bt bv;rw[Nat.add_zero,e]at this;lia
theorem aBL{f:Nat->Nat}(hf:∀i,f i<=2):∀{ts:List (List Nat)}{i:Nat},(bld f i ts).length<=wt ts+ts.length
 |[],_=>aOY _
 |t::r,i=>by have:=aBL hf (ts:=r) (i:=i+1);have:=hf i;show(t++(bl (f i)++bld f (i+1) r)).length<=((t.length+1)+wt r)+(r.length+1);simp only[aPH,bl,aPJ];lia
theorem aNK{ts:List (List Nat)}{x:List Nat}(h:bW ts x):wt ts<=2 * x.length/\∀t∈ts,∀c∈t,c∈x:=by
 induction h with
 |nil=>exact⟨aOY _,λt ht=>nomatch ht⟩
 |bl _ ih=>exact⟨by have:=ih.1;simp;lia,λt ht c hc=>mcm (ih.2 t ht c hc)⟩
 | @br ts x c _ _ ih =>
  refine⟨?_,λt ht d hd=>?_⟩
  . show([c].length+1)+wt ts<=2 * (x.length+1);have:=ih.1;simp;lia
  . rcases aOG.mp ht with rfl|ht
    . rw[aRF.mp hd];exact mcs
    . exact mcm (ih.2 t ht d hd)
 | @wd ts x w hn _ _ _ ih =>
  refine⟨?_,λt ht d hd=>?_⟩
  . show(w.length+1)+wt ts<=2 * (w++x).length;have:=ih.1;have:0<w.length:=List.length_pos_iff.mpr hn;rw[aPH];lia
  . rcases aOG.mp ht with rfl|ht
    . exact aOI _ hd
    . exact aO1 _ (ih.2 t ht d hd)
def aBM{ts:List (List Nat)}{x:List Nat}(h:bW ts x)(ht:∀t∈ts,Tk t):∀c∈x,c<1000:=by
 induction h with
 |nil=>exact λc hc=>nomatch hc
 |bl _ ih =>
  intro c hc;rcases aOG.mp hc with rfl|hc
  . decide
  . exact ih ht c hc
 |br hb _ ih =>
  intro c hc;rcases aOG.mp hc with rfl|hc
  . rcases hb with rfl|rfl <;> decide
  . exact ih (λt h=>ht t (mcm h)) c hc
 | @wd ts x w _ hw _ _ ih =>
  intro c hc;rcases aOH.mp hc with hc|hc
  . rcases ht w mcs with rfl|rfl|q
    . exact absurd rfl (hw 40 mcs).2.1
    . exact absurd rfl (hw 41 mcs).2.2
    . exact(q.2 c hc).2
  . exact ih (λt h=>ht t (mcm h)) c hc
def ub(t:List Nat):Bool:=!isB t
def cnt(c:Int)(ts:List (List Nat))(j:Nat):Nat :=
 if(ub (ts.getD j [40])&&ub (ts.getD (j+1) [40]))=true then max 1 (mxd (c+3 * j * j) 998244353 % 3).toNat else(mxd (c+3 * j * j) 998244353 % 3).toNat
theorem m3(x:Int):(x % 3).toNat<=2/\((x % 3).toNat:Int)=x % 3:=by
 have:=aR6 x (show(3:Int)≠0 by decide)
 have:=aR7 x (show(0:Int)<3 by decide)
 lia
theorem aNL{c:Int}{ts:List (List Nat)}(j:Nat):cnt c ts j<=2:=by have:=(m3 (mxd (c+3 * j * j) 998244353)).1;unfold cnt;split <;> lia
def lT:E:=.andL [(.cmp .Lt (.bin .Add v3 (.int 1)) (.bcall .len [v0])),(.cmp .NotIn (.ix v0 v3) (.str "()")),(.cmp .NotIn (.ix v0 (.bin .Add v3 (.int 1))) (.str "()"))]
theorem aNM(k:Nat){ts:List (List Nat)}{c:Int}{u x:List Nat}{y:Option (Bool×D)}(ht:∀t∈ts,Tk t)(hj:j<ts.length)(hn:ts.length<=100000)(hu:ts[j]? = some u)(hx:x.length+u.length<=9000000):evB (Wk (k+1)) r8 [sf (.lst (tD ts)),si c,sf (.str (tx x)),si (j:Int),y]=.nx [sf (.lst (tD ts)),si c,sf (.str (tx (x++(u++bl (cnt c ts j))))),si (j:Int),si (cnt c ts j:Int)]:=by
 have z:=aO3;obtain⟨m2,em⟩:=m3 (mxd (c+3 * j * j) 998244353);have b1:op2 (aQ .Mult) (okf (.int 3)) (okf (.int (j:Int)))=okf (.int (3 * (j:Int))):=lE (by lia)
 have b2:op2 (aQ .Mult) (okf (.int (3 * (j:Int)))) (okf (.int (j:Int)))=okf (.int (3 * (j:Int) * (j:Int))):=lE (by lia)
 have mx:=aBH k (c+3 * j * j) (p:=998244353) (by decide)
 have gu:ts.getD j [40]=u:=by rw[aQW,hu];rfl
 have iu:∀{ρ:Rho}{m:Md},op2 ixD (okf (.lst (tD ts))) (.ok m (.int (j:Int)))=okf (.str (tx u)):=λ{ρ m}=>eD (cW (by unfold tD;rw[aPF,hu];rfl))
 have nu:=aBI (ht u (aPG hu));have el:cL [(.fz,.lst (tD ts))]=some (.fz,.int (ts.length:Int)):=by show some (Md.fz,D.int ((tD ts).length:Int))=_;rw[iG]
 generalize hm:(mxd (c+3 * (j:Int) * (j:Int)) 998244353 % 3).toNat=m at *;have ec:cnt c ts j=if(ub u&&ub (ts.getD (j+1) [40]))=true then max 1 m else m:=by unfold cnt;rw[hm,gu]
 have e1:evS (Wk (k+1)) (.set 4 (.frz (.bin .Mod (.call "_law_mixed" 2 [(.frz (.bin .Add v1 (.bin .Mult (.bin .Mult (.int 3) v3) v3))),(.int 998244353)]) (.int 3)))) [sf (.lst (tD ts)),si c,sf (.str (tx x)),si (j:Int),y]=.nx [sf (.lst (tD ts)),si c,sf (.str (tx x)),si (j:Int),si (m:Int)]:=by generalize tD ts=L at *;simp[b1,b2,mx,em]
 have e3:∀{q:Nat},q<=2->evS (Wk (k+1)) (.set 2 (.frz (.bin .Add (.bin .Add v2 (.ix v0 v3)) (.bin .Mult (.str " ") v4)))) [sf (.lst (tD ts)),si c,sf (.str (tx x)),si (j:Int),si (q:Int)]=.nx [sf (.lst (tD ts)),si c,sf (.str (tx (x++(u++bl q)))),si (j:Int),si (q:Int)]:=λ{q} hq=>by
  have iu':=iu (ρ:=[]) (m:=.fz);have a1:op2 (aQ .Add) (okf (.str (tx x))) (okf (.str (tx u)))=okf (.str (tx (x++u))):=by rw[eZ (by rw[aY,aY];lia),eE]
  have a2:=t0 (n:=q) (by lia) (m:=.fz) (m':=.fz)
  have a3:op2 (aQ .Add) (okf (.str (tx (x++u)))) (okf (.str (tx (bl q))))=okf (.str (tx (x++(u++bl q)))):=by rw[eZ (by rw[aY,aY];simp[bl];lia),eE,aSB]
  generalize tD ts=L at *;generalize (tx (bl q))=B at *;simp[iu',a1,a2,a3]
 have et:evE (Wk (k+1)) lT [sf (.lst (tD ts)),si c,sf (.str (tx x)),si (j:Int),si (m:Int)]=okf (.bl (ub u&&ub (ts.getD (j+1) [40]))):=by
  have iu':=iu (ρ:=[]) (m:=.fz);by_cases h1:j+1<ts.length
  . have hv:ts[j+1]? = some ts[j+1]:=aQX h1;have gv:ts.getD (j+1) [40]=ts[j+1]:=by rw[aQW,hv];rfl
    have iv:op2 ixD (okf (.lst (tD ts))) (okf (.int ((j:Int)+1)))=okf (.str (tx ts[j+1])):=by
     rw[show(j:Int)+1=((j+1:Nat):Int) by lia]
     exact eD (cW (by unfold tD;rw[aPF,hv];rfl))
    have nv:=aBI (ht ts[j+1] (aQY h1));rw[gv];have d1:decide ((j:Int)+1<(ts.length:Int))=true:=aQA (by lia)
    generalize ts[j+1]=v at *;generalize tD ts=L at *;simp[lT,el,d1,iu',iv,nu,nv,ub]
  . have gv:ts.getD (j+1) [40]=[40]:=by rw[aQW,aR9 (by lia)];rfl
    have d1:decide ((j:Int)+1<(ts.length:Int))=false:=aN2 (by lia)
    have u0:ub [40]=false:=rfl;rw[gv,u0,Bool.and_false];generalize tD ts=L at *;simp[lT,el,d1]
 rw[ec];cases hb:(ub u&&ub (ts.getD (j+1) [40]))with
 |false=>rw[hb]at et;rw[if_neg aOU];exact nxt e1 (nxt (aF et rfl) (nxt (e3 m2) rfl))
 |true =>
  rw[hb]at et;rw[if_pos rfl];refine nxt e1 (nxt (aV et (nxt (ρ':=[sf (.lst (tD ts)),si c,sf (.str (tx x)),si (j:Int),si ((max 1 m:Nat):Int)]) ?_ rfl)) (nxt (e3 (by lia)) rfl))
  have:(if(m:Int) > 1 then(m:Int)else 1)=((max 1 m:Nat):Int):=by split <;> lia
  generalize tD ts=L at *;simp[this]
theorem lsOf(k:Nat){ts:List (List Nat)}(c:Int)(ht:∀t∈ts,Tk t)(hn:ts.length<=20000):∃x,bW ts x/\x.length<=2+wt ts+ts.length/\(Wk (k+2)).Φ "_law_loose" [.lst (tD ts),.int c]=okf (.str (tx x)):=by
 obtain⟨m2,em⟩:=m3 c;have lw:∀{us:List (List Nat)}{i:Nat},(bld (cnt c ts) i us).length<=wt us+us.length:=aBL λi=>aNL i;have tw:=tZ ht;refine⟨bl (c % 3).toNat++bld (cnt c ts) 0 ts,t5 (aBK ht λj u v h1 h2 h3 h4=>?_) _,?_,?_⟩
 . rw[aRE];unfold cnt;rw[aQW,aQW,h1,h2];show 1<=if(ub u&&ub v)=true then _ else _;unfold ub;rw[h3,h4,if_pos (by rfl)]
   lia
 . have:=lw (us:=ts) (i:=0);simp only[aPH,bl,aPJ];lia
 rw[aMO];refine aJ rfl ?_;show evB (Wk (k+1)) sW [sf (.lst (tD ts)),si c,none,none,none]=_;obtain⟨ρ',e,I⟩:=oK (k:=a9 (.nm 3)) (bdL:=evB (Wk (k+1)) r8) (λj ρ=>j<=ts.length/\∃x y,ρ=[sf (.lst (tD ts)),si c,sf (.str (tx (bl (c % 3).toNat++bld (cnt c ts) 0 (ts.take j)))),x,y]) (bF 0 (ts.length:Int)) 0 (ρ:=[sf (.lst (tD ts)),si c,sf (.str (tx (bl (c % 3).toNat))),none,none]) (λj d hd ρ hρ=>by
  obtain⟨_,x,y,rfl⟩:=hρ;obtain⟨hj,rfl⟩:j<ts.length/\d=.int (j:Int):=by
   simp only[bF,aPF]at hd;by_cases hj:j<ts.length
   . rw[aQ1 (by lia)]at hd
     refine⟨hj,(aN5 hd).symm.trans ?_⟩;show D.int (0+(j:Int))=_;rw[Int.zero_add]
   . rw[aR9 (by simp;lia)]at hd
     cases hd
  rw[aRE];have g1:ts[j]? = some ts[j]:=aQX hj;have t1:ts.take (j+1)=ts.take j++[ts[j]]:=by rw[aSM,g1];rfl
  have b1:=lw (us:=ts.take j) (i:=0);have b0:(ts.take j).length<=ts.length:=by rw[aPA];lia
  have b2:=tX (ts:=ts) j;have b3:ts[j].length<=100:=by
   rcases ht ts[j] (aQY hj)with q|q|q
   . rw[q];decide
   . rw[q];decide
   . exact q.1.2
  refine⟨_,_,rfl,aNM k (ts:=ts) ht hj (by lia) g1 (by simp only[aPH,bl,aPJ];lia),by lia,si (j:Int),si (cnt c ts j:Int),?_⟩
  rw[t1,aBJ,aPA,aRE,aSL (by lia),aSB])
  ⟨aQF _,none,none,by simp[bld]⟩
 obtain⟨_,x,y,rfl⟩:=I;rw[show(bF 0 (ts.length:Int)).length=ts.length by simp[bF],aRE,aRD (aOY _)]at e
 have er:evE (Wk (k+1)) (.rng1 (.bcall .len [v0])) [sf (.lst (tD ts)),si c,sf (.str (tx (bl (c % 3).toNat))),none,none]=okf (.lst (bF 0 (ts.length:Int))):=by
  have el:cL [(.fz,.lst (tD ts))]=some (.fz,.int (ts.length:Int)):=by show some (Md.fz,D.int ((tD ts).length:Int))=_;rw[iG]
  have e1:evE (Wk (k+1)) (.bcall .len [v0]) [sf (.lst (tD ts)),si c,sf (.str (tx (bl (c % 3).toNat))),none,none]=okf (.int (ts.length:Int)):=by generalize tD ts=L at *;simp[el]
  rw[rJ,e1];unfold gW;show(bA.ok [(Md.fz,D.int (ts.length:Int))]).thn _=_;rw[bA.thn_ok];dsimp only;rw[if_pos];simp only[aPY,aQH];lia
 have e0:evS (Wk (k+1)) (.set 2 (.frz (.bin .Mult (.str " ") (.bin .Mod v1 (.int 3))))) [sf (.lst (tD ts)),si c,none,none,none]=.nx [sf (.lst (tD ts)),si c,sf (.str (tx (bl (c % 3).toNat))),none,none]:=by
  have a2:=t0 (n:=(c % 3).toNat) (by lia) (m:=.fz) (m':=.fz)
  rw[em]at a2;generalize (tx (bl (c % 3).toNat))=B at *;simp[a2]
 refine nxt e0 (nxt (ρ':=[sf (.lst (tD ts)),si c,sf (.str (tx (bl (c % 3).toNat++bld (cnt c ts) 0 ts))),x,y]) ?_ (by rw[cT,lA];rfl))
 rw[rM,er];exact e
def app_l(a b:List Nat):(⟨a.toArray⟩:Str)++⟨b.toArray⟩=⟨(a++b).toArray⟩:=by refine PySem.Str.ext' ?_;rw[PySem.Str.cps_append];simp
theorem aBN{a b:List Nat}(h:a.length+b.length<=2000):op2 (aQ .Add) (.ok m (.str ⟨a.toArray⟩)) (.ok m' (.str ⟨b.toArray⟩))=okf (.str ⟨(a++b).toArray⟩):=by have hs:sizeLine=16777216:=aO3;rw[eZ (by show a.toArray.size+b.toArray.size<=_;simp;lia),app_l]
def t8:List Nat:=[107,109,113,98,122,119,104,118,99,106,120,102]
def aNN:(Str.ofString "kmqbzwhvcjxf").cps.toList=t8:=by decide +kernel
def lt(k:Nat):Nat:=t8.getD k 0
def lt_in:∀i,i<12->lt i∈gJ:=by decide +kernel
def lt_ix(hk:k<12):op2 ixD (.ok m (.str (Str.ofString "kmqbzwhvcjxf"))) (.ok m' (.int (k:Int)))=okf (.str ⟨[lt k].toArray⟩):=ix_s (cW (by
 rw[aNN];unfold lt;rw[aQW,aQX (show k<t8.length from hk)];rfl))
def nA(k:Nat):Str:=⟨(List.replicate (k+1) 112).toArray⟩
def nB(a e t k:Nat):Str:=⟨((List.replicate a 114++[lt k])++List.replicate t e).toArray⟩
def t9{l:List Nat}{r:List Nat}(e:l=c::r)(hc:c∈gJ)(h:∀x∈l,x∈gK)(hl:l.length<=40):Nm (tx l):=⟨⟨c,r,by rw[cU,e],hc⟩,by rw[cU];exact h,by rw[aY];exact hl⟩
def oN:112∈gJ/\114∈gJ:=by decide +kernel
theorem nA_nm(hn:n<=12):∀z∈(List.range n).map nA,Nm z:=λz hz=>by
 obtain⟨k,hk,rfl⟩:=aR5.mp hz;rw[aOC]at hk;refine t9 (r:=List.replicate k 112) rfl oN.1 (λx hx=>?_) (by simp;lia)
 rw[(aSN.mp hx).2];exact tP _ oN.1
def r7_in:∀e∈(Str.ofString "r7").cps.toList,e∈gK:=by decide +kernel
theorem nB_nm{a e s:Nat}(hn:n<=12)(he:e∈(Str.ofString "r7").cps.toList)(ha:a<s)(hs:s<=40):∀z∈(List.range n).map (nB a e (s-a-1)),Nm z:=λz hz=>by
 obtain⟨k,hk,rfl⟩:=aR5.mp hz;rw[aOC]at hk;have hl:=lt_in k (by lia)
 have mem:∀x∈(List.replicate a 114++[lt k])++List.replicate (s-a-1) e,x∈gK:=λx hx=>by
  rcases aOH.mp hx with hx|hx
  . rcases aOH.mp hx with hx|hx
    . rw[(aSN.mp hx).2];exact tP _ oN.2
    . rw[aRF.mp hx];exact tP _ hl
  . rw[(aSN.mp hx).2];exact r7_in e he
 cases a with
 |zero=>exact t9 (c:=lt k) rfl hl mem (by simp;lia)
 |succ a=>exact t9 (c:=114) rfl oN.2 mem (by simp;lia)
def fvI(f:Nat->Str):D->D
 |.int i=>.str (f i.toNat)
 |d=>d
def aBO(f:Nat->Str)(n:Nat):(bF 0 (n:Int)).map (fvI f)=((List.range n).map f).map D.str:=by unfold bF;rw[aR2,aR2];simp[Function.comp_def,fvI]
section
variable {W:WD}{c:Int}
theorem n_pre:∃s:Nat,0<s/\s<=40/\evB W (gG.take 2) [si c,si (n:Int),none,none]=.nx [si c,si (n:Int),si (s:Int),none]:=by
 by_cases h:c / 6 % 9=4
 . exact⟨40,by decide,by decide,by simp[gG,h]⟩
 . obtain⟨j,ej,hj⟩:=md (c:=c) (n:=6) (by decide)
   refine⟨1+j,by lia,by lia,?_⟩
   have h':(c / 6 % 9==4)=false:=aN3.mpr h;simp[gG,h',ej]
theorem n_A(hn:n<=12)(ρ:Rho):dP (okf (.lst (bF 0 (n:Int)))) ρ [] 1 (a9 (.nm 0)) (λρ=>evF W [] ρ) (λρ=>evE W (.bin .Mult (.str "p") (.bin .Add v0 (.int 1))) ρ)=.ok .fr (.lst (((List.range n).map nA).map .str)):=by
 have hs:sizeLine=16777216:=aO3;rw[<- aBO];refine lF _ (by simp[bF];lia) λd hd=>?_
 obtain⟨i,hi,rfl⟩:=mem_range hd;have ml:=oM 112 (i+1) (by lia) (m:=.fz) (m':=.fz)
 rw[show(⟨#[112]⟩:Str)="p" from rfl]at ml
 refine⟨[si (i:Int)],.fz,rfl,by simp,.fz,?_⟩
 show _=Res.ok Md.fz (.str (nA i));unfold nA;generalize (⟨(List.replicate (i+1) 112).toArray⟩:Str)=Z at *;simp at ml;simp[ml]
theorem n_B(hn:n<=12){a s e:Nat}(ha:a<s)(hs:s<=40)(he:op2 ixD (okf (.str "r7")) (okf (.int (c % 2)))=okf (.str ⟨#[e]⟩))(ρ:Rho)(hρ:cM [3,0,2] ρ=[si (a:Int),si c,si (s:Int)]):dP (okf (.lst (bF 0 (n:Int)))) ρ [3,0,2] 1 (a9 (.nm 3)) (λρ=>evF W [] ρ) (λρ=>evE W (.bin .Add (.bin .Add (.bin .Mult (.str "r") v0) (.ix (.str "kmqbzwhvcjxf") v3)) (.bin .Mult (.ix (.str "r7") (.bin .Mod v1 (.int 2))) (.bin .Sub (.bin .Sub v2 v0) (.int 1)))) ρ)=.ok .fr (.lst (((List.range n).map (nB a e (s-a-1))).map .str)):=by
 have hsz:sizeLine=16777216:=aO3;rw[<- aBO];refine lF _ (by simp[bF];lia) λd hd=>?_
 obtain⟨i,hi,rfl⟩:=mem_range hd;have m1:=oM 114 a (by lia) (m:=.fz) (m':=.fz)
 rw[show(⟨#[114]⟩:Str)="r" from rfl]at m1
 have m2:=oM e (s-a-1) (by lia) (m:=.fz) (m':=.fz)
 rw[show((s-a-1:Nat):Int)=(s:Int)-(a:Int)-1 by lia]at m2
 have l1:=lt_ix (k:=i) (by lia) (m:=.fz) (m':=.fz)
 have a1:=aBN (a:=List.replicate a 114) (b:=[lt i]) (m:=.fz) (m':=.fz) (by simp;lia)
 have a2:=aBN (a:=List.replicate a 114++[lt i]) (b:=List.replicate (s-a-1) e) (m:=.fz) (m':=.fz) (by simp;lia)
 refine⟨[si (a:Int),si c,si (s:Int),si (i:Int)],.fz,by rw[hρ];rfl,by simp,.fz,?_⟩
 show _=Res.ok Md.fz (.str (nB a e (s-a-1) i));unfold nB;generalize (⟨((List.replicate a 114++[lt i])++List.replicate (s-a-1) e).toArray⟩:Str)=Z at *;generalize (⟨(List.replicate a 114++[lt i]).toArray⟩:Str)=Z1 at *;generalize (⟨(List.replicate (s-a-1) e).toArray⟩:Str)=Z2 at *;generalize (⟨(List.replicate a 114).toArray⟩:Str)=Z3 at *;generalize (⟨[lt i].toArray⟩:Str)=Z4 at *;simp[m1,he,m2,l1,a1,a2]
theorem c_A(hn:n<=12){s:Int}:evE W (.comp (.bin .Mult (.str "p") (.bin .Add v0 (.int 1))) (.rng1 v1) [] [] (.nm 0) 1) [si c,si (n:Int),si s,none]=.ok .fr (.lst (((List.range n).map nA).map .str)):=by
 have er:=rngI (m:=.fz) (n:=(n:Int)) (by lia) (by lia)
 have cA:=n_A (W:=W) hn [si c,si (n:Int),si s,none];have ei:evE W (.rng1 v1) [si c,si (n:Int),si s,none]=okf (.lst (bF 0 (n:Int))):=by rw[rJ,nJ,<- er,g_1,g_0];rw[pN]
 rw[k9,ei];exact cA
theorem c_B(hn:n<=12){a s e:Nat}(ha:a<s)(hs:s<=40)(he:op2 ixD (okf (.str "r7")) (okf (.int (c % 2)))=okf (.str ⟨#[e]⟩)):evE W (.comp (.bin .Add (.bin .Add (.bin .Mult (.str "r") v0) (.ix (.str "kmqbzwhvcjxf") v3)) (.bin .Mult (.ix (.str "r7") (.bin .Mod v1 (.int 2))) (.bin .Sub (.bin .Sub v2 v0) (.int 1)))) (.rng1 v1) [] [3,0,2] (.nm 3) 1) [si c,si (n:Int),si (s:Int),si (a:Int)]=.ok .fr (.lst (((List.range n).map (nB a e (s-a-1))).map .str)):=by
 have er:=rngI (m:=.fz) (n:=(n:Int)) (by lia) (by lia)
 have cB:=n_B (W:=W) hn ha hs he [si c,si (n:Int),si (s:Int),si (a:Int)] rfl;have ei:evE W (.rng1 v1) [si c,si (n:Int),si (s:Int),si (a:Int)]=okf (.lst (bF 0 (n:Int))):=by rw[rJ,nJ,<- er,g_1,g_0];rw[pN]
 rw[k9,ei];exact cB
def xA:E:=.comp (.bin .Mult (.str "p") (.bin .Add v0 (.int 1))) (.rng1 v1) [] [] (.nm 0) 1
def xB:E:=.comp (.bin .Add (.bin .Add (.bin .Mult (.str "r") v0) (.ix (.str "kmqbzwhvcjxf") v3)) (.bin .Mult (.ix (.str "r7") (.bin .Mod v1 (.int 2))) (.bin .Sub (.bin .Sub v2 v0) (.int 1)))) (.rng1 v1) [] [3,0,2] (.nm 3) 1
def jX:List D3.S:=[.ite (.cmp .Eq (.bin .Mod (.bin .FloorDiv v0 (.int 54)) (.int 4)) (.int 1)) [.ret xA] [],.set 3 (.frz (.bin .Mod (.bin .FloorDiv v0 (.int 216)) v2)),.ret xB]
def aNO:gG=gG.take 2++jX:=rfl
def t_A{d:D}{s:Int}(h:c / 54 % 4=1)(hx:evE W xA [si c,si (n:Int),si s,none]=.ok .fr d):evB W jX [si c,si (n:Int),si s,none]=.rt .fr d:=by unfold jX;generalize xA=X at *;generalize xB=Y at *;simp[h,hx]
def t_B{d:D}{s a:Int}(h:¬ c / 54 % 4=1)(em:op2 (aQ .Mod) (okf (.int (c / 216))) (okf (.int s))=okf (.int a))(hx:evE W xB [si c,si (n:Int),si s,si a]=.ok .fr d):evB W jX [si c,si (n:Int),si s,none]=.rt .fr d:=by
 have h':(c / 54 % 4==1)=false:=aN3.mpr h;have g1:evE W (.cmp .Eq (.bin .Mod (.bin .FloorDiv v0 (.int 54)) (.int 4)) (.int 1)) [si c,si (n:Int),si s,none]=okf (.bl false):=by simp[h']
 have g2:evE W (.frz (.bin .Mod (.bin .FloorDiv v0 (.int 216)) v2)) [si c,si (n:Int),si s,none]=okf (.int a):=by simp[em]
 unfold jX;rw[cT,rL,g1,yK,b_nil,aE.thn_nx,cT,rK,g2,x_set,aE.thn_nx];show evB W [.ret xB] [si c,si (n:Int),si s,si a]=_;rw[cT,nK,hx];rfl
end
theorem names(k:Nat)(c:Int)(hn:n<=12):∃N:List Str,N.length=n/\(∀z∈N,Nm z)/\(Wk (k+1)).Φ "_law_names" [.int c,.int (n:Int)]=.ok .fr (.lst (N.map .str)):=by
 obtain⟨s,s0,s1,pre⟩:=n_pre (W:=Wk k) (c:=c) (n:=n)
 suffices q:∃N:List Str,N.length=n/\(∀z∈N,Nm z)/\evB (Wk k) jX [si c,si (n:Int),si (s:Int),none]=.rt .fr (.lst (N.map .str)) by obtain⟨N,h1,h2,h3⟩:=q;refine⟨N,h1,h2,?_⟩;rw[aMD];refine aJ rfl ?_;show evB (Wk k) gG [si c,si (n:Int),none,none]=_;rw[aNO,rR,pre,aE.thn_nx,h3]
 by_cases h:c / 54 % 4=1
 . exact⟨(List.range n).map nA,by simp,nA_nm hn,t_A h (c_A hn)⟩
 . obtain⟨a,ea,ha⟩:=md (c:=c / 216) (n:=(s:Int)) (by lia)
   obtain⟨e,he',he⟩:=tI (Str.ofString "r7").cps.toList c 2 (by decide +kernel) (by decide)
   exact⟨(List.range n).map (nB a e (s-a-1)),by simp,nB_nm hn he' (by lia) s1,t_B h (by rw[eY (by lia),ea]) (c_B hn (by lia) s1 (ix_s he))⟩
def lws:List Str:=["keep", "pick", "not", "of", "table", "same", "total", "join", "pour", "just", "both", "none"]
instance (z:Str):Decidable (Nm z):=decidable_of_iff ((match z.cps.toList with|c::_=>decide (c∈gJ)|[]=>false)=true/\(∀c∈z.cps.toList,c∈gK)/\z.length<=40) (by
 unfold Nm;refine and_congr_left λ_=>?_;cases z.cps.toList with
 |nil=>simp
 |cons a l=>simp)
def aBP:∀z∈lws,Nm z:=by decide +kernel
theorem aNP(k:Nat)(c:Int)(hn:n<=12):∃N:List Str,N.length=n/\(∀z∈N,Nm z)/\(Wk (k+1)).Φ "_law_like_words" [.int c,.int (n:Int)]=.ok .fr (.lst (N.map .str)):=by
 obtain⟨a,ea,ha⟩:=md (c:=c) (n:=12) (by decide)
 refine⟨(lws.drop a++lws.take a).take n,by simp[lws];lia,λz hz=>?_,?_⟩
 . rcases aOH.mp (aRI hz)with hz|hz
   . exact aBP z (aRH hz)
   . exact aBP z (aRI hz)
 rw[aML];refine aJ rfl ?_;show evB (Wk k) sS [si c,si (n:Int),none,none]=_;have e1:evS (Wk k) (.set 2 (.frz (.lst [(.str "keep"),(.str "pick"),(.str "not"),(.str "of"),(.str "table"),(.str "same"),(.str "total"),(.str "join"),(.str "pour"),(.str "just"),(.str "both"),(.str "none")]))) [si c,si (n:Int),none,none]=.nx [si c,si (n:Int),sf (.lst (lws.map .str)),none]:=by rfl
 have e2:evS (Wk k) (.set 3 (.frz (.bin .Mod v0 (.int 12)))) [si c,si (n:Int),sf (.lst (lws.map .str)),none]=.nx [si c,si (n:Int),sf (.lst (lws.map .str)),si (a:Int)]:=by generalize lws.map D.str=L;simp[ea]
 refine nxt e1 (nxt e2 (jP ?_));have lo:evE (Wk k) (.slice v2 (some v3) none) [si c,si (n:Int),sf (.lst (lws.map .str)),si (a:Int)]=.ok .fr (.lst ((lws.map .str).drop a)):=by rw[gC];exact aA9 (m:=.fz) rfl
 have hi:evE (Wk k) (.slice v2 none (some v3)) [si c,si (n:Int),sf (.lst (lws.map .str)),si (a:Int)]=.ok .fr (.lst ((lws.map .str).take a)):=by rw[gC];exact tW (m:=.fz) rfl
 rw[gC,jU lo hi (by simp[lws];lia)]
 refine(tW (m:=.fz) (i:=n) rfl).trans ?_;rw[<- List.map_drop,<- aSO,<- aRV,<- aSO]
def aBQ(k:Nat)(c:Int)(hn:n<=12):∃N:List Str,N.length=n/\(∀z∈N,Nm z)/\(Wk (k+2)).Φ "_law_called" [.int c,.int (n:Int)]=.ok .fr (.lst (N.map .str)):=by
 by_cases h:c % 4=1
 . obtain⟨N,h1,h2,h3⟩:=aNP k (c / 4) hn;refine⟨N,h1,h2,?_⟩;have cc:bD 2 ((Wk (k+1)).Φ "_law_like_words") (.ok [(.fz,.int (c / 4)),(.fz,.int (n:Int))])=.ok .fr (.lst (N.map .str)):=jQ (ds:=[.int (c / 4),.int (n:Int)]) rfl rfl h3;rw[aAD];refine aJ rfl ?_;show evB _ jO [si c,si (n:Int)]=_;simp[jO,h,cc]
 . obtain⟨N,h1,h2,h3⟩:=names k (c / 4) hn;refine⟨N,h1,h2,?_⟩;have cc:bD 2 ((Wk (k+1)).Φ "_law_names") (.ok [(.fz,.int (c / 4)),(.fz,.int (n:Int))])=.ok .fr (.lst (N.map .str)):=jQ (ds:=[.int (c / 4),.int (n:Int)]) rfl rfl h3;have h':(c % 4==1)=false:=aN3.mpr h;rw[aAD];refine aJ rfl ?_;show evB _ jO [si c,si (n:Int)]=_;simp[jO,h',cc]
def pow12:op2 (aQ .Pow) (okf (.int 10)) (okf (.int 12))=okf (.int 1000000000000):=by rfl
def pow50:op2 (aQ .Pow) (okf (.int 10)) (okf (.int 50))=okf (.int 100000000000000000000000000000000000000000000000000):=by rfl
def pow5{i:Int}(h:i.natAbs<2 ^ 64):op2 (aQ .Pow) (okf (.int i)) (okf (.int 5))=okf (.int (i ^ 5)):=bQ (by
 show(if(decide ((0:Int)<=5)&&decide ((5:Int)<=1000000)&&decide (i.natAbs<2 ^ 64))=true then some (Md.fz,D.int (i ^ (5:Int).toNat))else none)=_
 rw[if_pos (by rw[aQA h];rfl)];rfl)
def Vs(vs:List D):Prop:=∃(a b:Int) (z:Str),vs=[.int a,.int b,.str z]/\a.natAbs<10 ^ 60/\b.natAbs<10 ^ 60/\Nm z
theorem aNQ(k:Nat)(c:Int):∃vs,Vs vs/\(Wk (k+2)).Φ "_law_values" [.int c]=.ok .fr (.lst vs):=by
 obtain⟨N,n1,n2,n3⟩:=names k (c / 6) (n:=1) (by decide)
 obtain⟨z,rfl⟩:∃z,N=[z]:=by
  match N,n1 with
  |[z],_=>exact⟨z,rfl⟩
 have cn:bD 2 ((Wk (k+1)).Φ "_law_names") (.ok [(.fz,.int (c / 6)),(.fz,.int 1)])=.ok .fr (.lst [.str z]):=jQ (ds:=[.int (c / 6),.int 1]) rfl rfl n3;obtain⟨j,ej,hj⟩:=md (c:=c) (n:=1000000000000) (by decide)
 have p5:=pow5 (i:=(j:Int)) (by lia)
 have e1:op2 (aQ .Mod) (okf (.int c)) (okf (.int 1000000000000))=okf (.int (j:Int)):=by rw[eY (by decide),ej]
 have e2:op2 (aQ .Mod) (okf (.int ((j:Int) ^ 5))) (okf (.int 100000000000000000000000000000000000000000000000000))=okf (.int ((j:Int) ^ 5 % 100000000000000000000000000000000000000000000000000)):=eY (by decide)
 have h0':op2 ixD (.ok .fr (.lst [.str z])) (okf (.int 0))=okf (.str z):=eD (cW (j:=0) rfl);have l3:∀{a b c:D},gS (.ok [(.fz,a),(.fz,b),(.fz,c)])=.ok .fr (.lst [a,b,c]):=by intros;rfl
 have q0:=aR6 ((j:Int) ^ 5) (show(100000000000000000000000000000000000000000000000000:Int)≠0 by decide)
 have q1:=aR7 ((j:Int) ^ 5) (show(0:Int)<100000000000000000000000000000000000000000000000000 by decide)
 generalize (j:Int) ^ 5 % 100000000000000000000000000000000000000000000000000=q at *;have pre:evB (Wk (k+1)) (gH.take 1) [si c,none]=.nx [si c,si (3+q)]:=by generalize (j:Int) ^ 5=q' at *;simp[gH,pow12,e1,p5,pow50,e2]
 have L:(10:Nat) ^ 60=1000000000000000000000000000000000000000000000000000000000000:=by decide +kernel
 refine⟨[.int (c / 2 % 3),.int (if c % 2=1 then 0-(3+q)else 3+q),.str z],⟨_,_,_,rfl,by rw[L];lia,by rw[L];split <;> lia,n2 z mcs⟩,?_⟩
 rw[aME];refine aJ rfl ?_;show evB (Wk (k+1)) (gH.take 1++gH.drop 1) [si c,none]=_;rw[rR,pre,aE.thn_nx];generalize 3+q=q' at *;by_cases h:c % 2=1
 . simp[gH,h,cn,h0',l3]
 . have h':(c % 2==1)=false:=aN3.mpr h;simp[gH,h,h',cn,h0',l3]
def oO{C:List Str}:cL [(m,Tp C)]=some (.fz,.int (C.length:Int)):=by show some (Md.fz,D.int ((C.map D.str).length:Int))=_;rw[aPI]
def at_T{C:List Str}(hi:i<C.length):op2 ixD (.ok m (Tp C)) (.ok m' (.int (i:Int)))=okf (.str C[i]):=ix_t (cW (by rw[aPF,aQX hi];rfl))
theorem ptOf(k:Nat)(c:Int){C:List Str}(hv:Vs vs)(hC:∀z∈C,Nm z):∃p:Pt,p.ok/\(Wk (k+1)).Φ "_law_part" [.int c,Tp C,.lst vs]=okf p.d:=by
 have lt:=oO (C:=C) (m:=.fz);by_cases h0:0<C.length/\c % 3<2
 . obtain⟨j,ej,hj⟩:=md (c:=c / 3) (n:=(C.length:Int)) (by lia)
   have hj':j<C.length:=by lia
   refine⟨.of C[j],hC _ (aQY hj'),?_⟩;rw[aAC];refine aJ rfl ?_;show evB (Wk k) iC [si c,sf (Tp C),sf (.lst vs)]=.rt .fz (.tup [.str "of", .str C[j]]);have em:op2 (aQ .Mod) (okf (.int (c / 3))) (okf (.int (C.length:Int)))=okf (.int (j:Int)):=by rw[eY (by lia),ej]
   have ea:=at_T hj' (m:=.fz) (m':=.fz);have g0:(0:Int)<(C.length:Int):=by lia
   generalize C[j]=z at *;generalize Tp C=u at *;simp[iC,lt,h0.1,h0.2,em,ea,t2]
 . have key:∀v:D,op2 ixD (okf (.lst vs)) (okf (.int (c / 3 % 3)))=okf v->evB (Wk k) iC [si c,sf (Tp C),sf (.lst vs)]=.rt .fz (.tup [.str "just", v]):=λv ex=>by
     by_cases g:0<C.length
     . have g0:(0:Int)<(C.length:Int):=by lia
       have h1:¬ c % 3<2:=λq=>h0 ⟨g,q⟩;generalize Tp C=u at *;simp[iC,lt,g,h1,ex,t2]
     . have g0:¬ (0:Int)<(C.length:Int):=by lia
       generalize Tp C=u at *;simp[iC,lt,g,ex,t2]
   obtain⟨a,b,z,rfl,ha,hb,hz⟩:=hv;obtain⟨v,hv',ev⟩:=tI [D.int a,.int b,.str z] (c / 3) 3 rfl (by decide)
   have kv:=key v (eD ev);have fin:∀p:Pt,p.ok->p.d=.tup [.str "just", v]->∃p:Pt,p.ok/\(Wk (k+1)).Φ "_law_part" [.int c,Tp C,.lst [.int a,.int b,.str z]]=okf p.d:=λp hp e=>⟨p,hp,by rw[aAC,e];exact aJ rfl kv⟩
   simp only[aOG,aRX,aRY]at hv';rcases hv' with rfl|rfl|rfl
   . exact fin (.num a) ha rfl
   . exact fin (.num b) hb rfl
   . exact fin (.nam z) hz rfl
theorem pk2{a b:D}(c:Int):∃s:Bool,op2 ixD (.ok m (.lst [a,b])) (.ok m' (.int (c % 2)))=okf (if s=true then a else b):=by
 have h:c % 2=0\/c % 2=1:=by lia
 rcases h with h|h
 . exact⟨true,by rw[h];exact eD (cW (j:=0) rfl)⟩
 . exact⟨false,by rw[h];exact eD (cW (j:=1) rfl)⟩
def l2{a b:D}:gS (.ok [(.fz,a),(.fz,b)])=.ok .fr (.lst [a,b]):=by rfl
def barT(k:Nat)(c n:Int){C:List Str}(hv:Vs vs)(hC:∀z∈C,Nm z)(h:n=0\/c % 5<2):∃t:Ts,t.ok/\t.dp=1/\t.w.length=5/\(Wk (k+2)).Φ "_law_test" [.int c,.int n,Tp C,.lst vs]=okf t.d:=by
 obtain⟨p,hp,ep⟩:=ptOf k (c / 5) hv hC;obtain⟨q,hq,eq⟩:=ptOf k (c / 5 / 19) hv hC;obtain⟨s,es⟩:=pk2 (a:=.str "same") (b:=.str "under") (m:=.fr) (m':=.fz) c;have cp:bD 3 ((Wk (k+1)).Φ "_law_part") (.ok [(.fz,.int (c / 5)),(.fz,Tp C),(.fz,.lst vs)])=okf p.d:=rP ep;have cq:bD 3 ((Wk (k+1)).Φ "_law_part") (.ok [(.fz,.int (c / 5 / 19)),(.fz,Tp C),(.fz,.lst vs)])=okf q.d:=rP eq;refine⟨.atom s p q,⟨hp,hq⟩,rfl,rfl,?_⟩;rw[tF];refine aJ rfl ?_;show evB (Wk (k+1)) lM [si c,si n,sf (Tp C),sf (.lst vs),none,none,none]=.rt .fz (.tup [.str (sw s),p.d,q.d]);have hw:(if s=true then D.str "same" else .str "under")=.str (sw s):=by cases s <;> rfl
 rw[hw]at es;generalize sw s=w at *;have hc:((n==0)||decide (c % 5<2))=true:=by rcases h with h|h <;> simp[h]
 generalize p.d=d1 at *;generalize q.d=d2 at *;generalize Tp C=u at *;generalize D.lst vs=V at *;refine nxt (ρ':=[si c,si n,sf u,sf V,si (c / 5),none,none]) (by simp) (nxr (aV (m:=.fz) (by simp[hc]) ?_))
 simp[l2,es,cp,cq,t3]
theorem uA:∀(n k:Nat) (c:Int) {C:List Str}{vs:List D},Vs vs->(∀z∈C,Nm z)->∃t:Ts,t.ok/\t.dp<=n+1/\t.w.length+3<=8 * 2 ^ n/\(Wk (k+n+2)).Φ "_law_test" [.int c,.int (n:Int),Tp C,.lst vs]=okf t.d
 |0,k,c,C,vs,hv,hC=>by obtain⟨t,h1,h2,h3,h4⟩:=barT k c ((0:Nat):Int) hv hC (.inl rfl);exact⟨t,h1,by lia,by lia,h4⟩
 |n+1,k,c,C,vs,hv,hC=>by
  have p2:2 ^ (n+1)=2 * 2 ^ n:=by rw[Nat.pow_succ,Nat.mul_comm]
  have p1:1<=2 ^ n:=Nat.one_le_two_pow;by_cases h:c % 5<2
  . obtain⟨t,h1,h2,h3,h4⟩:=barT (k+n+1) c ((n+1:Nat):Int) hv hC (.inr h);exact⟨t,h1,by lia,by lia,h4⟩
  . obtain⟨a,ha,da,la,ea⟩:=uA n k (c / 5) hv hC;obtain⟨b,hb,db,lb,eb⟩:=uA n k ((c / 5+5) * 69621 % 998244353) hv hC;have c1:bD 4 ((Wk (k+n+2)).Φ "_law_test") (.ok [(.fz,.int (c / 5)),(.fz,.int (n:Int)),(.fz,Tp C),(.fz,.lst vs)])=okf a.d:=rQ ea;have c2:bD 4 ((Wk (k+n+2)).Φ "_law_test") (.ok [(.fz,.int ((c / 5+5) * 69621 % 998244353)),(.fz,.int (n:Int)),(.fz,Tp C),(.fz,.lst vs)])=okf b.d:=rQ eb;have m1:op2 (aQ .Mult) (okf (.int (c / 5+5))) (okf (.int 69621))=okf (.int ((c / 5+5) * 69621)):=lE (by decide)
    have n0:(((n+1:Nat):Int)==0)=false:=aN3.mpr (by lia)
    have hc:((((n+1:Nat):Int)==0)||decide (c % 5<2))=false:=by rw[n0,aN2 h];rfl
    have n1:((n+1:Nat):Int)-1=(n:Int):=by lia
    by_cases h2:c % 5=2
    . refine⟨.no a,ha,aRZ da,by show(brk (ch "not" :: a.w)).length+3<=_;rw[bX,aQB];lia,?_⟩
      rw[tF];refine aJ rfl ?_;show evB (Wk (k+n+2)) lM [si c,si ((n+1:Nat):Int),sf (Tp C),sf (.lst vs),none,none,none]=.rt .fz (.tup [.str "not", a.d]);generalize ((n+1:Nat):Int)=N at *;generalize a.d=d1 at *;generalize Tp C=u at *;generalize D.lst vs=V at *;refine nxt (ρ':=[si c,si N,sf u,sf V,si (c / 5),none,none]) (by simp) (nxt (aF (m:=.fz) (by simp[hc]) rfl) (nxr (aV (m:=.fz) (by simp[h2]) ?_)))
      simp[n1,c1,t2]
    . have h2':(c % 5==2)=false:=aN3.mpr h2;obtain⟨g,eg⟩:=pk2 (a:=.str "both") (b:=.str "either") (m:=.fr) (m':=.fz) c;refine⟨.two (!g) a b,⟨ha,hb⟩,by show max a.dp b.dp+1<=_;lia,by show(brk (ch (ew (!g))::(a.w++b.w))).length+3<=_;rw[bX,aQB,aPH];lia,?_⟩
      rw[tF];refine aJ rfl ?_;show evB (Wk (k+n+2)) lM [si c,si ((n+1:Nat):Int),sf (Tp C),sf (.lst vs),none,none,none]=.rt .fz (.tup [.str (ew (!g)),a.d,b.d]);have hw:(if g=true then D.str "both" else .str "either")=.str (ew (!g)):=by cases g <;> rfl
      rw[hw]at eg;generalize ew (!g)=w at *;generalize ((n+1:Nat):Int)=N at *;generalize a.d=d1 at *;generalize b.d=d2 at *;generalize Tp C=u at *;generalize D.lst vs=V at *
      refine nxt (ρ':=[si c,si N,sf u,sf V,si (c / 5),none,none]) (by simp) (nxt (aF (m:=.fz) (by simp[hc]) rfl) (nxt (aF (m:=.fz) (by simp[h2']) rfl)
       (nxt (ρ':=[si c,si N,sf u,sf V,si (c / 5),sf (.str w),none]) (by simp[l2,eg]) (nxt (ρ':=[si c,si N,sf u,sf V,si (c / 5),sf (.str w),sf d1]) (by simp[n1,c1]) ?_))))
      simp[n1,m1,c2,t3]
def uB{C C':List Str}(h:C.length+C'.length<=sizeLine):op2 (aQ .Add) (.ok m (Tp C)) (.ok m' (Tp C'))=okf (Tp (C++C')):=by rw[aLM (by rw[aPI,aPI];exact h),<- aRV]
def aNR{W:WD}{C:List Str}{e:E}(h:evE W e ρ=.ok m (.int (i:Int))):slP (okf (Tp C)) (evO W none) (evO W (some e)) ρ=okf (Tp (C.take i)):=by rw[sl_hi h,<- aSO]
def aNS{W:WD}{C:List Str}{e:E}(h:evE W e ρ=.ok m (.int (i:Int))):slP (okf (Tp C)) (evO W (some e)) (evO W none) ρ=okf (Tp (C.drop i)):=by rw[sl_lo h,<- List.map_drop]
def iI{W:WD}{C:List Str}{a e:E}(ha:evE W a ρ=okf (Tp C))(h:evE W e ρ=.ok m (.int (i:Int))):evE W (.slice a none (some e)) ρ=okf (Tp (C.take i)):=by rw[gC,ha];exact aNR h
def aBR{W:WD}{C:List Str}{a e:E}(ha:evE W a ρ=okf (Tp C))(h:evE W e ρ=.ok m (.int (i:Int))):evE W (.slice a (some e) none) ρ=okf (Tp (C.drop i)):=by rw[gC,ha];exact aNS h
theorem aBS{W:WD}{C:List Str}{a e:E}(hb:C.length<=900)(ha:evE W a ρ=okf (Tp C))(h:evE W e ρ=.ok m (.int (i:Int))):evE W (.frz (.bin .Add (.slice a (some e) none) (.slice a none (some e)))) ρ=okf (Tp (C.drop i++C.take i)):=by have hsz:sizeLine=16777216:=aO3;rw[yI,cD,iI ha h,aBR ha h,uB (by rw[aPV,aPA];lia),yL]
def iJ{W:WD}{C:List Str}{a:E}(ha:evE W a ρ=okf (Tp C)):evE W (.bcall .len [a]) ρ=okf (.int (C.length:Int)):=by rw[aLA,aLE,aLD,ha,pN,aLO,aLP,oO];rfl
def uC{C:List Str}(h:z∈C.drop j++C.take j):z∈C:=by
 rcases aOH.mp h with h|h
 . exact aRH h
 . exact aRI h
theorem aNT{C:List Str}:(C.drop j++C.take j).length=C.length:=by rw[aPH,aPV,aPA];lia
theorem aBT(k:Nat){C:List Str}(hb:C.length<=900)(c:Int):∃K:List Str,(∀z∈K,z∈C)/\K.length<=C.length/\(Wk (k+1)).Φ "_law_some" [.int c,Tp C]=okf (Tp K):=by
 generalize hW:Wk k=W;have hu:=aMF k;rw[hW]at hu;by_cases h0:C.length=0
 . refine⟨C,λ_ h=>h,aOY _,?_⟩;rw[hu];refine aJ rfl ?_;show evB W lO [si c,sf (Tp C),none,none]=_;have lt:=oO (C:=C) (m:=.fz);rw[h0]at lt;generalize Tp C=u at *;simp[lO,lt]
 . obtain⟨j,ej,hj⟩:=md (c:=c) (n:=(C.length:Int)) (by lia)
   obtain⟨i,ei,hi⟩:=md (c:=c / 7) (n:=2) (by lia)
   refine⟨(C.drop j++C.take j).take (C.length-i),λz hz=>uC (aRI hz),by rw[aPA];lia,?_⟩
   rw[hu];refine aJ rfl ?_;show evB W lO [si c,sf (Tp C),none,none]=_;have h0':((C.length:Int)==0)=false:=aN3.mpr (by lia)
   have g1:evE W (.cmp .Eq (.bcall .len [v1]) (.int 0)) [si c,sf (Tp C),none,none]=okf (.bl false):=by rw[gB,iJ (C:=C) rfl,e_int,rO,h0']
   have g2:evE W (.frz (.bin .Mod v0 (.bcall .len [v1]))) [si c,sf (Tp C),none,none]=okf (.int (j:Int)):=by rw[yI,cD,iJ (C:=C) rfl,nJ,g_0,eY (by lia),ej,yL]
   have g3:evE W (.frz (.bin .Add (.slice v1 (some v2) none) (.slice v1 none (some v2)))) [si c,sf (Tp C),si (j:Int),none]=okf (Tp (C.drop j++C.take j)):=aBS hb rfl (m:=.fz) rfl;have g4:evE W (.slice v3 none (some (.bin .Sub (.bcall .len [v3]) (.bin .Mod (.bin .FloorDiv v0 (.int 7)) (.int 2))))) [si c,sf (Tp C),si (j:Int),sf (Tp (C.drop j++C.take j))]=okf (Tp ((C.drop j++C.take j).take (C.length-i))):=by
    refine iI rfl (m:=.fz) ?_;rw[cD,iJ (C:=C.drop j++C.take j) rfl,aNT];have:evE W (.bin .Mod (.bin .FloorDiv v0 (.int 7)) (.int 2)) [si c,sf (Tp C),si (j:Int),sf (Tp (C.drop j++C.take j))]=okf (.int (i:Int)):=by rw[<- ei];generalize Tp (C.drop j++C.take j)=u1;generalize Tp C=u;simp
    rw[this,rN,show((C.length-i:Nat):Int)=(C.length:Int)-(i:Int) by lia]
   exact nxt (aF g1 rfl) (nxt (aH g2) (nxt (aH g3) (aU g4)))
theorem aBU{k d:_}:∀{M:List (Key×D)}{k':Key},bU (M.map λkv=>if kv.1=k then(kv.1,d)else kv) k'=if k'=k then(bU M k).map (λ_=>d)else bU M k'
 |[],k'=>by simp[bU]
 |kv::M,k'=>by
  have ih:=aBU (k:=k) (d:=d) (M:=M) (k':=k');unfold bU at *;rw[aQD,aP9,aP9,aP9];by_cases h1:kv.1=k
  . rw[if_pos h1];by_cases h2:k'=k
    . subst h2;simp[h1]
    . have h3:kv.1≠k':=λe=>h2 (e.symm.trans h1);rw[if_neg h2]at ih ⊢;simp only[aN2 h3];exact ih
  . rw[if_neg h1];by_cases h3:kv.1=k'
    . subst h3;rw[if_neg h1];simp
    . simp only[aN2 h3,aN2 h1];exact ih
def aNU{k k':Key}{d:D}:bU (dQ M k d) k'=if k'=k then some d else bU M k':=by
 unfold dQ;split
 . rename_i h;rw[aBU];split
   . obtain⟨kv,hkv,e⟩:=aSA.mp h;have:(M.find? λkv=>decide (kv.1=k)).isSome=true:=List.find?_isSome.mpr ⟨kv,hkv,e⟩;unfold bU;cases q:M.find? λkv=>decide (kv.1=k)with
     |none=>rw[q]at this;cases this
     |some x=>rfl
   . rfl
 . rename_i h;have nk:M.find? (λkv=>decide (kv.1=k))=none:=List.find?_eq_none.mpr λkv hkv e=>h (aSA.mpr ⟨kv,hkv,e⟩);unfold bU;rw[List.find?_append];split
   . rename_i e;subst e;rw[nk];simp
   . rename_i e;have:(List.find? (λkv:Key×D=>decide (kv.1=k')) [(k,d)])=none:=by simp[Ne.symm e]
     rw[this,Option.or_none]
def Gd(M:List (Key×D))(ws:List Str):Prop:=∀w∈ws,∃S:List Str,bU M (.inr w)=some (Tp S)/\S.length=2/\∀z∈S,Nm z
def Gd.put{w a b:Str}(h:Gd M ws)(ha:Nm a)(hb:Nm b):Gd (dQ M (.inr w) (Tp [a,b])) (w::ws):=λx hx=>by
 rw[aNU];by_cases e:(Sum.inr x:Key)=.inr w
 . rw[if_pos e];refine⟨[a,b],rfl,rfl,λz hz=>?_⟩;simp only[aOG,aRX,aRY]at hz;rcases hz with rfl|rfl
   . exact ha
   . exact hb
 . rw[if_neg e];rcases aOG.mp hx with rfl|hx
   . exact absurd rfl e
   . exact h x hx
def aBV{k:Key}{d:D}:(dQ M k d).length<=M.length+1:=by unfold dQ;split <;> simp
theorem uD{W:WD}{e e':E}{d:D}(hi:ρ[i]? = some (some (true,.dct M)))(hk:evE W e ρ=okf (.str z))(hv:evE W e' ρ=okf d)(hl:M.length<=1000):evS W (.dput i e e') ρ=.nx (ρ.set i (some (true,.dct (dQ M (.inr z) d)))):=by rw[aLG,hk,hv];unfold fH;rw[hi];show(if M.length<sizeLine then aE.nx (ρ.set i (some (true,.dct (dQ M (.inr z) d))))else .stuck)=_;rw[if_pos (by rw[aO3];lia)]
theorem aNV(k:Nat){N:List Str}(hw:ws.length=3)(hN:N.length=7)(hn:∀z∈N,Nm z):∃M,Gd M ws/\(Wk (k+1)).Φ "_law_shapes" [.lst (ws.map .str),Tp N]=.ok .fr (.dct M):=by
 match ws,hw,N,hN with
 |[w0,w1,w2],_,[n0,n1,n2,n3,n4,n5,n6],_ =>
  have m:=λz (h:z∈[n0,n1,n2,n3,n4,n5,n6])=>hn z h;have g0:Gd [] []:=λw hw=>nomatch hw;have g1:=g0.put (w:=w0) (m n0 (by simp)) (m n1 (by simp))
  have g2:=g1.put (w:=w1) (m n1 (by simp)) (m n2 (by simp))
  have g3:=g2.put (w:=w2) (m n3 (by simp)) (m n4 (by simp))
  have l1:=aBV (M:=[]) (k:=.inr w0) (d:=Tp [n0,n1]);have l2:=aBV (M:=dQ [] (.inr w0) (Tp [n0,n1])) (k:=.inr w1) (d:=Tp [n1,n2]);refine⟨_,λw hw=>g3 w (by simp only[aOG,aRX,aRY]at hw ⊢;rcases hw with h|h|h <;> simp[h]),?_⟩
  rw[aMH];refine aJ rfl ?_;show evB (Wk k) sO [sf (.lst [.str w0,.str w1,.str w2]),sf (.tup [.str n0,.str n1,.str n2,.str n3,.str n4,.str n5,.str n6]),none]=_
  refine nxt (ρ':=[sf (.lst [.str w0,.str w1,.str w2]),sf (.tup [.str n0,.str n1,.str n2,.str n3,.str n4,.str n5,.str n6]),some (true,.dct [])]) (by rw[rK,aLB,aLN];rfl) (nxt (uD (M:=[]) rfl (cF 0 rfl rfl) (tp2 (aO 0 rfl rfl) (aO 1 rfl rfl)) (by decide)) (nxt (uD (M:=dQ [] (.inr w0) (Tp [n0,n1])) rfl (cF 1 rfl rfl) (tp2 (aO 1 rfl rfl) (aO 2 rfl rfl)) (by simp at l1 ⊢;lia))
   (nxt (uD (M:=dQ (dQ [] (.inr w0) (Tp [n0,n1])) (.inr w1) (Tp [n1,n2])) rfl (cF 2 rfl rfl) (tp2 (aO 3 rfl rfl) (aO 4 rfl rfl)) (by simp at l1 ⊢;lia)) ?_)))
  rw[cT,lA];rfl
def aBW{w:Str}{d:D}(h:bU M (.inr w)=some d):op2 ixK (.ok m (.dct M)) (.ok m' (.str w))=okf d:=bQ (by
 show(bU M (.inr w)).map _=_;rw[h];rfl)
theorem uE(k:Nat){C:List Str}(g:Gd M ws)(hw:ws.length=3)(hn:∀z∈ws,Nm z)(hC:nms C)(c:Int):∃a:As,a.ok/\a.dp=2/\a.w.length<=9+C.length/\(Wk (k+1)).Φ "_law_like" [.int (c % 3),Tp C,.lst (ws.map .str),.dct M]=okf a.d:=by
 obtain⟨j,ej,hj⟩:=md (c:=c) (n:=3) (by decide)
 have hj':j<ws.length:=by lia
 obtain⟨S,s1,s2,s3⟩:=g ws[j] (aQY hj');refine⟨.kc false (.kc true (.tb ws[j]) (S.take C.length)) C,⟨⟨hn _ (aQY hj'),by rw[aPA];lia,λz hz=>s3 z (aRI hz)⟩,hC⟩,rfl,?_,?_⟩
 . show(brk (_::(brk (_::([ch ws[j]]++_))++_))).length<=_;simp only[bX,aQB,aPH,aPI,aPA,aQC];lia
 rw[ej,aMG];refine aJ rfl ?_;show evB (Wk k) sN [si (j:Int),sf (Tp C),sf (.lst (ws.map .str)),sf (.dct M),none]=_;have ew:∀{ρ:Rho},evE (Wk k) (.ix v2 v0) (si (j:Int)::sf (Tp C)::sf (.lst (ws.map .str))::ρ)=okf (.str ws[j]):=λ{ρ}=>by show op2 ixD (okf (.lst (ws.map .str))) (okf (.int (j:Int)))=_;exact eD (cW (by rw[aPF,aQX hj'];rfl))
 have ed:evE (Wk k) (.dix v3 (.ix v2 v0)) [si (j:Int),sf (Tp C),sf (.lst (ws.map .str)),sf (.dct M),none]=okf (Tp S):=by rw[yJ,ew];exact aBW s1 (m:=.fz)
 exact nxt (aH (tp3 rfl (tp2 rfl ew) (aK (iI (m:=.fz) ed (iJ (C:=C) (a:=.var 1) rfl))))) (aU (tp3 rfl rfl rfl))
structure Ok(m n:Nat)(a:As)(C:List Str):Prop where
 ok:a.ok
 len:C.length<=2+2 * m
 nm:∀z∈C,Nm z
 dp:a.dp<=3+n+m
 w:a.w.length<=1+40 * n
def c4{W:WD}{f:Str}{e4:E}{a b c x d:D}(h1:evE W e1 ρ=okf a)(h2:evE W e2 ρ=okf b)(h3:evE W e3 ρ=okf c)(h4:evE W e4 ρ=okf x)(hf:W.Φ f [a,b,c,x]=okf d):evE W (.call f 4 [e1,e2,e3,e4]) ρ=okf d:=by show bD 4 (W.Φ f) (aL (evE W e1 ρ) (aL (evE W e2 ρ) (aL (evE W e3 ρ) (aL (evE W e4 ρ) (.ok [])))))=_;rw[h1,h2,h3,h4];exact rQ hf
def c2{W:WD}{f:Str}{a b d:D}(h1:evE W e1 ρ=okf a)(h2:evE W e2 ρ=okf b)(hf:W.Φ f [a,b]=okf d):evE W (.call f 2 [e1,e2]) ρ=okf d:=by show bD 2 (W.Φ f) (aL (evE W e1 ρ) (aL (evE W e2 ρ) (.ok [])))=_;rw[h1,h2];exact yM hf
theorem fr_t{W:WD}{e:E}{C:List Str}(h:evE W e ρ=okf (.int (i:Int))){a:E}(hb:C.length<=900)(ha:evE W a ρ=okf (Tp C)){f:E}{m:Nat}(hf:evE W f ρ=okf (.int (m:Int))):evE W (.frz (.slice (.bin .Add (.slice a (some e) none) (.slice a none (some e))) none (some f))) ρ=okf (Tp ((C.drop i++C.take i).take m)):=by
 refine aK (iI (m:=.fz) ?_ hf);have:=aBS (m:=.fz) hb ha h;have e1:evE W (.bin .Add (.slice a (some e) none) (.slice a none (some e))) ρ=okf (Tp (C.drop i++C.take i)):=by have hsz:sizeLine=16777216:=aO3;rw[cD,iI (m:=.fz) ha h,aBR (m:=.fz) ha h,uB (by rw[aPV,aPA];lia)]
 exact e1
theorem uF{W:WD}{e a:E}{C:List Str}{v:Int}(h:evE W e ρ=okf (.int v))(ha:evE W a ρ=okf (Tp C))(h0:0<C.length):∃j:Nat,j<C.length/\evE W (.bin .Mod e (.bcall .len [a])) ρ=okf (.int (j:Int)):=by
 obtain⟨j,ej,hj⟩:=md (c:=v) (n:=(C.length:Int)) (by lia)
 refine⟨j,by lia,?_⟩
 rw[cD,h,iJ ha,eY (by lia),ej]
theorem aNW(k:Nat){m:Nat}{a:As}{C N:List Str}(o:Ok m n a C)(hm:m<=6)(hv:Vs vs)(hN:N.length=7)(hn:∀z∈N,Nm z)(w:Str)(v:Int):∃a' C',Ok m (n+1) a' C'/\(Wk (k+5)).Φ "_law_narrowed" [.str w,.int v,a.d,Tp C,Tp N,.lst vs]=okf (.tup [a'.d,Tp C']):=by
 suffices h:∃a' C',Ok m (n+1) a' C'/\evB (Wk (k+4)) sP [sf (.str w),si v,sf a.d,sf (Tp C),sf (Tp N),sf (.lst vs),none,none]=.rt .fz (.tup [a'.d,Tp C']) by obtain⟨a',C',h1,h2⟩:=h;exact⟨a',C',h1,by rw[aMI];exact aJ rfl h2⟩
 have ol:=o.len;have od:=o.dp;have ow:=o.w;by_cases h1:w="pick"
 . subst h1;obtain⟨q,hq,eq,hq2⟩:∃q:Nat,q<=2/\(1+v % 3 / 2)=(q:Int)/\2 ^ q<=4:=by
     have h0:=aR6 v (show(3:Int)≠0 by decide)
     have h1:=aR7 v (show(0:Int)<3 by decide)
     by_cases h2:v % 3 / 2=0
     . exact⟨1,by decide,by lia,by decide⟩
     . exact⟨2,by decide,by lia,by decide⟩
   obtain⟨t,t1,t2',t3',t4⟩:=uA q (k+2-q) (v / 3) hv o.nm;rw[show k+2-q+q+2=k+4 by lia]at t4
   refine⟨.pick a t,C,⟨⟨o.ok,t1⟩,ol,o.nm,by show max a.dp t.dp+1<=_;lia,by show(brk (_::(a.w++t.w))).length<=_;rw[bX,aQB,aPH];lia⟩,?_⟩
   have d1:evE (Wk (k+4)) (.frz (.bin .FloorDiv v1 (.int 3))) [sf (.str "pick"),si v,sf a.d,sf (Tp C),sf (Tp N),sf (.lst vs),none,none]=okf (.int (v / 3)):=by generalize Tp C=u;generalize Tp N=u1;generalize a.d=A;generalize D.lst vs=V;simp
   have d2:evE (Wk (k+4)) (.frz (.bin .Add (.int 1) (.bin .FloorDiv (.bin .Mod v1 (.int 3)) (.int 2)))) [sf (.str "pick"),si v,sf a.d,sf (Tp C),sf (Tp N),sf (.lst vs),none,none]=okf (.int (q:Int)):=by rw[<- eq];generalize Tp C=u;generalize Tp N=u1;generalize a.d=A;generalize D.lst vs=V;simp
   exact nxr (aV (cE rfl (aQ9 _)) (aU (tp2 (tp3 rfl rfl (aK (c4 d1 d2 rfl rfl t4))) rfl)))
 . have f1:(w==Str.ofString "pick")=false:=aN3.mpr h1;by_cases h2:w="call"
   . subst h2;obtain⟨j,hj,ej⟩:=uF (W:=Wk (k+4)) (ρ:=[sf (.str "call"),si v,sf a.d,sf (Tp C),sf (Tp N),sf (.lst vs),none,none]) (e:=.var 1) (a:=.var 4) (C:=N) rfl rfl (by lia)
     have hl:((N.drop j++N.take j).take C.length).length<=C.length:=by rw[aPA];lia
     have hc:nms ((N.drop j++N.take j).take C.length):=⟨by lia,λz hz=>hn z (uC (aRI hz))⟩
     refine⟨.kc false a ((N.drop j++N.take j).take C.length),_,⟨⟨o.ok,hc⟩,by lia,hc.2,by show a.dp+1<=_;lia,by show(brk (_::(a.w++List.map ch _))).length<=_;rw[bX,aQB,aPH,aPI];lia⟩,?_⟩
     exact nxt (aF (cE rfl f1) rfl) (nxr (aV (cE rfl (aQ9 _)) (nxt (aH (aK ej)) (nxt (aH (fr_t (C:=N) (i:=j) (a:=.var 4) (e:=.var 6) (f:=.bcall .len [v3]) (m:=C.length) rfl (by lia) rfl (iJ (a:=.var 3) (C:=C) rfl))) (aU (tp2 (tp3 rfl rfl rfl) rfl))))))
   . have f2:(w==Str.ofString "call")=false:=aN3.mpr h2;obtain⟨K,k1,k2,k3⟩:=aBT (k+3) (C:=C) (by lia) v
     have hK:nms K:=⟨by lia,λz hz=>o.nm z (k1 z hz)⟩
     have es:evS (Wk (k+4)) (.set 7 (.frz (.call "_law_some" 2 [v1,v3]))) [sf (.str w),si v,sf a.d,sf (Tp C),sf (Tp N),sf (.lst vs),none,none]=.nx [sf (.str w),si v,sf a.d,sf (Tp C),sf (Tp N),sf (.lst vs),none,sf (Tp K)]:=aH (aK (c2 rfl rfl k3));have et:∀b:Bool,((w==Str.ofString "keep")||((C.length:Int)==0))=b->evE (Wk (k+4)) (.orL [(.cmp .Eq v0 (.str "keep")),(.cmp .Eq (.bcall .len [v3]) (.int 0))]) [sf (.str w),si v,sf a.d,sf (Tp C),sf (Tp N),sf (.lst vs),none,sf (Tp K)]=okf (.bl b):=λb hb=>by have lt:=oO (C:=C) (m:=.fz);rw[<- hb];generalize Tp C=u at *;generalize Tp N=u1;generalize a.d=A;generalize D.lst vs=V;generalize Tp K=u2;simp[lt]
     cases hb:((w==Str.ofString "keep")||((C.length:Int)==0))with
     |true =>
      refine⟨.kc true a K,K,⟨⟨o.ok,hK⟩,by lia,hK.2,by show a.dp+1<=_;lia,by show(brk (_::(a.w++List.map ch _))).length<=_;rw[bX,aQB,aPH,aPI];lia⟩,?_⟩
      exact nxt (aF (cE rfl f1) rfl) (nxt (aF (cE rfl f2) rfl) (nxt es (nxr (aV (et _ hb) (aU (tp2 (tp3 rfl rfl rfl) rfl))))))
     |false =>
      rw[aQR,aN3,aN3]at hb;have h0:0<C.length:=by lia
      obtain⟨j,hj,ej⟩:=uF (W:=Wk (k+4)) (ρ:=[sf (.str w),si v,sf a.d,sf (Tp C),sf (Tp N),sf (.lst vs),none,sf (Tp K)]) (e:=.bin .FloorDiv v1 (.int 14)) (a:=.var 3) (C:=C) (v:=v / 14) (by
       generalize Tp C=u;generalize Tp N=u1;generalize a.d=A;generalize D.lst vs=V;generalize Tp K=u2;simp) rfl h0
      refine⟨.tot a C[j] K,K,⟨⟨o.ok,o.nm _ (aQY hj),hK⟩,by lia,hK.2,by show a.dp+1<=_;lia,by show(brk (_::(a.w++_::List.map ch _))).length<=_;rw[bX,aQB,aPH,aQB,aPI];lia⟩,?_⟩
      have ex:evE (Wk (k+4)) (.ix v3 (.bin .Mod (.bin .FloorDiv v1 (.int 14)) (.bcall .len [v3]))) [sf (.str w),si v,sf a.d,sf (Tp C),sf (Tp N),sf (.lst vs),none,sf (Tp K)]=okf (.str C[j]):=by rw[e_ix,ej];exact at_T hj (m:=.fz)
      exact nxt (aF (cE rfl f1) rfl) (nxt (aF (cE rfl f2) rfl) (nxt es (nxt (aF (et _ (by rw[aQR,aN3,aN3];exact hb)) rfl) (aU (tp2 (tp4 rfl rfl ex rfl) rfl)))))
theorem dif{W:WD}{e f:E}{A B C:List Str}(he:evE W e ρ=okf (Tp A))(hf:evE W f ρ=okf (Tp C))(hB:ρ[i]? = some (sf (Tp B)))(h1:A.length<=900)(h2:C.length<=900):evE W (.frz (.bin .Add e (.tcall .tuple [(.comp v1 (.items f) [(.cmp .NotIn v1 v0)] [i] (.nm 1) 1)]))) ρ=okf (Tp (A++C.filter λz=>!decide (z∈B))):=by
 have z:=aO3;have ec:evE W (.comp v1 (.items f) [(.cmp .NotIn v1 v0)] [i] (.nm 1) 1) ρ=.ok .fr (.lst ((C.filter λz=>!decide (z∈B)).map D.str)):=by
  rw[k9,k8,hf];have:(C.filter λz=>!decide (z∈B)).map D.str=(C.map D.str).filter (λd=>match d with|.str z=>!decide (z∈B)|_=>false):=by rw[aSF];rfl
  rw[this];refine aAP _ (by rw[aPI];lia) λd hd=>?_
  obtain⟨x,_,rfl⟩:=aR5.mp hd;refine⟨[sf (Tp B),sf (.str x)],.fz,?_,?_,.fz,by simp⟩
  . show some (((cM [i] ρ++[none]).set 1 (sf (.str x))))=_;unfold cM;simp[hB]
  . have:=aMP (m:=.fz) (m':=.fz) (z:=x) (C:=B);show dL (op2 (bB .NotIn) (okf (.str x)) (okf (Tp B))) (okf (.bl true))=_;rw[this];show dL (okf (.bl (!decide (x∈B)))) (okf (.bl true))=okf (.bl (!decide (x∈B)));cases(!decide (x∈B)) <;> rfl
 have et:=tJ ec;refine aK ?_;rw[cD,he,et];exact uB (by have:=aSP (λz=>!decide (z∈B)) C;lia)
structure Tb(M:List (Key×D))(ws N:List Str):Prop where
 g:Gd M ws
 l3:ws.length=3
 nw:∀z∈ws,Nm z
 l7:N.length=7
 nn:∀z∈N,Nm z
theorem uG{m:Nat}{a b:As}{C C':List Str}(o:Ok m n a C)(hb:b.ok)(db:b.dp=2)(wb:b.w.length<=29)(v:W3)(hl:C'.length<=2+2 * (m+1))(hn:∀z∈C',Nm z):Ok (m+1) (n+1) (.two v a b) C'/\Ok (m+1) (n+1) (.two v b a) C':=by
 have od:=o.dp;have ow:=o.w;refine⟨⟨⟨o.ok,hb⟩,hl,hn,?_,?_⟩,⟨⟨hb,o.ok⟩,hl,hn,?_,?_⟩⟩
 . show max a.dp b.dp+1<=_;lia
 . show(brk (_::(a.w++b.w))).length<=_;rw[bX,aQB,aPH];lia
 . show max b.dp a.dp+1<=_;lia
 . show(brk (_::(b.w++a.w))).length<=_;rw[bX,aQB,aPH];lia
theorem aNX(k:Nat){m:Nat}{a:As}{C N:List Str}(o:Ok m n a C)(hm:m<6)(tb:Tb M ws N)(w:Str)(hw:w∈[Str.ofString "join", Str.ofString "pour", Str.ofString "leave"])(v:Int):∃a' C',Ok (m+1) (n+1) a' C'/\(Wk (k+3)).Φ "_law_widened" [.str w,.int v,a.d,Tp C,Tp N,.lst (ws.map .str),.dct M]=okf (.tup [a'.d,Tp C']):=by
 suffices h:∃a' C',Ok (m+1) (n+1) a' C'/\evB (Wk (k+2)) sQ [sf (.str w),si v,sf a.d,sf (Tp C),sf (Tp N),sf (.lst (ws.map .str)),sf (.dct M),none,none,none,none,none]=.rt .fz (.tup [a'.d,Tp C']) by obtain⟨a',C',h1,h2⟩:=h;exact⟨a',C',h1,by rw[aMJ];exact aJ rfl h2⟩
 have ol:=o.len;have od:=o.dp;have ow:=o.w;have t01:v / 3 % 2=0\/v / 3 % 2=1:=by lia
 have e7:∀{ρ:Rho},evS (Wk (k+2)) (.set 7 (.frz (.bin .Mod v1 (.int 3)))) (sf (.str w)::si v::ρ)=.nx ((sf (.str w)::si v::ρ:Rho).set 7 (si (v % 3))):=λ{ρ}=>aH (aK (by rw[cD];exact eY (by decide)))
 have e8:∀{ρ:Rho},evS (Wk (k+2)) (.set 8 (.frz (.bin .Mod (.bin .FloorDiv v1 (.int 3)) (.int 2)))) (sf (.str w)::si v::ρ)=.nx ((sf (.str w)::si v::ρ:Rho).set 8 (si (v / 3 % 2))):=λ{ρ}=>aH (aK (by
  rw[cD,cD];show op2 (aQ .Mod) (op2 (aQ .FloorDiv) (okf (.int v)) (okf (.int 3))) (okf (.int 2))=_;rw[lD (by decide) (by decide)]
  exact eY (by decide)))
 simp only[aOG,aRX,aRY]at hw;have eT:∀{ρ:Rho}{b:Bool},decide (v / 3 % 2=1)=b->evE (Wk (k+2)) v8 ρ=okf (.int (v / 3 % 2))->evE (Wk (k+2)) (.cmp .Eq v8 (.int 1)) ρ=okf (.bl b):=λ{ρ b} hb h=>by rw[gB,h,<- hb];show op2 (bB .Eq) (okf (.int (v / 3 % 2))) (okf (.int 1))=_;rw[rO];rfl
 rcases hw with rfl|rfl|rfl
 . -- join
   obtain⟨j,hj,ej⟩:=uF (W:=Wk (k+2)) (ρ:=[sf (.str "join"),si v,sf a.d,sf (Tp C),sf (Tp N),sf (.lst (ws.map .str)),sf (.dct M),si (v % 3),si (v / 3 % 2),none,none,none]) (e:=.bin .FloorDiv v1 (.int 6)) (a:=.var 4) (C:=N) (v:=v / 6) (by
    rw[cD];show op2 (aQ .FloorDiv) (okf (.int v)) (okf (.int 6))=_
    exact lD (by decide) (by decide)) rfl (by have:=tb.l7;lia)
   generalize hB:(N.drop j++N.take j).take 2=B;have lB:B.length<=2:=by rw[<- hB,aPA];lia
   have nB:∀z∈B,Nm z:=λz hz=>tb.nn z (uC (aRI (hB ▸ hz)));obtain⟨b,b1,b2,b3,b4⟩:=uE (k+1) tb.g tb.l3 tb.nw (C:=B) ⟨by lia,nB⟩ v
   have b3:b.w.length<=29:=by lia
   have nm2:∀(X Y:List Str) (p:Str->Bool),(∀z∈X,Nm z)->(∀z∈Y,Nm z)->∀z∈X++Y.filter p,Nm z:=λX Y p h1 h2 z hz=>(aOH.mp hz).elim (h1 z) λh=>h2 z (aOB.mp h).1;have e10:∀{ρ:Rho},evE (Wk (k+2)) v4 ρ=okf (Tp N)->evE (Wk (k+2)) v9 ρ=okf (.int (j:Int))->evE (Wk (k+2)) (.frz (.slice (.bin .Add (.slice v4 (some v9) none) (.slice v4 none (some v9))) none (some (.int 2)))) ρ=okf (Tp B):=λ{ρ} h1 h2=>by rw[<- hB];exact fr_t (f:=.int 2) (m:=2) h2 (by have:=tb.l7;lia) h1 rfl
   rcases t01 with t|t
   . refine⟨_,C++B.filter λz=>!decide (z∈C),(uG (C':=C++B.filter λz=>!decide (z∈C)) o b1 b2 b3 .join ?_ (nm2 _ _ _ o.nm nB)).1,?_⟩
     . have:=aSP (λz=>!decide (z∈C)) B;rw[aPH];lia
     exact nxt e7 (nxt e8 (nxr (aV (cE rfl (aQ9 _)) (nxt (aH (aK ej)) (nxt (aH (e10 rfl rfl)) (nxt (aH (aK (c4 rfl rfl rfl rfl b4))) (nxt (aF (eT (b:=false) (aN2 (by lia)) rfl) rfl) (aU (tp2 (tp3 rfl rfl rfl) (dif (A:=C) (B:=C) (C:=B) rfl rfl rfl (by lia) (by lia)))))))))))
   . refine⟨_,B++C.filter λz=>!decide (z∈B),(uG (C':=B++C.filter λz=>!decide (z∈B)) o b1 b2 b3 .join ?_ (nm2 _ _ _ nB o.nm)).2,?_⟩
     . have:=aSP (λz=>!decide (z∈B)) C;rw[aPH];lia
     exact nxt e7 (nxt e8 (nxr (aV (cE rfl (aQ9 _)) (nxt (aH (aK ej)) (nxt (aH (e10 rfl rfl)) (nxt (aH (aK (c4 rfl rfl rfl rfl b4))) (nxr (aV (eT (b:=true) (aQA t) rfl) (aU (tp2 (tp3 rfl rfl rfl) (dif (A:=B) (B:=B) (C:=C) rfl rfl rfl (by lia) (by lia))))))))))))
 . -- pour
   obtain ⟨a1, C1, lC, nC, o3', o2, o3, e⟩ : ∃ (a1 : As) (C1 : List Str), C1.length ≤ 2 ∧ (∀ z ∈ C1, Nm z) ∧ a1.ok ∧ a1.dp ≤ a.dp + 1 ∧ a1.w.length ≤ a.w.length + 5 ∧ evS (Wk (k + 2)) (.ite (.cmp .Gt (.bcall .len [v3]) (.int 2)) [.set 3 (.frz (.slice v3 none (some (.int 2)))), .set 2 (.tup [(.str "keep"), v2, v3])] []) [sf (.str "pour"), si v, sf a.d, sf (Tp C), sf (Tp N), sf (.lst (ws.map .str)), sf (.dct M), si (v % 3), si (v / 3 % 2), none, none, none]
       = .nx [sf (.str "pour"),si v,sf a1.d,sf (Tp C1),sf (Tp N),sf (.lst (ws.map .str)),sf (.dct M),si (v % 3),si (v / 3 % 2),none,none,none]:=by
    have eg:∀b:Bool,decide ((2:Int)<(C.length:Int))=b->evE (Wk (k+2)) (.cmp .Gt (.bcall .len [v3]) (.int 2)) [sf (.str "pour"),si v,sf a.d,sf (Tp C),sf (Tp N),sf (.lst (ws.map .str)),sf (.dct M),si (v % 3),si (v / 3 % 2),none,none,none]=okf (.bl b):=λb hb=>by rw[gB,iJ (a:=.var 3) (C:=C) rfl,<- hb];rfl
    by_cases h:2<C.length
    . refine⟨.kc true a (C.take 2),C.take 2,by rw[aPA];lia,λz hz=>o.nm z (aRI hz),⟨o.ok,by rw[aPA];lia,λz hz=>o.nm z (aRI hz)⟩,aOY _,?_,?_⟩
      . show(brk (_::(a.w++List.map ch _))).length<=_;rw[bX,aQB,aPH,aPI,aPA];lia
      . exact aV (eg true (aQA (by lia))) (nxt (aH (aK (iI (m:=.fz) (C:=C) (i:=2) rfl rfl))) (nxt (aH (tp3 rfl rfl rfl)) rfl))
    . exact⟨a,C,by lia,o.nm,o.ok,by lia,by lia,aF (eg false (aN2 (by lia))) rfl⟩
   obtain⟨b,b1,b2,b3,b4⟩:=uE (k+1) tb.g tb.l3 tb.nw (C:=C1) ⟨by lia,nC⟩ v
   have h12:∀{x y:As},((x=a1/\y=b)\/(x=b/\y=a1))->Ok (m+1) (n+1) (.two .pour x y) C1:=λ{x y} h=>by
    rcases h with⟨rfl,rfl⟩|⟨rfl,rfl⟩
    . exact⟨⟨o3',b1⟩,by lia,nC,by show max _ _+1<=_;lia,by show(brk (_::(_++_))).length<=_;rw[bX,aQB,aPH];lia⟩
    . exact⟨⟨b1,o3'⟩,by lia,nC,by show max _ _+1<=_;lia,by show(brk (_::(_++_))).length<=_;rw[bX,aQB,aPH];lia⟩
   rcases t01 with t|t
   . exact⟨_,C1,h12 (.inl ⟨rfl,rfl⟩),nxt e7 (nxt e8 (nxt (aF (cE rfl (by decide +kernel)) rfl) (nxt (aF (cE rfl (by decide +kernel)) rfl) (nxt e (nxt (aH (aK (c4 rfl rfl rfl rfl b4))) (nxt (aF (eT (b:=false) (aN2 (by lia)) rfl) rfl) (aU (tp2 (tp3 rfl rfl rfl) rfl))))))))⟩
   . exact⟨_,C1,h12 (.inr ⟨rfl,rfl⟩),nxt e7 (nxt e8 (nxt (aF (cE rfl (by decide +kernel)) rfl) (nxt (aF (cE rfl (by decide +kernel)) rfl) (nxt e (nxt (aH (aK (c4 rfl rfl rfl rfl b4))) (nxr (aV (eT (b:=true) (aQA t) rfl) (aU (tp2 (tp3 rfl rfl rfl) rfl)))))))))⟩
 . obtain⟨K,k1,k2,k3⟩:=aBT (k+1) (C:=C) (by lia) v
   have hK:nms (K.take 2):=⟨by rw[aPA];lia,λz hz=>o.nm z (k1 z (aRI hz))⟩
   obtain⟨b,b1,b2,b3,b4⟩:=uE (k+1) tb.g tb.l3 tb.nw hK v;have b3:b.w.length<=29:=by rw[aPA]at b3;lia
   refine⟨_,C,(uG o b1 b2 b3 .leave (by lia) o.nm).1,?_⟩
   exact nxt e7 (nxt e8 (nxt (aF (cE rfl (by decide +kernel)) rfl) (nxr (aV (cE rfl (aQ9 _)) (aU (tp2 (tp3 rfl rfl (aK (c4 rfl (aK (iI (m:=.fz) (c2 rfl rfl k3) (i:=2) rfl)) rfl rfl b4))) rfl))))))
def WL:List Str:=[Str.ofString "pick", Str.ofString "keep", Str.ofString "pick", Str.ofString "call", Str.ofString "join", Str.ofString "pick", Str.ofString "pour", Str.ofString "total", Str.ofString "leave", Str.ofString "call"]
abbrev jpl:List Str:=[Str.ofString "join", Str.ofString "pour", Str.ofString "leave"]
abbrev GE(cs ws' M' N' vs' a C:D)(m p:Int)(x11 x12 x13:Option (Bool×D)):Rho:=[sf cs,sf (.lst (WL.map .str)),si (6),sf ws',sf M',sf N',sf vs',sf a,sf C,si m,si p,x11,x12,x13]
def c7{W:WD}{f:Str}{e4 e5 e6 e7:E}{a b c x y z u d:D}(h1:evE W e1 ρ=okf a)(h2:evE W e2 ρ=okf b)(h3:evE W e3 ρ=okf c)(h4:evE W e4 ρ=okf x)(h5:evE W e5 ρ=okf y)(h6:evE W e6 ρ=okf z)(h7:evE W e7 ρ=okf u)(hf:W.Φ f [a,b,c,x,y,z,u]=okf d):evE W (.call f 7 [e1,e2,e3,e4,e5,e6,e7]) ρ=okf d:=by show bD 7 (W.Φ f) (aL (evE W e1 ρ) (aL (evE W e2 ρ) (aL (evE W e3 ρ) (aL (evE W e4 ρ) (aL (evE W e5 ρ) (aL (evE W e6 ρ) (aL (evE W e7 ρ) (.ok []))))))))=_;rw[h1,h2,h3,h4,h5,h6,h7];exact jJ (ds:=[a,b,c,x,y,z,u]) rfl rfl hf
def c6{W:WD}{f:Str}{e4 e5 e6:E}{a b c x y z d:D}(h1:evE W e1 ρ=okf a)(h2:evE W e2 ρ=okf b)(h3:evE W e3 ρ=okf c)(h4:evE W e4 ρ=okf x)(h5:evE W e5 ρ=okf y)(h6:evE W e6 ρ=okf z)(hf:W.Φ f [a,b,c,x,y,z]=okf d):evE W (.call f 6 [e1,e2,e3,e4,e5,e6]) ρ=okf d:=by show bD 6 (W.Φ f) (aL (evE W e1 ρ) (aL (evE W e2 ρ) (aL (evE W e3 ρ) (aL (evE W e4 ρ) (aL (evE W e5 ρ) (aL (evE W e6 ρ) (.ok [])))))))=_;rw[h1,h2,h3,h4,h5,h6];exact jJ (ds:=[a,b,c,x,y,z]) rfl rfl hf
def aBX{W:WD}{e:E}{x y:D}(h:evE W e ρ=okf (.tup [x,y])):evS W (.asg (.tp [.nm i,.nm j]) e) ρ=.nx ((ρ.set i (sf x)).set j (sf y)):=by rw[s_asg,h];rfl
theorem aNY(k:Nat){m:Nat}{a:As}{C N:List Str}(o:Ok m n a C)(hm:m<=6)(tb:Tb M ws N)(hv:Vs vs){cs:D}{p c:Int}{x12 x13:Option (Bool×D)}:∃a' C' m' p' y12 y13,m'<=6/\Ok m' (n+1) a' C'/\evB (Wk (k+5)) r6 (GE cs (.lst (ws.map .str)) (.dct M) (Tp N) (.lst vs) a.d (Tp C) m p (si c) x12 x13)=.nx (GE cs (.lst (ws.map .str)) (.dct M) (Tp N) (.lst vs) a'.d (Tp C') (m':Nat) p' (si c) y12 y13):=by
 have mx:=aBH (k+4) c (p:=2147483629) (by decide)
 generalize mxd c 2147483629=v at mx;obtain⟨w,_,ew⟩:=tI WL v 10 rfl (by decide)
 have h1:evS (Wk (k+5)) (.set 12 (.frz (.call "_law_mixed" 2 [v11,(.int 2147483629)]))) (GE cs (.lst (ws.map .str)) (.dct M) (Tp N) (.lst vs) a.d (Tp C) m p (si c) x12 x13)=.nx (GE cs (.lst (ws.map .str)) (.dct M) (Tp N) (.lst vs) a.d (Tp C) m p (si c) (si v) x13):=aH (aK (c2 rfl rfl mx));have len:∀{ρ:Rho},evE (Wk (k+5)) v1 ρ=okf (.lst (WL.map .str))->evE (Wk (k+5)) (.bcall .len [v1]) ρ=okf (.int 10):=λ{ρ} h=>by show cY _ (aL (evE (Wk (k+5)) v1 ρ) (.ok []))=_;rw[h];rfl
 have h2:evS (Wk (k+5)) (.set 13 (.ix v1 (.bin .Mod v12 (.bcall .len [v1])))) (GE cs (.lst (ws.map .str)) (.dct M) (Tp N) (.lst vs) a.d (Tp C) m p (si c) (si v) x13)=.nx (GE cs (.lst (ws.map .str)) (.dct M) (Tp N) (.lst vs) a.d (Tp C) m p (si c) (si v) (sf (.str w))):=by
  refine aH ?_;rw[e_ix,cD,len rfl];show op2 ixD (okf (.lst (WL.map .str))) (op2 (aQ .Mod) (okf (.int v)) (okf (.int 10)))=_;rw[eY (by decide)]
  refine eD ?_;unfold atI at ew ⊢;rw[aPI];obtain⟨j,q1,q2⟩:=Option.bind_eq_some_iff.mp ew;rw[q1,Option.bind_some,aPF,q2];rfl
 have h3:evS (Wk (k+5)) (.set 12 (.frz (.bin .FloorDiv v12 (.bcall .len [v1])))) (GE cs (.lst (ws.map .str)) (.dct M) (Tp N) (.lst vs) a.d (Tp C) m p (si c) (si v) (sf (.str w)))=.nx (GE cs (.lst (ws.map .str)) (.dct M) (Tp N) (.lst vs) a.d (Tp C) m p (si c) (si (v / 10)) (sf (.str w))):=by refine aH (aK ?_);rw[cD,len rfl];show op2 (aQ .FloorDiv) (okf (.int v)) (okf (.int 10))=_;exact lD (by decide) (by decide)
 obtain ⟨w', hw', h4⟩ : ∃ w' : Str, (w' ∈ jpl → m < 6) ∧ evS (Wk (k + 5)) (.ite (.orL [(.andL [(.cmp .Eq v13 (.str "pick")), (.cmp .Eq v10 (.int 4))]), (.andL [(.cmp .In v13 (.tup [(.str "join"), (.str "pour"), (.str "leave")])), (.cmp .Eq v9 v2)])]) [.set 13 (.str "call")] []) (GE cs (.lst (ws.map .str)) (.dct M) (Tp N) (.lst vs) a.d (Tp C) m p (si c) (si (v / 10)) (sf (.str w)))
     = .nx (GE cs (.lst (ws.map .str)) (.dct M) (Tp N) (.lst vs) a.d (Tp C) m p (si c) (si (v / 10)) (sf (.str w'))):=by
  have gc:evE (Wk (k+5)) (.orL [(.andL [(.cmp .Eq v13 (.str "pick")),(.cmp .Eq v10 (.int 4))]),(.andL [(.cmp .In v13 (.tup [(.str "join"),(.str "pour"),(.str "leave")])),(.cmp .Eq v9 v2)])]) (GE cs (.lst (ws.map .str)) (.dct M) (Tp N) (.lst vs) a.d (Tp C) m p (si c) (si (v / 10)) (sf (.str w)))=okf (.bl (((w==Str.ofString "pick")&&(p==4))||(decide (w∈jpl)&&((m:Int)==6)))):=by have e3:=in_T (m:=.fz) (m':=.fz) (z:=w) (C:=jpl);have e3:op2 (bB .In) (okf (.str w)) (okf (.tup [.str (Str.ofString "join"),.str (Str.ofString "pour"),.str (Str.ofString "leave")]))=okf (.bl (decide (w∈jpl))):=e3;dsimp only[GE];generalize WL.map D.str=L at *;generalize ws.map D.str=u4 at *;generalize Tp N=u2 at *;generalize Tp C=u3 at *;generalize decide (w∈jpl)=B at *;simp[t3,e3]
  cases hb:(((w==Str.ofString "pick")&&(p==4))||(decide (w∈jpl)&&((m:Int)==6)))with
  |true=>rw[hb]at gc;exact⟨Str.ofString "call", λh=>absurd h (by decide +kernel),aV gc (nxt (aH rfl) rfl)⟩
  |false=>rw[hb]at gc;refine⟨w,λh=>?_,aF gc rfl⟩;rw[aQR,aQA h,Bool.true_and,aN3]at hb;lia
 by_cases hj:w'∈jpl
 . obtain⟨a',C',o',e'⟩:=aNX (k+2) o (hw' hj) tb w' hj (v / 10);refine⟨a',C',m+1,p,_,_,by have:=hw' hj;lia,o',nxt h1 (nxt h2 (nxt h3 (nxt h4 (nxt (ρ':=GE cs (.lst (ws.map .str)) (.dct M) (Tp N) (.lst vs) a'.d (Tp C') (m+1:Nat) p (si c) (si (v / 10)) (sf (.str w'))) ?_ rfl))))⟩
   exact aV (cI ["join", "pour", "leave"] rfl (by decide) (aQA hj)) (nxt (aH (aK (d:=.int ((m+1:Nat):Int)) (by rw[cD];rfl))) (nxt (aBX (c7 rfl rfl rfl rfl rfl rfl rfl e')) rfl))
 . obtain⟨a',C',o',e'⟩:=aNW k o hm hv tb.l7 tb.nn w' (v / 10);have ep:∃p':Int,evE (Wk (k+5)) (.bin .Add v10 (.tcall .int [(.cmp .Eq v13 (.str "pick"))])) (GE cs (.lst (ws.map .str)) (.dct M) (Tp N) (.lst vs) a.d (Tp C) m p (si c) (si (v / 10)) (sf (.str w')))=okf (.int p'):=by
     cases hb:(w'==Str.ofString "pick")with
     |true=>exact⟨p+1,by rw[cD];show op2 (aQ .Add) (.ok .fz (.int p)) (cY _ (aL (evE (WT TT (k+5)) (.cmp .Eq v13 (.str "pick")) _) (.ok [])))=_;rw[cE (x:=w') rfl hb];rfl⟩
     |false=>exact⟨p+0,by rw[cD];show op2 (aQ .Add) (.ok .fz (.int p)) (cY _ (aL (evE (WT TT (k+5)) (.cmp .Eq v13 (.str "pick")) _) (.ok [])))=_;rw[cE (x:=w') rfl hb];rfl⟩
   obtain⟨p',ep⟩:=ep;refine⟨a',C',m,p',_,_,hm,o',nxt h1 (nxt h2 (nxt h3 (nxt h4 (nxt (ρ':=GE cs (.lst (ws.map .str)) (.dct M) (Tp N) (.lst vs) a'.d (Tp C') m p' (si c) (si (v / 10)) (sf (.str w'))) ?_ rfl))))⟩;exact aF (cI ["join", "pour", "leave"] rfl (by decide) (aN2 hj)) (nxt (aH (aK ep)) (nxt (aBX (c6 rfl rfl rfl rfl rfl rfl e')) rfl))
theorem grOf(k:Nat){N:List Str}(tb:Tb M ws N)(hv:Vs vs)(cells:List Int):∃a C m,m<=6/\Ok m cells.length a C/\(Wk (k+6)).Φ "_law_grown" [.lst (cells.map .int),.lst (WL.map .str),.int 6,.lst (ws.map .str),.dct M,Tp N,.lst vs]=okf (.tup [a.d,Tp C,.int (m:Nat)]):=by
 have h0:0<ws.length:=by rw[tb.l3];decide
 obtain⟨S,s1,s2,s3⟩:=tb.g ws[0] (aQY h0);obtain⟨ρ',e,I⟩:=oK (k:=a9 (.nm 11)) (bdL:=evB (Wk (k+5)) r6) (λj ρ=>∃(a:As) (C:List Str) (m:Nat) (p:Int) (x11 x12 x13:Option (Bool×D)),m<=6/\Ok m j a C/\ρ=GE (.lst (cells.map .int)) (.lst (ws.map .str)) (.dct M) (Tp N) (.lst vs) a.d (Tp C) m p x11 x12 x13) (cells.map D.int) 0 (ρ:=GE (.lst (cells.map .int)) (.lst (ws.map .str)) (.dct M) (Tp N) (.lst vs) (As.tb ws[0]).d (Tp S) ((0:Nat):Int) 0 none none none)
  (λj d hd ρ hρ=>by
   obtain⟨a,C,m,p,x11,x12,x13,hm,o,rfl⟩:=hρ;obtain⟨c,_,rfl⟩:=aR5.mp (aPG hd);obtain⟨a',C',m',p',y12,y13,hm',o',e'⟩:=aNY k o hm tb hv (cs:=.lst (cells.map .int)) (p:=p) (c:=c) (x12:=x12) (x13:=x13);exact⟨_,_,rfl,e',a',C',m',p',_,y12,y13,hm',o',rfl⟩)
  ⟨.tb ws[0],S,0,0,none,none,none,by decide,⟨tb.nw _ (aQY h0),by lia,s3,by show 0<=_;lia,aOY _⟩,rfl⟩
 obtain⟨a,C,m,p,x11,x12,x13,hm,o,rfl⟩:=I;rw[aPI,aRE]at o;refine⟨a,C,m,hm,o,?_⟩;rw[aMK];refine aJ rfl ?_;show evB (Wk (k+5)) sR [sf (.lst (cells.map .int)),sf (.lst (WL.map .str)),si (6),sf (.lst (ws.map .str)),sf (.dct M),sf (Tp N),sf (.lst vs),none,none,none,none,none,none,none]=_;have ew:∀{ρ:Rho},evE (Wk (k+5)) v3 ρ=okf (.lst (ws.map .str))->evE (Wk (k+5)) (.ix v3 (.int 0)) ρ=okf (.str ws[0]):=λ{ρ} h=>cF 0 h (by rw[aPF,aQX h0];rfl)
 have ed:∀{ρ:Rho},evE (Wk (k+5)) v3 ρ=okf (.lst (ws.map .str))->evE (Wk (k+5)) v4 ρ=okf (.dct M)->evE (Wk (k+5)) (.dix v4 (.ix v3 (.int 0))) ρ=okf (Tp S):=λ{ρ} h h'=>by rw[yJ,ew h,h'];exact aBW s1 (m:=.fz)
 refine nxt (aH (tp2 rfl (ew rfl))) (nxt (aH (ed rfl rfl)) (nxt (aH rfl) (nxt (aH rfl) (nxt (ρ':=GE (.lst (cells.map .int)) (.lst (ws.map .str)) (.dct M) (Tp N) (.lst vs) a.d (Tp C) m p x11 x12 x13) ?_ (aU (tp3 rfl rfl rfl))))));rw[rM,k8];exact e
theorem twOf(k:Nat){a:As}{N:List Str}(h:a.ok)(hN:N.length=7)(hn:∀z∈N,Nm z)(v:Int):∃a':As,a'.ok/\a'.dp<=a.dp+1/\a'.w.length<=a.w.length+6/\(Wk (k+1)).Φ "_law_twins" [.int v,a.d,Tp N]=okf a'.d:=by
 match N,hN with
 |[n0,n1,n2,n3,n4,n5,n6],_ =>
  have g0:Nm n0:=hn _ (by simp)
  have g1:Nm n1:=hn _ (by simp)
  have two:nms [n0,n0]:=⟨by show 2<=20;decide,λz hz=>by simp only[aOG,aRX,aRY]at hz;rcases hz with rfl|rfl <;> exact g0⟩
  suffices q:∃a':As,a'.ok/\a'.dp<=a.dp+1/\a'.w.length<=a.w.length+6/\evB (Wk k) sV [si v,sf a.d,sf (Tp [n0,n1,n2,n3,n4,n5,n6])]=.rt .fz a'.d by obtain⟨a',q1,q2,q3,q4⟩:=q;exact⟨a',q1,q2,q3,by rw[aMN];exact aJ rfl q4⟩
  have eq:∀{i:Int}{b:Bool},(v==i)=b->evE (Wk k) (.cmp .Eq v0 (.int i)) [si v,sf a.d,sf (Tp [n0,n1,n2,n3,n4,n5,n6])]=okf (.bl b):=λ{i b} hb=>by rw[gB,<- hb];show op2 (bB .Eq) (okf (.int v)) (okf (.int i))=_;rw[rO]
  by_cases h1:v=1
  . refine⟨.kc true a [n1,n0,n1],⟨h,by show 3<=20;decide,λz hz=>by simp only[aOG,aRX,aRY]at hz;rcases hz with rfl|rfl|rfl <;> assumption⟩,aOY _,?_,?_⟩
    . show(brk (_::(a.w++List.map ch _))).length<=_;rw[bX,aQB,aPH];exact aOY _
    exact nxr (aV (eq (by rw[h1];rfl)) (aU (tp3 rfl rfl (tp3 (aO 1 rfl rfl) (aO 0 rfl rfl) (aO 1 rfl rfl)))))
  . have f1:(v==1)=false:=aN3.mpr h1;by_cases h2:v=2
    . refine⟨.kc false a [n0,n0],⟨h,two⟩,aOY _,?_,?_⟩
      . show(brk (_::(a.w++List.map ch _))).length<=_;rw[bX,aQB,aPH];exact Nat.le_succ _
      exact nxt (aF (eq f1) rfl) (nxr (aV (eq (by rw[h2];rfl)) (aU (tp3 rfl rfl (tp2 (aO 0 rfl rfl) (aO 0 rfl rfl))))))
    . have f2:(v==2)=false:=aN3.mpr h2;by_cases h3:v=3
      . refine⟨.tot a n0 [n0,n0],⟨h,g0,two⟩,aOY _,?_,?_⟩
        . show(brk (_::(a.w++_::List.map ch _))).length<=_;rw[bX,aQB,aPH];exact aOY _
        exact nxt (aF (eq f1) rfl) (nxt (aF (eq f2) rfl) (nxr (aV (eq (by rw[h3];rfl)) (aU (tp4 rfl rfl (aO 0 rfl rfl) (tp2 (aO 0 rfl rfl) (aO 0 rfl rfl)))))))
      . have f3:(v==3)=false:=aN3.mpr h3;exact⟨a,h,Nat.le_succ _,by lia,nxt (aF (eq f1) rfl) (nxt (aF (eq f2) rfl) (nxt (aF (eq f3) rfl) (by rw[cT,lA];rfl)))⟩
def Dp(n:Nat)(d:D):Prop:=∃p,aS d=some p/\p.depth<=n
def Dp.mono{n':Nat}{d:D}(h:Dp n d)(hn:n<=n'):Dp n' d:=by obtain⟨p,h1,h2⟩:=h;exact⟨p,h1,aOE h2 hn⟩
def dA:Dp n (.str z):=⟨.str z,rfl,by simp[PyData.depth]⟩
def aNZ{z:Int}:Dp n (.int z):=⟨.int z,rfl,by simp[PyData.depth]⟩
theorem dp_L{n:Nat}:∀ds:List D,(∀d∈ds,Dp n d)->∃ps,cR ds=some ps/\PyData.depthAll ps<=n
 |[],_=>⟨[],rfl,by simp[PyData.depthAll]⟩
 |d::ds,h=>by
  obtain⟨p,h1,h2⟩:=h d mcs;obtain⟨ps,h3,h4⟩:=dp_L ds λd hd=>h d (mcm hd);refine⟨p::ps,?_,?_⟩
  . show(match aS d,cR ds with|some p,some ps=>some (p::ps)|_,_=>none)=_
    rw[h1,h3]
  . simp[PyData.depthAll];lia
theorem oP(h:∀d∈ds,Dp n d):Dp (n+1) (.tup ds):=by
 obtain⟨ps,h1,h2⟩:=dp_L ds h;refine⟨.tuple ps,?_,?_⟩
 . rw[aS,h1];rfl
 . simp[PyData.depth];lia
def dp_T{C:List Str}:Dp (n+1) (Tp C):=oP λd hd=>by obtain⟨z,_,rfl⟩:=aR5.mp hd;exact dA
def lX{a b:D}(h1:Dp n a)(h2:Dp n b):Dp (n+1) (.tup [a,b]):=oP λd hd=>by simp only[aOG,aRM,aRY]at hd;rcases hd with rfl|rfl <;> assumption
def lY{a b c:D}(h1:Dp n a)(h2:Dp n b)(h3:Dp n c):Dp (n+1) (.tup [a,b,c]):=oP λd hd=>by simp only[aOG,aRM,aRY]at hd;rcases hd with rfl|rfl|rfl <;> assumption
def dp_4{a b c e:D}(h1:Dp n a)(h2:Dp n b)(h3:Dp n c)(h4:Dp n e):Dp (n+1) (.tup [a,b,c,e]):=oP λd hd=>by simp only[aOG,aRM,aRY]at hd;rcases hd with rfl|rfl|rfl|rfl <;> assumption
mutual
theorem aBY:∀(d:D) (p:PyData),aS d=some p->PyData.eqv p p=true
 |.non,p,h=>by cases h;rfl
 |.bl _,p,h=>by cases h;simp[PyData.eqv]
 |.int _,p,h=>by cases h;simp[PyData.eqv]
 |.str _,p,h=>by cases h;simp[PyData.eqv]
 |.tup ds,p,h=>by
  rw[aS]at h;cases e:cR ds with
  |none=>rw[e]at h;cases h
  |some ps=>rw[e]at h;cases h;rw[PyData.eqv];exact uH ds ps e
 |.lst ds,p,h=>by
  rw[aS]at h;cases e:cR ds with
  |none=>rw[e]at h;cases h
  |some ps=>rw[e]at h;cases h;rw[PyData.eqv];exact uH ds ps e
 |.dct _,p,h=>by simp[aS]at h
 |.ty _,p,h=>by simp[aS]at h
 |.fn _,p,h=>by simp[aS]at h
 |.ins _ _,p,h=>by simp[aS]at h
 |.exn _,p,h=>by simp[aS]at h
 |.ob _,p,h=>by simp[aS]at h
 |.set _,p,h=>by simp[aS]at h
 |.dtn _,p,h=>by simp[aS]at h
 |.dtf _,p,h=>by simp[aS]at h
 |.dcf _,p,h=>by simp[aS]at h
 |.clo _ _ _,p,h=>by simp[aS]at h
theorem uH:∀(ds:List D) (ps:List PyData),cR ds=some ps->PyData.eqvAll ps ps=true
 |[],ps,h=>by cases h;simp[PyData.eqvAll]
 |d::ds,ps,h=>by
  have h:(match aS d,cR ds with|some p,some ps=>some (p::ps)|_,_=>none)=some ps:=h
  cases e:aS d with
  |none=>rw[e]at h;cases h
  |some p =>
   cases e':cR ds with
   |none=>rw[e,e']at h;cases h
   |some qs=>rw[e,e']at h;cases h;rw[PyData.eqvAll,aBY d p e,uH ds qs e'];rfl
end
theorem aN0{d:D}(h:Dp n d)(hn:n<=50):op2 (bB .Eq) (.ok m d) (.ok m' d)=okf (.bl true):=by
 obtain⟨p,h1,h2⟩:=h;refine bQ ?_;have hs:kN p=true:=aQA (by lia)
 show orO (eqF false) _ m d m' d=_;unfold orO eqF;rw[h1];dsimp only;rw[hs];simp[aBY d p h1]
def aBZ(p:Pt):Dp 1 p.d:=by
 cases p with
 |of n=>exact lX dA dA
 |num i=>exact lX dA aNZ
 |nam z=>exact lX dA dA
theorem oQ:∀t:Ts,Dp (t.dp+1) t.d
 |.atom s p q=>lY dA (aBZ p) (aBZ q)
 |.no t=>lX dA (oQ t)
 |.two e a b=>lY (n:=max a.dp b.dp+1) dA ((oQ a).mono (by lia)) ((oQ b).mono (by lia))
theorem jY:∀a:As,Dp (a.dp+1) a.d
 |.tb n=>lX dA dA
 |.pick a t=>lY (n:=max a.dp t.dp+1) dA ((jY a).mono (by lia)) ((oQ t).mono (by lia))
 |.two v a b=>lY (n:=max a.dp b.dp+1) dA ((jY a).mono (by lia)) ((jY b).mono (by lia))
 |.kc k a ns=>lY (n:=a.dp+1) dA (jY a) dp_T
 |.tot a n ns=>dp_4 (n:=a.dp+1) dA (jY a) dA dp_T
abbrev LV(S:List Int)(N ws:List Str)(vs:List D)(M:List (Key×D))(wy:Int)(cells:List Int)(ask:D)(x:List Nat)(sh:Option (Bool×D)):Rho:=[sf (.lst (S.map .int)),sf (Tp N),sf (.lst (ws.map .str)),sf (.lst vs),sf (.dct M),sf (.lst (WL.map .str)),si wy,sf (.lst (cells.map .int)),sf ask,sf (.str (tx x)),sh]
def muL(ρ:Rho):Nat:=match ρ[(7:Nat)]?,ρ[(9:Nat)]? with
 |some (some (_,.lst ds)),some (some (_,.str x))=>if 1000<x.length then ds.length+1 else 0
 |_,_=>0
def c3{W:WD}{f:Str}{a b c d:D}(h1:evE W e1 ρ=okf a)(h2:evE W e2 ρ=okf b)(h3:evE W e3 ρ=okf c)(hf:W.Φ f [a,b,c]=okf d):evE W (.call f 3 [e1,e2,e3]) ρ=okf d:=by show bD 3 (W.Φ f) (aL (evE W e1 ρ) (aL (evE W e2 ρ) (aL (evE W e3 ρ) (.ok []))))=_;rw[h1,h2,h3];exact rP hf
def c2f{W:WD}{f:Str}{a b d:D}(h1:evE W e1 ρ=okf a)(h2:evE W e2 ρ=okf b)(hf:W.Φ f [a,b]=.ok .fr d):evE W (.call f 2 [e1,e2]) ρ=.ok .fr d:=by show bD 2 (W.Φ f) (aL (evE W e1 ρ) (aL (evE W e2 ρ) (.ok [])))=_;rw[h1,h2];exact jQ (ds:=[a,b]) rfl rfl hf
def aB0{W:WD}{S:List Int}(h:evE W v0 ρ=okf (.lst (S.map .int)))(i:Nat)(hf:W.Φ "_law_cell_at" [.lst (S.map .int),.int (i:Int)]=okf (.int (ce S i))):evE W (.call "_law_cell_at" 2 [v0,(.int (i:Int))]) ρ=okf (.int (ce S i)):=c2 h rfl hf
theorem uI{S:List Int}{N:List Str}{wy:Int}{cells:List Int}{ask:D}{x:List Nat}{sh:Option (Bool×D)}{W:WD}:evE W (.cmp .Gt (.bcall .len [v9]) (.int 1000)) (LV S N ws vs M wy cells ask x sh)=okf (.bl (decide (1000<x.length))):=by
 have el:cL [(.fz,.str (tx x))]=some (.fz,.int (x.length:Int)):=by show some (Md.fz,D.int ((tx x).length:Int))=_;rw[aY]
 have:evE W (.bcall .len [v9]) (LV S N ws vs M wy cells ask x sh)=okf (.int (x.length:Int)):=by show cY cL (.ok [(.fz,.str (tx x))])=_;unfold cY;rw[bA.thn_ok,el];rfl
 rw[gB,this];show Res.ok .fz (.bl (decide ((1000:Int)<(x.length:Int))))=_;congr 2;rw[aO2];simp;lia
theorem bdL{S:List Int}{N:List Str}(tb:Tb M ws N)(hv:Vs vs)(wy:Int)(cells:List Int)(hc:cells.length<=20)(ask:D)(x:List Nat):∃(a:As) (y:List Nat) (q:Nat),a.ok/\a.dp<=30/\bW a.w y/\(q<cells.length\/cells.length=0)/\(cells.length=0->y.length<=1000)/\evB (Wk 60) r9 (LV S N ws vs M wy cells ask x none)=.nx (LV S N ws vs M wy (cells.take q) a.d y none):=by
 obtain⟨a0,C,m,hm,o,g1⟩:=grOf 54 tb hv cells;obtain⟨a,o1,o2,o3,g2⟩:=twOf 59 o.ok tb.l7 tb.nn wy;have hw:=o.w;have hd:=o.dp;have g3:=iH a (59-a.dp) o1 (by lia)
 rw[show 59-a.dp+a.dp+1=60 by lia]at g3
 obtain⟨y,sp',ly,g4⟩:=lsOf 58 (ce S 3) (As.tk o1) (by lia)
 have tw:=tZ (As.tk o1);have g5:=cell 59 S (i:=3) (by decide)
 let q:Nat:=cells.length-1-cells.length / 4
 refine⟨a,y,q,o1,by lia,sp',by lia,λh=>by rw[h]at hw;lia,?_⟩
 refine nxt (aH (aO 0 (c7 rfl rfl rfl rfl rfl rfl rfl g1) rfl)) (nxt (aH (aK (c3 rfl rfl rfl g2))) (nxt (aH (aK (c2 (dR (c1f rfl g3)) (aK (aB0 rfl 3 g5)) g4))) (nxt (ρ':=LV S N ws vs M wy (cells.take q) a.d y none) (aH (dR (d:=.lst ((cells.take q).map .int)) ?_)) rfl)));have eq:evE (Wk 60) (.bcall .max [(.int 0),(.bin .Sub (.bin .Sub (.bcall .len [v7]) (.int 1)) (.bin .FloorDiv (.bcall .len [v7]) (.int 4)))]) (LV S N ws vs M wy cells a.d y none)=okf (.int (q:Int)):=by
  have el:evE (Wk 60) (.bcall .len [v7]) (LV S N ws vs M wy cells a.d y none)=okf (.int (cells.length:Int)):=by show Res.ok .fz (.int ((cells.map D.int).length:Int))=_;rw[aPI]
  have e2:evE (Wk 60) (.bin .Sub (.bin .Sub (.bcall .len [v7]) (.int 1)) (.bin .FloorDiv (.bcall .len [v7]) (.int 4))) (LV S N ws vs M wy cells a.d y none)=okf (.int ((cells.length:Int)-1-(cells.length:Int) / 4)):=by rw[cD,cD,cD,el];show op2 (aQ .Sub) (op2 (aQ .Sub) (okf (.int (cells.length:Int))) (okf (.int 1))) (op2 (aQ .FloorDiv) (okf (.int (cells.length:Int))) (okf (.int 4)))=_;rw[rN,lD (by decide) (by decide),rN]
  show cY jA (aL (okf (.int 0)) (aL (evE (Wk 60) (.bin .Sub (.bin .Sub (.bcall .len [v7]) (.int 1)) (.bin .FloorDiv (.bcall .len [v7]) (.int 4))) _) (.ok [])))=_;rw[e2];show Res.ok .fz (.int (if(cells.length:Int)-1-(cells.length:Int) / 4 > 0 then(cells.length:Int)-1-(cells.length:Int) / 4 else 0))=_;congr 2;split <;> lia
 rw[gC];refine(tW (m:=.fz) (i:=q) eq).trans ?_;rw[aSO]
theorem aN1{S:List Int}:∃cells:List Int,cells.length<=20/\dG (S.map D.int) (some 4) (some 24)=cells.map D.int:=by
 refine⟨(S.drop (min 4 S.length)).take (min 24 S.length-min 4 S.length),by rw[aPA,aPV];lia,?_⟩
 have:=HT.kA;unfold dG;rw[show(some (4:Int))=some ((4:Nat):Int)from rfl,show(some (24:Int))=some ((24:Nat):Int)from rfl,HT.kA,HT.kA,aPI,aSO,List.map_drop]
def kk:Nat:=60
theorem main(S:List Int)(h:S.length<=63):(Wk (kk+1)).Φ ("law":Str) (mW S)=okf (.bl true):=by
 rw[u_law];refine aJ rfl ?_;show evB (Wk 60) sX [sf (.lst (S.map .int)),none,none,none,none,none,none,none,none,none,none]=_;obtain⟨N,n1,n2,n3⟩:=aBQ 58 (ce S 0) (n:=7) (by decide)
 obtain⟨ws,w1,w2,w3⟩:=aBQ 58 (ce S 1) (n:=3) (by decide)
 obtain⟨vs,hv,v3⟩:=aNQ 58 (ce S 2);obtain⟨M,gd,m3⟩:=aNV 59 (ws:=ws) (N:=N) w1 n1 n2;have tb:Tb M ws N:=⟨gd,w1,w2,n1,n2⟩;have ce':∀(i:Nat) {ρ:Rho},evE (Wk 60) v0 ρ=okf (.lst (S.map .int))->evE (Wk 60) (.call "_law_cell_at" 2 [v0,(.int (i:Int))]) ρ=okf (.int (ce S i)):=λi {ρ} h=>aB0 h i (cell 59 S (by lia))
 obtain⟨cells,lc,ec⟩:=aN1 (S:=S);have h0:0<ws.length:=by rw[w1];decide
 obtain⟨ρ',m,e,I,et⟩:=yN (t:=evE (Wk 60) (.cmp .Gt (.bcall .len [v9]) (.int 1000))) (b:=evB (Wk 60) r9)
  (λρ=>∃(cells:List Int) (ask:D) (x:List Nat),cells.length<=20/\(x.length<=1000->∃a:As,ask=a.d/\a.ok/\a.dp<=30/\bW a.w x)/\ρ=LV S N ws vs M (ce S 3 / 3 % 6) cells ask x none) muL
  (λρ hρ=>by
   obtain⟨cells,ask,x,lc,hx,rfl⟩:=hρ;by_cases hl:1000<x.length
   . obtain⟨a,y,q,b1,b2,b3,b4,b5,b6⟩:=bdL tb hv (ce S 3 / 3 % 6) cells lc ask x;refine .inr ⟨.fz,_,by rw[uI,aQA hl],b6,⟨cells.take q,a.d,y,by rw[aPA];lia,λ_=>⟨a,rfl,b1,b2,b3⟩,rfl⟩,?_⟩
     show(if 1000<(tx y).length then((cells.take q).map D.int).length+1 else 0)<(if 1000<(tx x).length then(cells.map D.int).length+1 else 0);rw[aY,aY,if_pos hl,aPI,aPI,aPA];split <;> lia
   . exact .inl ⟨.fz,by rw[uI,aN2 hl]⟩)
  1000000 (LV S N ws vs M (ce S 3 / 3 % 6) cells (.tup [.str "table", .str ws[0]]) (bl 1001) none)
  ⟨cells,_,bl 1001,lc,λq=>absurd q (by simp[bl]),rfl⟩ (by
   show(if 1000<(tx (bl 1001)).length then(cells.map D.int).length+1 else 0)<1000000;split
   . rw[aPI];lia
   . decide)
 obtain⟨cells',ask,x,lc',hx,rfl⟩:=I;rw[uI]at et;have hl:¬ 1000<x.length:=by
  injection et with _ q
  injection q with q
  exact of_decide_eq_false q
 obtain⟨a,rfl,a1,a2,a3⟩:=hx (by lia)
 obtain⟨wt1,_⟩:=aNK a3;have wl:a.w.length<=wt a.w:=by
  unfold wt;generalize a.w=ts
  induction ts with
  |nil=>exact aOY _
  |cons t r ih=>simp only[aQD,aSK,aQB];lia
 have gw:=tY (ts:=a.w);have tk:=As.tk a1;have s1:=jV a (55-a.dp) a1 (by lia)
 rw[show 55-a.dp+a.dp+5=60 by lia]at s1
 have s2:=iH a (59-a.dp) a1 (by lia)
 rw[show 59-a.dp+a.dp+1=60 by lia]at s2
 have s3:=lnAll 59 (ts:=a.w) (As.bk a1).1 (by lia) (by lia)
 have r1:=aBB 20 a1 (tR tk) (by lia) (aBM (tR tk) tk) a2 (by lia)
 have r2:=aBB 20 a1 a3 (by lia) (aBM a3 tk) a2 (by lia)
 have eqs:=aN0 (jY a) (by lia) (m:=.fz) (m':=.fz)
 let ρE:Rho:=LV S N ws vs M (ce S 3 / 3 % 6) cells' a.d x (sf (.str (tx (gl a.w))))
 have q1:evE (Wk 60) (.orL [(.not (.tru (.bcall .isinstance [v10,(.ty .str)]))),(.cmp .NotEq v10 (.call "_law_line" 1 [(.frz (.call "_law_words" 1 [v8]))]))]) ρE=okf (.bl false):=by
  have e1:evE (Wk 60) (.not (.tru (.bcall .isinstance [v10,(.ty .str)]))) ρE=okf (.bl false):=by have:=is_s (W:=Wk 60) (ρ:=ρE) (e:=.var 10) (x:=tx (gl a.w)) rfl;show iX (evE (Wk 60) (.tru (.bcall .isinstance [v10,(.ty .str)])) ρE)=_;rw[this];rfl
  have e2:evE (Wk 60) (.cmp .NotEq v10 (.call "_law_line" 1 [(.frz (.call "_law_words" 1 [v8]))])) ρE=okf (.bl false):=by rw[gB,c1 (dR (c1f (x:=a.d) rfl s2)) s3];show op2 (bB .NotEq) (okf (.str (tx (gl a.w)))) (okf (.str (tx (gl a.w))))=_;simp
  show cN (Wk 60) _ ρE=_;simp only[cN,e1,e2];rfl
 have q2:evE (Wk 60) (.andL [(.cmp .Eq (.call "read" 1 [v10]) v8),(.cmp .Eq (.call "read" 1 [v9]) v8)]) ρE=okf (.bl true):=by
  have e1:evE (Wk 60) (.cmp .Eq (.call "read" 1 [v10]) v8) ρE=okf (.bl true):=by rw[gB,c1 (x:=.str (tx (gl a.w))) rfl r1];exact eqs
  have e2:evE (Wk 60) (.cmp .Eq (.call "read" 1 [v9]) v8) ρE=okf (.bl true):=by rw[gB,c1 (x:=.str (tx x)) rfl r2];exact eqs
  show evA (Wk 60) _ ρE=_;simp only[evA,e1,e2];rfl
 have t7:evE (Wk 60) (.frz (.slice v0 (some (.int 4)) (some (.int 24)))) [sf (.lst (S.map .int)),sf (Tp N),sf (.lst (ws.map .str)),sf (.lst vs),sf (.dct M),sf (.lst (WL.map .str)),si (ce S 3 / 3 % 6),none,none,none,none]=okf (.lst (cells.map .int)):=by refine dR ?_;rw[gC];show Res.ok .fr (.lst (dG (S.map D.int) (some 4) (some 24)))=_;rw[ec]
 have t6:evE (Wk 60) (.frz (.bin .Mod (.bin .FloorDiv (.call "_law_cell_at" 2 [v0,(.int 3)]) (.int 3)) (.int 6))) [sf (.lst (S.map .int)),sf (Tp N),sf (.lst (ws.map .str)),sf (.lst vs),sf (.dct M),sf (.lst (WL.map .str)),none,none,none,none,none]=okf (.int (ce S 3 / 3 % 6)):=by
  refine aK ?_;have c3:=ce' 3 (ρ:=[sf (.lst (S.map .int)),sf (Tp N),sf (.lst (ws.map .str)),sf (.lst vs),sf (.dct M),sf (.lst (WL.map .str)),none,none,none,none,none]) rfl;rw[cD,cD];show op2 (aQ .Mod) (op2 (aQ .FloorDiv) (evE (Wk 60) (.call "_law_cell_at" 2 [v0,(.int ((3:Nat):Int))]) _) (okf (.int 3))) (okf (.int 6))=_;rw[c3];show op2 (aQ .Mod) (op2 (aQ .FloorDiv) (okf (.int (ce S 3))) (okf (.int 3))) (okf (.int 6))=_;rw[lD (by decide) (by decide)]
  exact eY (by decide)
 refine nxt (aH (aK (tJ (c2f (aK (ce' 0 rfl)) rfl n3)))) (nxt (aH (dR (c2f (aK (ce' 1 rfl)) rfl w3))) (nxt (aH (dR (c1f (aK (ce' 2 rfl)) v3))) (nxt (aH (dR (c2f rfl rfl m3))) (nxt (aH rfl) (nxt (aH t6) (nxt (aH t7)
  (nxt (aH (tp2 rfl (cF 0 rfl (by rw[aPF,aQX h0];rfl)))) (nxt (aH (aK (t0 (n:=1001) (by decide)))) (nxt (ρ':=LV S N ws vs M (ce S 3 / 3 % 6) cells' a.d x none) ?_ (nxt (aH (aK (c1 rfl s1))) (nxt (aF q1 rfl) (aU q2))))))))))))
 rw[s_whl];exact e
end K71
namespace K71
open PySem.W Tp
def tw:Prod.fst (true,aSV)=true:=by k_qdec
noncomputable def as:List Addr:=[2,3,15,22,23,24,25,28,35,36,37,40,42,43,45,46,47,50,51,52,54,55,57,58,59,61,62,64,65,66,68,69,71,72,73,76,77,78,80,81,83,84,85,87,88,90,91,92,94,95,97,98,99,101,102,104,105,106,108,109,111,112,113,116,117,118,120,121,123,124,125,127,128,130,131,132,134,135,137,138,139,141,142,144,145,146,149,150,151,153,154,156,157,158,160,161,163,164,165,167,168,170,171,172,174,175,177,178,179,181,182,184,185,186,189,190,191,193,194,196,197,198,200,201,203,204,205,207,208,210,211,212,214,215,217,218,219,221,222,224,225,226,228,229,231,232,233,235,236,238,239,240,243,244,245,247,248,250,251,252,254,255,257,258,259,261,262,264,265,266,268,269,271,272,273,275,276,278,279,280,282,283,285,286,287,289,290,292,293,294,296,297,299,300]
noncomputable def ts:List Addr:=[41,48,53,60,67,74,79,86,93,100,107,114,119,126,133,140,147,152,159,166,173,180,187,192,199,206,213,220,227,234,241,246,253,260,267,274,281,288,295]
def pre(w:aST)(os:OsState):topGo treeTable aSV w 11 an 12 ⟨boot_heap w.params,#[],boot_drawn,boot_toks,os⟩ (topStub aSV)=some ((sh w.params (sA w.params) 15 187 os).abs,⟨denote treeTable (cd aSV),cd aSV,z0,[topFrame z0]⟩):=by
 rw[aSV,Fast.te2458153697657016601,Fast.te203182992438928480,Fast.te13144403056285818395,Fast.te15667345088766844465,Fast.te14364793385576792824,Fast.te11892475500146522536]
 kernel_rfl
def blk(w:aST)(s:aSR):segRun treeTable aSV w 11 an 1 1 s (blockOf aSV.main.body (ev aSV) (cd aSV) z0 [topFrame z0])=some (.next,s,cd aSV,z0):=by kernel_rfl
def run(w:aST)(os:OsState):go treeTable aSV w 1000 aSV.main.body (sh w.params (sA w.params) 15 187 os) (cd aSV) z0=some (sh w.params (lay w.params aSV.main.body (sA w.params)) 301 580 os,cd aSV,⟨283,0,301,82⟩):=by
 rw[aSV,Fast.te2458153697657016601,Fast.te203182992438928480,Fast.te13144403056285818395,Fast.te5678740263434597267,Fast.te14364793385576792824,Fast.te10212481707522018265]
 kernel_rfl
def uJ(w:aST):(λos=>((staticsOk (importedModules aSV.main.body) (boot_heap w.params) (H1 aSV.main.body 301 w.params)&&namesBound aSV (H1 aSV.main.body 301 w.params)&&gensDone (S1 aSV.main.body 301 580 w.params os)&&laidKept (boot_heap w.params) (H1 aSV.main.body 301 w.params)),openSeen (vw aSV) (los aSV.main.body) (importedModules aSV.main.body) (xt PySem.Challenge.rw_whencewise_k71_read_and_shown.row) true (S1 aSV.main.body 301 580 w.params os),(hk aSV.main.body (as++ts)).obs (S1 aSV.main.body 301 580 w.params os)))=λ_=>(true,openGood (vw aSV) (los aSV.main.body),(hk aSV.main.body (as++ts)).val w):=by
 rw[aSV,Fast.te14387180822208032119,Fast.te2458153697657016601,Fast.te5923862056798008813,Fast.te9407923862454927560,Fast.te15884229538025494872,Fast.te4187177175401517315,Fast.te18076920544200396443,Fast.te9318435048543301240,Fast.te17808466708180730929,Fast.te2368527892694137696]
 kernel_rfl
def tb(P:Params):D3.nL (KK aSV.main.body as P) (KK aSV.main.body (as++ts) P)=true:=by
 kernel_rfl
def gf(P:Params):D3.rZ (KK aSV.main.body as P) GG TT=true:=by
 kernel_rfl
abbrev dl:DefRec:=⟨"law", L2.kG sZ,L2.d5 sZ,L2.bS sZ,⟨283,0,301,82⟩⟩
end K71
open PySem.W
set_option maxRecDepth 100000 in
set_option maxHeartbeats 0 in
theorem PySem.Challenge.cw_whencewise_k71_read_and_shown_holds : PySem.Challenge.rw_whencewise_k71_read_and_shown.Holds := by
 w_on;o_law
 exact Tp.head (p:=PySem.Challenge.rw_whencewise_k71_read_and_shown) (d:=K71.dl) (Tp.left (by kernel_rfl) K71.pre K71.blk K71.run (by kernel_rfl) (by kernel_rfl) (λ_=>by kernel_rfl) K71.uJ) (by assumption) (by kernel_rfl) (by kernel_rfl) rfl rfl (by decide +kernel) ⟨rfl,rfl,rfl,rfl,rfl,by decide +kernel⟩ (by w_witness2)
  (D3.walkG (K:=Tp.KK PySem.Challenge.pw_whencewise_k71_read_and_shown.main.body K71.as) (Kf:=Tp.KK PySem.Challenge.pw_whencewise_k71_read_and_shown.main.body (K71.as++K71.ts)) (kk:=K71.kk) (e:=K71.sY) rfl rfl rfl (λw h Y=>W.kIn_of Y) (Tp.KK_sub _ _ _) (Tp.KK_nd _ _) K71.tb K71.gf (D3.aLX (g:=K71.GG) (by decide +kernel)) rfl rfl ⟨rfl,by decide,by decide⟩ K71.main)
