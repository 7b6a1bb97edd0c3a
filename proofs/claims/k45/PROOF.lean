import PyProof.Rows.All
import Wide.All
import OpenK.AllK
import Wide.FinOn
import Lean
import PyProof.EqAt
import PyProof.EqKinds
import PyProof.TupleCall
import PySem.Challenge.RW_whencewise_k45_pour_and_total
set_option compiler.extract_closed false
set_option bootstrap.genMatcherCode false
set_option maxHeartbeats 0
set_option linter.all false
section
open PySem PySem.Spec PyProof.Rows
def aXH:=@decide_eq_false
def aXI:=@beq_eq_false_iff_ne
def aXJ:=@Paired.length
def aXK:=@Heap.get?_push_size
def aXL:=@Heap.lt_size
def aXM:=@Nat.lt_of_lt_of_le
def aXN:=@Nat.lt_irrefl
def aXO:=@Nat.ne_of_lt
def aXP:=@List.mem_filter
def aXQ:=@List.mem_range
def aXR:=@Array.getElem?_eq_some_iff
def aXS:=@Nat.le_trans
def aXT:=@Nat.le_of_lt
def aXU:=@List.filterMap_cons
def aXV:=@List.mem_cons
def aXW:=@List.mem_append
def aXX:=@List.mem_append_left
def aXY:=@List.getElem?_eq_some_iff
def aXZ:=@List.getElem_inj
def aX0:=@List.getElem?_set_self
def aX1:=@List.getElem?_set_ne
def aX2:=@Option.some.inj
def aX3:=@wpAny_mono
def aX4:=@wpAny_truthy_bool
def aX5:=@Array.length_toList
def aX6:=@wpAny_execs_nil
def aX7:=@wpAny_passesOwn
def aX8:=@Bool.false_ne_true
def aX9:=@Nat.ne_of_gt
def aYA:=@wpAny_pure
def aYB:=@wpAny_bind
def aYC:=@Nat.le_refl
def aYD:=@wpAny_pyIter_tuple
def aYE:=@PyProof.Rows.callWith_type1
def aYF:=@List.mem_filterMap
def aYG:=@List.mem_append_right
def aYH:=@sizeLine_eq
def aYI:=@List.size_toArray
def aYJ:=@Array.mem_toList_iff
def aYK:=@beq_iff_eq
def aYL:=@Heap.size_push
def aYM:=@Nat.le_of_eq
def aYN:=@Nat.lt_succ_self
def aYO:=@Nat.zero_le
def aYP:=@Calls.spliced_nil
def aYQ:=@Calls.spliced_cons
def aYR:=@List.append_nil
def aYS:=@wpAny_standAt
def aYT:=@List.nodup_cons
def aYU:=@List.of_mem_zip
def aYV:=@W.cellsFrom_some
def aYW:=@List.length_take
def aYX:=@PySem.mem_of_lookup
def aYY:=@List.getElem?_append_right
def aYZ:=@List.getElem?_replicate
def aY0:=@List.getElem?_append_left
def aY1:=@List.getElem?_map
def aY2:=@List.mem_of_getElem?
def aY3:=@List.length_append
def aY4:=@List.length_map
def aY5:=@wpAny_Call_Name_kw
def aY6:=@concat_meets
def aY7:=@noFill_tuple_add
def aY8:=@F.slot_tuple_add
def aY9:=@F.entry_tuple_add
def aZA:=@F.args_tuple_add_2
def aZB:=@Int.toNat_natCast
def aZC:=@if_false
def aZD:=@Prod.ext
def aZE:=@if_true
def aZF:=@wpAny_field
def aZG:=@wpAny_holding
def aZH:=@wpAny_callSpecial?_slot
def aZI:=@PyProof.Rows.slot_tuple_getitem
def aZJ:=@wpAny_call_entry
def aZK:=@wpAny_typeOf
def aZL:=@Bool.and_eq_true
def aZM:=@wpAny_newObj_type
def aZN:=@Heap.get?_update_self
def aZO:=@Heap.get?_update_other
def aZP:=@List.length_set
def aZQ:=@Option.getD_none
def aZR:=@List.all_cons
def aZS:=@List.any_cons
def aZT:=@Calls.callWith_builtin
def aZU:=@Calls.evalArgs_plain
def aZV:=@List.length_singleton
def aZW:=@List.find?_cons
def aZX:=@List.length_cons
def aZY:=@List.length_nil
def aZZ:=@List.map_cons
def aZ0:=@List.map_nil
def aZ1:=@Option.map_eq_some_iff
def aZ2:=@tupleKind_room_in1
def aZ3:=@Option.isSome_map
def aZ4:=@getitemInPython_of_ne
def aZ5:=@wpAny_specialOf
def aZ6:=@wpAny_operating
def aZ7:=@wpAny_letTemporaryGo
def aZ8:=@decide_eq_true
def aZ9:=@codeAny_mono
def a0A:=@List.cons.injEq
def a0B:=@List.cons_append
def a0C:=@Nat.add_assoc
def a0D:=@wpAny_forIn_list
def a0E:=@wpAny_rule
def a0F:=@SeqAt.eqAt_reads
def a0G:=@Nat.min_le_left
def a0H:=@wpAny_isInstance
def a0I:=@Bool.false_eq_true
def a0J:=@List.nil_append
def a0K:=@List.lookup_cons
def a0L:=@decide_eq_true_eq
def a0M:=@of_decide_eq_true
def a0N:=@Bool.or_eq_true
def a0O:=@W.kia_one
def a0P:=@List.getElem?_set
def a0Q:=@List.getElem?_range
def a0R:=@Option.map_some
def a0S:=@List.drop_eq_getElem_cons
def a0T:=@List.getElem?_eq_getElem
def a0U:=@List.drop_length
def a0V:=@List.forIn_nil
def a0W:=@List.forIn_cons
def a0X:=@LawfulMonad.pure_bind
def a0Y:=@beq_self_eq_true
def a0Z:=@Nat.lt_succ_of_lt
def a00:=@Option.some.injEq
def a01:=@wpAny_call
def a02:=@W.callWith_K
def a03:=@Nat.le_succ
def a04:=@List.drop_zero
def a05:=@List.take_of_length_le
def a06:=@Nat.zero_add
def a07:=@List.mem_singleton
def a08:=@List.findIdx?_cons
def a09:=@List.zip_cons_cons
def a1A:=@F.slot_tuple_iterator_next
def a1B:=@F.entry_tuple_iterator_next
def a1C:=@F.args_tuple_iterator_next_1
def a1D:=@wpAny_setField
def a1E:=@Obj.data_mapFields
def a1F:=@Heap.SameBut.update
def a1G:=@List.mem_nil_iff
def a1H:=@or_false
def a1I:=@wpAny_attempt
def a1J:=@wpAny_pyIter_enum
def a1K:=@List.take_length
def a1L:=@wpAny_Call_method
def a1M:=@List.pairwise_map
def a1N:=@W.mg_of
def a1O:=@Bool.not_eq_true'
def a1P:=@List.ext_getElem
def a1Q:=@wpAny_pyIter_keyiter
def a1R:=@List.map_append
def a1S:=@List.append_assoc
def a1T:=@List.nodup_nil
def a1U:=@Array.getD_eq_getD_getElem?
def a1V:=@Array.perm_iff_toList_perm
def a1W:=@Array.getElem?_toList
def a1X:=@Array.Perm.refl
def a1Y:=@of_decide_eq_false
def a1Z:=@List.Perm.refl
def a10:=@List.pairwise_singleton
def a11:=@List.pairwise_cons
def a12:=@PyProof.Rows.listItems_at
def a13:=@PyProof.Rows.listUpdate_at
def a14:=@PyProof.Rows.get?_update_seq
def a15:=@PyProof.Rows.seqEpoch_at
def a16:=@wpAny_newList
def a17:=@Heap.get?_update_ne
def a18:=@List.length_range
def a19:=@bne_self_eq_false
def a2A:=@codeAny_builtin
def a2B:=@Heap.size_update
def a2C:=@List.all_eq_true
def a2D:=@List.map_map
def a2E:=@wpAny_dictEntries
def a2F:=@wpAny_dictEpoch
def a2G:=@F.slot_dict_keyiterator_next
def a2H:=@F.entry_dict_keyiterator_next
def a2I:=@F.args_dict_keyiterator_next_1
def a2J:=@wpAny_typeNameOfWhole_keyiter
def a2K:=@wpAny_fieldsOf
def a2L:=@wpAny_typeNameOf_keyiter
def a2M:=@Array.getElem?_eq_getElem
def a2N:=@wpAny_isOneOf_keyiter
def a2O:=@List.mem_map
def a2P:=@Around.under_plainId
def a2Q:=@List.not_mem_nil
def a2R:=@List.range_succ
def a2S:=@List.nodup_append
def a2T:=@F.slot_dict_setdefault
def a2U:=@List.mem_of_find?_eq_some
def a2V:=@bne_iff_ne
def a2W:=@List.contains_iff_mem
def a2X:=@Nat.lt_of_le_of_lt
def a2Y:=@Nat.add_le_add_left
def a2Z:=@List.isEmpty_iff
def a20:=@Array.eq_empty_of_size_eq_zero
def a21:=@Int.emod_nonneg
def a22:=@Int.emod_lt_of_pos
def a23:=@Int.eq_ofNat_of_zero_le
def a24:=@List.getElem_mem
def a25:=@List.getElem?_cons_succ
def a26:=@List.map_congr_left
def a27:=@List.Pairwise.imp_of_mem
def a28:=@List.length_filter_le
def a29:=@Int.add_zero
def a3A:=@Int.zero_add
def a3B:=@List.mem_map_of_mem
def a3C:=@List.perm_ext_iff_of_nodup
def a3D:=@List.reverse_cons
def a3E:=@List.map_eq_nil_iff
def a3F:=@List.filter_cons_of_pos
def a3G:=@List.filter_cons_of_neg
end
abbrev a3M:=PySem.Challenge.pw_whencewise_k45_pour_and_total
abbrev a3H:=PySem.Value
abbrev a3I:=PySem.Shared
abbrev a3J:=PySem.Around
abbrev a3K:=PySem.World
abbrev a3L:=PySem.Program
theorem al{c:Prop}{_:Decidable c}(h:c){α:Sort u}{t e:α}:ite c t e=t:=_root_.if_pos h
theorem aK{c:Prop}{_:Decidable c}(h:¬c){α:Sort u}{t e:α}:ite c t e=e:=_root_.if_neg h
local macro_rules
|`(tactic|exists$a,*)=>do
 let p<-a.getElems.pop.mapM λx=>if x.raw.isIdent then`(Lean.Parser.Tactic.rcasesPatLo|$(⟨x.raw⟩):ident)else`(Lean.Parser.Tactic.rcasesPatLo|_)
 `(tactic|obtain⟨$p,*⟩:=$(a.getElems.back!))
local macro_rules
|`(#[$a,*])=>if a.getElems.isEmpty then `(List.toArray [])else`(⟨$a,*⟩)
abbrev VSP := PySem.Value -> PySem.Shared -> Prop
abbrev Fg := PySem.W.Frag
abbrev LAO := List (PySem.Addr × PySem.Obj)
abbrev SOV := PySem.Str -> Option PySem.Value
def mcm {c : Type} {a b : c} {l : List c} (h : a ∈ l) : a ∈ b :: l := List.mem_cons_of_mem _ h
def mcs {b : Type} {a : b} {l : List b} : a ∈ a :: l := List.mem_cons_self
def hps {h : PySem.Heap} {o p : PySem.Obj} {b : PySem.Addr} (e : h.get? b = some o) : (h.push p).get? b = some o := PySem.Heap.get?_push_of_some _ e
set_option Elab.async false
set_option maxRecDepth 100000
noncomputable section
open PySem PySem.Spec PyProof.Rows
namespace L2
abbrev Key:=Sum Int Str
def kZ:Key->a3H->Bool|.inl k,v=>Value.isInt k v|.inr x,v=>Value.isStrOf x v
def keyH(w:a3K):Key->Int|.inl k=>hashInt k|.inr x=>hashStr w x
def iD:∀{k:Key}{v:a3H},kZ k v=true->(∃i t,k=Sum.inl i/\v=Value.int i t)\/(∃x t,k=Sum.inr x/\v=Value.str x t)|.inl i,v,h=>by exists t,e,Value.isInt_shape (k:=i) (v:=v) h;exact .inl #[i,t,rfl,e]|.inr x,v,h=>by exists t,e,Value.isStrOf_shape (x:=x) (v:=v) h;exact .inr #[x,t,rfl,e]
def aHZ(i:Int)(t:Tok):kZ (.inl i) (.int i t)=true:=by simp[kZ,Value.isInt]
def aH0(x:Str)(t:Tok):kZ (.inr x) (.str x t)=true:=by simp[kZ,Value.isStrOf]
def aH1(a b:Int):decide ((Sum.inl a:Key)=Sum.inl b)=(a==b):=by by_cases e:a=b;{subst e;simp};have h:¬ (Sum.inl a:Key)=Sum.inl b:=λq=>e (Sum.inl.inj q);rw[aXH h];exact(aXI.mpr e).symm
def aH2(a b:Str):decide ((Sum.inr a:Key)=Sum.inr b)=decide (a=b):=by by_cases e:a=b;{subst e;simp};have h:¬ (Sum.inr a:Key)=Sum.inr b:=λq=>e (Sum.inr.inj q);rw[aXH h,aXH e]
def aH3(a:Int)(b:Str):decide ((Sum.inl a:Key)=Sum.inr b)=false:=aXH (λq=>nomatch q)
def aH4(a:Str)(b:Int):decide ((Sum.inr a:Key)=Sum.inl b)=false:=aXH (λq=>nomatch q)
noncomputable def cB(prog:a3L)(w:a3K):PySem.KeyKind prog w Key where
 is:=kZ
 hash:=keyH w
 inj:=λv a b ha c=>by rcases iD ha with⟨i,t,rfl,rfl⟩|⟨x,t,rfl,rfl⟩;{rcases iD c with⟨j,u,rfl,e⟩|⟨y,u,rfl,e⟩;{injection e with E _;rw[E]};exact nomatch e};rcases iD c with⟨j,u,rfl,e⟩|⟨y,u,rfl,e⟩;{exact nomatch e};injection e with E _;rw[E]
 byValue:=λk v h=>by rcases iD h with⟨i,t,rfl,rfl⟩|⟨x,t,rfl,rfl⟩ <;> rfl
 pyHash:=λH h=>by rcases iD H with⟨i,t,rfl,rfl⟩|⟨x,t,rfl,rfl⟩;{exact wpAny_pyHash_int h};exact wpAny_pyHash_str h
 eqBool:=λd H h=>by rcases iD d with⟨i,t,rfl,rfl⟩|⟨x,t,rfl,rfl⟩;{rcases iD H with⟨j,u,rfl,rfl⟩|⟨y,u,rfl,rfl⟩;{rw[aH1]at h;exact wpAny_eqBool_int h};rw[aH3]at h;exact SeqAt.EqAt.int_str i t y u _ _ _ _ h};rcases iD H with⟨j,u,rfl,rfl⟩|⟨y,u,rfl,rfl⟩;{rw[aH4]at h;exact SeqAt.EqAt.str_int x t j u _ _ _ _ h};rw[aH2]at h;exact wpAny_eqBool_str h
 «strs»:=λk x t v h=>by rcases iD h with⟨i,u,rfl,e⟩|⟨y,u,rfl,e⟩;{exact nomatch e};injection e with E _;subst E;cases v <;> rfl
def aH5(prog:a3L)(w:a3K)(i:Int)(t:Tok):(cB prog w).is (.inl i) (.int i t)=true:=aHZ i t
def aH6(prog:a3L)(w:a3K)(x:Str)(t:Tok):(cB prog w).is (.inr x) (.str x t)=true:=aH0 x t
inductive V where
 |non|bl (b:Bool)|int (i:Int)|str (x:Str)|byt (b:Array UInt8)|flt (b:UInt64)|ref (a:Addr)|ty (n:String)
 deriving DecidableEq
def aG:V->a3H->Prop|.non,u=>u=Value.none|.bl b,u=>u=Value.bool b|.int i,u=>∃t,u=Value.int i t|.str x,u=>∃t,u=Value.str x t|.byt b,u=>∃t,u=Value.bytes b t|.flt b,u=>∃t,u=Value.float b t|.ref a,u=>u=Value.ref a|.ty n,u=>u=Value.type n
abbrev aM:List V->List a3H->Prop:=Paired aG
theorem aM.length{U:List V}{us:List a3H}(r:aM U us):U.length=us.length:=aXJ r
theorem aM.get:∀{U:List V}{us:List a3H}{i:Nat}{x:V},aM U us->U[i]? = some x->∃u,us[i]? = some u/\aG x u|_,_,_,_,.nil,e=>by simp at e|_,_,0,_,.cons r _,e=>by simp at e;subst e;exact#[_,rfl,r]|_,_,i+1,x,.cons _ t,e=>by exists u,H,h,aM.get (i:=i) (x:=x) t (by simpa using e);exact#[u,by simpa using H,h]
theorem aM.set{x:V}{u:a3H}(r:aG x u):∀{U:List V}{us:List a3H} (i:Nat),aM U us->aM (U.set i x) (us.set i u)|_,_,_,.nil=>.nil|_,_,0,.cons _ t=>.cons r t|_,_,i+1,.cons q t=>.cons q (aM.set r i t)
theorem aM.append:∀{U ys:List V}{us ws:List a3H},aM U us->aM ys ws->aM (U++ys) (us++ws)|_,_,_,_,.nil,s=>s|_,_,_,_,.cons r t,s=>.cons r (aM.append t s)
theorem aM.take:∀{U:List V}{us:List a3H} (n:Nat),aM U us->aM (U.take n) (us.take n)|_,_,0,_|_,_,_+1,.nil=>.nil|_,_,n+1,.cons r t=>.cons r (aM.take n t)
theorem aM.drop:∀{U:List V}{us:List a3H} (n:Nat),aM U us->aM (U.drop n) (us.drop n)|_,_,0,r=>r|_,_,_+1,.nil=>.nil|_,_,n+1,.cons _ t=>aM.drop n t
def cQ:Option V->Option a3H->Prop|some v,some u=>aG v u|none,none=>True|_,_=>False
def KV{κ:Type}:List (κ×V)->List (κ×a3H)->Prop:=Paired λ(p:κ×V) (q:κ×a3H)=>p.1=q.1/\aG p.2 q.2
def kV:Key->V|.inl i=>.int i|.inr x=>.str x
inductive N where|i (n:Int)|s (x:Str)|t (U:List N)
mutual
def fQ(w:a3K):N->Int|.i n=>hashInt n|.s x=>hashStr w x|.t U=>reduceHash (Builtin.Tuple.tupleHashOf (eO w U))
def eO(w:a3K):List N->List Int|[]=>[]|x::U=>fQ w x::eO w U
end
def xT(w:a3K)(x:N×Addr×a3H):DictEntry:=#[fQ w x.1,.ref x.2.1,x.2.2]
inductive HO where
 /-- a list -/
 |lst (U:List V)
 /-- a tuple (never changes) -/
 |tup (U:List V)
 /-- a dict whose keys are ints and iB;one whose keys are tuples of ints and iB (the empty one is both) -/
 |dK (kvs:List (Key×V))|dT (kvs:List (List Key×V))
 |dN (kvs:List (N×Addr×V))
 /-- a set of ints: its members,its size -/
 |set (S:Key->Bool) (n:Nat)
 /-- an instance of the class at C,its dict at dx,its attributes -/
 |ins (C dx:Addr) (fs:List (Str×V))
 /-- the dict of the instance at x -/
 |own (x:Addr)
 /-- the dict of an exception -/
 |xd (fs:List (Str×V))
 /-- a bound method,f of x -/
 |met (f x:Addr)
 /-- a range object lo,lo+1,.. below hi -/
 |rng (lo hi:Int)
 /-- a thing that is known to the object (the script;a dict while a loop walks it): read,never written while it is so -/
 |frz (o:Obj) (u:HO)
 /-- a code object's table -/
 |tbl (ps:Array a3H)
 /-- a code record of that name -/
 |crec (q:Str)
 /-- any other thing,by what is true of its one object (a def of one's own: SetO a S n:=HO.ext λh=>..) -/
 |ext (φ:Heap->Prop)
abbrev Hp:=Addr->Option HO
noncomputable def aH7(q:Str):Option Str:=if q="valued.<locals>." then some "worth" else if q="lifted.<locals>." then some "lift" else none
end L2
open L2
variable{α:Type}{U ys:List L2.V}{us vs its:List a3H}{x q qual z:Str}{u cdv:a3H}{H H' F' F1 F0 H0:L2.Hp}{b it dx I:Addr}{h h' base hp:Heap}{items:Array a3H}{P prog:a3L}{w:a3K}{e c tg iter value elt ke ea:Expr}{O pins':LAO}{s s':a3I}{t' i j k n ep:Nat}{ch fp:List Addr}{v:L2.V}{Q:VSP}{pos pos' p sp apos p2 cpos ap cp p1 q1 q':Pos}{st:Stmt}{body sts:List Stmt}{kvs:List (L2.N×Addr×L2.V)}{mA mg:SOV}{fd:FuncData}{ps zs loose aL tgN:List Str}{outer:List Env}{ks:List L2.N}{sc scope:Scope}{env:Env}{values ifs elts:List Expr}{XP:(Str->Option a3H)->Heap->Prop}{YP:a3K->Heap->Prop}{cs:List Int}{aE:List Nat}{neg:Bool}{fa:Str->Addr}{way:Int}
namespace L2
def oR(q:Str)(l:Nat):Str:=match aH7 q with|some n=>n|none=>if q="_law_way.<locals>." then(([(274,"_law_wheeled"),(277,"_law_whether"),(280,"_law_priced"),(285,"_law_halved"),(288,"_law_paired"),(291,"_law_heaped")]:List (Nat×Str)).lookup l).getD "<lambda>" else "<lambda>"
inductive HT where|tup (U:List V)|crec (q:Str)
def HT.ho:HT->HO|.tup U=>.tup U|.crec q=>.crec q
noncomputable def upd(H:Hp)(a:Addr)(o:HO):Hp:=λb=>if b=a then some o else H b
def aY{a:Addr}{o:HO}:upd H a o a=some o:=by unfold upd;rw[al rfl]
def aN{a:Addr}{o:HO}(h:b≠a):upd H a o b=H b:=by unfold upd;rw[aK h]
def bT{a:Addr}{o:HO}(h:H a=some o)(h':H b=none):a≠b:=by intro e;subst e;rw[h]at h';cases h'
def gR(h:Heap)(a:Addr)(items:Array a3H):Prop:=∃o,h.get? a=some o/\o.cls=.type "tuple" /\ o.dict=none/\∃n,o.data=.seq items n
def gR.isTup{a:Addr}(x:gR h a items):IsTup h a items:=by exists o,e,c,_,n,d,x;exact#[o,e,c,n,d]
def gR.new(h:Heap)(items:Array a3H):gR (h.push { cls:=.type "tuple",data:=.seq items }) h.objs.size items:=#[_,aXK _ rfl,rfl,rfl,_,rfl]
section
variable(P:a3L)(w:a3K)
def bL(H:Hp)(h:Heap)(a:Addr):HO->Prop
 |.lst U=>U.length<=sizeLine/\∃(its:List a3H) (n:Nat),aM U its/\h.get? a=some { cls:=.type "list",data:=.seq its.toArray n }|.tup U=>U.length<=sizeLine/\∃its:List a3H,aM U its/\gR h a its.toArray|.dK kvs=>kvs.length<=sizeLine/\(a==sysModules)=false/\∃vs,KV kvs vs/\h.DictOf (cB P w) a vs| .dT kvs=>kvs.length ≤ sizeLine/\(a == sysModules)=false/\∃ U:List (List Key × Addr × a3H),
     Paired (λ(p:List Key×V) (q:List Key×Addr×a3H)=>p.1=q.1/\H q.2.1=some (.tup (p.1.map kV))/\aG p.2 q.2.2) kvs U /\
     ∃o es ep,h.get? a=some o/\o.ExactDict/\o.data=.dict es ep/\es.toList=U.map (entryOfKey (tupleKind (cB P w)))/\(U.map (·.1)).Nodup
 | .dN kvs => kvs.length ≤ sizeLine ∧ (a == sysModules) = false ∧ ∃ U : List (N × Addr × a3H), Paired (fun (p : N × Addr × V) (q : N × Addr × a3H) => p.1 = q.1 ∧ p.2.1 = q.2.1 ∧ aG p.2.2 q.2.2) kvs U ∧
     ∃o es ep,h.get? a=some o/\o.ExactDict/\o.data=.dict es ep/\es.toList=U.map (xT w)/\(U.map (·.1)).Nodup
 |.set S n=>h.SetOf (cB P w) a S n| .ins C dx fs => H dx = some (.own a) ∧ fs.length ≤ 1000 ∧ dx ≠ a ∧ h.get? a = some (W.instObj C dx) ∧
     ∃mA,h.Ns1 dx mA/\(∀f,cQ (fs.lookup f) (mA f))/\PySem.Within mA (fs.map (·.1))
 |.own _=>∃o,h.get? a=some o|.xd fs=>∃mA,h.Ns1 a mA/\∀f,cQ (fs.lookup f) (mA f)|.rng lo y=>∃t u v,h.get? a=some { cls:=.type "range",data:=.fields (List.toArray [.int lo t,.int y u,.int 1 v]) }|.frz o u=>h.get? a=some o/\bL H h a u|.tbl ps=>∃(q:Str) (m:Array a3H),ps[0]? = some (.str q 0)/\h.get? a=some #[.none,none,.fields m,#[]]/\TriplesOk m.toList/\∀z cv,codeAmong z m.toList=some cv->∃c,cv=.ref c/\H c=some (.crec (q++oR q z.line))|.crec q=>∃g vs t,h.get? a=some g/\g.data=.fields vs/\vs[1]? = some (.str q t)|.met f x=>h.get? a=some (W.methodObj (.ref f) (.ref x))|.ext d=>d h/\(∃o,h.get? a=some o)/\∀r l:Heap,d r->(∀o,r.get? a=some o->l.get? a=some o)->d l
def HOk(H:Hp)(h:Heap):Prop:=∀a o,H a=some o->bL P w H h a o
end
section
variable{a:Addr}{o:HO}
theorem bL.lt(x:bL P w H h a o):a<h.objs.size:=by cases o with|lst U=>exists _,_,_,_,e,x;exact aXL e|tup U=>exists _,_,_,p,x;exact p.isTup.lt|dK kvs|dT kvs|dN kvs=>exists _,_,_,_,o,_,_,e,_,x;exact aXL e|set S n=>exists o,_,_,_,e,_,x;exact aXL e|ins C dx fs=>exists _,_,_,e,_,x;exact aXL e|own y=>exists _,e,x;exact aXL e|xd fs=>obtain⟨_,⟨_,_,_,e,_⟩,_⟩:=x;exact aXL e|rng lo g=>exists _,_,_,e,x;exact aXL e|frz ob u=>exists e,_,x;exact aXL e|tbl ps|crec q=>exists _,_,_,e,_,x;exact aXL e|met f y=>exact aXL (show h.get? a=some _ from x)|ext d=>obtain⟨_,⟨_,e⟩,_⟩:=x;exact aXL e
theorem Paired.mapP{α d:Type}{F G:α->d->Prop}:∀{L:List α}{l:List d},Paired F L l->(∀a b,F a b->G a b)->Paired G L l|_,_,.nil,_=>.nil|_,_,.cons r t,f=>.cons (f _ _ r) (Paired.mapP t f)
def bL.stay(x:bL P w H h a o)(k:∀b u,(b=a\/H b=some (.own a))->h.get? b=some u->h'.get? b=some u)(ho:∀b,H b=some (.own a)->H' b=some (.own a))(ht:∀(b:Addr) (u:HT),H b=some u.ho->H' b=some u.ho):bL P w H' h' a o:=by
 induction o with
 |lst U=>exists z,its,n,r,e,x;exact#[z,its,n,r,k _ _ (.inl rfl) e]|tup U=>exists z,its,r,ob,e,c,x;exact#[z,its,r,ob,k _ _ (.inl rfl) e,c]|dK kvs=>exists z,y,vs,r,ob,es,ep,e,c,x;exact#[z,y,vs,r,ob,es,ep,k _ _ (.inl rfl) e,c]|dT kvs=>exists z,y,U,r,ob,es,ep,e,c,x;exact#[z,y,U,Paired.mapP r λp q z=>#[z.1,ht _ (.tup _) z.2.1,z.2.2],ob,es,ep,k _ _ (.inl rfl) e,c]|dN kvs=>exists z,y,U,r,ob,es,ep,e,c,x;exact#[z,y,U,r,ob,es,ep,k _ _ (.inl rfl) e,c]|set S n=>exists ob,es,ep,t,e,c,x;exact#[ob,es,ep,t,k _ _ (.inl rfl) e,c]|ins C dx fs=>obtain⟨d,z,ne,e,mA,⟨g,es,ep,E,c⟩,r⟩:=x;exact#[ho _ d,z,ne,k _ _ (.inl rfl) e,mA,#[g,es,ep,k _ _ (.inr d) E,c],r]|own y=>exists ob,e,x;exact#[ob,k _ _ (.inl rfl) e]|xd fs=>obtain⟨mA,⟨g,es,ep,e,c⟩,r⟩:=x;exact#[mA,#[g,es,ep,k _ _ (.inl rfl) e,c],r]|rng lo L=>exists t,u,v,e,x;exact#[t,u,v,k _ _ (.inl rfl) e]|frz ob u A=>exists e,q,x;exact#[k _ _ (.inl rfl) e,A q]|tbl ps =>
  exists q,m,J,E,F,D,x;exact#[q,m,J,k _ _ (.inl rfl) E,F,λz cv f=>by
   exists c,B,G,D z cv f;exact#[c,B,ht _ (.crec _) G]]
 |crec q=>exists l,vs,t,e,r,x;exact#[l,vs,t,k _ _ (.inl rfl) e,r]|met f y=>have e:h.get? a=some (W.methodObj (.ref f) (.ref y)):=x;show h'.get? a=some (W.methodObj (.ref f) (.ref y));exact k a _ (.inl rfl) e|ext K=>obtain⟨p,⟨o,e⟩,st⟩:=x;exact#[st _ _ p λo q=>k _ _ (.inl rfl) q,#[o,k _ _ (.inl rfl) e],st]
theorem HOk.lt(x:HOk P w H h)(e:H a=some o):a<h.objs.size:=(x a o e).lt
def HOk.fresh(x:HOk P w H h)(e:h.objs.size<=a):H a=none:=by cases q:H a with|none=>rfl|some u=>exact absurd (aXM (x.lt q) e) (aXN _)
def HOk.kept(x:HOk P w H h)(k:∀b u,h.get? b=some u->h'.get? b=some u):HOk P w H h':=λa o e =>
 (x a o e).stay (λb u _ q=>k b u q) (λ_ q=>q) λ_ _ q=>q
def HOk.laid(x:HOk P w H h)(k:∀b u,h.get? b=some u->h'.get? b=some u)(hp:h.objs.size<=a)(new:bL P w (upd H a o) h' a o):HOk P w (upd H a o) h':=λb u e=>by have hn:=x.fresh hp;by_cases d:b=a;{subst d;rw[aY]at e;cases e;exact new};rw[aN d]at e;exact(x b u e).stay (λc v _ q=>k c v q) (λc q=>by rw[aN (bT q hn)];exact q) λc U q=>by rw[aN (bT q hn)];exact q
end
def Rd(H:Hp)(a:Addr)(u:HO):Prop:=H a=some u\/∃o,H a=some (.frz o u)
def Rd.ok{a:Addr}{u:HO}(r:Rd H a u)(x:HOk P w H h):bL P w H h a u:=by rcases r with r|⟨o,r⟩;{exact x a u r};exists _,q,x a _ r;exact q
def Mut:Option HO->Prop|some (.lst _)|some (.dK _)|some (.dT _)|some (.dN _)|some (.set _ _)|some (.ins _ _ _)|some (.ext _)=>True|_=>False
section
variable{x e:Addr}{a:HO}
def HOk.write(ok:HOk P w H h)(mu:Mut (H x))(o:e=x\/H e=some (.own x))(k:∀b u,b≠e->h.get? b=some u->h'.get? b=some u)(m:∃u,h'.get? e=some u)(new:bL P w (upd H x a) h' x a):HOk P w (upd H x a) h':=λb u q=>by
 have N:∀c y,H c=some (.own y)->c≠x:=λc y r z=>by subst z;rw[r]at mu;exact mu
 have f:∀(c:Addr) (u:HT),H c=some u.ho->c≠x:=λc u r z=>by subst z;rw[r]at mu;cases u <;> exact mu
 by_cases l:b=x
 . subst l;rw[aY]at q;cases q;exact new
 . rw[aN l]at q;by_cases d:b=e
   . have q':H b=some (.own x):=by
       rcases o with z|z
       . exact absurd (d.trans z) l
       . rw[d];exact z
     rw[q]at q';cases q';exists v,t,m;exact#[v,by rw[d];exact t]
   . (refine(ok b u q).stay (λc v g r=>k c v ?_ r) (λc r=>by rw[aN (N c b r)];exact r) λc U r=>by rw[aN (f c U r)];exact r);rcases g with rfl|g;{exact d};rintro rfl;rcases o with z|z;{exact N c b g z};rw[g]at z;cases z;exact l rfl
end
structure Un(fs ex:List Addr)(H H':Hp)(h h':Heap):Prop where
 keep:∀b o,h.get? b=some o->H b=none->b∉fs->b∉ex->h'.get? b=some o
 slot:∀b o,h.get? b=some o->H b=none->b∈fs->b∉ex->∃sl,h'.get? b=some {o with slots:=sl}
 free:∀b o,h.get? b=some o->H b=none->b∉ex->H' b=none
 there:∀b o,h.get? b=some o->b∉ex->∃o',h'.get? b=some o'
 tups:∀b U,H b=some (.tup U)->H' b=some (.tup U)
 frzs:∀b o u,H b=some (.frz o u)->H' b=some (.frz o u)
 tbls:∀b ps,H b=some (.tbl ps)->∃more,H' b=some (.tbl (ps++more))
section
variable{fs ex:List Addr}{H1:Hp}{d:Heap}{a x e:Addr}{o:HO}
def Un.any(u:Un fs ex H H1 h d){ob:Obj}(q:h.get? b=some ob)(n:H b=none)(hx:b∉ex):∃S,d.get? b=some {ob with slots:=S}:=by by_cases f:b∈fs;{exact u.slot b ob q n f hx};exact#[ob.slots,u.keep b ob q n f hx]
def Un.kept(k:∀b u,h.get? b=some u->h'.get? b=some u):Un fs ex H H h h' :=
 #[λb ob q _ _ _=>k b ob q,λb ob q _ _ _=>#[ob.slots,k b ob q],λ_ _ _ n _=>n,λb ob q _=>#[ob,k b ob q],λ_ _ q=>q,λ_ _ _ q=>q,λ_ ps q=>#[#[],by rw[q];simp]]
def Un.refl:Un fs ex H H h h:=Un.kept λ_ _ q=>q
def Un.laid(k:∀b u,h.get? b=some u->h'.get? b=some u)(hp:h.objs.size<=a)(hn:H a=none):Un fs ex H (upd H a o) h h' where
 keep:=λb u q _ _ _=>k b u q
 slot:=λb u q _ _ _=>#[u.slots,k b u q]
 free:=λb u q n _=>by rw[aN (aXO (aXM (aXL q) hp))];exact n
 there:=λb u q _=>#[u,k b u q]
 tups:=λb U q=>by rw[aN (bT q hn)];exact q
 frzs:=λb u U q=>by rw[aN (bT q hn)];exact q
 tbls:=λb ps q=>#[#[],by rw[aN (bT q hn),q];simp]
def Un.write(mu:Mut (H x))(t:e=x\/H e=some (.own x))(k:∀b u,b≠e->h.get? b=some u->h'.get? b=some u)(l:∃u,h'.get? e=some u):Un fs ex H (upd H x o) h h':=by
 have hx:∀b,H b=none->b≠x:=λb n z=>by subst z;rw[n]at mu;exact mu
 have m:∀b,H b=none->b≠e:=λb n z=>by subst z;rcases t with r|r;{exact hx b n r};rw[n]at r;cases r
 have g:∀b u,H b=some u -> ¬ Mut (some u)->b≠x:=λb u q nm z=>by subst z;rw[q]at mu;exact nm mu
 refine#[λb u q n _ _=>k b u (m b n) q,λb u q n _ _=>#[u.slots,k b u (m b n) q],λb u q n _=>by rw[aN (hx b n)];exact n,λb u q _=>?_,
  λb U q=>by rw[aN (g b _ q λz=>z)];exact q,λb u U q=>by rw[aN (g b _ q λz=>z)];exact q,λb ps q=>#[#[],by rw[aN (g b _ q λz=>z),q];simp]]
 by_cases f:b=e
 . subst f;exact l
 . exact#[u,k b u f q]
end
def trk(h:Heap)(H:Hp):List Addr:=(List.range h.objs.size).filter λa=>(H a).isSome
def iE(h:Heap)(H:Hp):Heap:=W.hideAll h (trk h H)
def aH8(h:Heap)(H:Hp):(iE h H).objs.size=h.objs.size:=W.hideAll_size _ _
def sN{o:Obj}(e:h.get? b=some o)(n:H b=none):(iE h H).get? b=some o :=
 W.hideAll_get _ e λa=>by have q:(H b).isSome=true:=(aXP.mp a).2;rw[n]at q;simp at q
def aH9{o:Obj}(e:(iE h H).get? b=some o):h.get? b=some o/\H b=none:=by have E:h.get? b=some o:=W.of_hideAll (trk h H) e;refine#[E,?_];cases q:H b with|none=>rfl|some x=>have a:b∈trk h H:=aXP.mpr #[aXQ.mpr (aXL E),by simp[q]];have z:(iE h H).get? b=none:=W.hideAll_none (trk h H) a;rw[z]at e;cases e
def aIA(g h:Heap)(L:Addr):LAO:=(List.range h.objs.size).filterMap λa=>if a=L\/(g.get? a).isSome=true then none else(h.get? a).map λo=>(a,o)
def rest(g h:Heap)(L d:Addr):LAO:=(aIA g h L).filter λp=>decide (p.1≠d)
structure Mod(K:Fg)(mg:SOV)(base:Heap):Prop where
 kin:K.In base
 glob:base.Ns mainGlobals mg
 blt:∃mb,base.Ns builtinsNs mb/\∀x:Str,x ≠ "__name__"->mb x=bootBuiltins x
 nolimit:base.NoLimit
 bmod:∃bm ob,mg "__builtins__"=some (.ref bm)/\bm≠builtinsNs/\base.get? bm=some ob/\ob.cls=.type "module" /\ ob.dict=some builtinsNs/\ob.data=.plain
def CdT(base:Heap)(H:Hp)(q:Str)(cd:a3H):Prop:=∃c T ps,cd=.ref c/\W.CodeHd base c T/\H T=some (.tbl ps)/\ps[0]? = some (.str (q++".<locals>.") 0)
def CdT.mono{cd:a3H}(x:CdT base H q cd)(t:∀b ps,H b=some (.tbl ps)->∃more,H' b=some (.tbl (ps++more))):CdT base H' q cd:=by exists c,T,ps,g,f,d,E,x;exists m,a,t T ps d;refine#[c,T,_,g,f,a,?_];rw[Array.getElem?_append_left (by have:=(aXR.mp E).1;exact this)];exact E
def k6(K:Fg)(base:Heap)(H:Hp):Prop:=∀cd q,W.codeIn K cd q=true->CdT base H q cd
theorem k6.mono{K:Fg}(x:k6 K base H)(t:∀b ps,H b=some (.tbl ps)->∃more,H' b=some (.tbl (ps++more))):k6 K base H':=λcd q e=>(x cd q e).mono t
structure Cx where
 prog:a3L
 w:a3K
 K:Fg
 mg:SOV
 base:Heap
 A:a3J
 N:List Str
 s₀:a3I
 H₀:Hp
 env:Env
 outer:List Env
 stack:List Env
 ex:List Addr
 fn:Str->Bool
 calm:Bool
 pn:LAO
 xe:VSP
def frs(l:List Env):List Addr:=l.filterMap (·.frame)
end L2
variable{X:L2.Cx}
namespace L2
abbrev Cx.fs(X:Cx):List Addr:=frs X.outer
def Vis(sc:Scope)(x:Str):Prop:=sc.names.lookup x=some .local\/sc.names.lookup x=some .cell\/sc.names.lookup x=some .free
def Loc(sc:Scope)(x:Str):Prop:=sc.names.lookup x=some .local\/sc.names.lookup x=some .cell
def Look(env:Env)(h:Heap)(m:SOV)(x:Str)(u:a3H):Prop :=
 (env.kindOf x=some .local/\m x=some u)\/((env.kindOf x=some .cell\/env.kindOf x=some .free)/\∃c,env.cells.lookup x=some c/\h.IsCell c (some u))
structure Cx.Ok(X:Cx):Prop where
 mod:Mod X.K X.mg X.base
 kind:X.env.scope.kind=.function
 glob:X.env.globals=mainGlobals
 blt:X.env.builtins=builtinsNs
 above:X.s₀.heap.objs.size<=X.env.locals
 inj:∀x y c,X.env.cells.lookup x=some c->X.env.cells.lookup y=some c->x=y
 has:∀x,(X.env.kindOf x=some .cell\/X.env.kindOf x=some .free)->∃c,X.env.cells.lookup x=some c
 cab:∀x c,X.fn x=true->X.env.cells.lookup x=some c->X.s₀.heap.objs.size<=c
 hd:X.calm=true->X.A.handled=none
 frames:X.A.frames=some X.stack
 stk:X.stack=X.outer\/(X.stack=X.env::X.outer/\X.env.frame=some X.env.locals)
 exf:∀b∈X.ex,b≠X.env.locals/\∀x c,X.env.cells.lookup x=some c->c≠b
 bs:∀b o,X.base.get? b=some o->X.s₀.heap.get? b=some o/\X.H₀ b=none
 bsz:X.base.objs.size<=X.s₀.heap.objs.size
 noex:∀b o,X.base.get? b=some o->b∉X.ex
 exfs:∀b∈X.ex,b∉X.fs
 funs:X.s₀.heap.FunFrames X.base X.outer
 frf:∀b∈X.fs,X.H₀ b=none
 tabs:k6 X.K X.base X.H₀
structure Inv(X:Cx)(O:LAO)(σ:List (Option V))(H:Hp)(s:a3I):Prop where
 ok:X.Ok
 os:s.os=X.s₀.os
 bare:AllBare s.gens
 base:Un X.fs X.ex X.H₀ H X.s₀.heap s.heap
 loc:∃m,s.heap.Ns X.env.locals m/\∀(i:Nat) (x:Str) (v:V),X.N[i]? = some x->σ[i]? = some (some v)->Vis X.env.scope x->∃u,aG v u/\Look X.env s.heap m x u
 cell:∀x c,X.env.cells.lookup x=some c->∃v,s.heap.IsCell c v
 free:H X.env.locals=none
 freeC:∀x c,X.env.cells.lookup x=some c->H c=none
 pin:∀p∈X.pn++O,s.heap.get? p.1=some p.2/\H p.1=none/\p.1≠X.env.locals/\p.1∉X.fs/\∀v,p.2.data ≠ .cell v
 hok:HOk X.prog X.w H s.heap
 len:σ.length=X.N.length
section
variable{f:List (Option V)}
def Cx.Ok.nofr(ok:X.Ok){o:Obj}(e:X.base.get? b=some o):b∉X.fs:=λa=>by have:=(ok.funs.mem a).1;rw[e]at this;cases this
theorem Inv.bs(I:Inv X O f H s):∀b o,X.base.get? b=some o->s.heap.get? b=some o/\H b=none:=λb o e =>
 #[I.base.keep b o (I.ok.bs b o e).1 (I.ok.bs b o e).2 (I.ok.nofr e) (I.ok.noex b o e),I.base.free b o (I.ok.bs b o e).1 (I.ok.bs b o e).2 (I.ok.noex b o e)]
def Inv.bk(I:Inv X O f H s):∀b o,X.base.get? b=some o->s.heap.get? b=some o:=λb o e=>(I.bs b o e).1
theorem Inv.mod(I:Inv X O f H s):Mod X.K X.mg X.base:=I.ok.mod
def Inv.kIn(I:Inv X O f H s):X.K.In s.heap:=I.ok.mod.kin.keeps I.bk
theorem Inv.lt(I:Inv X O f H s):X.env.locals<s.heap.objs.size:=let⟨_,hn,_⟩:=I.loc;hn.lt
def Inv.sz(I:Inv X O f H s):X.s₀.heap.objs.size<=s.heap.objs.size:=aXS I.ok.above (aXT I.lt)
def Inv.nofs(I:Inv X O f H s){a:Addr}(h:s.heap.objs.size<=a):a∉X.fs:=λd=>by exists _,o,ho,_,I.ok.funs.mem d;exact absurd (aXM (aXL ho) (aXS I.sz h)) (aXN _)
def Inv.cne(I:Inv X O f H s):∀x c,X.env.cells.lookup x=some c->c≠X.env.locals:=λx c e z=>by exists v,o,ho,hd,I.cell x c e;obtain⟨m,⟨g,es,ep,a,d,_⟩,_⟩:=I.loc;rw[z,a]at ho;cases ho;rw[d]at hd;cases hd
theorem Inv.funs(I:Inv X O f H s):s.heap.FunFrames X.base X.outer:=by(have all:∀(l:List Env),(∀b∈frs l,b∈X.fs)->X.s₀.heap.FunFrames X.base l->s.heap.FunFrames X.base l:=by intro l;induction l with|nil=>intro _ _;trivial|cons env r g=>intro hs hl;obtain⟨hk,⟨L,o,hf,hn,ho,hd⟩,m⟩:=hl;have d:L∈X.fs:=hs L (by unfold frs;rw[aXU,hf];exact mcs);exists S,e,I.base.slot L o ho (I.ok.frf L d) d λz=>I.ok.exfs L z d;exact#[hk,#[L,_,hf,hn,e,hd],g (λb a=>hs b (by unfold frs;rw[aXU,hf];exact mcm a)) m]);exact all X.outer (λ_ a=>a) I.ok.funs
theorem Inv.stack(I:Inv X O f H s):s.heap.FunFrames X.base X.stack:=by rcases I.ok.stk with e|⟨e,hf⟩;{rw[e];exact I.funs};rw[e];exists m,hn,_,I.loc;refine .cons (by rw[I.ok.kind];decide) hf hn ?_ I.funs;exact Heap.get?_none_of_le (aXS I.ok.bsz I.ok.above)
def Inv.stkSub(I:Inv X O f H s):∀b∈frs X.stack,b∈X.env.locals::X.fs:=λb a=>by rcases I.ok.stk with e|⟨e,hf⟩;{rw[e]at a;exact mcm a};rw[e]at a;unfold frs at a;rw[aXU,hf]at a;exact a
def Inv.stkFree(I:Inv X O f H s):∀b∈frs X.stack,H b=none:=λb a=>by rcases aXV.mp (I.stkSub b a)with e|a;{rw[e];exact I.free};exists _,o,ho,_,I.ok.funs.mem a;exact I.base.free b o ho (I.ok.frf b a) λz=>I.ok.exfs b z a
def Inv.step{g':Array GenState}{d':Drawn}(I:Inv X O f H s)(a:∀b∈ch,(b∈X.ex\/X.s₀.heap.objs.size<=b)/\b≠X.env.locals/\(∀x c,X.env.cells.lookup x=some c->c≠b)/\∀p∈X.pn++O,p.1≠b)(keep:∀b o,b≠X.env.locals->b∉X.fs->b∉ch->s.heap.get? b=some o->H b=none->h'.get? b=some o)(slot:∀b o,b≠X.env.locals->b∈X.fs->b∉ch->s.heap.get? b=some o->H b=none->∃D,h'.get? b=some {o with slots:=D})(free:∀b o,b∉ch->s.heap.get? b=some o->H b=none->H' b=none)(there:∀b o,b∉ch->s.heap.get? b=some o->∃y,h'.get? b=some y)(tups:∀b U,H b=some (.tup U)->H' b=some (.tup U))(frzs:∀b o u,H b=some (.frz o u)->H' b=some (.frz o u))(tbls:∀b ps,H b=some (.tbl ps)->∃more,H' b=some (.tbl (ps++more)))(ns:∀m,s.heap.Ns X.env.locals m->h'.Ns X.env.locals m)(hok:HOk X.prog X.w H' h')(K:AllBare g'):Inv X O f H' {s with heap:=h',gens:=g',drawn:=d',toks:=t'}:=by(have A:∀b o,X.s₀.heap.get? b=some o->b≠X.env.locals:=λb o e=>aXO (aXM (aXL e) I.ok.above);have g:∀b o,X.s₀.heap.get? b=some o->b∉X.ex->b∉ch:=λb o e hx t=>by rcases(a b t).1 with z|z;{exact hx z};exact absurd (aXM (aXL e) z) (aXN _));(have C:∀x c,X.env.cells.lookup x=some c->∀v,s.heap.IsCell c v->h'.IsCell c v:=λx c e v ⟨o,ho,hd⟩=>by have N:c∉ch:=λz=>(a c z).2.2.1 x c e rfl;by_cases F:c∈X.fs;{exists D,q,slot c o (I.cne x c e) F N ho (I.freeC x c e);exact#[_,q,hd]};exact#[o,keep c o (I.cne x c e) F N ho (I.freeC x c e),hd]);refine#[I.ok,I.os,K,#[λb o e n t hx=>?_,λb o e n t hx=>?_,λb o e n hx=>?_,λb o e hx=>?_,λb U e=>tups b U (I.base.tups b U e),λb o U e=>frzs b o U (I.base.frzs b o U e),λb ps e=>?_],?_,λx c e=>?_,?_,λx c e=>?_,λp hp=>?_,hok,I.len];{exact keep b o (A b o e) t (g b o e hx) (I.base.keep b o e n t hx) (I.base.free b o e n hx)};{exists D,E,I.base.slot b o e n t hx;exists S,B,slot b _ (A b o e) t (g b o e hx) E (I.base.free b o e n hx);exact#[S,B]};{exists y,E,I.base.there b o e hx;exact free b y (g b o e hx) E (I.base.free b o e n hx)};{exists y,E,I.base.there b o e hx;exact there b y (g b o e hx) E};{exists G,E,I.base.tbls b ps e;exists M,B,tbls b _ E;exact#[G++M,by rw[B,Array.append_assoc]]};{exists m,hn,J,I.loc;refine#[m,ns m hn,λi x v E B L=>?_];exists u,r,l,J i x v E B L;refine#[u,r,?_];rcases l with l|⟨k,c,e,z⟩;{exact .inl l};exact .inr #[k,c,e,C x c e _ z]};{exists v,z,I.cell x c e;exact#[v,C x c e v z]};{obtain⟨m,⟨o,_,_,ho,_⟩,_⟩:=I.loc;exact free _ o (λz=>(a _ z).2.1 rfl) ho I.free};{exists v,o,ho,hd,I.cell x c e;exact free c o (λz=>(a c z).2.2.1 x c e rfl) ho (I.freeC x c e)};exists e,n,ne,nf,d,I.pin p hp;have N:p.1∉ch:=λz=>(a p.1 z).2.2.2 p hp rfl;exact#[keep p.1 p.2 ne nf N e n,free p.1 p.2 N e n,ne,nf,d]
def Inv.un(I:Inv X O f H s)(u:Un X.fs [] H H' s.heap h')(hok:HOk X.prog X.w H' h'):Inv X O f H' {s with heap:=h',toks:=t'}:=by
 obtain⟨m,⟨o,es,ep,ho,r⟩,_⟩:=id I.loc;exists S,t,u.any ho I.free (by simp)
 exact I.step (g':=s.gens) (d':=s.drawn) (ch:=[]) (λ_ z=>nomatch z) (λb o _ d _ e n=>u.keep b o e n d (by simp)) (λb o _ d _ e n=>u.slot b o e n d (by simp)) (λb o _ e n=>u.free b o e n (by simp)) (λb o _ e=>u.there b o e (by simp)) u.tups u.frzs u.tbls (λM l=>by
  exists y,E,g,a,R,l;rw[ho]at a;cases a;exact#[_,E,g,t,R]) hok I.bare
def Inv.call{g':Array GenState}{d':Drawn}(I:Inv X O f H s)(u:Un (frs X.stack) ch H H' s.heap h')(hok:HOk X.prog X.w H' h')(A:AllBare g')(g:∀b∈ch,(b∈X.ex\/X.s₀.heap.objs.size<=b)/\b≠X.env.locals/\(∀x c,X.env.cells.lookup x=some c->c≠b)/\∀p∈X.pn++O,p.1≠b):Inv X O f H' {s with heap:=h',gens:=g',drawn:=d',toks:=t'}:=by
 obtain⟨m,⟨o,es,ep,ho,r⟩,_⟩:=id I.loc;exists S,l,u.any ho I.free λz=>(g _ z).2.1 rfl;exact I.step (ch:=ch) g (λb o l B a e n=>u.keep b o e n (λz=>(aXV.mp (I.stkSub b z)).elim l B) a) (λb o _ _ a e n=>u.any e n a) (λb o a e n=>u.free b o e n a) (λb o a e=>u.there b o e a) u.tups u.frzs u.tbls (λM y=>by
  exists C,E,t,d,R,y;rw[ho]at d;cases d;exact#[_,E,t,l,R]) hok A
def Inv.turned(I:Inv X O f H s)(k:∀b o,b≠it->s.heap.get? b=some o->h'.get? b=some o)(hn:H it=none)(d:it≠X.env.locals)(A:it∈X.ex\/X.s₀.heap.objs.size<=it)(y:∀x c,X.env.cells.lookup x=some c->c≠it)(t:∀p∈X.pn++O,p.1≠it):Inv X O f H {s with heap:=h',toks:=t'}:=by
 have N:∀b u,H b=some u->b≠it:=λb u e z=>by rw[z,hn]at e;cases e
 refine I.step (g':=s.gens) (d':=s.drawn) (ch:=[it]) (λb l=>?_) (λb o _ _ a e _=>k b o (λz=>a (by simp[z])) e) (λb o _ _ a e _=>#[o.slots,k b o (λz=>a (by simp[z])) e]) (λ_ _ _ _ n=>n)
  (λb o a e=>#[o,k b o (λz=>a (by simp[z])) e]) (λ_ _ e=>e) (λ_ _ _ e=>e) (λb ps e=>#[#[],by rw[e];simp]) (λm g=>?_) (λb u e=>?_) I.bare
 . (have e:b=it:=by simpa using l);subst e;exact#[A,d,y,t]
 . exists o,es,ep,ho,r,g;exact#[o,es,ep,k _ o (Ne.symm d) ho,r]
 . refine(I.hok b u e).stay (λc v a q=>k c v ?_ q) (λ_ q=>q) λ_ _ q=>q;rcases a with z|z;{rw[z];exact N b u e};exact N c _ z
def Inv.tok(I:Inv X O f H s)(t:Nat):Inv X O f H {s with toks:=t}:=I.un (h':=s.heap) (t':=t) Un.refl I.hok
theorem Inv.kept(I:Inv X O f H s)(k:∀b u,s.heap.get? b=some u->h'.get? b=some u):Inv X O f H {s with heap:=h',toks:=t'}:=I.un (Un.kept k) (I.hok.kept k)
theorem Inv.laid{a:Addr}{o:HO}(I:Inv X O f H s)(k:∀b u,s.heap.get? b=some u->h'.get? b=some u)(hp:s.heap.objs.size<=a)(new:bL X.prog X.w (upd H a o) h' a o):Inv X O f (upd H a o) {s with heap:=h',toks:=t'}:=I.un (Un.laid k hp (I.hok.fresh hp)) (I.hok.laid k hp new)
theorem Inv.write{x e:Addr}{o:HO}(I:Inv X O f H s)(mu:Mut (H x))(d:e=x\/H e=some (.own x))(k:∀b u,b≠e->s.heap.get? b=some u->h'.get? b=some u)(a:∃u,h'.get? e=some u)(new:bL X.prog X.w (upd H x o) h' x o):Inv X O f (upd H x o) {s with heap:=h',toks:=t'}:=I.un (Un.write mu d k a) (I.hok.write mu d k a new)
def Inv.weak{a:List (Option V)}(I:Inv X O f H s)(g:a.length=f.length)(w:∀(i:Nat) v,a[i]? = some (some v)->f[i]? = some (some v)):Inv X O a H s :=
 #[I.ok,I.os,I.bare,I.base,let⟨m,hn,d⟩:=I.loc;#[m,hn,λi x v o l E=>d i x v o (w i v l) E],I.cell,I.free,I.freeC,I.pin,I.hok,g.trans I.len]
def Inv.pins_of(I:Inv X O f H s)(h:∀p∈pins',s.heap.get? p.1=some p.2/\H p.1=none/\p.1≠X.env.locals/\p.1∉X.fs/\∀v,p.2.data ≠ .cell v):Inv X pins' f H s :=
 #[I.ok,I.os,I.bare,I.base,I.loc,I.cell,I.free,I.freeC,λp hp=>(aXW.mp hp).elim (λz=>I.pin p (aXX _ z)) (h p),I.hok,I.len]
def xU{N:List Str}(hN:N.Nodup)(a:N[i]? = some x)(b:N[j]? = some x):i=j:=by exists l,d,aXY.mp a;exists g,E,aXY.mp b;exact(aXZ hN).mp (d.trans E.symm)
def xV{M:Model}{A:a3J}{E:VSP}{Q:Unit->a3I->Prop}(I:Inv X O f H s)(hN:X.N.Nodup)(hi:X.N[i]? = some x)(hx:Loc X.env.scope x)(r:aG v u)(h:∀s',Inv X O (f.set i (some v)) H s'->(∃a,Heap.SameBut a s.heap s'.heap/\(a=X.env.locals\/X.env.cells.lookup x=some a))->Q () s')(hf:X.fn x=true\/X.env.scope.names.lookup x=some .local:=by first|exact .inl rfl|exact .inr rfl|assumption):wpAny M A (storeName X.env x u) Q E s:=by
 exists m,hn,hl,id I.loc;have L:(X.env.scope.kind == .class||(X.env.scope.kind == .module&&X.env.locals != X.env.globals))=false:=by rw[I.ok.kind];rfl
 have C:i<f.length:=by rw[I.len];exact(aXY.mp hi).1
 have cne:=I.cne;have t:∀{a:Addr}{h':Heap},(∃o,s.heap.get? a=some o/\H a=none)->Heap.SameBut a s.heap h'->HOk X.prog X.w H h':=λ{a h'} ha hs b ob e=>by exists _,_,dF,ha;refine(I.hok b ob e).stay (λc W l q=>(hs.2 c ?_).trans q) (λ_ q=>q) λ_ _ q=>q;rintro rfl;rcases l with rfl|l;{rw[dF]at e;cases e};rw[dF]at l;cases l
 rcases hx with hk|hk
 . refine wpAny_storeName_local hk hn (λh' ae hs=>?_) L;exists oL,_,_,aa,_,id hn;refine h _ #[I.ok,I.os,I.bare,#[λb o e n G hx=>?_,λb o e n G hx=>?_,I.base.free,λb o e hx=>?_,I.base.tups,I.base.frzs,I.base.tbls],#[_,ae,λj y V g B e3=>?_],λy c e=>?_,I.free,I.freeC,λp hp=>?_,t #[oL,aa,I.free] hs,by simpa using I.len] #[_,hs,.inl rfl];{exact(hs.2 b (aXO (aXM (aXL e) I.ok.above))).trans (I.base.keep b o e n G hx)};{exists Z,g,I.base.slot b o e n G hx;exact#[Z,(hs.2 b (aXO (aXM (aXL e) I.ok.above))).trans g]};{exists o',g,I.base.there b o e hx;exact#[o',(hs.2 b (aXO (aXM (aXL e) I.ok.above))).trans g]};{by_cases D:j=i;{subst D;rw[hi]at g;cases g;rw[aX0 C]at B;cases B;exact#[u,r,.inl #[hk,by simp]]};rw[aX1 (Ne.symm D)]at B;exists Y,r',q,hl j y V g B e3;refine#[Y,r',?_];rcases q with⟨k,e⟩|⟨k,c,e,z⟩;{refine .inl #[k,?_];have:y≠x:=λe=>D (xU hN g (e ▸ hi));simp[this,e]};exact .inr #[k,c,e,z.sameBut hs (cne y c e)]};{exists W,z,I.cell y c e;exact#[W,z.sameBut hs (cne y c e)]};exists e,n,ne,nf,d,I.pin p hp;exact#[(hs.2 p.1 ne).trans e,n,ne,nf,d]
 . have F:X.fn x=true:=by
     rcases hf with z|z
     . exact z
     . rw[z]at hk;cases hk
   exists c,l,I.ok.has x (.inl hk);exists W,z,I.cell x c l;refine wpAny_storeName_cell I.ok.kind hk l z (λh' S hs=>?_);exists oc,K,J,id z;refine h {s with heap:=h'} #[I.ok,I.os,I.bare,#[λb o e n G hx=>?_,λb o e n G hx=>?_,I.base.free,λb o e hx=>?_,I.base.tups,I.base.frzs,I.base.tbls],#[m,hn.sameBut hs (Ne.symm (cne x c l)),λj y V g B e3=>?_],λy T e=>?_,I.free,I.freeC,λp hp=>?_,t #[oc,K,I.freeC x c l] hs,by simpa using I.len] #[c,hs,.inr l]
   . exact(hs.2 b (aXO (aXM (aXL e) (I.ok.cab x c F l)))).trans (I.base.keep b o e n G hx)
   . exists Z,g,I.base.slot b o e n G hx;exact#[Z,(hs.2 b (aXO (aXM (aXL e) (I.ok.cab x c F l)))).trans g]
   . exists o',g,I.base.there b o e hx;exact#[o',(hs.2 b (aXO (aXM (aXL e) (I.ok.cab x c F l)))).trans g]
   . by_cases D:j=i;{subst D;rw[hi]at g;cases g;rw[aX0 C]at B;cases B;exact#[u,r,.inr #[.inl hk,c,l,S]]};rw[aX1 (Ne.symm D)]at B;exists Y,r',q,hl j y V g B e3;refine#[Y,r',?_];rcases q with q|⟨k,T,e,z'⟩;{exact .inl q};refine .inr #[k,T,e,z'.sameBut hs ?_];rintro rfl;exact D (xU hN g (I.ok.inj _ _ _ e l ▸ hi))
   . by_cases R:T=c;{subst R;exact#[_,S]};exists w2,z2,I.cell y T e;exact#[w2,z2.sameBut hs R]
   . exists e,n,ne,nf,d,I.pin p hp;refine#[(hs.2 p.1 ?_).trans e,n,ne,nf,d];intro q;rw[q,K]at e;have q':oc=p.2:=aX2 e;exact d W (by rw[<- q'];exact J)
def xW{M:Model}{A:a3J}{E:VSP}{Q:Unit->a3I->Prop}(I:Inv X O f H s)(hN:X.N.Nodup)(hi:X.N[i]? = some x)(hx:Loc X.env.scope x)(r:aG v u)(h:∀s',Inv X O (f.set i (some v)) H s'->Q () s')(hf:X.fn x=true\/X.env.scope.names.lookup x=some .local:=by first|exact .inl rfl|exact .inr rfl|assumption):wpAny M A (storeName X.env x u) Q E s :=
 xV I hN hi hx r (λs' a _=>h s' a) hf
def Inv.call'(I:Inv X O f H s)(ho:s'.os=s.os)(u:Un (frs X.stack) ch H H' s.heap s'.heap)(hok:HOk X.prog X.w H' s'.heap)(d:AllBare s'.gens)(a:∀b∈ch,(b∈X.ex\/X.s₀.heap.objs.size<=b)/\b≠X.env.locals/\(∀x c,X.env.cells.lookup x=some c->c≠b)/\∀p∈X.pn++O,p.1≠b):Inv X O f H' s':=by exists h',g',d',t',o,s';have e:o=s.os:=ho;subst e;exact I.call (g':=g') (t':=t') (d':=d') u hok d a
end
abbrev XK:=a3H->Option Addr->Hp->Prop
abbrev St:=List (Option V)
abbrev VK:=V->Hp->Prop
abbrev TE:=St->Hp->VK->Prop
abbrev TT:=St->Hp->(Bool->Hp->Prop)->Prop
abbrev TA:=St->Hp->(List V->Hp->Prop)->Prop
end L2
variable{σ:L2.St}{ta te tl tv td:L2.TE}{tt:L2.TT}
namespace L2
structure gJ where
 nx:St->Hp->Prop
 rt:VK
 bk:St->Hp->Prop:=λ_ _=>False
 ct:St->Hp->Prop:=λ_ _=>False
abbrev TS:=gJ->St->Hp->Prop
def EP(X:Cx)(O:LAO)(σ:St)(Q:VK)(u:a3H)(s':a3I):Prop:=∃v H',Inv X O σ H' s'/\aG v u/\Q v H'
def TP(X:Cx)(O:LAO)(σ:St)(Q:Bool->Hp->Prop)(b:Bool)(s':a3I):Prop:=∃H',Inv X O σ H' s'/\Q b H'
def AP(X:Cx)(O:LAO)(σ:St)(Q:List V->Hp->Prop)(us:List a3H)(s':a3I):Prop:=∃vs H',Inv X O σ H' s'/\aM vs us/\Q vs H'
def SP(X:Cx)(O:LAO)(D:gJ)(f:Flow)(s':a3I):Prop :=
 match f with|.next=>∃a H',Inv X O a H' s'/\D.nx a H'|.brk=>∃a H',Inv X O a H' s'/\D.bk a H'|.cont=>∃a H',Inv X O a H' s'/\D.ct a H'|.ret u=>∃v a H',Inv X O a H' s'/\aG v u/\D.rt v H'
def PE(X:Cx)(e:Expr)(t:TE):Prop :=
 ∀(O:LAO) (s:a3I) (σ:St) (H:Hp) (Q:VK),Inv X O σ H s->t σ H Q->wpAny (model X.prog X.w) X.A (eval e X.env) (EP X O σ Q) X.xe s
def PT(X:Cx)(e:Expr)(t:TT):Prop :=
 ∀(O:LAO) (s:a3I) (σ:St) (H:Hp) (Q:Bool->Hp->Prop),Inv X O σ H s->t σ H Q->wpAny (model X.prog X.w) X.A (isTrue e X.env (eval e X.env)) (TP X O σ Q) X.xe s
def PW(X:Cx)(e:Expr)(t:TT):Prop :=
 ∀(dA:Sem a3H) (O:LAO) (s:a3I) (σ:St) (H:Hp) (Q:Bool->Hp->Prop),Inv X O σ H s->t σ H Q->wpAny (model X.prog X.w) X.A (isTrue e X.env dA) (TP X O σ Q) X.xe s
def PW.pt{t:TT}(h:PW X e t):PT X e t:=h _
def PA(X:Cx)(es:List Expr)(t:TA):Prop :=
 ∀(pos:Pos) (O:LAO) (s:a3I) (σ:St) (H:Hp) (Q:List V->Hp->Prop),Inv X O σ H s->t σ H Q->wpAny (model X.prog X.w) X.A (spliced (backTo pos (starEach es X.env))) (AP X O σ Q) X.xe s
def PS(X:Cx)(st:Stmt)(t:TS):Prop :=
 ∀(O:LAO) (s:a3I) (σ:St) (H:Hp) (D:gJ),Inv X O σ H s->t D σ H->wpAny (model X.prog X.w) X.A (exec st X.env) (SP X O D) X.xe s
def PSs(X:Cx)(st:List Stmt)(t:TS):Prop :=
 ∀(O:LAO) (s:a3I) (σ:St) (H:Hp) (D:gJ),Inv X O σ H s->t D σ H->wpAny (model X.prog X.w) X.A (execs st X.env) (SP X O D) X.xe s
def thn{t:Sem α}{Q d:α->a3I->Prop}{M:Model}{A:a3J}{E:VSP}(h:wpAny M A t Q E s)(f:∀a s,Q a s->d a s):wpAny M A t d E s:=aX3 h f λ_ _ x=>x
section
def fR(i:Nat):TE:=λσ H Q=>∃v,σ[i]? = some (some v)/\Q v H
def tC(v:V):TE:=λ_ H Q=>Q v H
def iF(hN:X.N[i]? = some x)(d:Vis X.env.scope x)(hd:(x==("__debug__":Str))=false:=by decide)(a:(x==("__classdict__":Str))=false:=by decide):PE X (.Name x pos) (fR i):=by intro O s σ H Q I h;exists v,e,h,h;exists m,hn,g,I.loc;exists u,r,l,g i x v hN e d;have f:EP X O σ Q u s:=#[v,H,I,r,h];rcases l with⟨hk,hm⟩|⟨hk,c,hc,cO⟩;{exact wpAny_Name (wpAny_loadName_local I.ok.kind hk hn hm f) hd};rcases hk with hk|hk;{exact wpAny_Name (wpAny_loadName_cell I.ok.kind hk hc cO f) hd};exact wpAny_Name (wpAny_loadName_free I.ok.kind hk hc cO f a) hd
def aIB{i j pos:_}:PE X (.Constant (.int i) j pos) (tC (.int i)):=λ_ _ _ H _ I h=>wpAny_Constant_int #[.int i,H,I.tok _,#[_,rfl],h]
def pe_bl{b j pos:_}:PE X (.Constant (.bool b) j pos) (tC (.bl b)):=λ_ _ _ H _ I h=>Constant_bool #[.bl b,H,I,rfl,h]
def aIC{j pos:_}:PE X (.Constant .none j pos) (tC .non):=λ_ _ _ H _ I h=>Constant_none #[.non,H,I,rfl,h]
def aID{x j pos:_}:PE X (.Constant (.str x) j pos) (tC (.str x)):=λ_ _ _ H _ I h=>Calls.Constant_str #[.str x,H,I.tok _,#[_,rfl],h]
def Gl(X:Cx)(x:Str):Prop:=X.env.kindOf x=some .globalImplicit
def mX{E:VSP}{σ:St}(I:Inv X O σ H s)(d:Gl X x)(a:X.mg x=some u)(h:Q u s)(hd:(x==("__debug__":Str))=false:=by decide):wpAny (model X.prog X.w) X.A (eval (.Name x pos) X.env) Q E s:=
 Calls.Name_function_global I.ok.kind d (Calls.loadGlobal_global (by rw[I.ok.glob];exact I.mod.glob.keeps I.bk) a h) hd
def jS{E:VSP}{σ:St}(I:Inv X O σ H s)(f:Gl X x)(d:X.mg x=none)(a:bootBuiltins x=some u)(h:Q u s)(hn:x ≠ "__name__":=by decide)(hd:(x==("__debug__":Str))=false:=by decide):wpAny (model X.prog X.w) X.A (eval (.Name x pos) X.env) Q E s:=by exists m,l,g,I.mod.blt;exact Calls.Name_function_global I.ok.kind f (Calls.loadGlobal_builtin (by rw[I.ok.glob];exact I.mod.glob.keeps I.bk) d (by rw[I.ok.blt];exact l.keeps I.bk) ((g x hn).trans a) h) hd
def sO(d:Gl X x)(a:X.mg x=some u)(r:aG v u)(hd:(x==("__debug__":Str))=false:=by decide):PE X (.Name x pos) (tC v):=
 λ_ _ _ H _ I h=>mX I d a #[v,H,I,r,h] hd
def aIE(f:Gl X x)(d:X.mg x=none)(a:bootBuiltins x=some u)(r:aG v u)(hn:x ≠ "__name__":=by decide)(hd:(x==("__debug__":Str))=false:=by decide):PE X (.Name x pos) (tC v):=
 λ_ _ _ H _ I h=>jS I f d a #[v,H,I,r,h] hn hd
variable{a b:Expr}{tb:TE}
variable{d f:TT}{rest:List Expr}
def sP(t u:TT):TT:=λσ H Q=>t σ H λc H1=>if c=true then u σ H1 Q else Q false H1
def tOr(t u:TT):TT:=λσ H Q=>t σ H λc H1=>if c=true then Q true H1 else u σ H1 Q
def tNot(t:TT):TT:=λσ H Q=>t σ H λc H1=>Q (!c) H1
def aIF(ha:PT X a d):PW X (.BoolOp .And [a] pos) d:=by intro W O s σ H Q I h;refine isTrue_and (thn (ha O s σ H Q I h) λc S e=>?_);cases c with|true=>exact isTrue_and_nil e|false=>exact e
def aIG(ha:PT X a d):PW X (.BoolOp .Or [a] pos) d:=by intro W O s σ H Q I h;refine isTrue_or (thn (ha O s σ H Q I h) λc S e=>?_);cases c with|false=>exact isTrue_or_nil e|true=>exact e
def aIH(ha:PT X a d)(l:PW X (.BoolOp .And (b::rest) pos) f):PW X (.BoolOp .And (a::b::rest) pos) (sP d f):=by intro W O s σ H Q I h;refine isTrue_and (thn (ha O s σ H _ I h) λc S ⟨H1,g,q1⟩=>?_);cases c with|true=>exact l W O S σ H1 Q g q1|false=>exact#[H1,g,q1]
def pw_or(ha:PT X a d)(l:PW X (.BoolOp .Or (b::rest) pos) f):PW X (.BoolOp .Or (a::b::rest) pos) (tOr d f):=by intro W O s σ H Q I h;refine isTrue_or (thn (ha O s σ H _ I h) λc S ⟨H1,g,q1⟩=>?_);cases c with|true=>exact#[H1,g,q1]|false=>exact l W O S σ H1 Q g q1
def aII(ha:PT X a d):PT X (.UnaryOp .Not a pos) (tNot d):=by intro O s σ H Q I h;exact isTrue_not (ha O s σ H (λc H1=>Q (!c) H1) I h)
def xX(ta tb:TE):TE:=λσ H Q=>ta σ H λx H1=>∃c,x=.bl c/\if c=true then tb σ H1 Q else Q (.bl false) H1
def tOrV(ta tb:TE):TE:=λσ H Q=>ta σ H λx H1=>∃c,x=.bl c/\if c=true then Q (.bl true) H1 else tb σ H1 Q
def xY(ta:TE):TE:=λσ H Q=>ta σ H λx H1=>∃c,x=.bl c/\Q (.bl (!c)) H1
def aIJ{op}{t:TE}(h:PE X a t):PE X (.BoolOp op [a] pos) t:=λO s σ H Q I g=>BoolOp_one (h O s σ H Q I g)
def aIK(ha:PE X a ta)(l:PE X (.BoolOp .And (b::rest) pos) tb):PE X (.BoolOp .And (a::b::rest) pos) (xX ta tb):=by intro O s σ H Q I h;refine BoolOp_and (thn (ha O s σ H _ I h) λv S ⟨x,H1,g,r,q1⟩=>?_);exists c,rfl,q1,q1;cases r;refine aX4 ?_;cases c with|true=>exact l O S σ H1 Q g q1|false=>exact#[.bl false,H1,g,rfl,q1]
def pe_or(ha:PE X a ta)(l:PE X (.BoolOp .Or (b::rest) pos) tb):PE X (.BoolOp .Or (a::b::rest) pos) (tOrV ta tb):=by intro O s σ H Q I h;refine BoolOp_or (thn (ha O s σ H _ I h) λv S ⟨x,H1,g,r,q1⟩=>?_);exists c,rfl,q1,q1;cases r;refine aX4 ?_;cases c with|false=>exact l O S σ H1 Q g q1|true=>exact#[.bl true,H1,g,rfl,q1]
def aIL(ha:PE X a ta):PE X (.UnaryOp .Not a pos) (xY ta):=by intro O s σ H Q I h;refine UnaryOp_ (thn (ha O s σ H _ I h) λv S ⟨x,H1,g,r,q1⟩=>?_);exists c,rfl,q1,q1;cases r;exact not_of (aX4 #[.bl (!c),H1,g,rfl,q1])
end
def SqL(K:Fg)(H:Hp)(a:Addr)(U:List V):Prop :=
 Rd H a (.lst U) \/
  ∃(o:Obj) (its:Array a3H) (n:Nat),K.lookup a=some o/\o.cls=.type "list" /\ o.dict=none/\o.data=.seq its n/\its.size<=sizeLine/\aM U its.toList
def SqT(K:Fg)(H:Hp)(a:Addr)(U:List V):Prop :=
 Rd H a (.tup U) \/
  ∃(o:Obj) (its:Array a3H) (n:Nat),K.lookup a=some o/\o.cls=.type "tuple" /\ o.dict=none/\o.data=.seq its n/\its.size<=sizeLine/\aM U its.toList
def absV:a3H->Option V|.none=>some .non|.bool b=>some (.bl b)|.int i _=>some (.int i)|.str x _=>some (.str x)|.bytes b _=>some (.byt b)|.float b _=>some (.flt b)|.ref a=>some (.ref a)|.type n=>some (.ty n)|_=>none
def aG.abs{x:V}(r:aG x u):absV u=some x:=by cases x with|non|bl _=>cases r;rfl|int _|str _|byt _|flt _=>exists t,rfl,r;rfl|ref _|ty _=>cases r;rfl
def aG.inj{x y:V}(r:aG x u)(q:aG y u):x=y:=aX2 (r.abs.symm.trans q.abs)
theorem aM.inj:∀{U ys:List V}{us:List a3H},aM U us->aM ys us->U=ys|_,_,_,.nil,.nil=>rfl|_,_,_,.cons r t,.cons R t'=>by rw[r.inj R,aM.inj t t']
section
variable{σ:St}{a:Addr}
def SqL.of{K:Fg}(h:H a=some (.lst U)):SqL K H a U:=.inl (.inl h)
def SqT.of{K:Fg}(h:H a=some (.tup U)):SqT K H a U:=.inl (.inl h)
theorem Inv.list(I:Inv X O σ H s)(h:SqL X.K H a U):∃its:List a3H,aM U its/\PlainL s.heap a its.toArray/\U.length<=sizeLine:=by rcases h with h|⟨o,its,n,hk,hc,hd,hs,hz,r⟩;{exists z,its,n,r,e,h.ok I.hok;exact#[its,r,#[_,n,e,rfl,rfl,rfl],z]};refine#[its.toList,r,#[o,n,I.kIn a o hk,hc,hd,by simpa using hs],?_];have e:=r.length;simp only[aX5]at e;lia
theorem Inv.tuple(I:Inv X O σ H s)(h:SqT X.K H a U):∃its:List a3H,aM U its/\IsTup s.heap a its.toArray/\U.length<=sizeLine:=by rcases h with h|⟨o,its,n,hk,hc,hdt,hs,hz,r⟩;{exists z,its,r,p,h.ok I.hok;exact#[its,r,p.isTup,z]};refine#[its.toList,r,#[o,I.kIn a o hk,hc,n,by simpa using hs],?_];have e:=r.length;simp only[aX5]at e;lia
def Inv.list_inj(I:Inv X O σ H s)(h:SqL X.K H a U)(h':SqL X.K H a ys):U=ys:=by obtain⟨its,r,⟨o,n,e,_,_,d⟩,_⟩:=I.list h;obtain⟨f,R,⟨l,N,E,_,_,D⟩,_⟩:=I.list h';rw[e]at E;cases E;rw[d]at D;injection D with g _;(have:its=f:=by simpa using congrArg Array.toList g);subst this;exact r.inj R
def Inv.tuple_inj(I:Inv X O σ H s)(h:SqT X.K H a U)(h':SqT X.K H a ys):U=ys:=by obtain⟨its,r,⟨o,e,_,n,d⟩,_⟩:=I.tuple h;obtain⟨f,R,⟨l,E,_,N,D⟩,_⟩:=I.tuple h';rw[e]at E;cases E;rw[d]at D;injection D with g _;(have:its=f:=by simpa using congrArg Array.toList g);subst this;exact r.inj R
end
abbrev Cx.wish(X:Cx)(E:VSP):Cx:={X with xe:=E}
section
variable{rest:List Stmt}{t u:TS}
def tNext:TS:=λD σ H=>D.nx σ H
def tSeq(t u:TS):TS:=λD σ H=>t {D with nx:=u D} σ H
def aIM:PSs X [] tNext:=λ_ _ σ H _ I h=>aX6 #[σ,H,I,h]
def sQ(g:PS X st t)(d:PSs X rest u):PSs X (st::rest) (tSeq t u):=by intro O s σ H D I h;refine wpAny_execs_cons (thn (g O s σ H {D with nx:=u D} I h) λf S q=>?_);cases f with|next=>exists a,H',l,q,q;exact d O S a H' D l q|ret v|brk|cont=>exact q
def sR(a:PS X st t):PSs X [st] t:=by intro O s σ H D I h;refine wpAny_execs_cons (thn (a O s σ H D I h) λf S q=>?_);cases f with|next=>exact aX6 q|ret v|brk|cont=>exact q
def Inv.quiet{σ:St}(I:Inv X O σ H s):interactive X.env=false:=by simp[interactive,I.ok.kind]
def sS(te:TE):TS:=λD σ H=>te σ H λ_ H1=>D.nx σ H1
def oS(a:PE X e te)(hs:swapsWith e none pos.line X.env=pure false:=by rfl):PS X (.Expr e pos) (sS te):=by intro O s σ H D I h;exact wpAny_Expr_any (thn (a O s σ H _ I h) λv S ⟨x,H1,d,r,q1⟩=>#[σ,H1,d,q1]) I.quiet hs
def tRet(te:TE):TS:=λD σ H=>te σ H D.rt
def xZ(a:PE X e te):PS X (.Return (some e) pos) (tRet te):=by intro O s σ H D I h;exact wpAny_Return_some (thn (a O s σ H _ I h) λv S ⟨x,H1,d,r,q1⟩=>#[x,σ,H1,d,r,q1])
def tIfS(c:TT)(t u:TS):TS:=λD σ H=>c σ H λb H1=>if b=true then t D σ H1 else u D σ H1
def yA{a b:List Stmt}{T:TT}(g:PT X c T)(ha:PSs X a t)(l:PSs X b u):PS X (.If c a b pos) (tIfS T t u):=by intro O s σ H D I h;refine wpAny_If (thn (g O s σ H _ I h) λd S ⟨H1,f,q1⟩=>?_);cases d with|true=>exact ha O S σ H1 D f q1|false=>exact l O S σ H1 D f q1
end
abbrev TG:=V->St->Hp->(St->Hp->Prop)->Prop
abbrev TGs:=List V->St->Hp->(St->Hp->Prop)->Prop
def PG(X:Cx)(T:Expr)(t:TG):Prop :=
 ∀(O:LAO) (s:a3I) (σ:St) (H:Hp) (v:V) (u:a3H) (Q:St->Hp->Prop),Inv X O σ H s->aG v u->t v σ H Q ->
  wpAny (model X.prog X.w) X.A (assign T X.env u) (λ_ s'=>∃a H',Inv X O a H' s'/\Q a H') X.xe s
def PGs(X:Cx)(ts:List Expr)(t:TGs):Prop :=
 ∀(O:LAO) (s:a3I) (σ:St) (H:Hp) (vs:List V) (us:List a3H) (Q:St->Hp->Prop),Inv X O σ H s->aM vs us->t vs σ H Q ->
  wpAny (model X.prog X.w) X.A (assignInOrder ((assignEach ts X.env).map (·.2)) us) (λ_ s'=>∃a H',Inv X O a H' s'/\Q a H') X.xe s
abbrev TSet:=V->V->V->Hp->(Hp->Prop)->Prop
def PSet(X:Cx)(t:TSet):Prop :=
 ∀(O:LAO) (s:a3I) (σ:St) (H:Hp) (o i v:V) (a d u:a3H) (Q:Hp->Prop),Inv X O σ H s->aG o a->aG i d->aG v u->t o i v H Q ->
  wpAny (model X.prog X.w) X.A (setItem a d u) (λ_ s'=>∃H',Inv X O σ H' s'/\Q H') X.xe s
def mY(i:Nat):TG:=λv σ H Q=>Q (σ.set i (some v)) H
def aIN(hN:X.N.Nodup)(hi:X.N[i]? = some x)(hx:Loc X.env.scope x)(hf:X.fn x=true\/X.env.scope.names.lookup x=some .local:=by first|exact .inl rfl|exact .inr rfl|assumption):PG X (.Name x pos) (mY i):=by intro O s σ H v u Q I r h;exact wpAny_assign_Name (xW I hN hi hx r (λs' a=>#[_,H,a,h]) hf)
def gNil:TGs:=λvs σ H Q=>vs=[]/\Q σ H
def yB(t:TG)(u:TGs):TGs:=λvs σ H Q=>∃v r,vs=v::r/\t v σ H λa H'=>u r a H' Q
def aIO:PGs X [] gNil:=by intro O s σ H vs us Q I r h;exists e,h,h;subst e;cases r;exact assignInOrder_nil #[σ,H,I,h]
def aIP{es:List Expr}{t:TG}{u:TGs}(f:PG X e t)(d:PGs X es u)(hs:(assignEach (e::es) X.env).map (·.2)=assign e X.env::(assignEach es X.env).map (·.2):=by rfl):PGs X (e::es) (yB t u):=by intro O s σ H vs us Q I r h;exists v,V,E,h,h;subst E;cases r with|cons r R=>rw[hs];refine assignInOrder_cons (thn (f O s σ H _ _ _ I r h) λ_ S ⟨a,H1,g,q1⟩=>?_);exact d O S a H1 _ _ Q g R q1
def gTup(K:Fg)(n:Nat)(t:TGs):TG:=λv σ H Q=>∃a U,v=.ref a/\SqT K H a U/\U.length=n/\t U σ H Q
def aIQ{es:List Expr}{t:TGs}(y:X.calm=true)(h:PGs X es t)(hn:(assignEach es X.env).length=n:=by rfl)(f:(assignEach es X.env).findIdx? (·.1)=none:=by rfl):PG X (.Tuple es k pos) (gTup X.K n t):=by intro O s σ H v u Q I r d;exists a,U,E,l,m,d,d;subst E;cases r;exists its,R,g,B,I.tuple l;refine assign_Tuple_tuple (I.ok.hd y) g (by simp[hn,<- m,R.length]) f λh' hx=>?_;have A:Inv X O σ H {s with heap:=h'}:=I.kept (t':=s.toks) λb o e=>hx b o (aXO (aXL e)) e;exact h O _ σ H U _ Q A (by simpa using R) d
def mZ(te:TE)(g:TG):TS:=λD σ H=>te σ H λx H1=>g x σ H1 D.nx
def aIR{g:TG}(f:PE X e te)(d:PG X tg g)(hs:swapsWithSole [tg] e pos.line X.env=pure false:=by rfl)(a:swappedStores [tg] e X.env=pure none:=by rfl)(l:(assignEach [tg] X.env).map (·.2)=[assign tg X.env]:=by rfl):PS X (.Assign [tg] e pos) (mZ te g):=by intro O s σ H D I h;refine wpAny_Assign_stores (thn (f O s σ H _ I h) λv S ⟨x,H1,m,r,q1⟩=>?_) hs a;rw[l];exact thn (d O S σ H1 x v _ m r q1) λ_ o q=>q
def yC(hN:X.N.Nodup)(hi:X.N[i]? = some x)(hx:Loc X.env.scope x)(a:PE X e te)(hs:swapsWith e (some (.Name x pos')) pos.line X.env=pure false:=by rfl)(hf:X.fn x=true\/X.env.scope.names.lookup x=some .local:=by first|exact .inl rfl|exact .inr rfl|assumption):PS X (.Assign [.Name x pos'] e pos) (mZ te (mY i)):=by intro O s σ H D I h;refine wpAny_Assign_Name (thn (a O s σ H _ I h) λv g ⟨y,H1,f,r,q1⟩=>?_) hs;exact xW f hN hi hx r (λS d=>#[_,H1,d,q1]) hf
def aIS(c:TT)(tb:TS):TS:=λD σ H=>∃W:Nat->St->Hp->Prop,(∃m,W m σ H)/\∀m σ H,W m σ H ->
 c σ H λb H1=>if b=true then ∃N:St->Hp->Prop,(∀a H',N a H'->∃M,M<m/\W M a H')/\tb {D with nx:=N,ct:=N,bk:=D.nx} σ H1 else D.nx σ H1
def aIT{t:TT}{tb:TS}(hp:PassesOwn (model X.prog X.w) X.A X.env X.xe)(F:PT X c t)(G:PSs X body tb):PS X (.While c body [] pos) (aIS t tb):=by
 intro O s σ H D I h;obtain⟨W,⟨M,B⟩,turn⟩:=h;refine wpAny_While (codeAny_whileLoop (λn s'=>∃d H',Inv X O d H' s'/\W n d H') ?_ M #[σ,H,I,B]);rintro n s1 ⟨σ1,H1,I1,w1⟩;refine aX7 hp (thn (F O s1 σ1 H1 _ I1 (turn n σ1 H1 w1)) λb S ⟨r,m,g⟩=>?_);cases b with
 |true=>exists N,hN,g,g;rw[al rfl];refine aX7 hp (thn (G O S σ1 r _ m g) λf K l=>?_);cases f with|next|cont=>exists a,o,J,n3,l;exists C,E,y,hN a o n3;exact#[C,E,a,o,J,y]|brk|ret v=>exact l
 |false=>rw[aK aX8];exact aX6 #[σ1,r,m,g]
structure It where
 go:Nat->Hp->Prop
 yld:Nat->Hp->V->Hp->Prop
 stop:Nat->Hp->Prop
def cX(X:Cx)(O:LAO)(H:Hp)(b:Addr):Prop :=
 H b=none/\b≠X.env.locals/\b∉X.fs/\(b∈X.ex\/X.s₀.heap.objs.size<=b)/\(∀x c,X.env.cells.lookup x=some c->c≠b)/\∀p∈X.pn++O,p.1≠b
def Inv.fpOk{σ:St}(I:Inv X O σ H s)(a:s.heap.objs.size<=b)(hn:H' b=none):cX X O H' b:=by refine#[hn,aX9 (aXM I.lt a),I.nofs a,.inr (aXS I.sz a),λx c e z=>?_,λp hp z=>?_];{exists v,q,I.cell x c e;exact absurd (aXM q.lt (by rw[z];exact a)) (aXN _)};exact absurd (aXM (aXL (I.pin p hp).1) (by rw[z];exact a)) (aXN _)
structure gU(P:a3L)(w:a3K)(K:Fg)(tg:Expr)(J:It)(fp:List Addr)(it:Addr)(tn:Nat->Heap->Prop):Prop where
 mem:it∈fp
 obj:∀i h,tn i h->∀b∈fp,∃o,h.get? b=some o/\∀v,o.data ≠ .cell v
 keep:∀i h h',tn i h->(∀b∈fp,∀o,h.get? b=some o->h'.get? b=some o)->tn i h'
 item:∀(X:Cx),X.prog=P->X.w=w->X.K=K->X.calm=true->∀(i:Nat) (O:LAO) (s:a3I) (σ:St) (H:Hp) (E:VSP),Inv X O σ H s->(∀b∈fp,cX X O H b)->tn i s.heap->J.go i H ->
  wpAny (model P w) X.A (pyNext (.ref it)) (λr s1=>∃u,r=some u /\
   wpAny (model P w) X.A (letOwnedTupleGo tg (.ref it) u) (λ_ s2=>∃x H',Inv X O σ H' s2/\aG x u/\J.yld i H x H'/\tn (i+1) s2.heap/\∀b∈fp,H' b=none) E s1) E s
 done:∀(X:Cx),X.prog=P->X.w=w->X.K=K->X.calm=true->∀(i:Nat) (O:LAO) (s:a3I) (σ:St) (H:Hp) (E:VSP),Inv X O σ H s->(∀b∈fp,cX X O H b)->tn i s.heap->J.stop i H ->
  wpAny (model P w) X.A (pyNext (.ref it)) (λr s1=>r=none/\Inv X O σ H s1) E s
 self:∀(A:a3J) (i:Nat) (s:a3I) (Q:VSP) (E:VSP),tn i s.heap->Q (.ref it) s->wpAny (model P w) A (pyIter (.ref it)) Q E s
abbrev TI:=St->Hp->(It->Hp->Prop)->Prop
def PIE(X:Cx)(O:LAO)(σ:St)(tg:Expr)(R:It->Hp->Prop)(a:a3H)(S:a3I):Prop :=
 ∃(it:Addr) (fp:List Addr) (tn:Nat->Heap->Prop) (J:It) (H':Hp),a=.ref it/\Inv X O σ H' S/\gU X.prog X.w X.K tg J fp it tn/\tn 0 S.heap/\(∀b∈fp,cX X O H' b)/\R J H'
def PI(X:Cx)(tg iter:Expr)(W:TI):Prop :=
 ∀(O:LAO) (s:a3I) (σ:St) (H:Hp) (R:It->Hp->Prop),Inv X O σ H s->W σ H R ->
  wpAny (model X.prog X.w) X.A (eval iter X.env) (λv S=>wpAny (model X.prog X.w) X.A (pyIter v) (PIE X O σ tg R) X.xe S) X.xe s
def k7{M:Model}{A:a3J}{E:VSP}{o:Obj}{n:String}{vs:Array a3H}{Q:Unit->a3I->Prop}(ho:s.heap.get? it=some o)(d:o.cls=.type n)(hd:o.data=.fields vs)(hn:["enumerate","zip","dict_itemiterator","dict_reverseitemiterator","odict_iterator","itertools.zip_longest","itertools.pairwise"].contains n=false)(a:Q () s):wpAny M A (letOwnedTupleGo tg (.ref it) u) Q E s:=by
 unfold letOwnedTupleGo;cases tg <;> first
  |exact aYA a
  | (cases u <;> first
      |exact aYA a
      | (refine aYB (wpAny_load ho ?_)
         rw[d,hd];show wpAny M A (if(["enumerate","zip","dict_itemiterator","dict_reverseitemiterator","odict_iterator","itertools.zip_longest","itertools.pairwise"].contains n&&vs[0]?==some (rawInt _))=true then _ else _) Q E s;rw[aK (by intro h;rw[hn,Bool.false_and]at h;cases h)]
         exact aYA a))
def Itl(K:Fg)(a:Addr):It :=
 #[λi H=>∃U x,SqL K H a U/\U[i]? = some x,λi H x H'=>H'=H/\∀U,SqL K H a U->U[i]? = some x,λi H=>∃U,SqL K H a U/\U.length<=i]
def Itt(K:Fg)(a:Addr):It :=
 #[λi H=>∃U x,SqT K H a U/\U[i]? = some x,λi H x H'=>H'=H/\∀U,SqT K H a U->U[i]? = some x,λi H=>∃U,SqT K H a U/\U.length<=i]
def Itr(lo:Int)(n:Nat):It:=#[λi _=>i<n,λi H x H'=>H'=H/\x=.int (lo+i),λi _=>n<=i]
end L2
variable{wi:L2.TI}{gt:L2.TG}
namespace L2
theorem aIU{K:Fg}(a it:Addr):gU P w K tg (Itl K a) [it] it (λi h=>h.IsListIter it a i) where
 mem:=by simp
 obj:=λi h st b f=>by(have e:b=it:=by simpa using f);subst e;exists o,e,c,d,st;exact#[o,e,λv z=>by rw[d]at z;cases z]
 keep:=λi h h' st k=>st.at λo e=>k it (by simp) o e
 item:=by intro X m l t A i O s σ H E I hf st hg;subst m l t;exists U,x,g,hx,hg;exists its,r,p,C,I.list g;exists u,G,R,r.get hx;exists f0,f1,f2,f3,y,F,hf it (by simp);refine wpAny_pyNext_list_item st p.isList (x:=u) (by simpa using G) λh' S B=>?_;have L:Inv X O σ H {s with heap:=h'}:=I.turned (t':=s.toks) (λb o f e=>(B.2 b f).trans e) f0 f1 f3 y F;exists o,e,c,d,id S;exact#[u,rfl,k7 (s:={s with heap:=h'}) e c d (by decide) #[x,H,L,R,#[rfl,λys D=>by rw[I.list_inj D g];exact hx],S,λb f=>(hf b f).1]]
 done:=by intro X m l t A i O s σ H E I hf st hg;subst m l t;exists U,g,hx,hg;exists its,r,p,C,I.list g;exists f0,f1,f2,f3,y,F,hf it (by simp);have M:=r.length;exact wpAny_pyNext_list_end (I.ok.hd A) st p.isList (by simp;lia) λh' J=>#[rfl,I.turned (t':=s.toks) (λb o f e=>J b o f e) f0 f1 f3 y F]
 self:=λ_ _ _ _ _ st h=>wpAny_pyIter_listiter st h
theorem aIV{K:Fg}(a it:Addr):gU P w K tg (Itt K a) [it] it (λi h=>h.IsTupleIter it a i) where
 mem:=by simp
 obj:=λi h st b f=>by(have e:b=it:=by simpa using f);subst e;exists o,e,c,d,st;exact#[o,e,λv z=>by rw[d]at z;cases z]
 keep:=λi h h' st k=>st.at λo e=>k it (by simp) o e
 item:=by intro X m l t A i O s σ H E I hf st hg;subst m l t;exists U,x,g,hx,hg;exists its,r,p,C,I.tuple g;exists u,G,R,r.get hx;exists f0,f1,f2,f3,y,F,hf it (by simp);refine wpAny_pyNext_tuple_item st (show s.heap.IsTuple a its.toArray from p) (x:=u) (by simpa using G) λh' S B=>?_;have L:Inv X O σ H {s with heap:=h'}:=I.turned (t':=s.toks) (λb o f e=>(B.2 b f).trans e) f0 f1 f3 y F;exists o,e,c,d,id S;exact#[u,rfl,k7 (s:={s with heap:=h'}) e c d (by decide) #[x,H,L,R,#[rfl,λys D=>by rw[I.tuple_inj D g];exact hx],S,λb f=>(hf b f).1]]
 done:=by intro X m l t A i O s σ H E I hf st hg;subst m l t;exists U,g,hx,hg;exists its,r,p,C,I.tuple g;exists f0,f1,f2,f3,y,F,hf it (by simp);have M:=r.length;exact wpAny_pyNext_tuple_end (I.ok.hd A) st (show s.heap.IsTuple a its.toArray from p) (by simp;lia) λh' J=>#[rfl,I.turned (t':=s.toks) (λb o f e=>J b o f e) f0 f1 f3 y F]
 self:=λ_ _ _ _ _ st h=>wpAny_pyIter_tupleiter st h
theorem aIW{K:Fg}(it:Addr)(lo:Int)(n:Nat):gU P w K tg (Itr lo n) [it] it (λi h=>IsRangeIter h it (lo+(i:Nat) * 1) ((n:Int)-(i:Nat)) 1) where
 mem:=by simp
 obj:=λi h st b a=>by
  have e:b=it:=by simpa using a
  subst e;exact#[_,st,λv z=>by
   have Z:Data.fields _=Data.cell v:=z;cases Z]
 keep:=λi h h' st k=>k it (by simp) _ st
 item:=by intro X g d l f i O s σ H E I hf st hg;subst g d l;exists f0,f1,f2,f3,m,F,hf it (by simp);have W:=Walks.range (prog:=X.prog) (w:=X.w) (I.ok.hd f) it lo 1 n;refine W.item i s _ _ hg st λv h' tk r S kk=>?_;exists t,rfl,r;have A:Inv X O σ H {s with heap:=h',toks:=tk}:=I.turned (λb o a e=>kk b o (by simpa using a) e) f0 f1 f3 m F;refine#[_,rfl,k7 (s:={s with heap:=h',toks:=tk}) (n:="range_iterator") S rfl rfl (by decide) #[.int (lo+i),H,A,#[t,?_],#[rfl,rfl],S,λb a=>(hf b a).1]];rw[Int.mul_one]
 done:=by intro X g d l f i O s σ H E I hf st hg;subst g d l;exists f0,f1,f2,f3,m,F,hf it (by simp);exact wpAny_pyNext_range_end (I.ok.hd f) st (by have:n<=i:=hg;lia) λh' y=>#[rfl,I.turned (t':=s.toks) (λb o a e=>y b o a e) f0 f1 f3 m F]
 self:=λ_ _ _ _ _ st h=>wpAny_pyIter_rangeiter st h
def sU(K:Fg)(tl:TE):TI:=λσ H R=>tl σ H λx H1=>∃a,x=.ref a/\(∃U,SqL K H1 a U)/\R (Itl K a) H1
def iTup(K:Fg)(tl:TE):TI:=λσ H R=>tl σ H λx H1=>∃a,x=.ref a/\(∃U,SqT K H1 a U)/\R (Itt K a) H1
def aIX{l:Expr}(g:PE X l tl):PI X tg l (sU X.K tl):=by(intro O s σ H R I h;refine thn (g O s σ H _ I h) λv S ⟨x,H1,d,r,q1⟩=>?_;obtain⟨a,e,⟨U,f⟩,q⟩:=q1;subst e;cases r;exists its,t,p,y,d.list f;refine wpAny_pyIter_list p.isList ?_;refine#[S.heap.objs.size,[S.heap.objs.size],_,_,H1,rfl,d.kept (t':=S.toks) λb o e=>hps e,aIU a _,#[_,aXK _ rfl,rfl,rfl],λb m=>?_,q];have e:b=S.heap.objs.size:=by simpa using m);subst e;exact d.fpOk (aYC _) (d.hok.fresh (aYC _))
def aIY{l:Expr}(g:PE X l tl):PI X tg l (iTup X.K tl):=by intro O s σ H R I h;refine thn (g O s σ H _ I h) λv S ⟨x,H1,d,r,q1⟩=>?_;obtain⟨a,e,⟨U,f⟩,q⟩:=q1;subst e;cases r;exists its,t,p,y,d.tuple f;refine aYD (show S.heap.IsTuple a its.toArray from p) ?_;(refine#[S.heap.objs.size,[S.heap.objs.size],_,_,H1,rfl,d.kept (t':=S.toks) λb o e=>hps e,aIV a _,#[_,aXK _ rfl,rfl,rfl],λb m=>?_,q];have e:b=S.heap.objs.size:=by simpa using m);subst e;exact d.fpOk (aYC _) (d.hok.fresh (aYC _))
theorem aIZ{σ:St}{R:It->Hp->Prop}{E:VSP}{lo hi:Int}{t u v:Tok}{tk:Nat}(I:Inv X O σ H s)(m:-(2 ^ 62)<=lo)(l:lo<2 ^ 62)(g:-(2 ^ 62)<=hi)(f:hi<2 ^ 62)(q:R (Itr lo (hi-lo).toNat) H):wpAny (model X.prog X.w) X.A (pyIter (.ref s.heap.objs.size)) (PIE X O σ tg R) E { s with heap:=s.heap.push { cls:=.type "range",data:=.fields (List.toArray [.int lo t,.int hi u,.int 1 v]) },toks:=tk }:=by
 refine wpAny_pyIter_range (IsRange.new ..) (small_one m l g f) ?_;have a:Inv X O σ H { s with heap:=s.heap.push { cls:=.type "range",data:=.fields (List.toArray [.int lo t,.int hi u,.int 1 v]) },toks:=tk }:=I.kept λb o e=>hps e
 refine#[(s.heap.push { cls:=.type "range",data:=.fields (List.toArray [.int lo t,.int hi u,.int 1 v]) }).objs.size,[(s.heap.push { cls:=.type "range",data:=.fields (List.toArray [.int lo t,.int hi u,.int 1 v]) }).objs.size],_,_,H,rfl,
  a.kept (t':=tk) λb o e=>hps e,aIW _ lo (hi-lo).toNat,?_,λb d=>?_,q]
 . (have y:lo+((0:Nat):Int) * 1=lo:=by simp);(have r:(((hi-lo).toNat:Nat):Int)-((0:Nat):Int)=Builtin.Range.rangeSize lo hi 1:=by rw[rangeSize_one];split <;> lia);show IsRangeIter _ _ (lo+((0:Nat):Int) * 1) ((((hi-lo).toNat:Nat):Int)-((0:Nat):Int)) 1;rw[y,r];exact aXK _ rfl
 . (have e:b=(s.heap.push { cls:=.type "range",data:=.fields (List.toArray [.int lo t,.int hi u,.int 1 v]) }).objs.size:=by simpa using d);subst e;exact a.fpOk (aYC _) (a.hok.fresh (aYC _))
def yD(ta:TA):TI:=λσ H R=>ta σ H λvs H1=>∃j:Int,vs=[.int j] /\ -(2 ^ 62)<=j/\j<2 ^ 62/\R (Itr 0 j.toNat) H1
theorem aI0{a:Expr}{ta:TA}(m:Gl X "range")(l:X.mg "range"=none)(ha:PA X [a] ta)(hs:starEach [a] X.env=[(false,eval a X.env)]:=by rfl):PI X tg (.Call (.Name "range" p) [a] [] pos) (yD ta):=by intro O s σ H R I h;refine Call_ (jS I m l boot_range (aYE (thn (ha pos O s σ H _ I h) λus S ⟨vs,H1,o,f,q1⟩=>?_) hs rfl));exists j,e,q1,g,q,q1;subst e;cases f with|cons r d=>cases d;exists t,rfl,r;exact call_range_1 (aIZ o (by lia) (by lia) q1 g (by simpa using q))
def sV(wi:TI)(g:TG)(tb:TS):TS:=λD σ H=>wi σ H λJ H1=>∃W:Nat->Nat->St->Hp->Prop,(∃m,W 0 m σ H1)/\∀i m σ H,W i m σ H ->
 (J.stop i H/\D.nx σ H)\/(J.go i H/\∃N:St->Hp->Prop,(∀a H',N a H'->∃M,M<m/\W (i+1) M a H')/\∀x H',J.yld i H x H'->g x σ H' λd f=>tb {D with nx:=N,ct:=N,bk:=D.nx} d f)
def m5(fp:List Addr)(h:Heap):LAO:=fp.filterMap λb=>(h.get? b).map λo=>(b,o)
def sW{o:Obj}(a:b∈fp)(e:h.get? b=some o):(b,o)∈m5 fp h:=aYF.mpr #[b,a,by rw[e];rfl]
def aI1{p:Addr×Obj}(hp:p∈m5 fp h):p.1∈fp/\h.get? p.1=some p.2:=by exists b,a,e,aYF.mp hp;cases q:h.get? b with|none=>rw[q]at e;cases e|some o=>rw[q]at e;have E:(b,o)=p:=aX2 e;subst E;exact#[a,q]
def Inv.pinned{σ:St}(I:Inv X O σ H s)(hf:∀b∈fp,cX X O H b)(ho:∀b∈fp,∃o,s.heap.get? b=some o/\∀v,o.data ≠ .cell v):Inv X (O++m5 fp s.heap) σ H s :=
 I.pins_of λp hp=>(aXW.mp hp).elim (λz=>I.pin p (aYG _ z)) λz=>by exists a,e,aI1 z;exists f0,f1,f2,_,hf p.1 a;exists o,E,d,ho p.1 a;rw[e]at E;cases E;exact#[e,f0,f1,f2,d]
def Inv.unpinned{pl:LAO}{σ:St}(I:Inv X (O++pl) σ H s):Inv X O σ H s:=I.pins_of λp hp=>I.pin p (aYG _ (aXX _ hp))
def yE{g:TG}{tb:TS}(hp:PassesOwn (model X.prog X.w) X.A X.env X.xe)(Y:X.calm=true)(hi:PI X tg iter wi)(hg:PG X tg g)(l:PSs X body tb)(hs:∀x,foldedSetIterable iter X.env x=pure x:=by intro _;rfl):PS X (.For tg iter body [] pos) (sV wi g tb):=by intro O s σ H D I h;refine wpAny_For (thn (hi O s σ H _ I h) λv s1 h1=>thn h1 λaa s2 h2=>?_) hs;obtain⟨it,fp,tn,J,H2,e,I2,T,F,f2,W,⟨m0,w0⟩,turn⟩:=h2;subst e;have S:∀{H':Hp},(∀b∈fp,H' b=none)->∀b∈fp,cX X O H' b:=λhn b l=>#[hn b l,(f2 b l).2];refine codeAny_forLoop_any (λn s'=>∃i σ' H',Inv X O σ' H' s'/\tn i s'.heap/\(∀b∈fp,H' b=none)/\W i n σ' H') ?_ m0 #[0,σ,H2,I2,F,λb l=>(f2 b l).1,w0];rintro n s3 ⟨i,σ3,H3,I3,st3,fr3,w3⟩;rcases turn i n σ3 H3 w3 with⟨stop,qn⟩|⟨go,N,hN,step⟩;{refine aX7 hp (thn (T.done X rfl rfl rfl Y i O s3 σ3 H3 X.xe I3 (S fr3) st3 stop) λr s4 ⟨L,I4⟩=>?_);subst L;exact aX6 #[σ3,H3,I4,qn]};refine aX7 hp (thn (T.item X rfl rfl rfl Y i O s3 σ3 H3 X.xe I3 (S fr3) st3 go) λr s4 ⟨u,L,h4⟩=>?_);subst L;refine aX7 hp (thn h4 λ_ V ⟨x,Z,I5,r5,y5,B,M⟩=>?_);have R:=I5.pinned (S M) (T.obj _ _ B);refine aX7 hp (thn (hg _ V σ3 Z x u _ R r5 (step x Z y5)) λ_ s6 ⟨E,H6,I6,q6⟩=>?_);refine aX7 hp (thn (l _ s6 E H6 _ I6 q6) λf G C=>?_);(have again:∀{a:St}{t:Hp},Inv X (O++m5 fp V.heap) a t G->N a t->∃m,m<n/\∃i σ' H',Inv X O σ' H' G/\tn i G.heap/\(∀b∈fp,H' b=none)/\W i m σ' H':=λ{a t} y K=>by exists m',hm,w7,hN a t K;refine#[m',hm,i+1,a,t,y.unpinned,T.keep _ _ _ B λb l o e=>(y.pin (b,o) (aYG _ (aYG _ (sW l e)))).1,λb l=>?_,w7];exists o,e,d,T.obj _ _ B b l;exact(y.pin (b,o) (aYG _ (aYG _ (sW l e)))).2.1);cases f with|next|cont=>exists a,t,y,K,C;exact again y K|brk=>exists a,t,y,C,C;exact#[a,t,y.unpinned,C]|ret v=>exists x7,a,t,y,r7,C,C;exact#[x7,a,t,y.unpinned,r7,C]
abbrev R2:=V->V->Hp->VK->Prop
def OpR(X:Cx)(f:a3H->a3H->Sem a3H)(r:R2):Prop :=
 ∀(O:LAO) (s:a3I) (σ:St) (H:Hp) (x y:V) (v u:a3H) (Q:VK),Inv X O σ H s->aG x v->aG y u->r x y H Q ->
  wpAny (model X.prog X.w) X.A (f v u) (EP X O σ Q) X.xe s
def UnR(X:Cx)(f:a3H->Sem a3H)(r:V->Hp->VK->Prop):Prop :=
 ∀(O:LAO) (s:a3I) (σ:St) (H:Hp) (x:V) (v:a3H) (Q:VK),Inv X O σ H s->aG x v->r x H Q ->
  wpAny (model X.prog X.w) X.A (f v) (EP X O σ Q) X.xe s
def fA(X:Cx)(f:a3H)(r:List V->Hp->VK->Prop):Prop :=
 ∀(O:LAO) (s:a3I) (σ:St) (H:Hp) (U:List V) (us:List a3H) (Q:VK),Inv X O σ H s->aM U us->r U H Q ->
  wpAny (model X.prog X.w) X.A (call f us) (EP X O σ Q) X.xe s
def TruR(X:Cx)(r:V->Hp->(Bool->Hp->Prop)->Prop):Prop :=
 ∀(O:LAO) (s:a3I) (σ:St) (H:Hp) (x:V) (v:a3H) (Q:Bool->Hp->Prop),Inv X O σ H s->aG x v->r x H Q ->
  wpAny (model X.prog X.w) X.A (truthy v) (TP X O σ Q) X.xe s
def tOp(r:R2)(ta tb:TE):TE:=λσ H Q=>ta σ H λx H1=>tb σ H1 λy a=>r x y a Q
def tUn(r:V->Hp->VK->Prop)(ta:TE):TE:=λσ H Q=>ta σ H λx H1=>r x H1 Q
def rI(C:Int->Int->Prop)(g:Int->Int->V):R2:=λx y H Q=>∃i j,x=.int i/\y=.int j/\C i j/\Q (g i j) H
def rI0(g:Int->Int->V):R2:=λx y H Q=>∃i j,x=.int i/\y=.int j/\Q (g i j) H
def rU(g:Int->V):V->Hp->VK->Prop:=λx H Q=>∃i,x=.int i/\Q (g i) H
section
variable{a b:Expr}{tb:TE}
def sX(ha:PE X a ta)(B:PE X b tb){σ:St}{R:V->V->Hp->Prop}(I:Inv X O σ H s)(h:ta σ H λx H1=>tb σ H1 λy d=>R x y d){f:a3H->a3H->Sem a3H}(hf:∀v u l x y d,Inv X O σ d l->aG x v->aG y u->R x y d->wpAny (model X.prog X.w) X.A (f v u) Q X.xe l):wpAny (model X.prog X.w) X.A (eval a X.env) (λv g=>wpAny (model X.prog X.w) X.A (eval b X.env) (λu S=>wpAny (model X.prog X.w) X.A (f v u) Q X.xe S) X.xe g) X.xe s:=by refine thn (ha O s σ H _ I h) λv m ⟨x,H1,D,o,q1⟩=>?_;refine thn (B O m σ H1 _ D q1) λu l ⟨y,d,C,r,t⟩=>?_;exact hf v u l x y d C o r t
def pe_op{op:Operator}{r:R2}(ho:OpR X (binaryOp op) r)(ha:PE X a ta)(f:PE X b tb):PE X (.BinOp a op b pos) (tOp r ta tb):=by intro O s σ H Q I h;exact wpAny_BinOp (sX ha f I h λv u S x y l g d R q=>ho O S σ l x y v u Q g d R q)
def pe_un{op:UnaryOp}{r:V->Hp->VK->Prop}(ho:UnR X (unaryOp op) r)(ha:PE X a ta):PE X (.UnaryOp op a pos) (tUn r ta):=by intro O s σ H Q I h;exact UnaryOp_ (thn (ha O s σ H _ I h) λv S ⟨x,H1,d,R,q1⟩=>ho O S σ H1 x v Q d R q1)
def opI{f:a3H->a3H->Sem a3H}{C:Int->Int->Prop}{g:Int->Int->Int}(rule:∀(i j:Int) (t u:Tok) (s:a3I) (Q:VSP) (E:VSP),C i j->Q (.int (g i j) s.toks) {s with toks:=s.toks+1} -> wpAny (model X.prog X.w) X.A (f (.int i t) (.int j u)) Q E s):OpR X f (rI C λi j=>.int (g i j)):=by intro O s σ H x y v u Q I rx ry h;exists i,j,rfl,rfl,d,q,h;exists t,rfl,rx;exists t',rfl,ry;exact rule i j t t' s _ _ d #[.int (g i j),H,I.tok _,#[_,rfl],q]
def opI0{f:a3H->a3H->Sem a3H}{g:Int->Int->Int}(rule:∀(i j:Int) (t u:Tok) (s:a3I) (Q:VSP) (E:VSP),Q (.int (g i j) s.toks) {s with toks:=s.toks+1} -> wpAny (model X.prog X.w) X.A (f (.int i t) (.int j u)) Q E s):OpR X f (rI0 λi j=>.int (g i j)):=by intro O s σ H x y v u Q I rx ry h;exists i,j,rfl,rfl,q,h;exists t,rfl,rx;exists t',rfl,ry;exact rule i j t t' s _ _ #[.int (g i j),H,I.tok _,#[_,rfl],q]
def oU{f:a3H->a3H->Sem a3H}{g:Int->Int->Bool}(rule:∀(i j:Int) (t u:Tok) (s:a3I) (Q:VSP) (E:VSP),Q (.bool (g i j)) s->wpAny (model X.prog X.w) X.A (f (.int i t) (.int j u)) Q E s):OpR X f (rI0 λi j=>.bl (g i j)):=by intro O s σ H x y v u Q I rx ry h;exists i,j,rfl,rfl,q,h;exists t,rfl,rx;exists t',rfl,ry;exact rule i j t t' s _ _ #[.bl (g i j),H,I,rfl,q]
def CPow(i j:Int):Prop:=0<=j/\j<=1000000/\i.natAbs<2 ^ 64
def aI2:OpR X (binaryOp .Add) (rI0 λi j=>.int (i+j)):=opI0 λ_ _ _ _ _ _ _ q=>add_int q
def aI3:OpR X (binaryOp .Sub) (rI0 λi j=>.int (i-j)):=opI0 λ_ _ _ _ _ _ _ q=>sub_int q
theorem aI4:OpR X (binaryOp .Mod) (rI (λ_ j=>0<j) λi j=>.int (i % j)):=opI λi j _ _ _ _ _ d q=>by have f:(0:Int)<j:=d;exact mod_int' (by lia) (by rw[Int.fmod_eq_emod_of_nonneg i (by lia)];exact q)
def aI5:OpR X (binaryOp .Pow) (rI CPow λi j=>.int (i ^ j.toNat)):=opI λ_ _ _ _ _ _ _ d q=>pow_int_small d.1 d.2.1 d.2.2 q
def unI{f:a3H->Sem a3H}{g:Int->Int}(rule:∀(i:Int) (t:Tok) (s:a3I) (Q:VSP) (E:VSP),Q (.int (g i) s.toks) {s with toks:=s.toks+1} -> wpAny (model X.prog X.w) X.A (f (.int i t)) Q E s):UnR X f (rU λi=>.int (g i)):=by intro O s σ H x v Q I rx h;exists i,rfl,q,h;exists t,rfl,rx;exact rule i t s _ _ #[.int (g i),H,I.tok _,#[_,rfl],q]
def aI6:UnR X (unaryOp .USub) (rU λi=>.int (-i)):=unI λ_ _ _ _ _ q=>neg_int q
end
section
variable{a b:Expr}{tb:TE}
def oV{σ:St}{Q:VK}{k K:Bool}(I:Inv X O σ H s)(q:Q (.bl k) H)(e:k=K):EP X O σ Q (.bool K) s:=by subst e;exact#[.bl k,H,I,rfl,q]
def op_lt:OpR X (compareOp .Lt) (rI0 λi j=>.bl (decide (i<j))):=oU λ_ _ _ _ _ _ _ q=>lt_int q
def op_le:OpR X (compareOp .LtE) (rI0 λi j=>.bl (decide (i<=j))):=oU λ_ _ _ _ _ _ _ q=>le_int q
def op_gt:OpR X (compareOp .Gt) (rI0 λi j=>.bl (decide (j<i))):=oU λ_ _ _ _ _ _ _ q=>gt_int q
def op_ge:OpR X (compareOp .GtE) (rI0 λi j=>.bl (decide (j<=i))):=oU λ_ _ _ _ _ _ _ q=>ge_int q
def aI7:OpR X (compareOp .In) (λx y H Q=>∃i j,x=.str i/\y=.str j/\Q (.bl (!(Builtin.Str.occurrences j i 0 j.length 1).isEmpty)) H):=by intro O s σ H x y v u Q I rx ry h;exists i,j,rfl,rfl,q,h;exists t,rfl,rx;exists t',rfl,ry;exact in_str (oV I q rfl)
def aI8:OpR X (compareOp .Is) (λx y H Q=>y=.non/\Q (.bl (decide (x=.non))) H):=by
 intro O s σ H x y v u Q I rx ry h;exists rfl,q,h;cases ry;refine is_none_gen (oV I q ?_);cases x <;> first
  |(cases rx;rfl)
  |(exists t,rfl,rx;rfl)
def aI9:OpR X (compareOp .IsNot) (λx y H Q=>y=.non/\Q (.bl (!decide (x=.non))) H):=by
 intro O s σ H x y v u Q I rx ry h;exists rfl,q,h;cases ry;refine isnot_none_gen (oV I q ?_);cases x <;> first
  |(cases rx;rfl)
  |(exists t,rfl,rx;rfl)
def aJA:OpR X (compareOp .NotIn) (λx y H Q=>∃i j,x=.str i/\y=.str j/\Q (.bl (!(!(Builtin.Str.occurrences j i 0 j.length 1).isEmpty))) H):=by intro O s σ H x y v u Q I rx ry h;exists i,j,rfl,rfl,q,h;exists t,rfl,rx;exists t',rfl,ry;exact notIn_str (oV I q rfl)
def OpR.or{f:a3H->a3H->Sem a3H}{r R:R2}(h:OpR X f r)(h':OpR X f R):OpR X f (λx y H Q=>r x y H Q\/R x y H Q):=by intro O s σ H x y v u Q I rx ry q;rcases q with q|q;{exact h O s σ H x y v u Q I rx ry q};exact h' O s σ H x y v u Q I rx ry q
def aJB{op:CmpOp}{r:R2}(ho:OpR X (compareOp op) r)(ha:PE X a ta)(g:PE X b tb)(f:behindInMarks op b=false):PE X (.Compare a [op] [b] pos) (tOp r ta tb):=by intro O s σ H Q I h;exact wpAny_Compare1 (sX ha g I h λv u S x y m l d R q=>ho O S σ m x y v u Q l d R q) f
def yF(t:TE):TT:=λσ H Q=>t σ H λx H'=>∃k,x=.bl k/\Q k H'
def aJC{op:CmpOp}{r:R2}(ho:OpR X (compareOp op) r)(ha:PE X a ta)(t:PE X b tb)(o:behindInMarks op b=false):PT X (.Compare a [op] [b] pos) (yF (tOp r ta tb)):=by
 intro O s σ H Q I h;refine wpAny_isTrue_Compare1 (thn (ha O s σ H _ I h) λv d ⟨x,H1,C,g,q1⟩=>thn (t O d σ H1 _ C q1) λu S ⟨y,E,B,f,m⟩ =>
  thn (ho O S σ E x y v u _ B g f m) λc F ⟨z,D,A,R,k,e,l⟩=>?_) o
 subst e;cases R;exact aX4 #[D,A,l]
def sY(K:Fg)(x:V)(H:Hp)(k:Bool):Prop :=
 match x with|.non=>k=false|.bl b=>k=b|.int i=>k=(i != 0)|.str y=>y.length<=sizeLine/\k=((y.length:Int) != 0)|.byt y=>y.size<=sizeLine/\k=((y.size:Int) != 0)|.ref p=>(∃U,SqL K H p U/\k = !U.isEmpty)\/(∃U,SqT K H p U/\k = !U.isEmpty)\/∃kvs,H p=some (.dK kvs)/\k = !kvs.isEmpty|_=>False
def aJD{κ:Type}{kvs:List (κ×V)}{vs:List (κ×a3H)}(r:KV kvs vs):(!vs.isEmpty) = !kvs.isEmpty:=by cases r <;> rfl
def yG(r:aM U its):(!its.toArray.isEmpty) = !U.isEmpty:=by cases r <;> simp
def k8:(sizeLine:Nat)<2 ^ 63:=by rw[aYH];decide
theorem aJE:TruR X (λx H Q=>∃k,sY X.K x H k/\Q k H):=by
 intro O s σ H x v Q I rx h;exists k,e,q,h;have A:=k8;have hs:sizeLine=16777216:=aYH;cases x with
 |non=>cases rx;have E:k=false:=e;subst E;exact truthy_none #[H,I,q]|bl b=>cases rx;have E:k=b:=e;subst E;exact aX4 #[H,I,q]|int i=>exists t,rfl,rx;have E:k=(i != 0):=e;subst E;exact PySem.P.truthy_int #[H,I,q]|str y=>exists t,rfl,rx;obtain⟨l,E⟩:y.length<=sizeLine/\k=((y.length:Int) != 0):=e;subst E;exact PySem.P.truthy_str (by lia) #[H,I.tok _,q]|byt y=>exists t,rfl,rx;obtain⟨l,E⟩:y.size<=sizeLine/\k=((y.size:Int) != 0):=e;subst E;exact W.truthy_bytes (by lia) #[H,I.tok _,q]|ref p=>cases rx;have E:(∃U,SqL X.K H p U/\k = !U.isEmpty)\/(∃U,SqT X.K H p U/\k = !U.isEmpty)\/∃kvs,H p=some (.dK kvs)/\k = !kvs.isEmpty:=e;rcases E with⟨U,hx,E⟩|⟨U,hx,E⟩|⟨kvs,hx,E⟩;{subst E;exists its,r,f,g,I.list hx;have d:=r.length;exact wpAny_truthy_list f.isList (by simp only[aYI];lia) #[H,I.tok _,by rw[yG r];exact q]};{subst E;exists its,r,f,g,I.tuple hx;have d:=r.length;exact truthy_tuple f (by simp only[aYI];lia) #[H,I.tok _,by rw[yG r];exact q]};subst E;obtain⟨g,o,vs,r,m⟩:kvs.length<=sizeLine/\(p==sysModules)=false/\∃vs,KV kvs vs/\s.heap.DictOf (cB X.prog X.w) p vs:=I.hok p _ hx;have d:kvs.length=vs.length:=aXJ r;exact wpAny_truthy_dict o m (by lia) #[H,I.tok _,by rw[aJD r];exact q]
 |_=>exact(show False from e).elim
def aJF (ha : PE X a ta) (d : ∀ dA, isTrue a X.env dA = (do let v ← dA; standAt a.pos; holding [v] (truthy v))) :
    PT X a (λσ H Q=>ta σ H λx H'=>∃k,sY X.K x H' k/\Q k H'):=by
 intro O s σ H Q I h;exact isTrue_plain (thn (ha O s σ H _ I h) λv S ⟨x,H1,f,r,q1⟩=>aJE O S σ H1 x v Q f r q1) (d _)
def aJG:OpR X (binaryOp .Add) (λx y H Q=>∃i j,x=.str i/\y=.str j/\i.length+j.length<=sizeLine/\Q (.str (i++j)) H):=by intro O s σ H x y v u Q I rx ry h;exists i,j,rfl,rfl,d,q,h;exists t,rfl,rx;exists t',rfl,ry;exact add_str (λt' tk=>#[.str (i++j),H,I.tok _,#[_,rfl],q]) d
def jT{x:V}(r:aM [x] us):∃u,us=[u]/\aG x u:=by cases r with|cons d R=>cases R;exact#[_,rfl,d]
def vals2{x y:V}(r:aM [x,y] us):∃u W,us=[u,W]/\aG x u/\aG y W:=by cases r with|cons g f=>cases f with|cons d R=>cases R;exact#[_,_,rfl,g,d]
def LenV(K:Fg)(x:V)(H:Hp)(n:Nat):Prop :=
 match x with|.str y=>y.length<=sizeLine/\n=y.length|.byt y=>y.size<=sizeLine/\n=y.size|.ref p=>(∃U,SqL K H p U/\n=U.length)\/∃U,SqT K H p U/\n=U.length|_=>False
theorem aJH:fA X (.builtin "len") (λU H Q=>∃x n,U=[x]/\LenV X.K x H n/\Q (.int n) H):=by
 intro O s σ H U us Q I r h;exists x,n,rfl,e,q,h;exists u,rfl,R,jT r;have o:=k8;have hs:sizeLine=16777216:=aYH;cases x with
 |str y=>exists t,rfl,R;obtain⟨m,E⟩:y.length<=sizeLine/\n=y.length:=e;subst E;exact len_str (by lia) #[.int _,H,I.tok _,#[_,rfl],q]|byt y=>exists t,rfl,R;obtain⟨m,E⟩:y.size<=sizeLine/\n=y.size:=e;subst E;exact W.len_bytes (by lia) #[.int _,H,I.tok _,#[_,rfl],q]|ref p=>cases R;have E:(∃U,SqL X.K H p U/\n=U.length)\/∃U,SqT X.K H p U/\n=U.length:=e;rcases E with⟨U,hx,E⟩|⟨U,hx,E⟩;{subst E;exists its,f,g,l,I.list hx;have d:=f.length;exact Calls.call_len_list g.isList (by simp only[aYI];lia) #[.int U.length,H,I.tok _,#[_,by simp only[aYI];rw[d]],q]};subst E;exists its,f,g,l,I.tuple hx;have d:=f.length;exact len_tuple g (by simp only[aYI];lia) #[.int U.length,H,I.tok _,#[_,by simp only[aYI];rw[d]],q]
 |_=>exact(show False from e).elim
end
structure oW(h:Heap)(x dx C:Addr)(mA:SOV):Prop where
 obj:h.get? x=some (W.instObj C dx)
 ns:h.Ns1 dx mA
 ne:dx≠x
def aJI(n:h.Ns1 dx mA):∃f,h.get? dx=some f/\∀name,W.lookIn name f=some (mA name):=by exists o,es,ep,ho,hd,hk,_,l,n;refine#[o,ho,λname=>?_];have e:=l name;unfold nsFind findBy at e;rw[<- Array.find?_toList]at e;unfold W.lookIn;rw[hd];dsimp only;split;{rename_i y q;rw[q]at e;exact congrArg some e};rename_i q;rw[q]at e;(have a:es.toList.any (·.refKey)=false:=by rw[List.any_eq_false];intro y g;exists z,t,d,hk y (aYJ.mp g);simp[DictEntry.refKey,d]);(have A:¬ es.toList.any (·.refKey)=true:=by rw[a];exact aX8);rw[aK A];exact congrArg some e
def oW.look{x C:Addr}(I:oW h x dx C mA):∃o,W.InstAt h x (W.instObj C dx) C (some o)/\∀name,W.lookIn name o=some (mA name) :=
 let⟨o,ho,a⟩:=aJI I.ns
 #[o,#[I.obj,rfl,rfl,ho],a]
section
variable{A:a3J}{E:VSP}{K:Fg}{x C f:Addr}{name:Str}
def aJJ{pl:Sem Bool}{Q:a3H×List a3H->a3I->Prop}(X:K.In s.heap)(I:oW s.heap x dx C mA)(a:W.plainGet K C name=true)(hf:W.findIn K (.ref C) name=some (some (.ref f)))(ht:W.isFn K (.ref f)=true)(d:mA name=none)(h:Q (.ref f,[.ref x]) s):wpAny (model prog w) A (getMethod (.ref x) name pl) Q E s:=by exists o,J,g,I.look;exact W.method_fn X J (W.plainGet_of a).1 (W.plainGet_of a).2 hf (aYK.mp ht) (by show(W.lookIn name o).map (·.isSome)=some false;rw[g,d];rfl) h
def aJK{R:Result->a3I->Prop}(X:K.In s.heap)(a:W.makesIn K C=true)(hi:W.findIn K (.ref C) "__init__"=some (some (.builtin "object.__init__")))(l:∀self,W.Looks (model prog w) s.heap (bindSpecial (.builtin "object.__init__") self) (.builtin "object.__init__",[self]))(h:codeAny (model prog w) (A.under (.builtin "type.__call__" #[[.ref C],[]])) (.call (.builtin "object.__init__") #[[.ref (s.heap.objs.size+1)],[]]) (W.InitBack (s.heap.objs.size+1) R) {s with heap:=(s.heap.push W.emptyDict).push (W.instObj C s.heap.objs.size)}):codeAny (model prog w) A (.call (.ref C) #[[],[]]) R s:=by exists m,g,d,t,os,s;exact W.make_core (W.makes_of X a) (W.looks_findIn X hi) l (.inr #[rfl,rfl]) h
end
def cQ.some_of{o:Option a3H}(r:cQ (some v) o):∃u,o=some u/\aG v u:=by cases o with|none=>exact(show False from r).elim|some u=>exact#[u,rfl,r]
def cQ.none_of{o:Option a3H}(r:cQ none o):o=none:=by cases o with|none=>rfl|some u=>exact(show False from r).elim
section
variable{a C:Addr}{fs:List (Str×V)}
def aJL(hok:HOk P w H h)(e:H a=some (.ins C dx fs)):∃mA,oW h a dx C mA/\(∀f,cQ (fs.lookup f) (mA f))/\PySem.Within mA (fs.map (·.1))/\fs.length<=1000/\H dx=some (.own a):=by exists d,z,ne,ob,mA,n,r,q,(show bL P w H h a (.ins C dx fs)from hok a _ e);exact#[mA,#[ob,n,ne],r,q,z,d]
end
structure Cls(K:Fg)(C:Addr):Prop where
 pg:W.plainGet K C Str.empty=true
 hd:W.hasDictIn K C=true
 po:W.plainOver K C=true
 sa:W.findIn K (.ref C) "__setattr__"=some (some (.builtin "object.__setattr__"))
def Cls.get{K:Fg}{C:Addr}(c:Cls K C)(f:Str):W.plainGet K C f=true:=c.pg
def sZ(K:Fg)(C:Addr)(f:Str):Prop:=W.findIn K (.ref C) f=some none
structure m7(K:Fg)(C:Addr)(m:Str)(f:Addr):Prop where
 at_:W.findIn K (.ref C) m=some (some (.ref f))
 fn:W.isFn K (.ref f)=true
 kp:W.keepIn K (.ref f)=true
section
variable{σ:St}{a C:Addr}{fs:List (Str×V)}{A:a3J}{E:VSP}
def aJM{m:Str}{g:Addr}{pl:Sem Bool}{Q:a3H×List a3H->a3I->Prop}(I:Inv X O σ H s)(e:H a=some (.ins C dx fs))(c:Cls X.K C)(k:m7 X.K C m g)(l:fs.lookup m=none)(h:Q (.ref g,[.ref a]) s):wpAny (model X.prog X.w) A (getMethod (.ref a) m pl) Q E s:=by exists mA,d,r,_,_,_,aJL I.hok e;have hn:mA m=none:=cQ.none_of (by rw[<- l];exact r m);exact aJJ I.kIn d (c.get m) k.at_ k.fn hn h
def Inv.made(I:Inv X O σ H s):Inv X O σ (upd (upd H s.heap.objs.size (.own (s.heap.objs.size+1))) (s.heap.objs.size+1) (.ins C s.heap.objs.size [])) {s with heap:=(s.heap.push W.emptyDict).push (W.instObj C s.heap.objs.size)}:=by(have d:(s.heap.push W.emptyDict).get? s.heap.objs.size=some W.emptyDict:=aXK s.heap rfl;have m:((s.heap.push W.emptyDict).push (W.instObj C s.heap.objs.size)).get? (s.heap.objs.size+1)=some (W.instObj C s.heap.objs.size):=by have:=aXK (s.heap.push W.emptyDict) (o:=W.instObj C s.heap.objs.size) rfl;rwa [aYL]at this);have l:(s.heap.push W.emptyDict).Ns s.heap.objs.size (λ_=>none):=#[W.emptyDict,#[],_,d,rfl,(λe g=>absurd g (by simp)),λ_=>rfl];have r:=I.laid (a:=s.heap.objs.size) (o:=.own (s.heap.objs.size+1)) (h':=s.heap.push W.emptyDict) (t':=s.toks) (λb u q=>hps q) (aYC _) #[_,d];refine r.laid (a:=s.heap.objs.size+1) (o:=.ins C s.heap.objs.size []) (t':=s.toks) (λb u q=>hps q) (aYM (aYL _ _)) ?_;have ne:s.heap.objs.size≠s.heap.objs.size+1:=aXO (aYN _);refine#[by rw[aN ne,aY],aYO _,ne,m,λ_=>none,(Heap.Ns1.of_empty l).at λo q=>hps q,λ_=>True.intro,λy f=>absurd rfl f]
end
section
variable{f:Str}
def aJN {pl : Sem Bool} {m : Str} {apos : Pos} {args : List Expr} {O : List (Addr × Obj)} {s : a3I} {σ : St} {H : Hp} {Q : a3H → a3I → Prop} {te : TE} (t : PE X e te) (I : Inv X O σ H s) (h : te σ H fun x H1 => ∃ a C dx fs g, x = .ref a ∧ H1 a = some (.ins C dx fs) ∧ Cls X.K C ∧ m7 X.K C m g ∧ fs.lookup m = none ∧ ∀ s1, Inv X O σ H1 s1 → wpAny (model X.prog X.w) X.A (callWith pos (.ref g) [.ref a] (backTo pos (starEach args X.env)) (backToKw pos (keywordEach [] X.env))) Q X.xe s1)
    (ht:eval (.Call (.Attribute e m apos) args [] pos) X.env=(do
     let o <- eval e X.env
     standAt apos.atName
     let(f,first) <- holding [o] (getMethod o m pl)
     callWith pos f first (backTo pos (starEach args X.env)) (backToKw pos (keywordEach [] X.env)))) :
    wpAny (model X.prog X.w) X.A (eval (.Call (.Attribute e m apos) args [] pos) X.env) Q X.xe s:=by
 refine W.methodCall_KW (pl:=pl) (thn (t O s σ H _ I h) λu s1 ⟨x,H1,d,r,a,C,dx,fs,g,ex,ea,c,k,l,q⟩=>?_) ht;subst ex;obtain rfl:u=Value.ref a:=r;exact aJM d ea c k l (q s1 d)
end
structure bB(k:Nat)(A:a3J):Prop where
 hd:A.handled=none
 dp:A.depth+3 * k+5<recursionLimit
 un:A.units+16 * k+200<cLine
theorem bB.deeper{A:a3J}(r:bB (k+1) A)(env:Env):bB k (A.deeper env) :=
 #[r.hd,by have:=r.dp;show A.depth+1+3 * k+5<_;lia,by have:=r.un;show A.units+3+16 * k+200<_;lia]
theorem bB.depth{A:a3J}(r:bB k A):A.depth<recursionLimit:=by have:=r.dp;lia
theorem bB.units{A:a3J}(r:bB k A):A.units+64<cLine:=by have:=r.un;lia
def oX:TA:=λ_ H Q=>Q [] H
def iG(ta:TE)(tr:TA):TA:=λσ H Q=>ta σ H λx H1=>tr σ H1 λU a=>Q (x::U) a
section
variable{es:List Expr}{t:TA}
def m8:PA X [] oX:=λ_ _ _ _ H Q I h=>aYP #[[],H,I,.nil,h]
def m9(ha:PE X e te)(d:PA X es t)(hs:starEach (e::es) X.env=(false,eval e X.env)::starEach es X.env:=by rfl):PA X (e::es) (iG te t):=by intro pos O s σ H Q I h;rw[hs];show wpAny _ _ (spliced ((false,eval e X.env)::backTo pos (starEach es X.env))) _ _ s;refine aYQ (thn (ha O s σ H _ I h) λu S ⟨x,H1,g,R,q1⟩=>?_);exact thn (d pos O S σ H1 _ g q1) λus m ⟨U,l,f,r,a⟩=>#[x::U,l,f,.cons R r,a]
def tTup(t:TA):TE:=λσ H Q=>t σ H λU H1=>U.length<=sizeLine/\∀p,H1 p=none->Q (.ref p) (upd H1 p (.tup U))
def tLst(t:TA):TE:=λσ H Q=>t σ H λU H1=>U.length<=sizeLine/\∀p,H1 p=none->Q (.ref p) (upd H1 p (.lst U))
def aJO{x1}(h:PA X es t):PE X (.Tuple es x1 pos) (tTup t):=by intro O s σ H Q I hq;refine wpAny_Tuple_spliced (thn (h pos O s σ H _ I hq) λus S ⟨U,H1,a,r,z,q⟩=>#[by rw[<- r.length];exact z,?_]);have hf:H1 S.heap.objs.size=none:=a.hok.fresh (aYC _);refine#[.ref S.heap.objs.size,upd H1 S.heap.objs.size (.tup U),a.laid (t':=S.toks) (λb u e=>hps e) (aYC _) ?_,rfl,q _ hf];exact#[z,us,r,#[_,aXK _ rfl,rfl,rfl,_,rfl]]
def yH(h:PA X es t):PE X (.List es pos) (tLst t):=by intro O s σ H Q I hq;refine wpAny_List_spliced (thn (h pos O s σ H _ I hq) λus S ⟨U,H1,a,r,z,q⟩=>#[by rw[<- r.length];exact z,?_]);have hf:H1 S.heap.objs.size=none:=a.hok.fresh (aYC _);refine#[.ref S.heap.objs.size,upd H1 S.heap.objs.size (.lst U),a.laid (t':=S.toks) (λb u e=>hps e) (aYC _) ?_,rfl,q _ hf];exact#[z,us,0,r,aXK _ rfl]
end
abbrev Sp:=List V->Hp->VK->XK->Prop
abbrev CXT:=List Env->Hp->a3I->XK->a3H->a3I->Prop
structure iH(P:a3L)(w:a3K)(K:Fg)(mg:SOV)(base:Heap)(A:a3J)(outer:List Env)(s:a3I)(H:Hp):Prop where
 frames:A.frames=some outer
 mod:Mod K mg base
 bs:∀b o,base.get? b=some o->s.heap.get? b=some o/\H b=none
 bsz:base.objs.size<=s.heap.objs.size
 funs:s.heap.FunFrames base outer
 frf:∀b∈frs outer,H b=none
 hok:HOk P w H s.heap
 bare:AllBare s.gens
 tabs:k6 K base H
def CE(outer:List Env)(P:a3L)(w:a3K)(H:Hp)(s:a3I)(Q:VK)(u:a3H)(s':a3I):Prop :=
 ∃v H',s'.os=s.os/\AllBare s'.gens/\Un (frs outer) [] H H' s.heap s'.heap/\HOk P w H' s'.heap/\aG v u/\Q v H'
def CR(CX:CXT)(outer:List Env)(P:a3L)(w:a3K)(H:Hp)(s:a3I)(Q:VK)(E:XK)(r:Result)(s':a3I):Prop :=
 match r with|.ok (.ret u)=>CE outer P w H s Q u s'|.ok _=>False|.error e=>CX outer H s E e s'
structure bM(P:a3L)(w:a3K)(K:Fg)(mg:SOV)(base:Heap)(CX:CXT)(k:Nat)(f:Addr)(fd:FuncData)(ps:List Str)(sp:Sp):Prop where
 len:∀vs H Q E,sp vs H Q E->vs.length=ps.length
 run:∀(A:a3J) (outer:List Env) (s:a3I) (H:Hp) (args:Args) (us:List a3H) (vs:List V) (Q:VK) (E:XK),bB k A->iH P w K mg base A outer s H->BindsTo s fd args (ps.zip us)->aM vs us->sp vs H Q E ->
  codeAny (model P w) A (.call (.ref f) args) (CR CX outer P w H s Q E) s
def bM.imp{K:Fg}{CX:CXT}{f:Addr}{sp S:Sp}(F:bM P w K mg base CX k f fd ps sp)(h:∀vs H Q E,S vs H Q E->sp vs H Q E):bM P w K mg base CX k f fd ps S :=
 #[λvs H Q E q=>F.len vs H Q E (h _ _ _ _ q),λA outer s H args us vs Q E d g l a hs=>F.run A outer s H args us vs Q E d g l a (h _ _ _ _ hs)]
theorem iH.in1{K:Fg}{A:a3J}(e:iH P w K mg base A outer s H):iH P w K mg base A.in1 outer s H:=#[e.frames,e.mod,e.bs,e.bsz,e.funs,e.frf,e.hok,e.bare,e.tabs]
end L2
variable{CX:L2.CXT}
namespace L2
section
variable{σ:St}
def Inv.env0(I:Inv X O σ H s):iH X.prog X.w X.K X.mg X.base X.A X.stack s H :=
 #[I.ok.frames,I.ok.mod,I.bs,aXS I.ok.bsz I.sz,I.stack,I.stkFree,I.hok,I.bare,I.ok.tabs.mono I.base.tbls]
def Inv.after{Q:VK}(I:Inv X O σ H s)(h:CE X.stack X.prog X.w H s Q u s'):EP X O σ Q u s':=by exists v,H',os,bare,un,hok,r,q,h;exists a,g,d,t,o,s';obtain rfl:o=s.os:=os;exact#[v,H',I.call (h':=a) (g':=g) (d':=d) (t':=t) (ch:=[]) un hok bare (λb z=>absurd z (by simp)),r,q]
end
def cR(K:Fg)(fd:FuncData)(ps:List Str)(ds:List a3H):Prop :=
 ∀(s:a3I) (us:List a3H),K.In s.heap->(us++ds).length=ps.length->BindsTo s fd #[us,[]] (ps.zip (us++ds))
def cR.all{K:Fg}(h:∀us:List a3H,us.length=ps.length->bindArgs fd #[us,[]]=pure (ps.zip us)):cR K fd ps []:=λs us _ a=>by rw[aYR]at a ⊢;exact .of_eq (h us a)
section
variable{f C:Addr}
structure Mk(K:Fg)(C f:Addr):Prop where
 makes:W.makesIn K C=true
 init:W.findIn K (.ref C) "__init__"=some (some (.ref f))
 fn:W.isFn K (.ref f)=true
 kp:W.keepIn K (.ref C)=true
end
def PK(X:Cx)(K:List Keyword)(t:TA):Prop :=
 ∀(pos:Pos) (O:LAO) (s:a3I) (σ:St) (H:Hp) (Q:List V->Hp->Prop),Inv X O σ H s->t σ H Q->wpAny (model X.prog X.w) X.A (evalAll ((backToKw pos (keywordEach K X.env)).map (·.2))) (AP X O σ Q) X.xe s
section
variable{d:Pos}{a:List Keyword}{t:TA}{nm:Option Str}
def aJP:PK X [] oX:=λ_ _ _ _ H Q I h=>wpAny_evalAll_nil #[[],H,I,.nil,h]
def aJQ(ha:PE X e te)(g:PK X a t):PK X (#[nm,e,d]::a) (iG te t):=by intro pos O s σ H Q I h;show wpAny _ _ (evalAll ((do let v <- eval e X.env;standAt pos;pure v)::(backToKw pos (keywordEach a X.env)).map (·.2))) _ _ s;refine wpAny_evalAll_cons (aYB (thn (ha O s σ H _ I h) λu S ⟨x,H1,m,R,q1⟩=>aYB (aYS (aYA ?_))));exact thn (g pos O S σ H1 _ m q1) λus y ⟨U,o,l,r,f⟩=>#[x::U,o,l,.cons R r,f]
end
structure jU(N P:List Str)(sc:Scope):Prop where
 kind:sc.kind=.function
 co:sc.isCoroutine=false
 gen:sc.isGenerator=false
 nd:N.Nodup
 pre:N.take P.length=P
 par:∀x∈P,sc.names.lookup x=some .local\/sc.names.lookup x=some .cell
 nofree:∀y∈sc.names,y.2 ≠ .free
theorem yI{kindOf:Str->Option NameKind}{x:Str}:∀{B:List (Str×a3H)}{m:SOV},(∀v,(x,v)∉B)->bindL kindOf B m x=m x|[],_,_=>rfl|(n,v)::r,m,h=>by unfold bindL;rw[yI λw a=>h w (mcm a)];split;{(have:x≠n:=by rintro rfl;exact h v mcs);simp[this]};rfl
theorem yJ{kindOf:Str->Option NameKind}{x:Str}:∀{B:List (Str×a3H)}{m:SOV},(∀v,(x,v)∉B)->bindC kindOf B m x=m x|[],_,_=>rfl|(n,v)::r,m,h=>by unfold bindC;rw[yJ λw a=>h w (mcm a)];split;{rfl};(have:x≠n:=by rintro rfl;exact h v mcs);simp[this]
theorem yK{kindOf:Str->Option NameKind}{x:Str}{v:a3H}:∀{P:List Str}{vs:List a3H}{i:Nat}{m:SOV},P.Nodup->P[i]? = some x->vs[i]? = some v->kindOf x=some .local->bindL kindOf (P.zip vs) m x=some v|[],_,_,_,_,h,_,_|_::_,[],_,_,_,_,h,_=>by simp at h|p::P,w::vs,0,m,nd,d,a,hk=>by simp at d a;subst d;subst a;show bindL kindOf ((p,w)::P.zip vs) m p=_;unfold bindL;rw[yI λv f=>(aYT.mp nd).1 (aYU f).1,al hk];simp|p::P,w::vs,i+1,m,nd,d,a,hk=>by show bindL kindOf ((p,w)::P.zip vs) m x=_;unfold bindL;exact yK (i:=i) (aYT.mp nd).2 (by simpa using d) (by simpa using a) hk
theorem yL{kindOf:Str->Option NameKind}{x:Str}{v:a3H}:∀{P:List Str}{vs:List a3H}{i:Nat}{m:SOV},P.Nodup->P[i]? = some x->vs[i]? = some v->kindOf x≠some .local->bindC kindOf (P.zip vs) m x=some v|[],_,_,_,_,h,_,_|_::_,[],_,_,_,_,h,_=>by simp at h|p::P,w::vs,0,m,nd,d,a,hk=>by simp at d a;subst d;subst a;show bindC kindOf ((p,w)::P.zip vs) m p=_;unfold bindC;rw[yJ λv f=>(aYT.mp nd).1 (aYU f).1,aK hk];simp|p::P,w::vs,i+1,m,nd,d,a,hk=>by show bindC kindOf ((p,w)::P.zip vs) m x=_;unfold bindC;exact yL (i:=i) (aYT.mp nd).2 (by simpa using d) (by simpa using a) hk
def start(N:List Str)(vs:List V):St:=vs.map some++List.replicate (N.length-vs.length) none
noncomputable def cH(CX:CXT)(P:a3L)(w:a3K)(K:Fg)(mg:SOV)(base:Heap)(N:List Str)(qual:Str)(scope:Scope)(f:Addr)(cd:a3H)(A:a3J)(outer:List Env)(s:a3I)(H:Hp)(E:XK):Cx where
 prog:=P
 w:=w
 K:=K
 mg:=mg
 base:=base
 A:=A.deeper (envOfC qual scope s.heap.objs.size f cd)
 N:=N
 s₀:=s
 H₀:=H
 env:=envOfC qual scope s.heap.objs.size f cd
 outer:=outer
 stack:=envOfC qual scope s.heap.objs.size f cd::outer
 ex:=[]
 calm:=true
 fn:=λ_=>true
 pn:=[]
 xe:=λe s'=>wpAny (model P w) (A.deeper (envOfC qual scope s.heap.objs.size f cd)) (leaving (envOfC qual scope s.heap.objs.size f cd) e) (λ_ S=>CX outer H s E e S) (λa S=>CX outer H s E a S) s'
def yM(h:sc.names.lookup x=some .cell):∃c,(cellsFrom n sc.names []).lookup x=some c:=by have q:=aYV sc.names n [] (.inl h);exact Option.isSome_iff_exists.mp q
theorem yN{K:Fg}{N:List Str}{f:Addr}{cd:a3H}{A:a3J}{s1:a3I}{E:XK}{vs:List V}(S:jU N ps scope)(hd:A.handled=none)(g:iH P w K mg base A outer s H)(F:vs.length=ps.length)(r:aM vs us)(x:InCallC s s.heap.objs.size (bindL (envOfC qual scope s.heap.objs.size f cd).kindOf (ps.zip us) λ_=>none) (cellsFrom (s.heap.objs.size+1) scope.names []) (bindC (envOfC qual scope s.heap.objs.size f cd).kindOf (ps.zip us) λ_=>none) s1):Inv (cH CX P w K mg base N qual scope f cd A outer s H E) [] (start N vs) H s1:=by
 have D:ps.length<=N.length:=by have:=congrArg List.length S.pre;rw[aYW]at this;lia
 exists B,tk,rfl,hk,x.done;have l:∀b:Addr,b∉(cH CX P w K mg base N qual scope f cd A outer s H E).ex:=λb z=>absurd (show b∈([]:List Addr)from z) (by simp)
 refine#[#[g.mod,S.kind,rfl,rfl,aYC _,λy z c B d=>?_,λy m=>?_,λy c _ h=>?_,λ_=>hd,Around.frames_deeper g.frames,.inr #[rfl,rfl],λb z=>absurd z (l b),g.bs,g.bsz,λb _ _=>l b,λb z=>absurd z (l b),g.funs,g.frf,g.tabs],
  rfl,g.bare,Un.kept hk,#[_,x.toInCall.ns,λi y v B d G=>?_],λy c h=>#[_,x.cell y c h],g.hok.fresh (aYC _),λy c h=>?_,λp hp=>absurd (show p∈([]:LAO)from hp) (by simp),g.hok.kept hk,?_]
 . exact name_of_addr x.apart (aYX B) (aYX d)
 . have m:scope.names.lookup y=some .cell\/scope.names.lookup y=some .free:=m;rcases m with m|m;{exact yM m};exact absurd rfl (S.nofree _ (aYX m))
 . exact aXT (x.above y c (aYX h))
 . have t:i<vs.length:=by
     unfold start at d;by_cases t:i<vs.length
     . exact t
     . rw[aYY (by simpa using t)]at d;rw[aYZ]at d;split at d <;> cases d
   have ha:vs[i]? = some v:=by unfold start at d;rw[aY0 (by simpa using t),aY1]at d;cases e:vs[i]? with|none=>rw[e]at d;cases d|some a=>rw[e]at d;cases d;rfl
   exists u,C,R,r.get ha;have hp:ps[i]? = some y:=by rw[<- S.pre,List.getElem?_take_of_lt (by lia)];exact B
   have o:ps.Nodup:=by rw[<- S.pre];exact S.nd.sublist (List.take_sublist _ _)
   refine#[u,R,?_];rcases S.par y (aY2 hp)with k|k
   . exact .inl #[k,yK o hp C k]
   . exists c,e,yM (n:=s.heap.objs.size+1) k;refine .inr #[.inl k,c,e,?_];have q:=x.cell y c e;rw[yL o hp C (by show scope.names.lookup y≠_;rw[k];decide)]at q;exact q
 . exact g.hok.fresh (aXT (x.above y c (aYX h)))
 . unfold start;show _=N.length;rw[aY3,aY4,List.length_replicate];lia
def yO{K:Fg}{f:Addr}{name:Str}{params:Arguments}{T kV D M ct oc:a3H}{an Z:Option Addr}{m:Array (Option a3H)}{N:List Str}{sp:Sp}(lk:K.lookup f=some #[oc,Z,.func (W.fnOf name qual params body scope T kV D M an cdv ct),m])(C:W.codeIn K cdv qual=true)(S:jU N ps scope)(len:∀vs H Q E,sp vs H Q E->vs.length=ps.length)(d:∀(A:a3J) (outer:List Env) (s:a3I) (H:Hp) (vs:List V) (Q:VK) (E:XK),bB k (A.deeper (envOfC qual scope s.heap.objs.size f cdv))->sp vs H Q E->∃t,PSs (cH CX P w K mg base N qual scope f cdv A outer s H E) body t/\t {nx:=λ_ H'=>Q .non H',rt:=Q} (start N vs) H):bM P w K mg base CX (k+1) f (W.fnOf name qual params body scope T kV D M an cdv ct) ps sp:=by
 refine#[len,λA outer s H args us vs Q E B l hb r g=>?_];have hl:=len _ _ _ _ g;have Y:K.In s.heap:=l.mod.kin.keeps λb o e=>(l.bs b o e).1;have L:s.heap.NoLimit:=l.mod.nolimit.keeps λb o e=>(l.bs b o e).1;have cP:∀y∈ps.zip us,scope.names.lookup y.1=some .local\/(scope.names.lookup y.1=some .cell/\((cellsFrom (s.heap.objs.size+1) scope.names []).lookup y.1).isSome=true):=λ⟨n,v⟩ hy=>by rcases S.par n (aYU hy).1 with q|q;{exact .inl q};exact .inr #[q,aYV _ _ _ (.inl q)]
 refine codeAny_call_function B.depth (Y _ _ lk) rfl S.co S.gen rfl (W.codeRec_of Y C) (hb _ _ _ _ ?_);refine wpAny_newFunctionEnv_cells S.kind cP λenv he G x=>?_;subst he;refine#[L.keeps x.toInCall.keep,codeAny_func ?_];exists t,ht,hq,d A outer s H vs Q E (B.deeper _) g;have I:Inv (cH CX P w K mg base N qual scope f cdv A outer s H E) [] (start N vs) H G:=yN S B.hd l hl r x;refine aX3 (ht [] G (start N vs) H _ I hq) (λfl s' hs=>?_) λe s' hs=>hs;have F:∀{a:St}{H':Hp}{v:V}{u:a3H},Inv (cH CX P w K mg base N qual scope f cdv A outer s H E) [] a H' s'->aG v u->Q v H'->CE outer P w H s Q u s' :=
  λ{a H' v u} J R q=>#[v,H',J.os,J.bare,J.base,J.hok,R,q]
 cases fl with|ret u=>exists v,a,H',J,R,q,hs;exact F J R q|next=>exists a,H',J,q,hs;exact F (v:=V.non) (u:=Value.none) J rfl q|brk|cont=>exists _,_,_,q,hs;exact False.elim q
section
variable{es:List Expr}{t:TA}{id T:String}{r:List V->Hp->VK->Prop}
def tCB(r:List V->Hp->VK->Prop)(t:TA):TE:=λσ H Q=>t σ H λvs H1=>r vs H1 Q
def aJR(o:fA X (.builtin id) r)(l:Gl X x)(g:X.mg x=none)(f:bootBuiltins x=some (.builtin id))(ha:PA X (e::es) t)(hn:x ≠ "__name__":=by decide)(d:(x==("__debug__":Str))=false:=by decide)(m:starEach (e::es) X.env=(false,eval e X.env)::starEach es X.env:=by rfl)(a:(backTo pos (starEach es X.env)).any (·.1)=false:=by rfl):PE X (.Call (.Name x p) (e::es) [] pos) (tCB r t):=by intro O s σ H Q I h;refine aY5 (jS I l g f ?_ hn d);exact PyProof.Rows.callWith_builtin1 (thn (ha pos O s σ H _ I h) λus S ⟨vs,H1,y,R,q1⟩=>o O S σ H1 vs us Q y R q1) m a
def aJS(o:fA X (.type T) r)(l:Gl X x)(g:X.mg x=none)(f:bootBuiltins x=some (.type T))(ha:PA X (e::es) t)(hn:x ≠ "__name__":=by decide)(d:(x==("__debug__":Str))=false:=by decide)(m:starEach (e::es) X.env=(false,eval e X.env)::starEach es X.env:=by rfl)(a:(backTo pos (starEach es X.env)).any (·.1)=false:=by rfl):PE X (.Call (.Name x p) (e::es) [] pos) (tCB r t):=by intro O s σ H Q I h;refine aY5 (jS I l g f ?_ hn d);exact aYE (thn (ha pos O s σ H _ I h) λus S ⟨vs,H1,y,R,q1⟩=>o O S σ H1 vs us Q y R q1) m a
end
end L2
namespace HT
section
variable{A:a3J}{E:VSP}
def aJT{t:Addr}{ws:List a3H}(ht:IsTup s.heap t vs.toArray)(y:IsTup s.heap b ws.toArray)(m:vs≠[])(F:ws=[]->Q (.ref t) s)(B:ws≠[]->Q (.ref s.heap.objs.size) { s with heap:=s.heap.push { cls:=.type "tuple",data:=.seq (vs++ws).toArray } })(hsz:vs.length+ws.length<=sizeLine):wpAny (model prog w) A (binaryOp .Add (.ref t) (.ref b)) Q E s:=by
 obtain⟨⟨cls,r,data,l⟩,ho,o,n,hd⟩:=id ht;obtain⟨⟨C,D,data2,S⟩,a,f,n2,d⟩:=id y;simp only at o hd f d;subst o hd f d;have e:vs.toArray++ws.toArray=(vs++ws).toArray:=by simp
 by_cases g:ws=[]
 . exact aY6 #[_,ho,rfl] #[_,a,rfl] aY7 seq_tuple_add aY8 aY9 (aZA _ _)
     (tuple_addW1 t b vs.toArray ws.toArray n n2 r D l S (by simpa using m) (by simp[g])) #[ho,a,F g]
 . refine aY6 #[_,ho,rfl] #[_,a,rfl] aY7 seq_tuple_add aY8 aY9 (aZA _ _)
     (tuple_addW2 t b vs.toArray ws.toArray n n2 r D l S (by simpa using m) (by simpa using g) (by rw[aYI,aYI];exact hsz)) #[ho,a,?_]
   rw[e];exact B g
def sIx(n d:Nat):Option Int->Nat|none=>d|some v=>if v<0 then(v+(n:Int)).toNat else min v.toNat n
def aJU(n d:Nat):sIx n d none=d:=rfl
theorem tB(n d k:Nat):sIx n d (some (k:Int))=min k n:=by show(if(k:Int)<0 then((k:Int)+(n:Int)).toNat else min (k:Int).toNat n)=min k n;rw[aK (by lia),aZB]
theorem aJV(n d:Nat)(hd:d<=n)(o:Option Int):sIx n d o<=n:=by cases o with|none=>exact hd|some v=>show(if v<0 then(v+(n:Int)).toNat else min v.toNat n)<=n;by_cases a:v<0;{rw[al a];lia};rw[aK a];exact Nat.min_le_right _ _
theorem yP(v:Int)(n d:Nat):(if v<0 then max (v+(n:Int)) 0 else min v (n:Int))=((sIx n d (some v):Nat):Int):=by show(if v<0 then max (v+(n:Int)) 0 else min v (n:Int))=(((if v<0 then(v+(n:Int)).toNat else min v.toNat n):Nat):Int);by_cases a:v<0;{simp only[al a];lia};simp only[aK a];lia
theorem aJW(lo hi:Option Int)(n:Nat):Builtin.Slice.sliceAdjust lo hi 1 (n:Int)=(((sIx n 0 lo:Nat):Int),((sIx n n hi:Nat):Int)):=by(have a:¬ ((1:Int)<0):=by lia);unfold Builtin.Slice.sliceAdjust;simp only[a,aZC];refine aZD ?_ ?_;{cases lo with|none=>rfl|some v=>exact yP v n 0};cases hi with|none=>rfl|some v=>exact yP v n n
theorem aJX(i j:Nat):Builtin.Slice.slicePlaces (i:Int) (j:Int) 1=j-i:=by(unfold Builtin.Slice.slicePlaces;have a:(1:Int) > 0:=by lia);simp only[a,aZE,Int.ediv_one];split <;> lia
def yQ{v:a3H}{o:Option Int}{Q:Option Int->a3I->Prop}(p:IsPart v o)(h:Q o s):wpAny (model prog w) A (Builtin.Slice.slicePartIndex v) Q E s:=by cases p with|none=>exact slicePart_none h|int i t=>exact slicePart_int h
def yR{S:Addr}{d V:a3H}{lo hi:Option Int}{Q:Int×Int×Nat->a3I->Prop}(hs:s.heap.IsSliceOf S d V .none)(pl:IsPart d lo)(f:IsPart V hi)(h:Q (((sIx n 0 lo:Nat):Int),1,sIx n n hi-sIx n 0 lo) s):wpAny (model prog w) A (Builtin.Slice.sliceApplied (.ref S) (pure (n:Int))) Q E s:=by exists os,a,g,hds,id hs;unfold Builtin.Slice.sliceApplied Builtin.Slice.sliceFields;refine aYB (aYB (aZF a hds (x:=d) rfl (aYB (aZF a hds (x:=V) rfl (aYB (aZF a hds (x:=.none) rfl (aYA ?_)))))));refine aYB (slicePart_none ?_);show wpAny _ _ (if((1:Int)==0)=true then _ else _) _ _ s;rw[aK (by decide)];(refine aYB (yQ pl (aYB (yQ f (aYB (aYA ?_)))));show wpAny _ _ (match Builtin.Slice.sliceAdjust lo hi 1 (n:Int)with|(lo,hi)=>pure (lo,(1:Int),Builtin.Slice.slicePlaces lo hi 1)) _ _ s);rw[aJW lo hi n];show wpAny _ _ (pure (((sIx n 0 lo:Nat):Int),(1:Int),Builtin.Slice.slicePlaces ((sIx n 0 lo:Nat):Int) ((sIx n n hi:Nat):Int) 1)) _ _ s;rw[aJX];exact aYA h
theorem aJY(U:Array a3H)(i k:Nat):((List.range k).filterMap λ(m:Nat)=>U[((i:Int)+(m:Int) * 1).toNat]?).toArray=((U.toList.drop i).take k).toArray:=by(have e:(λ(m:Nat)=>U[((i:Int)+(m:Int) * 1).toNat]?)=λm=>U[i+m]?:=by(funext m;have:((i:Int)+(m:Int) * 1).toNat=i+m:=by lia);rw[this]);rw[e];have:=pick_run U i k;rw[List.filterMap_map]at this;have a:((λx=>U[x]?) ∘ λx=>i+x)=λm=>U[i+m]?:=rfl;rw[a]at this;rw[this]
theorem aJZ{t S:Addr}{o V:a3H}{lo hi:Option Int}(ht:IsTup s.heap t items)(hs:s.heap.IsSliceOf S o V .none)(pl:IsPart o lo)(r:IsPart V hi)(y:¬ (sIx items.size 0 lo=0/\sIx items.size items.size hi=items.size))(h:Q (.ref s.heap.objs.size) { s with heap:=s.heap.push { cls:=.type "tuple",data:=.seq ((items.toList.drop (sIx items.size 0 lo)).take (sIx items.size items.size hi-sIx items.size 0 lo)).toArray } })(hsz:items.size<=sizeLine):wpAny (model prog w) A (getItem (.ref t) (.ref S)) Q E s:=by
 have a:sizeOk (.seq ((items.toList.drop (sIx items.size 0 lo)).take (sIx items.size items.size hi-sIx items.size 0 lo)).toArray):=by show((items.toList.drop (sIx items.size 0 lo)).take (sIx items.size items.size hi-sIx items.size 0 lo)).toArray.size<=sizeLine;rw[aYI,aYW,List.length_drop,aX5];lia
 have C:sIx items.size items.size hi<=items.size:=aJV _ _ (aYC _) hi;exists os,d,g,hds,id hs;have l:s.TypeIs (.ref S) "slice":=#[os,d,g];unfold getItem
 try with_reducible refine aZG ?_
 first|refine aYB (aYA ?_)|skip
 refine aYB (wpAny_sequenceKey ht.typeIs (by decide) ?_)
 refine aYB (aZH (name:=Str.ofString "__getitem__") ht.typeIs aZI
  (aZJ aZI ht.typeIs entry_tuple_getitem ?_ (args_tuple_getitem _ _)))
 show wpAny _ _ (Builtin.Tuple.tupleItemsOf (.ref t)>>=_) _ _ s;refine aYB (tupleItemsOf_ ht ?_);refine aYB (aZK l ?_);rw[al (by decide)]
 refine aYB (yR hs pl r ?_);have f:¬ ((((sIx items.size 0 lo:Nat):Int)==0&&(1:Int)==1&&(sIx items.size items.size hi-sIx items.size 0 lo)==items.size)=true):=by intro q;rw[aZL,aZL]at q;have q1:((sIx items.size 0 lo:Nat):Int)=0:=eq_of_beq q.1.1;have B:sIx items.size items.size hi-sIx items.size 0 lo=items.size:=eq_of_beq q.2;exact y #[by lia,by lia]
 show wpAny _ _ (if(((sIx items.size 0 lo:Nat):Int)==0&&(1:Int)==1&&(sIx items.size items.size hi-sIx items.size 0 lo)==items.size)=true then _ else _) _ _ s;rw[aK f,aJY]
 first
  |exact aYB (m:=Builtin.Tuple.tupleExact _) (aZM (aYA #[_,rfl,aYA h]) a)
  |exact aYB (m:=Builtin.Tuple.tupleExact _) (aZM (aYB (aYA (aYA #[_,rfl,aYA h]))) a)
  |exact aYB (aYB (m:=Builtin.Tuple.tupleExact _) (aZM (aYA (aYA #[_,rfl,aYA h])) a))
  |exact aYB (aYB (m:=Builtin.Tuple.tupleExact _) (aZM (aYA #[_,rfl,aYA h]) a))
end
end HT
namespace L2
abbrev TO:=St->Hp->(Option Int->Hp->Prop)->Prop
def PO(X:Cx)(e:Option Expr)(t:TO):Prop :=
 ∀(O:LAO) (s:a3I) (σ:St) (H:Hp) (Q:Option Int->Hp->Prop),Inv X O σ H s->t σ H Q ->
  wpAny (model X.prog X.w) X.A (evalPart e X.env) (λu s'=>∃o H',Inv X O σ H' s'/\IsPart u o/\Q o H') X.xe s
def yS:TO:=λ_ H Q=>Q none H
def oY(t:TE):TO:=λσ H Q=>t σ H λx H1=>∃i,x=.int i/\Q (some i) H1
section
variable{lo hi:Option Expr}{tl d:TO}
def aJ0:PO X none yS:=by intro O s σ H Q I h;rw[evalPart_none];exact aYA #[none,H,I,.none,h]
def aJ1(h:PE X e te):PO X (some e) (oY te):=by intro O s σ H Q I hw;rw[evalPart_some];refine thn (h O s σ H _ I hw) λu S ⟨x,H1,a,r,q1⟩=>?_;exists i,rfl,q,q1;exists t,rfl,r;exact#[some i,H1,a,.int i t,q]
def SlR(X:Cx)(r:V->Option Int->Option Int->Hp->VK->Prop):Prop :=
 ∀(O:LAO) (s:a3I) (σ:St) (H:Hp) (x:V) (v f a:a3H) (lo hi:Option Int) (S:Addr) (Q:VK),Inv X O σ H s->aG x v->s.heap.IsSliceOf S f a .none->IsPart f lo->IsPart a hi->r x lo hi H Q ->
  ∃T id,typeLookup (.type T) "__getitem__"=pure (some (.builtin id))/\s.TypeIs v T/\wpAny (model X.prog X.w) X.A (getItem v (.ref S)) (EP X O σ Q) X.xe s
def SlR.or{r R:V->Option Int->Option Int->Hp->VK->Prop}(h:SlR X r)(h':SlR X R):SlR X (λx lo hi H Q=>r x lo hi H Q\/R x lo hi H Q):=by intro O s σ H x v vl vu lo hi sl Q I rx hs pl pu q;rcases q with q|q;{exact h O s σ H x v vl vu lo hi sl Q I rx hs pl pu q};exact h' O s σ H x v vl vu lo hi sl Q I rx hs pl pu q
def tSl(r:V->Option Int->Option Int->Hp->VK->Prop)(te:TE)(tl d:TO):TE:=λσ H Q=>te σ H λx H1=>tl σ H1 λl f=>d σ f λu a=>r x l u a Q
def aJ2{r:V->Option Int->Option Int->Hp->VK->Prop}(F:SlR X r)(K:PE X e te)(G:PO X lo tl)(D:PO X hi d):PE X (.Subscript e (.Slice lo hi none p2) pos) (tSl r te tl d):=by intro O s σ H Q I h;refine Subscript_ (thn (K O s σ H _ I h) λv o ⟨x,H1,Y,R,q1⟩=>?_);refine wpAny_Slice (thn (G O o σ H1 _ Y q1) λf m ⟨l,Z,W,C,y⟩=>thn (D O m σ Z _ W y) λa S ⟨u,g,N,B,t⟩=>?_);rw[evalPart_none];refine aYA ?_;have M:Inv X O σ g { S with heap:=S.heap.push { cls:=.type "slice",data:=.fields (List.toArray [f,a,.none]) } }:=N.kept (t':=S.toks) λb ob q=>hps q;exists T,id,L,E,J,F O { S with heap:=S.heap.push { cls:=.type "slice",data:=.fields (List.toArray [f,a,.none]) } } σ g x v f a l u S.heap.objs.size Q M R (Heap.IsSliceOf.new ..) C B t;show wpAny (model X.prog X.w) X.A (subscriptTail e (.Slice lo hi none p2) v (.ref S.heap.objs.size)) (EP X O σ Q) X.xe { S with heap:=S.heap.push { cls:=.type "slice",data:=.fields (List.toArray [f,a,.none]) } };exact tail_any (ops:=[.ref S.heap.objs.size,v]) E L J (by with_unfolding_all rfl)
def iI(U:List V)(lo hi:Option Int):List V:=(U.drop (HT.sIx U.length 0 lo)).take (HT.sIx U.length U.length hi-HT.sIx U.length 0 lo)
theorem yT(U:List V)(lo hi:Option Int):(iI U lo hi).length<=U.length:=by unfold iI;rw[aYW,List.length_drop];lia
def rSlT(K:Fg):V->Option Int->Option Int->Hp->VK->Prop:=λx lo hi H Q=>∃a U,x=.ref a/\SqT K H a U /\
 ¬ (HT.sIx U.length 0 lo=0/\HT.sIx U.length U.length hi=U.length)/\∀p,H p=none->Q (.ref p) (upd H p (.tup (iI U lo hi)))
def aJ3:SlR X (rSlT X.K):=by(intro O s σ H x v vl vu lo hi sl Q I rx hs pl pu h;exists a,U,rfl,hx,m,q,h;cases rx;exists its,r,l,g,I.tuple hx;have f:its.toArray.size=U.length:=by rw[aYI];exact r.length.symm);refine#["tuple",_,PyProof.Rows.slot_tuple_getitem.lookup,l.typeIs,?_];refine HT.aJZ l hs pl pu (by rw[f];exact m) ?_ (by rw[f];exact g);rw[f];refine#[.ref s.heap.objs.size,_,I.laid (t':=s.toks) (o:=.tup (iI U lo hi)) (λb ob q=>hps q) (aYC _) ?_,rfl,q _ (I.hok.fresh (aYC _))];exact#[aXS (yT U lo hi) g,_,(r.drop (HT.sIx U.length 0 lo)).take (HT.sIx U.length U.length hi-HT.sIx U.length 0 lo),gR.new _ _]
def aM.nil_iff(r:aM U us):us=[]↔U=[]:=by cases r with|nil|cons _ _=>simp
end
def ixN(n:Nat)(i:Int):Option Nat:=if 0<=i then(if i<n then some i.toNat else none)else if -(n:Int)<=i then some (i+n).toNat else none
noncomputable def atI(U:List α)(i:Int):Option α:=(ixN U.length i).bind λj=>U[j]?
theorem yU{i:Int}(h:ixN n i=some j):seqIndex? i n=some j/\j<n /\ -(n:Int)<=i/\i<n:=by unfold ixN at h;by_cases h0:0<=i;{rw[al h0]at h;by_cases a:i<n;{rw[al a]at h;have e:i.toNat=j:=aX2 h;exact#[by rw[seqIndex_of h0 a,e],by lia,by lia,a]};rw[aK a]at h;cases h};rw[aK h0]at h;by_cases a:-(n:Int)<=i;{rw[al a]at h;have e:(i+n).toNat=j:=aX2 h;exact#[by rw[seqIndex_neg (by lia) a,e],by lia,a,by lia]};rw[aK a]at h;cases h
def oZ{U:List α}{i:Int}{v:α}(h:atI U i=some v):∃j,seqIndex? i U.length=some j/\U[j]? = some v/\j<U.length /\ -(U.length:Int)<=i/\i<U.length:=by unfold atI at h;cases e:ixN U.length i with|none=>rw[e]at h;cases h|some j=>rw[e]at h;exists g,f,d,a,yU e;exact#[j,g,h,f,d,a]
theorem cY{U:List α}{v:α}(h:U[j]? = some v):atI U (j:Int)=some v:=by(have a:j<U.length:=(aXY.mp h).1;have e:ixN U.length (j:Int)=some j:=by unfold ixN;rw[al (by lia),al (by lia)];simp);unfold atI;rw[e];exact h
theorem aJ4(U:List α)(v:α):atI (U++[v]) (-1)=some v:=by
 have a:(U++[v]).length=U.length+1:=by simp
 have e:ixN (U++[v]).length (-1)=some U.length:=by unfold ixN;rw[a,aK (by decide),al (by lia)];congr 1;lia
 unfold atI;rw[e];show(U++[v])[U.length]? = some v;simp
def nE(b:Expr):Prop:=∀o i,subscripted b false o i=operate [o,i] (getItem o i)
def IxR(X:Cx)(r:R2):Prop :=
 ∀(value slice:Expr) (O:LAO) (s:a3I) (σ:St) (H:Hp) (x y:V) (v u:a3H) (Q:VK),Inv X O σ H s->aG x v->aG y u->r x y H Q ->
  subscripted slice false v u=operate [v,u] (getItem v u)->wpAny (model X.prog X.w) X.A (subscriptTail value slice v u) (EP X O σ Q) X.xe s
def MtR(X:Cx)(id:String)(r:V->List V->Hp->VK->Prop):Prop :=
 ∀(O:LAO) (s:a3I) (σ:St) (H:Hp) (x:V) (U:List V) (v:a3H) (us:List a3H) (Q:VK),Inv X O σ H s->aG x v->aM U us->r x U H Q ->
  wpAny (model X.prog X.w) X.A (call (.builtin id) (v::us)) (EP X O σ Q) X.xe s
section
variable{a b:Expr}{tb:TE}
def IxR.or{r R:R2}(h:IxR X r)(h':IxR X R):IxR X (λx y H Q=>r x y H Q\/R x y H Q):=by intro value slice O s σ H x y v u Q I rx ry q hs;rcases q with q|q;{exact h value slice O s σ H x y v u Q I rx ry q hs};exact h' value slice O s σ H x y v u Q I rx ry q hs
def tE{r:R2}(f:IxR X r)(ha:PE X a ta)(g:PE X b tb)(hs:nE b):PE X (.Subscript a b pos) (tOp r ta tb):=by intro O s σ H Q I h;exact Subscript_ (sX ha g I h λv u S x y m l d R q=>f a b O S σ m x y v u Q l d R q (hs _ _))
def rIxL(K:Fg):R2:=λx y H Q=>∃p U i v,x=.ref p/\y=.int i/\SqL K H p U/\atI U i=some v/\Q v H
def rIxT(K:Fg):R2:=λx y H Q=>∃p U i v,x=.ref p/\y=.int i/\SqT K H p U/\atI U i=some v/\Q v H
def rIxS:R2:=λx y H Q=>∃z i c,x=.str z/\y=.int i/\z.length<=sizeLine/\atI z.cps.toList i=some c/\Q (.str #[(List.toArray [c])]) H
theorem aJ5:IxR X (rIxL X.K):=by
 intro value slice O s σ H x y v u Q I rx ry h hs;exists p,U,i,z,rfl,rfl,m,A,q,h;cases rx;exists t,rfl,ry;exists its,r,g,F,I.list m;exists j,d,D,G,C,B,oZ A;exists w,E,R,r.get D;have o:=r.length;have hn:=k8;have f:EP X O σ Q w s:=#[z,H,I,R,q];by_cases h0:0<=i
 . (have l:i.toNat=j:=by rw[seqIndex_of h0 B]at d;exact aX2 d);exact item_listR g.isList h0 (by lia) (by rw[l];simpa using E) f hs
 . have l:(i+(its.toArray.size:Int)).toNat=j:=by
     rw[seqIndex_neg (by lia) C]at d
     rw[aYI,<- o];exact aX2 d
   exact subscriptTail_builtinR (x:=w) g.isList.typeIs slot_list_getitem.lookup
    (wpAny_getItem_list_neg (Q:=λr s'=>r=w/\EP X O σ Q r s') g.isList (by lia) (by rw[aYI] <;> lia) (by lia) (by rw[l];simpa using E) #[rfl,f]) hs
theorem aJ6:IxR X (rIxT X.K):=by
 intro value slice O s σ H x y v u Q I rx ry h hs;exists p,U,i,z,rfl,rfl,g,m,q,h;cases rx;exists t,rfl,ry;exists its,r,d,B,I.tuple g;exists j,A,o,F,D,C,oZ m;exists w,E,R,r.get o;have l:=r.length;have hn:=k8;have f:EP X O σ Q w s:=#[z,H,I,R,q];exact subscriptTail_builtinR (x:=w) d.typeIs slot_tuple_getitem.lookup
  (getItem_tuple (j:=j) (Q:=λr s'=>r=w/\EP X O σ Q r s') d (by lia) (by lia) (by rw[aYI,<- l];exact A) (by simpa using E) #[rfl,f]) hs
theorem aJ7:IxR X rIxS:=by
 intro value slice O s σ H x y v u Q I rx ry h hs;exists z,i,c,rfl,rfl,A,g,q,h;exists t,rfl,rx;exists t',rfl,ry;exists j,d,o,B,m,l,oZ g;have f:z.cps.toList.length=z.length:=by simp[Str.length]
 rw[f]at d m l;have hn:=k8;exact tail_any (typeIs_str s z t) slot_str_getitem.lookup (getItem_str (c:=c) (by
  have r:decide (i < -(2 ^ 63:Int))=false:=aXH (by lia)
  have E:decide (i ≥ 2 ^ 63)=false:=aXH (by lia)
  rw[r,E,Bool.or_false]) (by rw[d];simpa using o) #[.str #[(List.toArray [c])],H,I.tok _,#[_,rfl],q]) hs
def rIx(K:Fg):R2:=λx y H Q=>rIxL K x y H Q\/rIxT K x y H Q\/rIxS x y H Q
def aJ8:IxR X (rIx X.K):=aJ5.or (aJ6.or aJ7)
def aJ9(its:List a3H)(n j:Nat)(u:a3H):Obj.mapSeq (·.setIfInBounds j u) { cls:=.type "list",data:=.seq its.toArray n }={ cls:=.type "list",data:=.seq (its.set j u).toArray n }:=by simp[Obj.mapSeq]
theorem Inv.lst{σ:St}{p:Addr}(I:Inv X O σ H s)(h:H p=some (.lst U)):∃(its:List a3H) (n:Nat),aM U its/\s.heap.get? p=some { cls:=.type "list",data:=.seq its.toArray n }/\U.length<=sizeLine:=by exists z,its,n,r,e,I.hok p _ h;exact#[its,n,r,e,z]
def Inv.lstUpd{σ:St}{p:Addr}{its':List a3H}{N:Nat}{f:Obj->Obj}(I:Inv X O σ H s)(h:H p=some (.lst U))(ho:s.heap.get? p=some { cls:=.type "list",data:=.seq its.toArray n })(hf:f { cls:=.type "list",data:=.seq its.toArray n }={ cls:=.type "list",data:=.seq its'.toArray N })(r:aM ys its')(hz:ys.length<=sizeLine)(t:Nat):Inv X O σ (upd H p (.lst ys)) {s with heap:=s.heap.update p f,toks:=t}:=by(have e:(s.heap.update p f).get? p=some { cls:=.type "list",data:=.seq its'.toArray N }:=by rw[aZN f ho (by rw[hf] <;> rfl),hf]);refine I.write (x:=p) (e:=p) (by rw[h];trivial) (.inl rfl) (λb u d q=>(aZO _ _ (Ne.symm d)).trans q) #[_,e] ?_;exact#[hz,its',N,r,e]
def yV:V->V->V->Hp->(Hp->Prop)->Prop:=λo i v H Q=>∃p U k j,o=.ref p/\i=.int k/\H p=some (.lst U)/\ixN U.length k=some j/\Q (upd H p (.lst (U.set j v)))
theorem aKA:PSet X yV:=by
 intro O s σ H o i v ov iv u Q I ro ri rv h;exists p,U,k,j,rfl,rfl,hp,A,q,h;cases ro;exists t,rfl,ri;exists its,n,r,ho,y,I.lst hp;exists d,B,l,g,yU A;have f:=r.length;have hn:=k8;have m:Inv X O σ (upd H p (.lst (U.set j v))) {s with heap:=s.heap.update p (Obj.mapSeq (·.setIfInBounds j u))} :=
  I.lstUpd hp ho (aJ9 its n j u) (r.set rv j) (by rw[aZP];exact y) s.toks
 by_cases h0:0<=k
 . (have hk:k.toNat=j:=by rw[seqIndex_of h0 g]at d;exact aX2 d);exact W.ki_setAt ho h0 (by lia) (by rw[aYI,<- f];exact g) (by rw[hk];exact#[_,m,q])
 . have hk:(k+(its.toArray.size:Int)).toNat=j:=by
     rw[seqIndex_neg (by lia) l]at d
     rw[aYI,<- f];exact aX2 d
   exact W.ki_setBack ho (by lia) (by rw[aYI,<- f];exact l) (by lia) (by rw[hk];exact#[_,m,q])
theorem aKB(lo hi:Option Int)(n:Nat):(sliceBounds lo hi none n).1=((HT.sIx n 0 lo:Nat):Int)/\(sliceBounds lo hi none n).2.1=((HT.sIx n n hi:Nat):Int)/\(sliceBounds lo hi none n).2.2=1:=by refine#[?_,?_,rfl];{cases lo with|none=>simp[sliceBounds,HT.sIx]|some i=>simp only[sliceBounds,HT.sIx,aZQ,show(1:Int) > 0 by decide,aZE];by_cases h:i<0;{simp only[h,aZE] <;> lia};simp only[h,aZC] <;> lia};cases hi with|none=>simp[sliceBounds,HT.sIx]|some i=>simp only[sliceBounds,HT.sIx,aZQ,show(1:Int) > 0 by decide,aZE];by_cases h:i<0;{simp only[h,aZE] <;> lia};simp only[h,aZC] <;> lia
def aKC(its:List a3H)(lo hi:Option Int):slicePick its.toArray lo hi none=((its.drop (HT.sIx its.length 0 lo)).take (HT.sIx its.length its.length hi-HT.sIx its.length 0 lo)).toArray:=by exists g,f,d,aKB lo hi its.toArray.size;unfold slicePick;rw[g,f,d];simp only[sliceRange_one,pick_run,aYI] <;> rfl
def rSlL(K:Fg):V->Option Int->Option Int->Hp->VK->Prop:=λx lo d H Q=>∃a U,x=.ref a/\SqL K H a U/\∀p,H p=none->Q (.ref p) (upd H p (.lst (iI U lo d)))
theorem aKD:SlR X (rSlL X.K):=by intro O s σ H x v vl vu lo hi sl Q I rx hs pl pu h;exists a,U,rfl,hx,q,h;cases rx;exists its,r,f,g,I.list hx;have d:=r.length;refine#["list",_,slot_list_getitem.lookup,f.isList.typeIs,?_];refine wpAny_getItem_list_slice f.isList hs pl pu .none (by simp) ?_ (by rw[aYI] <;> lia);rw[aKC,<- d];refine#[.ref s.heap.objs.size,_,I.laid (t':=s.toks) (o:=.lst (iI U lo hi)) (λb ob q=>hps q) (aYC _) ?_,rfl,q _ (I.hok.fresh (aYC _))];exact#[aXS (yT U lo hi) g,_,0,(r.drop (HT.sIx U.length 0 lo)).take (HT.sIx U.length U.length hi-HT.sIx U.length 0 lo),aXK _ rfl]
def fB:V->Bool|.non|.bl _|.int _|.str _=>true|_=>false
noncomputable def eqV:V->V->Bool|.non,.non=>true|.bl a,.bl b=>a==b|.bl a,.int b=>(if a then 1 else 0)==b|.int a,.bl b=>a==(if b then 1 else 0)|.int a,.int b|.str a,.str b=>a==b|_,_=>false
def aKE{A:a3J}{y x:V}{v:a3H}(R:aG y u)(r:aG x v)(F:fB y=true)(f:fB x=true):SeqAt.EqAt A s u v (eqV y x):=by
 cases y with
 |non=>cases R;cases x with|non=>cases r;exact SeqAt.EqAt.same _|bl b=>cases r;exact SeqAt.EqAt.none_bool b|int b=>exists t,rfl,r;exact SeqAt.EqAt.none_int b t|str b=>exists t,rfl,r;exact SeqAt.EqAt.none_str b t|_=>exact absurd (show false=true from f) aX8
 |bl a=>cases R;cases x with|non=>cases r;exact SeqAt.EqAt.bool_none a|bl b=>cases r;exact SeqAt.EqAt.bool_bool a b|int b=>exists t,rfl,r;exact SeqAt.EqAt.bool_int a b t|str b=>exists t,rfl,r;exact SeqAt.EqAt.bool_str a b t|_=>exact absurd (show false=true from f) aX8
 |int a=>exists t',rfl,R;cases x with|non=>cases r;exact SeqAt.EqAt.int_none a t'|bl b=>cases r;exact SeqAt.EqAt.int_bool a t' b|int b=>exists t,rfl,r;exact SeqAt.EqAt.int_int a t' b t|str b=>exists t,rfl,r;exact SeqAt.EqAt.int_str a t' b t|_=>exact absurd (show false=true from f) aX8
 |str a=>exists t',rfl,R;cases x with|non=>cases r;exact SeqAt.EqAt.str_none a t'|bl b=>cases r;exact SeqAt.EqAt.str_bool a t' b|int b=>exists t,rfl,r;exact SeqAt.EqAt.str_int a t' b t|str b=>exists t,rfl,r;exact SeqAt.EqAt.str_str a t' b t|_=>exact absurd (show false=true from f) aX8
 |_=>exact absurd (show false=true from F) aX8
def eqU(x:V)(u:a3H):Bool:=match u with|.none=>eqV .non x|.bool b=>eqV (.bl b) x|.int i _=>eqV (.int i) x|.str z _=>eqV (.str z) x|_=>false
def tF{x y:V}(r:aG y u)(f:fB y=true):eqU x u=eqV y x:=by cases y with|non|bl b=>cases r;rfl|int i|str z=>exists t,rfl,r;rfl|_=>exact absurd (show false=true from f) aX8
theorem nF{x:V}:∀{U:List V}{us:List a3H},aM U us->U.all fB=true->us.any (eqU x)=U.any λy=>eqV y x|_,_,.nil,_=>rfl|y::U,u::us,.cons r t,f=>by rw[aZR,aZL]at f;rw[aZS,aZS,tF r f.1,nF t f.2]
theorem k9{A:a3J}{s:a3I}{x:V}{v:a3H}(R:aG x v)(F:fB x=true):∀{U:List V}{us:List a3H},aM U us->U.all fB=true->∀u∈us,SeqAt.EqAt A s u v (eqU x u)|_,_,.nil,_=>λu d=>by cases d|y::U,u::us,.cons r t,f=>λg d=>by rw[aZR,aZL]at f;rcases aXV.mp d with rfl|d;{rw[tF r f.1];exact aKE r R f.1 F};exact k9 R F t f.2 g d
def inV(x:V)(U:List V):Bool:=U.any λy=>eqV y x
def rIn(K:Fg)(neg:Bool):R2:=λx y H Q=>∃p U,y=.ref p/\(SqL K H p U\/SqT K H p U)/\fB x=true/\U.all fB=true/\Q (.bl (if neg then !inV x U else inV x U)) H
def aKF:OpR X (compareOp .In) (rIn X.K false):=by intro O s σ H x y v u Q I rx ry h;exists p,U,rfl,d,F,fs,q,h;cases ry;rcases d with d|d;{exists its,r,f,l,I.list d;refine SeqAt.in_listAt (eqU x) f.isList (λw g=>k9 rx F r fs w (by simpa using g)) #[.bl _,H,I,rfl,?_];rw[show its.toArray.any (eqU x)=its.any (eqU x) by simp,nF r fs];exact q};exists its,r,f,l,I.tuple d;refine SeqAt.in_tupleAt (eqU x) f (λw g=>k9 rx F r fs w (by simpa using g)) #[.bl _,H,I,rfl,?_];rw[show its.toArray.any (eqU x)=its.any (eqU x) by simp,nF r fs];exact q
def aKG:OpR X (compareOp .NotIn) (rIn X.K true):=by intro O s σ H x y v u Q I rx ry h;exists p,U,rfl,d,F,fs,q,h;cases ry;rcases d with d|d;{exists its,r,f,l,I.list d;refine SeqAt.notIn_listAt (eqU x) f.isList (λw g=>k9 rx F r fs w (by simpa using g)) #[.bl _,H,I,rfl,?_];rw[show its.toArray.any (eqU x)=its.any (eqU x) by simp,nF r fs];exact q};exists its,r,f,l,I.tuple d;refine SeqAt.notIn_tupleAt (eqU x) f (λw g=>k9 rx F r fs w (by simpa using g)) #[.bl _,H,I,rfl,?_];rw[show its.toArray.any (eqU x)=its.any (eqU x) by simp,nF r fs];exact q
theorem aKH:fA X (.type "list") (λU H Q=>∃p ys,U=[.ref p]/\(SqL X.K H p ys\/SqT X.K H p ys)/\∀l,H l=none->Q (.ref l) (upd H l (.lst ys))):=by
 intro O s σ H U us Q I r h; obtain ⟨p, ys, rfl, f, q⟩ := h; obtain ⟨u, rfl, y⟩ := jT r; cases y; have F : ∀ (its : List a3H), aM ys its → ys.length ≤ sizeLine → ∀ (h' : Heap) (C : Nat), (∀ b o', s.heap.get? b = some o' → h'.get? b = some o') →
     h'.get? s.heap.objs.size=some { cls:=.type "list",dict:=none,data:=.seq its.toArray C,slots:=#[] }->EP X O σ Q (.ref s.heap.objs.size) {s with heap:=h'}:=λits R d h' C kp e=>
  #[.ref s.heap.objs.size,_,I.laid (t':=s.toks) kp (aYC _) (show bL X.prog X.w _ h' _ (.lst ys)from#[d,its,C,R,e]),rfl,q _ (I.hok.fresh (aYC _))]
 rcases f with f|f
 . exists its,R,m,d,I.list f;have g:=R.length;exists o,ho,t,n,hd,m.isList;exact call_list_seq p (.inl rfl) ho t hd (λh' C kp e=>F its R d h' C kp e) (by simp only[aYI] <;> lia)
 . exists its,R,m,d,I.tuple f;have g:=R.length;exists o,ho,t,n,hd,m;exact call_list_seq p (.inr rfl) ho t hd (λh' C kp e=>F its R d h' C kp e) (by simp only[aYI] <;> lia)
theorem aKI:fA X (.type "tuple") (λU H Q=>∃p ys,U=[.ref p]/\((SqL X.K H p ys/\∀l,H l=none->Q (.ref l) (upd H l (.tup ys)))\/(SqT X.K H p ys/\Q (.ref p) H))):=by
 intro O s σ H U us Q I r h;exists p,ys,rfl,h,h;exists u,rfl,y,jT r;cases y;rcases h with⟨f,q⟩|⟨f,q⟩
 . exists its,R,d,g,I.list f;have m:=R.length;refine call_tuple_list d.isList (λh' kp=>?_) (by simp only[aYI] <;> lia)
   have t:Inv X O σ H {s with heap:=h'}:=I.kept (t':=s.toks) kp
   have A:Inv X O σ (upd H h'.objs.size (.tup ys)) { s with heap:=h'.push { cls:=.type "tuple",data:=.seq its.toArray } }:=
    t.laid (t':=s.toks) (λb o e=>hps e) (aYC _) (show bL X.prog X.w _ _ _ (.tup ys)from#[g,its,R,gR.new _ _])
   exact#[.ref h'.objs.size,_,A,rfl,q _ (t.hok.fresh (aYC _))]
 . exists its,R,d,g,I.tuple f;exact call_tuple_same d #[.ref p,H,I,rfl,q]
def tyV(K:Fg)(T:String)(x:V)(H:Hp):Prop:=match x with
 |.str _=>T="str"|.int _=>T="int"| .ref p=>(T="list"/\∃ U,SqL K H p U)\/(T="tuple"/\∃ o,K.lookup p=some o/\o.cls=.type "tuple"/\o.dict=none) ∨
     (T="dict" /\ ((∃kvs,H p=some (.dK kvs))\/∃kvs,H p=some (.dT kvs)))\/(T="set" /\ ∃S n,H p=some (.set S n))
 |_=>False
def aKJ{σ:St}{T:String}{x:V}{v:a3H}(I:Inv X O σ H s)(r:aG x v)(ty:tyV X.K T x H):s.TypeIs v T/\∀a,v=.ref a->∃ob,s.heap.get? a=some ob/\ob.dict=none:=by
 cases x with
 |str z=>exists t,rfl,r;cases(show T="str" from ty);exact#[typeIs_str s z t,λ_ e=>nomatch e]|int i=>exists t,rfl,r;cases(show T="int" from ty);exact#[typeIs_int s i t,λ_ e=>nomatch e]|ref p=>
  cases r;rcases ty with⟨rfl,U,hq⟩|⟨rfl,o,hk,hc,hd⟩|⟨rfl,hk⟩|⟨rfl,S,n,hk⟩
  . exists its,_,d,_,I.list hq;refine#[d.isList.typeIs,λa e=>?_];cases e;exists o,n,e,c,hd,_,d;exact#[o,e,hd]
  . refine#[#[o,I.kIn p o hk,hc],λa e=>?_];cases e;exact#[o,I.kIn _ o hk,hd]
  . have z:∃o,s.heap.get? p=some o/\o.ExactDict:=by
      rcases hk with⟨kvs,hk⟩|⟨kvs,hk⟩
      . exists _,_,_,_,o,_,_,e,ex,_,I.hok p _ hk;exact#[o,e,ex]
      . exists _,_,_,_,o,_,_,e,ex,_,I.hok p _ hk;exact#[o,e,ex]
    exists o,e,ex,z;refine#[#[o,e,ex.1],λa E=>?_];cases E;exact#[o,e,ex.2.1]
  . exists o,_,_,_,e,ex,_,I.hok p _ hk;refine#[#[o,e,ex.1],λa E=>?_];cases E;exact#[o,e,ex.2.1]
 |_=>exact False.elim ty
def tBM(K:Fg)(T:String)(r:V->List V->Hp->VK->Prop)(d:TE)(t:TA):TE:=λσ H Q=>d σ H λx H1=>tyV K T x H1/\t σ H1 λU f=>r x U f Q
variable{o:Expr}{es:List Expr}{d:TE}{t:TA}{name:Str}{T id:String}{r:V->List V->Hp->VK->Prop}
def yW(F:PlainAttrs T)(slot:Slot T name id)(y:typeOf (.builtin id)=pure (.type "method_descriptor"))(G:MtR X id r)(ho:PE X o d)(ha:PA X (e::es) t)(l:attributeBase o name X.env (eval o X.env)=eval o X.env:=by rfl)(m:((backTo cpos (starEach (e::es) X.env)).all (λx=>!x.1)&&(backToKw cpos (keywordEach [] X.env)).all (λx=>x.1.isSome)&&decide ((e::es).length+([]:List Keyword).length+(if([]:List Keyword).isEmpty then 0 else 1)<30))=true:=by rfl)(g:(apos.endLine==cpos.line)=true:=by rfl)(hs:starEach (e::es) X.env=(false,eval e X.env)::starEach es X.env:=by rfl)(f:(backTo cpos (starEach es X.env)).any (·.1)=false:=by rfl):PE X (.Call (.Attribute o name apos) (e::es) [] cpos) (tBM X.K T r d t):=by intro O s σ H Q I h;refine wpAny_Call_method_late l m g rfl (thn (ho O s σ H _ I h) λv C ⟨x,H1,B,R,ty,q1⟩=>?_);exists L,J,aKJ B R ty;refine#[T,id,F,slot,y,L,J,?_];have A:=ha cpos O C σ H1 _ B q1;rw[hs]at A ⊢;refine aZT (by show(false||(backTo cpos (starEach es X.env)).any (·.1))=false;rw[f] <;> rfl) (aZU ?_);exact thn A λus S ⟨vs,N,M,D,E⟩=>G O S σ N x vs v us Q M R D E
end
def MtM(X:Cx)(id:String)(r:V->List V->Hp->VK->Prop):Prop :=
 ∀(O:LAO) (s:a3I) (σ:St) (H:Hp) (x:V) (U:List V) (v:a3H) (us:List a3H) (Q:VK),Inv X O σ H s->aG x v->aM U us->r x U H Q ->
  wpAny (model X.prog X.w) X.A (call (.builtin id) (v::us)) (EP X O σ Q) X.xe s
def aM.one:∀{x:V}{us:List a3H},aM [x] us->∃u,us=[u]/\aG x u|_,_,.cons r .nil=>#[_,rfl,r]
section
variable{σ:St}{l:Addr}
def Inv.lset{its':List a3H}{f:Array a3H->Array a3H}(I:Inv X O σ H s)(m:H l=some (.lst U))(e:s.heap.get? l=some { cls:=.type "list",data:=.seq its.toArray n })(hf:f its.toArray=its'.toArray)(a:aM ys its')(hz:ys.length<=sizeLine):Inv X O σ (upd H l (.lst ys)) {s with heap:=s.heap.update l (Obj.mapSeq f),toks:=t'}:=by have q:=PySem.IsL.update e f;rw[hf]at q;refine I.write (x:=l) (e:=l) (by rw[m];exact trivial) (.inl rfl) (λB u g d=>(aZO s.heap (Obj.mapSeq f) (Ne.symm g)).trans d) #[_,q] ?_;exact#[hz,its',_,a,q]
def Inv.lstM(I:Inv X O σ H s)(a:H l=some (.lst U)):U.length<=sizeLine/\∃(its:List a3H) (n:Nat),aM U its/\U.length=its.length/\s.heap.get? l=some { cls:=.type "list",data:=.seq its.toArray n }:=by exists z,its,n,r,e,I.hok l _ a;exact#[z,its,n,r,r.length,e]
end
def aKK:V->List V->Hp->VK->Prop:=λx vs H Q=>∃l U y,x=.ref l/\vs=[y]/\H l=some (.lst U)/\U.length<sizeLine/\Q .non (upd H l (.lst (U++[y])))
theorem tI:MtM X "list.append" aKK:=by intro O s σ H x vs v us Q I rx rv h;exists l,U,y,rfl,rfl,a,d,q,h;cases rx;exists u,rfl,R,rv.one;exists z,its,n,r,f,e,I.lstM a;refine call_meets F.slot_list_append #[_,e,rfl] F.entry_list_append (F.args_list_append_2 _ _) (PySem.list_append l its.toArray n u (by rw[aYI];lia)) #[e,?_];refine#[.non,_,I.lset (its':=its++[u]) a e (by simp) (r.append (.cons R .nil)) ?_,rfl,q];rw[aY3,aZV];lia
section
variable{κ:Type}[DecidableEq κ]
noncomputable def dW(kvs:List (κ×V))(k:κ):Option V:=(kvs.find? λkv=>decide (kv.1=k)).map (·.2)
noncomputable def cZ(kvs:List (κ×V))(k:κ)(v:V):List (κ×V) :=
 if(kvs.any λkv=>decide (kv.1=k))=true then kvs.map (λkv=>if kv.1=k then(kv.1,v)else kv)else kvs++[(k,v)]
def tJ{p:κ×V}{r:List (κ×V)}{k:κ}(e:p.1=k):dW (p::r) k=some p.2:=by simp[dW,aZW,e]
def tK{p:κ×V}{r:List (κ×V)}{k:κ}(e:¬ p.1=k):dW (p::r) k=dW r k:=by simp[dW,aZW,e]
theorem yX(kvs:List (κ×V))(k:κ)(v:V):(cZ kvs k v).length<=kvs.length+1:=by unfold cZ;split;{rw[aY4];lia};rw[aY3,aZX,aZY];lia
def cQ.isSome_eq{o:Option V}{u:Option a3H}(r:cQ o u):o.isSome=u.isSome:=by
 cases o with
 |none=>cases u with|none=>rfl|some _=>exact(show False from r).elim
 |some _=>cases u with|none=>exact(show False from r).elim|some _=>rfl
theorem cQ.getD{o:Option V}{u:Option a3H}{d:V}{d':a3H}(r:cQ o u)(R:aG d d'):aG (o.getD d) (u.getD d'):=by
 cases o with
 |none=>cases u with|none=>exact R|some _=>exact(show False from r).elim
 |some _=>cases u with|none=>exact(show False from r).elim|some _=>exact r
def KV.val{kvs:List (κ×V)}{vs:List (κ×a3H)}(r:KV kvs vs)(k:κ):cQ (dW kvs k) (valueAt vs k):=by unfold KV at r;induction r with|nil=>exact True.intro| @cons p q ps a h t f=>exists d,g,h;by_cases e:p.1=k;{have E:q.1=k:=d.symm.trans e;(have b:valueAt (q::a) k=some q.2:=by simp[valueAt,aZW,E]);rw[tJ e,b];exact g};have E:¬ q.1=k:=λz=>e (d.trans z);(have b:valueAt (q::a) k=valueAt a k:=by simp[valueAt,aZW,E]);rw[tK e,b];exact f
theorem KV.any{kvs:List (κ×V)}{vs:List (κ×a3H)}(r:KV kvs vs)(k:κ):(kvs.any λkv=>decide (kv.1=k))=vs.any λkv=>decide (kv.1=k):=by unfold KV at r;induction r with|nil=>rfl|cons h t a=>rw[aZS,aZS,a,h.1]
def KV.repl{kvs:List (κ×V)}{vs:List (κ×a3H)}(r:KV kvs vs)(k:κ){y:V}(R:aG y u):KV (kvs.map λkv=>if kv.1=k then(kv.1,y)else kv) (vs.map λkv=>if kv.1=k then(kv.1,u)else kv):=by unfold KV at r ⊢;induction r with|nil=>exact .nil| @cons p q ps g h t d=>rw[aZZ,aZZ];refine .cons ?_ d;exists a,f,h;by_cases e:p.1=k;{rw[al e,al (a.symm.trans e)];exact#[a,R]};rw[aK e,aK (λz=>e (a.trans z))];exact#[a,f]
def KV.put{kvs:List (κ×V)}{vs:List (κ×a3H)}(r:KV kvs vs)(k:κ){y:V}(R:aG y u):KV (cZ kvs k y) (stored vs k u):=by unfold cZ stored;rw[r.any k];by_cases e:(vs.any λkv=>decide (kv.1=k))=true;{rw[al e,al e];exact r.repl k R};rw[aK e,aK e];exact Paired.snoc r #[rfl,R]
def KV.keys{kvs:List (κ×V)}{vs:List (κ×a3H)}(r:KV kvs vs):kvs.map (·.1)=vs.map (·.1):=by unfold KV at r;induction r with|nil=>rfl|cons h t a=>rw[aZZ,aZZ,a,h.1]
theorem KV.length{kvs:List (κ×V)}{vs:List (κ×a3H)}(r:KV kvs vs):kvs.length=vs.length:=aXJ r
end
def jV{k:Key}(r:aG (kV k) u):(cB P w).is k u=true:=by cases k with|inl i=>exists t,e,(show ∃t,u=Value.int i t from r);subst e;exact aH5 P w i t|inr x=>exists t,e,(show ∃t,u=Value.str x t from r);subst e;exact aH6 P w x t
theorem yY{P:a3L}{w:a3K}:∀{ks:List Key}{us:List a3H},aM (ks.map kV) us->ItemsAre (cB P w) ks us|[],_,r=>by rw[aZ0]at r;cases r;exact .nil|k::ks,_,r=>by rw[aZZ]at r;cases r with|cons h t=>exact .cons (jV h) (yY t)
abbrev KT(H:Hp):List (List Key×V)->List (List Key×Addr×a3H)->Prop:=Paired λp q=>p.1=q.1/\H q.2.1=some (.tup (p.1.map kV))/\aG p.2 q.2.2
def KT.val{kvs:List (List Key×V)}{U:List (List Key×Addr×a3H)}(r:KT H kvs U)(k:List Key):cQ (dW kvs k) ((atKey U k).map (·.2)):=by induction r with|nil=>exact True.intro| @cons p q ps a h t f=>exists d,_,g,h;by_cases e:p.1=k;{have E:q.1=k:=d.symm.trans e;(have b:atKey (q::a) k=some q.2:=by simp[atKey,aZW,E]);rw[tJ e,b];exact g};have E:¬ q.1=k:=λz=>e (d.trans z);(have b:atKey (q::a) k=atKey a k:=by simp[atKey,aZW,E]);rw[tK e,b];exact f
section
variable{a:Addr}
def yZ{u:HO}(ok:HOk P w H h)(e:Rd H a u):bL P w H h a u:=e.ok ok
def lC{kvs:List (Key×V)}(ok:HOk P w H h)(e:Rd H a (.dK kvs)):kvs.length<=sizeLine/\(a==sysModules)=false/\∃vs,KV kvs vs/\h.DictOf (cB P w) a vs :=
 show bL P w H h a (.dK kvs)from yZ ok e
def tL{kvs:List (Key×V)}(ok:HOk P w H h)(e:H a=some (.dK kvs)):kvs.length<=sizeLine/\(a==sysModules)=false/\∃vs,KV kvs vs/\h.DictOf (cB P w) a vs:=lC ok (.inl e)
def o4{ks:List Key}(ok:HOk P w H h)(e:H a=some (.tup (ks.map kV))):(tupleKind (cB P w)).is h ks a:=by exists _,its,r,o,g,f,_,n,d,(show bL P w H h a (.tup (ks.map kV))from ok a _ e);exact#[o,its.toArray,n,g,f,d,by simpa using yY r]
def o5{kvs:List (List Key×V)}(ok:HOk P w H h)(e:Rd H a (.dT kvs)):kvs.length<=sizeLine/\(a==sysModules)=false/\∃U,KT H kvs U/\h.DictOfH (tupleKind (cB P w)) a U:=by exists z,y,U,r,o,es,ep,D,C,B,A,g,(show bL P w H h a (.dT kvs)from yZ ok e);(refine#[z,y,U,r,o,es,ep,D,C,B,A,λx hx=>?_,g];have all:∀{l:List (List Key×V)}{m:List (List Key×Addr×a3H)},KT H l m->∀x∈m,(tupleKind (cB P w)).is h x.1 x.2.1:=by intro l m q;induction q with|nil=>intro x hx;exact nomatch hx| @cons p q ps E d t f=>intro x hx;rcases aXV.mp hx with e|hx;{subst e;exact o4 ok (by rw[<- d.1];exact d.2.1)};exact f x hx);exact all r x hx
end
def iJ(H:Hp)(a:Addr)(y:V)(r:Option V):Prop :=
 (∃kvs k,Rd H a (.dK kvs)/\y=kV k/\r=dW kvs k)\/∃kvs k b,Rd H a (.dT kvs)/\y=.ref b/\H b=some (.tup (k.map kV))/\r=dW kvs k
def DPut(H:Hp)(a:Addr)(y v:V)(H':Hp):Prop :=
 (∃kvs k,H a=some (.dK kvs)/\y=kV k/\kvs.length<sizeLine/\H'=upd H a (.dK (cZ kvs k v))) \/
 ∃kvs k b,H a=some (.dT kvs)/\y=.ref b/\H b=some (.tup (k.map kV))/\kvs.length<sizeLine/\H'=upd H a (.dT (cZ kvs k v))
section
variable{σ:St}{a:Addr}{y:V}{o:Option V}{A:a3J}{E:VSP}
def Inv.big(I:Inv X O σ H s):sysModules<s.heap.objs.size:=by have h:mainGlobals<s.heap.objs.size:=(I.mod.glob.keeps I.bk).lt;exact Nat.lt_trans (by decide) h
def aKL(t:A.units+1<cLine)(I:Inv X O σ H s)(g:iJ H a y (some v))(m:aG y u)(h:∀W s',Inv X O σ H s'->aG v W->Q W s'):wpAny (model X.prog X.w) A (getItem (.ref a) u) Q E s:=by rcases g with⟨kvs,k,e,ey,l⟩|⟨kvs,k,b,e,ey,eb,l⟩;{subst ey;exists z,hd,vs,R,D,lC I.hok e;exists W,d,r,cQ.some_of (v:=v) (o:=valueAt vs k) (by rw[l];exact R.val k);exact wpAny_getItem_of (jV m) D.mapOf d (h W _ (I.tok _) r)};subst ey;cases(show u=Value.ref b from m);exists z,hd,U,R,D,o5 I.hok e;exists W,d,r,cQ.some_of (v:=v) (o:=(atKey U k).map (·.2)) (by rw[l];exact R.val k);exists p,hp,f,aZ1.mp d;refine wpAny_getItem_heap (aZ2 t) (o4 I.hok eb) D hp ?_;rw[f];exact h W _ (I.tok _) r
def d_in(f:A.units+1<cLine)(I:Inv X O σ H s)(g:iJ H a y o)(R:aG y u)(h:∀s',Inv X O σ H s'->Q (.bool o.isSome) s'):wpAny (model X.prog X.w) A (compareOp .In u (.ref a)) Q E s:=by rcases g with⟨kvs,k,e,ey,l⟩|⟨kvs,k,b,e,ey,eb,l⟩;{subst ey;exists z,hd,vs,r,d,lC I.hok e;refine wpAny_in_of (jV R) hd d.mapOf ?_;rw[<- (r.val k).isSome_eq,<- l];exact h _ (I.tok _)};subst ey;cases(show u=Value.ref b from R);exists z,hd,U,r,d,o5 I.hok e;refine wpAny_in_heap (aZ2 f) (o4 I.hok eb) hd d ?_;have q:=(r.val k).isSome_eq;rw[aZ3]at q;rw[<- q,<- l];exact h _ (I.tok _)
def aKM(f:A.units+1<cLine)(I:Inv X O σ H s)(g:iJ H a y o)(R:aG y u)(h:∀s',Inv X O σ H s'->Q (.bool (!o.isSome)) s'):wpAny (model X.prog X.w) A (compareOp .NotIn u (.ref a)) Q E s:=by rcases g with⟨kvs,k,e,ey,l⟩|⟨kvs,k,b,e,ey,eb,l⟩;{subst ey;exists z,hd,vs,r,d,lC I.hok e;refine wpAny_notIn_of (jV R) hd d.mapOf ?_;rw[<- (r.val k).isSome_eq,<- l];exact h _ (I.tok _)};subst ey;cases(show u=Value.ref b from R);exists z,hd,U,r,d,o5 I.hok e;refine wpAny_notIn_heap (aZ2 f) (o4 I.hok eb) hd d ?_;have q:=(r.val k).isSome_eq;rw[aZ3]at q;rw[<- q,<- l];exact h _ (I.tok _)
def o7{ob:HO}(I:Inv X O σ H s)(mu:Mut (H a))(hs:Heap.SameBut a s.heap h')(d:∃q,h'.get? a=some q)(new:bL X.prog X.w (upd H a ob) h' a ob):Inv X O σ (upd H a ob) {s with heap:=h',toks:=t'} :=
 I.write (x:=a) (e:=a) mu (.inl rfl) (λb q f z=>(hs.2 b f).trans z) d new
def tM{kvs:List (Key×V)}{vs:List (Key×a3H)}(z:kvs.length<=sizeLine)(hd:(a==sysModules)=false)(r:KV kvs vs)(d:h'.DictOf (cB P w) a vs):bL P w H' h' a (.dK kvs):=#[z,hd,vs,r,d]
end
def tN(i:Expr):Prop:=∀o a,subscripted i false o a=operate [o,a] (getItem o a)
def aKN{A:a3J}{E:VSP}{slice:Expr}{T id:String}(t:typeLookup (.type T) "__getitem__"=pure (some (.builtin id)))(hs:tN slice)(h:wpAny (model prog w) A (eval value env) (λo f=>wpAny (model prog w) A (eval slice env) (λi S=>S.TypeIs o T/\wpAny (model prog w) A (getItem o i) Q E S) E f) E s):wpAny (model prog w) A (eval (.Subscript value slice pos) env) Q E s:=by
 refine Subscript_ (aX3 h (λo f l=>aX3 l (λi S a=>?_) λ_ _ x=>x) λ_ _ x=>x);exists m,a,a;unfold subscriptTail;refine aYB ?_;rw[aZ4 m.not_modules];refine aYB (aZ5 m t ?_);have F:wpAny (model prog w) A (subscripted slice false o i) (λr d=>wpAny (model prog w) A (letTemporaryGo value o r>>=λ_=>pure r) Q E d) E S:=by rw[hs o i];exact aZ6 (aX3 a (λr d g=>aYB (aZ7 (aYA g))) λ_ _ x=>x)
 first
  |exact aYA (aYB F)
  |exact aYB (aYA (aYB F))
  |exact aYB F
def aKO{σ:St}{a:Addr}{y:V}{o:Option V}(I:Inv X O σ H s)(g:iJ H a y o):s.TypeIs (.ref a) "dict":=by rcases g with⟨kvs,k,e,_,_⟩|⟨kvs,k,b,e,_,_,_⟩;{exists _,_,vs,_,d,lC I.hok e;exact d.typeIs};exists _,_,U,_,d,o5 I.hok e;exact d.typeIs
def aKP(h:Heap)(a:sysModules<h.objs.size):bL P w H (h.push { cls:=.type "dict",data:=.dict #[] }) h.objs.size (.dK []):=
 #[aYO _,aXI.mpr (Ne.symm (aXO a)),[],.nil,Heap.DictOf.new h]
def o8:List (TE×TE)->St->Hp->(List (V×V)->Hp->Prop)->Prop|[],_,H,Q=>Q [] H|(tk,tv)::r,σ,H,Q=>tk σ H λx H1=>tv σ H1 λy d=>o8 r σ d λps a=>Q ((x,y)::ps) a
abbrev VV:List (V×V)->List (a3H×a3H)->Prop:=Paired λp q=>aG p.1 q.1/\aG p.2 q.2
def PPs(X:Cx)(pos:Pos)(keys:List (Option Expr))(values:List Expr)(t:List (TE×TE)):Prop :=
 ∀(O:LAO) (s:a3I) (σ:St) (H:Hp) (Q:List (V×V)->Hp->Prop),Inv X O σ H s->o8 t σ H Q ->
  wpAny (model X.prog X.w) X.A (evalPairs (pairTrees keys values X.env pos)) (λvs s'=>∃ps H',Inv X O σ H' s'/\VV ps vs/\Q ps H') X.xe s
def aKQ:PPs X pos [] [] []:=λO s σ H Q I h=>pairTrees_nil_walk #[[],H,I,.nil,h]
def aKR{k v:Expr}{ks:List (Option Expr)}{vs:List Expr}{tk:TE}{t:List (TE×TE)}(hk:PE X k tk)(l:PE X v tv)(m:PPs X pos ks vs t):PPs X pos (some k::ks) (v::vs) ((tk,tv)::t):=λO s σ H Q I h =>
 pairTrees_cons_walk (thn (hk O s σ H _ I h) λu a ⟨x,H1,B,d,q1⟩=>thn (l O a σ H1 _ B q1) λW S ⟨y,D,A,R,g⟩ =>
  thn (m O S σ D _ A g) λws E ⟨ps,C,o,r,f⟩=>#[(x,y)::ps,C,o,.cons #[d,R] r,f])
def iY(kvs more:List (Key×V)):List (Key×V):=more.foldl (λa kv=>cZ a kv.1 kv.2) kvs
def KV.merge:∀{more:List (Key×V)}{rs:List (Key×a3H)}{kvs:List (Key×V)}{vs:List (Key×a3H)},KV more rs->KV kvs vs->KV (iY kvs more) (merged vs rs):=by intro more rs kvs vs r;unfold KV at r;induction r generalizing kvs vs with|nil=>intro q;exact q| @cons p q ps d h t a=>(intro R;have e:KV (cZ kvs p.1 p.2) (stored vs q.1 q.2):=by have:=R.put p.1 h.2;rw[<- h.1];exact this);exact a e
theorem y0:∀(more kvs:List (Key×V)),(iY kvs more).length<=kvs.length+more.length|[],kvs=>by show kvs.length<=kvs.length+0;lia|p::r,kvs=>by have d:=y0 r (cZ kvs p.1 p.2);have a:=yX kvs p.1 p.2;show(iY (cZ kvs p.1 p.2) r).length<=_;rw[aZX];lia
theorem zA{P:a3L}{w:a3K}:∀{kvs:List (Key×V)}{ws:List (a3H×a3H)},VV (kvs.map λkv=>(kV kv.1,kv.2)) ws->∃rs,Carries (cB P w) ws rs/\KV kvs rs|[],_,r=>by rw[aZ0]at r;cases r;exact#[[],True.intro,.nil]|p::kvs,_,r=>by rw[aZZ]at r;cases r with| @cons a b as bs h t=>exists rs,c,q,zA (P:=P) (w:=w) t;exists d,B,b;exact#[(p.1,B)::rs,#[jV h.1,rfl,c],.cons #[rfl,h.2] q]
def tDisp(t:List (TE×TE)):TE:=λσ H Q=>∀p,H p=none->o8 t σ (upd H p (.dK [])) λps a=>a p=some (.dK [])/\∃kvs:List (Key×V),ps=kvs.map (λkv=>(kV kv.1,kv.2))/\kvs.length<=15/\Q (.ref p) (upd a p (.dK (iY [] kvs)))
theorem aKS{keys:List (Option Expr)}{t:List (TE×TE)}(h:PPs X pos keys values t)(d:keys.all (·.isSome)=true)(B:keys.length=values.length)(h0:keys≠[])(f:keys.length<=15):PE X (.Dict keys values pos) (tDisp t):=by(intro O s σ H Q I q;have hn:=I.hok.fresh (aYC s.heap.objs.size);have G:=I.laid (a:=s.heap.objs.size) (o:=.dK []) (h':=s.heap.push { cls:=.type "dict",data:=.dict #[] }) (t':=s.toks) (λ_ _ q=>hps q) (aYC _) (aKP s.heap I.big);refine wpAny_Dict_walk (knd:=cB X.prog X.w) d B h0 f (thn (h O _ σ _ _ G (q _ hn)) λws S ⟨ps,J,g,r,e,kvs,ep,L,m⟩=>?_);subst ep;exists R,c,rk,zA (P:=X.prog) (w:=X.w) r;exists z,hd,V,l,F,tL g.hok e;cases l;refine#[R,c,F,λh' D hs=>#[.ref s.heap.objs.size,_,?_,rfl,m]];have y:(iY [] kvs).length<=sizeLine:=by have E:=y0 kvs [];rw[aZY]at E;rw[aYH];lia);have C:∃q,h'.get? s.heap.objs.size=some q:=let⟨q,_,_,A,_⟩:=D;#[q,A];exact o7 g (by rw[e];exact True.intro) hs C (tM y hd (rk.merge .nil) D)
structure M1(X:Cx)(o:Expr)(m:Str)(apos:Pos)(e:Expr)(cpos:Pos):Prop where
 base:attributeBase o m X.env (eval o X.env)=eval o X.env
 few:((backTo cpos (starEach [e] X.env)).all (λx=>!x.1)&&(backToKw cpos (keywordEach [] X.env)).all (λx=>x.1.isSome)
  && decide (([e]:List Expr).length+([]:List Keyword).length+(if([]:List Keyword).isEmpty then 0 else 1)<30))=true
 line:(apos.endLine==cpos.line)=true
 trees:backTo cpos (starEach [e] X.env)=[(false,eval e X.env)]
structure M2(X:Cx)(o:Expr)(m:Str)(apos:Pos)(e f:Expr)(cpos:Pos):Prop where
 base:attributeBase o m X.env (eval o X.env)=eval o X.env
 few:((backTo cpos (starEach [e,f] X.env)).all (λx=>!x.1)&&(backToKw cpos (keywordEach [] X.env)).all (λx=>x.1.isSome)
  && decide (([e,f]:List Expr).length+([]:List Keyword).length+(if([]:List Keyword).isEmpty then 0 else 1)<30))=true
 line:(apos.endLine==cpos.line)=true
 trees:backTo cpos (starEach [e,f] X.env)=[(false,eval e X.env),(false,eval f X.env)]
end L2
namespace Att
open PySem.W PySem.Calls
def aKT{P:Params}:∀(ns:List Int) (vs:List a3H),WellAll P h vs (ns.map WData.int)->IntsAre vs ns:=by intro ns;induction ns with|nil=>intro vs w;rw[aZ0]at w;cases w;exact .nil|cons n ns d=>intro vs w;rw[aZZ]at w;cases w with|cons a b=>cases a;exact .cons _ _ (d _ b)
theorem aKU{l:OpenLaw}(hn:l.most=some n){P:Params}{args:List WData}{V:List a3H}(f:l.row.toRowW.claim.pre args=true)(y:WellAll P h V args):∃a vs ns,V=[Value.ref a]/\args=[WData.list (ns.map WData.int)]/\h.get? a=some { cls:=.type "list",data:=.seq vs.toArray }/\IntsAre vs ns/\ns.length<=n:=by
 have A:WShape.hasAll [] args [.list .int]=true:=(pre_splitW f).1;have B:l.pre.holds [] {args:=args}=true:=(pre_splitW f).2;exists d,r,rfl,F,E,hasAllW_cons A;obtain rfl:=hasAllW_nil E;exists U,rfl,D,hasW_list F;exists ns,rfl,items_int D;have g:ns.length<=n:=by
  unfold OpenLaw.pre at B;have t:(WTm.not (.lt (.lit (.int (n:Int))) (.len (.arg 0)))).holds [] {args:=[.list (ns.map .int)]}=true:=by have t:=(holds_andW B).1;rw[hn]at t;exact t
  have o:=condW_of t (w_not (w_lt w_lit (w_len_list (w_arg rfl))));rw[aY4]at o;refine Nat.le_of_not_lt λq=>?_;have q':(n:Int)<((ns.length:Nat):Int):=by lia
  first
   |(rw[aZ8 q']at o;exact absurd o (by decide))
   |(simp at o;lia)
 cases y with|cons C W=>cases W;cases C with|list ho m=>exact#[_,_,ns,rfl,rfl,ho,aKT ns _ m,g]
def aKV(l:OpenLaw)(args:List WData):l.row.toRowW.claim.post args (.bool true) args=true :=
 postW_of (r:=l.row.toRowW) (X:=(true==true))
  (show WShape.has [] (.bool true) .bool=true by first|rfl|decide|simp[WShape.has,WShape.arms,WShape.armsAll])
  (show(WTm.eq .res (.lit (.bool true))).value [] {args:=args,res:=some (.bool true),after:=args}=some (.bool (true==true))from w_eq_bool (w_res rfl) w_lit) rfl
def aKW{l:OpenLaw}{q:a3L}{d:DefRec}(hn:l.most=some n)(A:d.params.defaults=[])(call:∀(w:a3K) (s₀ S:a3I) (mg M:SOV) (fa:Addr) (o:Obj) (y cd D:a3H) (a:Addr) (vs:List a3H) (ns:List Int),Ground q loose [] XP w s₀ mg M S.heap->YP w S.heap->S.heap.get? fa=some o->o.data=.func (docDef d.name d.params d.body d.scope y cd D)->S.heap.CodeRec cd d.name->mg d.name=some (.ref fa)->S.heap.get? a=some { cls:=.type "list",data:=.seq vs.toArray }->IntsAre vs ns->ns.length<=n->S.gens=#[]->codeAny (model l.prog w) callerA (.call (.ref fa) #[[.ref a],[]]) (λr s'=>r=.ok (.ret (.bool true))/\OldK S.heap s'.heap/\s'.os=S.os/\AllBare s'.gens) S):WalkO q loose XP YP l.row.toRowW d [] (λf vs=>PySem.call f vs):=by intro w s₀ S mg M G Y fa o y cd D dV kV ho hd hcd hD hmg hg args vals as hpre hlay hrd hwl hlo;obtain rfl:dV=.none:=Dflts.none hD A;obtain rfl:kV=.none:=Dflts.noKw hD;exists a,vs,ns,rfl,rfl,m,g,t,aKU hn hpre hwl;refine enter_call (aZ9 (call w s₀ S mg M fa o y cd D a vs ns G Y ho (fd_plain hd) hcd hmg m g t hg) λr s' B=>?_);exists rfl,J,F,E,B;exact#[.inl #[.bool true,.bool true,[],rfl,λ_=>rfl,.bool true,aKV l _,λ_=>#[List.Pairwise.nil,λ_ C=>(nomatch C)]],J,F,E]
section
def ledger(h:Heap)(L d:Addr):LAO:=(List.range h.objs.size).filterMap λa=>if a=L\/a=d then none else(h.get? a).map λo=>(a,o)
end
end Att
namespace L2
noncomputable abbrev KOf{K:Fg}(_:K.In h):Fg:=K
def nG(s:Stmt):Arguments:=match s with|.FunctionDef _ a _ _ _ _ _ _ _ _=>a|_=>{posonlyargs:=[],args:=[],vararg:=none,kwonlyargs:=[],kw_defaults:=[],kwarg:=none,defaults:=[]}
def gW(s:Stmt):List Stmt:=match s with|.FunctionDef _ _ b _ _ _ _ _ _ _=>b|_=>[]
def dL(s:Stmt):Scope:=match s with|.FunctionDef _ _ _ _ _ _ sc _ _ _=>sc|_=>{kind:=.function,names:=[],isGenerator:=false,isCoroutine:=false}
abbrev CX0:CXT:=λ_ _ _ _ _ _=>False
structure Fun(K:Fg)(x qual:Str)(st:Stmt)(f:Addr)(fd:FuncData):Prop where
 ex:∃(oc:a3H) (od:Option Addr) (kV doc pm:a3H) (an:Option Addr) (cdv ct:a3H) (osl:Array (Option a3H)),
  fd=W.fnOf x qual (nG st) (gW st) (dL st) .none kV doc pm an cdv ct/\K.lookup f=some #[oc,od,.func fd,osl]/\W.codeIn K cdv qual=true
 kp:W.keepIn K (.ref f)=true
section
variable{K:Fg}
def aKX{f:Addr}{m:a3H}{g an:Option Addr}{o:Array (Option a3H)}{kV d a ct:a3H}(l:K.lookup f=some #[m,g,.func (W.fnOf x qual (nG st) (gW st) (dL st) .none kV d a an cdv ct),o])(c:W.codeIn K cdv qual=true)(k:W.keepIn K (.ref f)=true):Fun K x qual st f (W.fnOf x qual (nG st) (gW st) (dL st) .none kV d a an cdv ct):=#[#[m,g,kV,d,a,an,cdv,ct,o,rfl,l,c],k]
end
def aD(H H':Hp):Prop:=∀b o,H b=some o->H' b=some o
def aD.refl(H:Hp):aD H H:=λ_ _ h=>h
def aD.trans{H1 d:Hp}(a:aD H H1)(b:aD H1 d):aD H d:=λc o h=>b c o (a c o h)
def aD.free(e:aD H H'){l:Addr}(h:H' l=Option.none):H l=Option.none:=by cases q:H l with|none=>rfl|some o=>rw[e l o q]at h;cases h
def aD.seq{K:Fg}{a:Addr}(e:aD H H')(h:SqL K H a U):SqL K H' a U:=by rcases h with(h|⟨o,h⟩)|h;{exact .inl (.inl (e _ _ h))};{exact .inl (.inr #[o,e _ _ h])};exact .inr h
def N.ind{P:N->Prop}(hi:∀n,P (.i n))(hs:∀x,P (.s x))(ht:∀U,(∀x∈U,P x)->P (.t U))(k:N):P k :=
 N.rec (motive_1:=P) (motive_2:=λU=>∀x∈U,P x) hi hs ht (λ_ h=>nomatch h) (λa l f d x hx=>by
  rcases aXV.mp hx with rfl|hx
  . exact f
  . exact d x hx) k
mutual
def N.eq:N->N->Bool|.i n,.i m=>n==m|.s x,.s y=>x==y|.t U,.t ys=>N.eqL U ys|_,_=>false
def N.eqL:List N->List N->Bool|[],[]=>true|x::U,y::ys=>N.eq x y&&N.eqL U ys|_,_=>false
end
theorem N.eqL_iff:∀{U ys:List N},(∀x∈U,∀y,N.eq x y=true↔x=y)->(N.eqL U ys=true↔U=ys)|[],[],_|[],_::_,_|_::_,[],_=>by simp[N.eqL]|x::U,y::ys,h=>by rw[N.eqL,aZL,h x mcs y,N.eqL_iff λz a=>h z (mcm a),a0A]
def N.eq_iff(k:N):∀y,N.eq k y=true↔k=y:=by induction k using N.ind with|hi n|hs x=>intro y;cases y <;> simp[N.eq]|ht U a=>intro y;cases y with|t ys=>rw[N.eq,N.eqL_iff a];simp|_=>simp[N.eq]
instance:DecidableEq N:=λa b=>decidable_of_iff _ (N.eq_iff a b)
mutual
def N.py:N->PyData|.i n=>.int n|.s x=>.str x|.t U=>.tuple (N.pyL U)
def N.pyL:List N->List PyData|[]=>[]|x::U=>N.py x::N.pyL U
end
mutual
def N.dp:N->Nat|.i _|.s _=>0|.t U=>N.dpL U+1
def N.dpL:List N->Nat|[]=>0|x::U=>max (N.dp x) (N.dpL U)
end
theorem N.dp_mem:∀{U:List N}{x:N},x∈U->x.dp<=N.dpL U|y::ys,x,h=>by rw[N.dpL];rcases aXV.mp h with rfl|h;{lia};have:=N.dp_mem h;lia
theorem N.py_depthL:∀{U:List N},(∀x∈U,x.py.depth=x.dp)->PyData.depthAll (N.pyL U)=N.dpL U|[],_=>by simp[N.pyL,N.dpL,PyData.depthAll]|x::U,h=>by simp only[N.pyL,N.dpL,PyData.depthAll];rw[h x mcs,N.py_depthL λz a=>h z (mcm a)]
def N.py_depth(k:N):k.py.depth=k.dp:=by induction k using N.ind with|hi n|hs x=>simp[N.py,N.dp,PyData.depth]|ht U a=>simp only[N.py,N.dp,PyData.depth];rw[N.py_depthL a]
theorem N.py_eqvL:∀{U ys:List N},(∀x∈U,∀y:N,PyData.eqv x.py y.py=decide (x=y))->PyData.eqvAll (N.pyL U) (N.pyL ys)=decide (U=ys)|[],[],_|[],_::_,_|_::_,[],_=>by simp[N.pyL,PyData.eqvAll]|x::U,y::ys,h=>by simp only[N.pyL,PyData.eqvAll];rw[h x mcs y,N.py_eqvL λz a=>h z (mcm a)];by_cases d:x=y <;> by_cases E:U=ys <;> simp[d,E]
def N.py_eqv(k:N):∀y:N,PyData.eqv k.py y.py=decide (k=y):=by
 induction k using N.ind with
 |hi n=>intro y;cases y with|i m=>simp only[N.py,PyData.eqv];by_cases e:n=m <;> simp[e]|s x|t U=>simp[N.py,PyData.eqv]
 |hs x=>intro y;cases y with|i m=>simp[N.py,PyData.eqv]|s z=>simp only[N.py,PyData.eqv];by_cases e:x=z <;> simp[e]|t U=>simp[N.py,PyData.eqv]
 |ht U a=>intro y;cases y with|i m|s z=>simp[N.py,PyData.eqv]|t ys=>simp only[N.py,PyData.eqv];rw[N.py_eqvL a];by_cases e:U=ys <;> simp[e]
mutual
def IsN(h:Heap):N->a3H->Prop|.i n,v=>∃t,v=.int n t|.s x,v=>(∃t,v=.str x t)/\PyData.strOk x=true|.t U,v=>∃a o items n,v=.ref a/\h.get? a=some o/\o.cls=.type "tuple" /\ o.data=.seq items n/\aW h U items.toList
def aW(h:Heap):List N->List a3H->Prop|[],vs=>vs=[]|x::U,vs=>∃v us,vs=v::us/\IsN h x v/\aW h U us
end
theorem aW.mem:∀{h:Heap}{U:List N}{vs:List a3H},aW h U vs->∀v∈vs,∃x∈U,IsN h x v|h,[],vs,q,v,a=>by rw[aW]at q;subst q;cases a|h,x::U,vs,q,v,a=>by rw[aW]at q;exists u,us,rfl,q1,d,q;rcases aXV.mp a with rfl|a;{exact#[x,mcs,q1]};exists y,f,e,d.mem v a;exact#[y,mcm f,e]
theorem aW.map:∀{h h':Heap}{U:List N}{vs:List a3H},aW h U vs->(∀x∈U,∀v,IsN h x v->IsN h' x v)->aW h' U vs|h,h',[],vs,q,k=>by rw[aW]at q ⊢;exact q|h,h',x::U,vs,q,k=>by rw[aW]at q ⊢;exists u,us,e,q1,a,q;exact#[u,us,e,k x mcs u q1,a.map λy d=>k y (mcm d)]
def IsN.keeps{d:Addr}{o:Obj}{es ep:_}(ho:h.get? d=some o)(hd:o.data=.dict es ep)(hs:Heap.SameBut d h h')(k:N):∀v,IsN h k v->IsN h' k v:=by induction k using N.ind with|hi n|hs x=>intro v q;rw[IsN]at q ⊢;exact q|ht U m=>(intro v q;rw[IsN]at q ⊢;exists a,l,items,n,e,ha,r,f,hi,q;have g:a≠d:=by rintro rfl;obtain rfl:l=o:=aX2 (ha.symm.trans ho);rw[hd]at f;exact nomatch f);exact#[a,l,items,n,e,(hs.2 a g).trans ha,r,f,hi.map m]
theorem aW.readsL:∀{h:Heap}{U:List N}{vs:List a3H},aW h U vs->(∀x∈U,∀v,IsN h x v->(∃as,Reads h v x.py as)/\x.py.canLay0=true)->(∃as,ReadsAll h vs (N.pyL U) as)/\PyData.canLayAll0 (N.pyL U)=true|h,[],vs,q,k=>by rw[aW]at q;subst q;exact#[#[_,.nil],by simp[N.pyL,PyData.canLayAll0]]|h,x::U,vs,q,k=>by rw[aW]at q;exists u,us,rfl,q1,a,q;obtain⟨⟨as,R⟩,ca⟩:=k x mcs u q1;obtain⟨⟨bs,r⟩,C⟩:=a.readsL λy d=>k y (mcm d);exact#[#[_,.cons R r],by simp only[N.pyL,PyData.canLayAll0,ca,C,Bool.and_self]]
def IsN.reads(k:N):∀v,IsN h k v->(∃as,Reads h v k.py as)/\k.py.canLay0=true:=by induction k using N.ind with|hi n=>intro v q;rw[IsN]at q;exists t,rfl,q;exact#[#[_,.int n t],rfl]|hs x=>intro v q;rw[IsN]at q;obtain⟨⟨t,rfl⟩,hk⟩:=q;exact#[#[_,.str x t],by simpa only [N.py,PyData.canLay0]using hk]|ht U f=>intro v q;rw[IsN]at q;exists a,o,items,n,rfl,ha,g,d,hi,q;obtain⟨⟨as,r⟩,ca⟩:=hi.readsL f;exact#[#[_,.tuple ha g d r],by simpa only [N.py,PyData.canLay0]using ca]
theorem aW.inj:∀{h:Heap}{U ys:List N}{vs:List a3H},(∀x∈U,∀y v,IsN h x v->IsN h y v->x=y)->aW h U vs->aW h ys vs->U=ys|h,[],[],vs,_,_,_=>rfl|h,[],y::ys,vs,_,p,q=>by rw[aW]at p;subst p;rw[aW]at q;exists _,_,e,_,q;cases e|h,x::U,[],vs,_,p,q=>by rw[aW]at q;subst q;rw[aW]at p;exists _,_,e,_,p;cases e|h,x::U,y::ys,vs,k,p,q=>by rw[aW]at p q;exists u,us,rfl,p1,p2,p;exists _,_,e,q1,a,q;cases e;rw[k x mcs y _ p1 q1,aW.inj (λz d=>k z (mcm d)) p2 a]
theorem IsN.inj(k:N):∀y v,IsN h k v->IsN h y v->k=y:=by
 induction k using N.ind with
 |hi n=>intro y v p q;rw[IsN]at p;exists t,rfl,p;cases y with|i m=>rw[IsN]at q;exists u,e,q;cases e;rfl|s x=>rw[IsN]at q;obtain⟨⟨u,e⟩,_⟩:=q;cases e|t U=>rw[IsN]at q;exists _,_,_,_,e,_,q;cases e
 |hs x=>intro y v p q;rw[IsN]at p;obtain⟨⟨t,rfl⟩,_⟩:=p;cases y with|i m=>rw[IsN]at q;exists u,e,q;cases e|s x=>rw[IsN]at q;obtain⟨⟨u,e⟩,_⟩:=q;cases e;rfl|t U=>rw[IsN]at q;exists _,_,_,_,e,_,q;cases e
 |ht U A=>intro y v p q;rw[IsN]at p;exists a,o,items,n,rfl,ha,D,hd,hi,p;cases y with|i m=>rw[IsN]at q;exists u,e,q;cases e|s x=>rw[IsN]at q;obtain⟨⟨u,e⟩,_⟩:=q;cases e|t ys=>rw[IsN]at q;exists E,r,f,C,e,l,_,d,g,q;cases e;obtain rfl:o=r:=aX2 (ha.symm.trans l);rw[hd]at d;injection d with B _;subst B;rw[aW.inj A hi g]
mutual
def N.dr:N->Nat|.i _|.s _=>1|.t U=>N.drL U+1
def N.drL:List N->Nat|[]=>0|x::U=>N.dr x+N.drL U
end
section
variable{A:a3J}{E:VSP}
theorem zB:∀(U:List N) (y:N),N.drL (U++[y])=N.drL U+N.dr y|[],y=>by simp[N.drL]|x::U,y=>by rw[a0B,N.drL,zB U y,N.drL,a0C]
theorem zC:∀(U:List N) (y:N),eO w (U++[y])=eO w U++[fQ w y]|[],y=>by simp[eO]|x::U,y=>by rw[a0B,eO,zC U y,eO,a0B]
theorem aKY(k:N):∀{A:a3J}{E:VSP}{s:a3I}{v:a3H}{Q:Int->a3I->Prop},A.units+k.dp<cLine->IsN s.heap k v->Q (fQ w k) {s with toks:=s.toks+k.dr} -> wpAny (model prog w) A (pyHash v) Q E s:=by
 induction k using N.ind with
 |hi n=>intro A E s v Q hu hk h;rw[IsN]at hk;exists t,rfl,hk;rw[fQ,N.dr]at h;exact wpAny_pyHash_int h|hs x=>intro A E s v Q hu hk h;rw[IsN]at hk;obtain⟨⟨t,rfl⟩,_⟩:=hk;rw[fQ,N.dr]at h;exact wpAny_pyHash_str h|ht U C =>
  intro A E s v Q hu hk h;rw[IsN]at hk;exists a,o,items,n,rfl,ho,D,hd,hi,hk;rw[N.dp]at hu;have m:s.TypeIs (.ref a) "tuple":=#[o,ho,D];unfold pyHash
  first|unfold pyHashByItsType|skip
  first|refine aYB (wpAny_cRoomFor_or (.inr (by lia)) ?_)|skip
  refine aYB (aZ5 m F.slot_tuple_hash.lookup ?_);show wpAny _ _ (if(some (Value.builtin "tuple.__hash__")==some Value.none)=true then _ else _) Q E s;rw[aK (by rw[beq_builtin_none];exact aX8)]
  refine aYB (aZ5 m F.slot_tuple_hash.lookup ?_);show wpAny _ _ (callSpecialIfBoundUnlessNone? (.ref a) "__hash__" _>>=_) Q E s;refine aYB (wpAny_callSpecialIfBoundUnlessNone?_slot m F.slot_tuple_hash (aZJ F.slot_tuple_hash m F.entry_tuple_hash ?_ (F.args_tuple_hash_1 _)));show wpAny _ _ (Builtin.Tuple.tupleItemsOf (.ref a)>>=_) _ _ s;refine aYB (wpAny_tupleItemsOf ho hd ?_);refine aYB ?_;rw[<- Array.forIn_toList];refine a0D _
   (λrest (b:Array Int) s'=>∃done left,U=done++left/\aW s.heap left rest/\b.toList=eO w done/\s'={s with toks:=s.toks+N.drL done})
   _ ?_ ?_ _ _ #[[],U,rfl,hi,by simp[eO],by simp[N.drL]]
  . rintro x rest b s' ⟨done,left,e,hl,hb,rfl⟩;cases left with
    |nil=>rw[aW]at hl;cases hl|cons k ks =>
     rw[aW]at hl;exists _,_,y,G,r,hl;cases y;have B:k∈U:=by rw[e];simp
     refine aYB (C k B (A:=A.in1) (by have:=N.dp_mem B;show A.units+1+_<_;lia) G ?_)
     have f:∃d l,U=d++l/\aW s.heap l rest/\(b.push (fQ w k)).toList=eO w d/\({s with toks:=s.toks+N.drL done+k.dr}:a3I)={s with toks:=s.toks+N.drL d} :=
      #[done++[k],ks,by rw[e];simp,r,by rw[zC,Array.toList_push,hb],by rw[zB,a0C]]
     first
      |exact aYA f
      |exact aYB (aYA (aYA f))
  . rintro b s' ⟨done,left,e,hl,hb,rfl⟩;cases left with
    |cons k ks=>rw[aW]at hl;exists _,_,y,_,hl;cases y|nil =>
    rw[aYR]at e;subst e;show wpAny _ _ (retInt (Builtin.Tuple.tupleHashOf b.toList)) _ _ _;rw[hb];refine wpAny_ret_mkInt ?_;show wpAny _ _ (if(decide (-(2:Int) ^ 63<=Builtin.Tuple.tupleHashOf (eO w U))&&decide (Builtin.Tuple.tupleHashOf (eO w U)<2 ^ 63))=true then _ else _) Q E _;rw[fQ,N.dr]at h;unfold reduceHash at h;by_cases g:(decide (-(2:Int) ^ 63<=Builtin.Tuple.tupleHashOf (eO w U))&&decide (Builtin.Tuple.tupleHashOf (eO w U)<2 ^ 63))=true
    . rw[al g];rw[al g]at h;exact aYA (by simpa[a0C]using h)
    . rw[aK g];rw[aK g]at h;exact aYB (a0E (aYA (by simpa[a0C]using h)))
theorem n_eq{x y:N}{v:a3H}{Q:Bool->a3I->Prop}(d:A.units+x.dp<cLine)(hx:IsN s.heap x u)(a:IsN s.heap y v)(h:Q (decide (x=y)) s):wpAny (model prog w) A (eqBool u v) Q E s:=by obtain⟨⟨as,R⟩,ca⟩:=IsN.reads x u hx;obtain⟨⟨bs,r⟩,C⟩:=IsN.reads y v a;refine a0F x.py y.py A s u v as bs R r ca C (by rw[N.py_depth];have:=a0G x.dp y.py.depth;lia) prog w E Q ?_;rw[N.py_eqv];exact h
theorem aKZ(k:N):∀{n:Nat}{v:a3H}{Q:Bool->a3I->Prop},k.dp<=n->IsN s.heap k v->Q true s->wpAny (model prog w) A (eqIsQuiet n v) Q E s:=by induction k using N.ind with|hi m=>intro n v Q hn hk h;rw[IsN]at hk;exists t,rfl,hk;rw[eqIsQuiet_byValue n rfl];exact aYA h|hs x=>intro n v Q hn hk h;rw[IsN]at hk;obtain⟨⟨t,rfl⟩,_⟩:=hk;rw[eqIsQuiet_byValue n rfl];exact aYA h|ht U l=>intro n v Q hn hk h;rw[IsN]at hk;exists a,o,items,c,rfl,ho,B,hd,hi,hk;rw[N.dp]at hn;cases n with|zero=>lia|succ n=>have g:s.TypeIs (.ref a) "tuple":=#[o,ho,B];unfold eqIsQuiet;refine aYB (aZ5 g F.slot_tuple_eq.lookup ?_);show wpAny _ _ (isInstance (.ref a) (.type "tuple")>>=_) _ _ s;refine aYB (a0H g isSubtype_tuple_tuple ?_);simp only[Bool.not_true,a0I,aZC];refine aYB (wpAny_seqItems ho hd ?_);refine aYB ?_;show wpAny _ _ (forIn items _ _) _ _ s;rw[<- Array.forIn_toList];refine a0D _ (λrest r s'=>r.1=none/\s'=s/\∀v∈rest,∃x∈U,IsN s.heap x v) _ ?_ ?_ _ _ #[rfl,rfl,hi.mem];{rintro v rest r s' ⟨f,rfl,hall⟩;exists x,hx,y,hall v mcs;refine aYB (l x hx (n:=n) (by have:=N.dp_mem hx;lia) y ?_);simp only[Bool.not_true,a0I,aZC];exact aYA #[rfl,rfl,λu d=>hall u (mcm d)]};rintro⟨C,R⟩ s' ⟨f,rfl,_⟩;simp only at f;subst f;exact aYA h
end
noncomputable def nH(prog:a3L)(w:a3K):HeapKind prog w N where
 is:=λh k a=>IsN h k (.ref a)/\k.dp<=8
 hash:=fQ w
 draws:=N.dr
 room:=λA=>A.units+8<cLine
 inj:=λhx d=>IsN.inj _ _ _ hx.1 d.1
 keeps:=λx ho hd hs=>#[IsN.keeps ho hd hs _ _ x.1,x.2]
 pyHash:=λf hk h=>aKY _ (by have:=hk.2;omega) hk.1 h
 eqBool:=λf hx d h=>n_eq (by have:=hx.2;omega) hx.1 d.1 h
 quiet:=λhk h=>aKZ _ hk.2 hk.1 h
def gX(f:Addr)(o:Obj):HO:=.ext λh=>h.get? f=some o
def zD{f:Addr}{o:Obj}(e:h.get? f=some o):bL P w H h f (gX f o):=#[e,#[o,e],λ_ _ p k=>k o p]
def aK0{f:Addr}{o:Obj}(ok:HOk P w H h)(e:H f=some (gX f o)):h.get? f=some o:=(ok f _ e).1
def aK1{c:Addr}(ok:HOk P w H h)(e:H c=some (.crec q)):h.CodeRec (.ref c) q:=by exists o,vs,t,d,a,E,ok c _ e;exact#[c,o,vs,t,rfl,d,a,E]
theorem aK2{z:Pos}{C cv:a3H}:∀{l:List a3H},TriplesOk l->codeAmong z (l++[rawInt pos.line,rawInt pos.col,C])=some cv->codeAmong z l=some cv\/(cv=C/\z.line=pos.line):=by
 intro l
 fun_induction TriplesOk l with
 |case1 =>
  intro _ h;simp only[a0J,codeAmong,rawInt]at h;split at h
  . rename_i d;rw[aZL,aYK]at d;cases h;exact .inr #[rfl,by have:=d.1;lia]
  . cases h
 |case2 a t b u x rest g =>
  intro f h;simp only[a0B,codeAmong]at h ⊢;split at h
  . rename_i d;rw[al d];exact .inl h
  . rename_i d;rw[aK d];exact g f h
 |case3 l f m=>intro h;exact h.elim
section
variable{σ:St}{E:VSP}
theorem aK3(I:Inv X O σ H s)(ai:W.codeIn X.K X.env.code q=true)(hq:X.env.qual=q++".<locals>."){as:List Arg}{body:Expr}(M:oR (q++".<locals>.") pos.line="<lambda>")(hf:∀y∈scope.names,y.2 ≠ .free)(h:∀f c pm ct s' H',Inv X O σ H' s'->(∀b o,H b=some o->H' b=some o)->H f=none->H' c=some (.crec (X.env.qual++"<lambda>"))->H' f=some (gX f (W.kla_obj "<lambda>" (X.env.qual++"<lambda>") #[[],as,none,[],[],none,[]] body scope [] pm c ct))->Q (.ref f) s'):wpAny (model X.prog X.w) X.A (eval (.Lambda #[[],as,none,[],[],none,[]] body scope pos) X.env) Q E s:=by
 exists c,T,ps,e1,hd,am,G,I.ok.tabs _ _ ai;exists more,R,I.base.tbls T ps am;exists q',m,g1,g2,g3,g4,I.hok T _ R;obtain rfl:q'=X.env.qual:=by rw[Array.getElem?_append_left (aXR.mp G).1,G,<- hq]at g1;cases g1;rfl
 rw[<- hq]at M;have Z:closureFor scope X.env=pure []:=closureFor_none hf;have r:=I.bk;exists bm,ob,b1,b2,b3,b4,b5,b6,I.mod.bmod;have gT:X.base.get? T=none:=by cases z:X.base.get? T with|none=>rfl|some o=>have:=(I.bs T o z).2;rw[R]at this;cases this
 have aj:bm≠T:=λz=>by rw[z,gT]at b3;cases b3
 have D:=I.mod.glob;have ag:mainGlobals≠T:=λz=>by exists o,es,ep,e,_,D;rw[z,gT]at e;cases e
 have ak:bm≠mainGlobals:=λz=>by exists o,es,ep,e,hd,_,D;rw[z,e]at b3;cases b3;rw[hd]at b6;cases b6
 have hB:s.heap.BuiltinsAt X.mg T:=#[bm,ob,b1,b2,ak,aj,r _ _ b3,b4,b5,b6];show wpAny (model X.prog X.w) X.A (do
  let dv <- evalAll []
  let kdv <- holding dv (evalAllOpt [])
  makeFunction "<lambda>" (X.env.qual++"<lambda>") #[[],as,none,[],[],none,[]] (.expr body) scope X.env dv kdv [] pos pos.line) Q E s
 refine aYB (aYA (aYB (aZG (aYA ?_))));have nT:∀{b:Addr}{o:HO},H b=some o->(∀ps,o ≠ .tbl ps)->b≠T:=λ{b o} e n z=>by rw[z,R]at e;cases e;exact n _ rfl
 cases hm:codeAmong pos m.toList with
 |none=>(refine W.kla_makeFunction (mg:=X.mg) Z I.ok.glob (D.keeps r) e1 (hd.keeps r) g2 g3 hm ag hB λC B h' tk hx g Y V ae=>?_;exists aq,oc,vs,t,e2,af,ah,hv,V;cases e2;have cT:C≠T:=aX9 (aXM (aXL g2) g);have sz:s.heap.objs.size<=h'.objs.size:=by lia);let H1:Hp:=upd H C (.crec (X.env.qual++"<lambda>"));let F:Obj:=W.kla_obj "<lambda>" (X.env.qual++"<lambda>") #[[],as,none,[],[],none,[]] body scope [] ((X.mg "__name__").getD .none) C B;let H2:Hp:=upd H1 h'.objs.size (gX h'.objs.size F);(have f0:H h'.objs.size=none:=I.hok.fresh sz;have c0:H C=none:=I.hok.fresh g;have L:∀b o,H b=some o->H1 b=some o:=λb o e=>by show upd H C _ b=_;rw[aN (bT e c0)];exact e);(have fc:h'.objs.size≠C:=λz=>by rw[z]at Y;exact absurd Y (aXN _));(have S:∀b o,H1 b=some o->H2 b=some o:=λb o e=>by(have l:b≠h'.objs.size:=λz=>by subst z;have e:upd H C _ h'.objs.size=some o:=e;rw[aN fc,f0]at e;cases e);show upd H1 _ _ b=_;rw[aN l];exact e);(have keep:∀b o,b≠T->s.heap.get? b=some o->(h'.push F).get? b=some o:=λb o l e=>hps (hx b o l e);have aa:(h'.push F).get? T=some (W.tabObj (m++(List.toArray [rawInt pos.line,rawInt pos.col,.ref C]))):=hps ae;have un:Un (frs X.stack) [] H H2 s.heap (h'.push F):=by refine#[λb o e n _ _=>keep b o (λz=>by rw[z,R]at n;cases n) e,λb o e n _ _=>#[o.slots,keep b o (λz=>by rw[z,R]at n;cases n) e],λb o e n _=>?_,λb o e _=>?_,λb U e=>S _ _ (L _ _ e),λb o u e=>S _ _ (L _ _ e),λb ps e=>#[#[],by rw[S _ _ (L _ _ e)];simp]];{have l:=aXL e;show upd (upd H C _) h'.objs.size _ b=none;rw[aN (aXO (aXM l sz)),aN (aXO (aXM l g))];exact n};by_cases l:b=T;{exact#[_,l ▸ aa]};exact#[o,keep b o l e]);(have hok:HOk X.prog X.w H2 (h'.push F):=λb u e=>by by_cases l:b=h'.objs.size;{subst l;have e:upd H1 h'.objs.size (gX h'.objs.size F) h'.objs.size=some u:=e;rw[aY]at e;cases e;exact zD (aXK _ rfl)};have e:upd H1 h'.objs.size (gX h'.objs.size F) b=some u:=e;rw[aN l]at e;by_cases hc:b=C;{subst hc;have e:upd H b _ b=some u:=e;rw[aY]at e;cases e;exact#[oc,vs,t,hps af,ah,hv]};have e:upd H C _ b=some u:=e;rw[aN hc]at e;by_cases J:b=T;{subst J;rw[R]at e;cases e;refine#[_,_,g1,aa,?_,λz cv f=>?_];{rw[Array.toList_append];exact TriplesOk_snoc _ _ _ _ g3};rw[Array.toList_append]at f;rcases aK2 g3 f with f|f;{exists c3,z1,z2,g4 z cv f;exact#[c3,z1,S _ _ (L _ _ z2)]};exact#[C,f.1,by rw[f.2,M];exact S _ _ aY]};refine(I.hok b u e).stay (λd v hd q=>keep d v ?_ q) (λd q=>S _ _ (L _ _ q)) λd v q=>S _ _ (L _ _ q);rcases hd with rfl|hd;{exact J};exact nT hd λps z=>by cases z);exact h _ C _ B _ H2 (I.call (g':=s.gens) (d':=s.drawn) (t':=tk) (ch:=[]) un hok I.bare (λb z=>absurd z (by simp))) (λb o e=>S _ _ (L _ _ e)) f0 (S _ _ aY) aY
 |some cv=>exists C,rfl,N,g4 pos cv hm;rw[M]at N;refine W.kla_makeFunctionHit (mg:=X.mg) Z I.ok.glob (D.keeps r) e1 (hd.keeps r) g2 g3 hm hB λB h' tk hx g=>?_;let F:Obj:=W.kla_obj "<lambda>" (X.env.qual++"<lambda>") #[[],as,none,[],[],none,[]] body scope [] ((X.mg "__name__").getD .none) C B;have f0:H h'.objs.size=none:=I.hok.fresh g;exact h _ C _ B _ _ (I.laid (a:=h'.objs.size) (o:=gX h'.objs.size F) (h':=h'.push F) (t':=tk) (λb u e=>hps (hx b u e)) g (zD (aXK _ rfl))) (λb o e=>by rw[aN (bT e f0)];exact e) f0 (by rw[aN (bT N f0)];exact N) aY
end
end L2
namespace D3
inductive D where
 |non|bl (b:Bool)|int (i:Int)|str (x:Str)|tup (U:List D)|lst (U:List D)|dct (kvs:List (Key×D))|ty (n:String)|ob (a:Addr)|ins (c:Str) (fs:List (Str×D))|fn (x:Str)|exn (c:Str)|set (ks:List Key)|dtn (kvs:List (N×D))|dtf (kvs:List (N×D))|dcf (kvs:List (Key×D))|clo (f n:Str) (fs:List (Str×D))
inductive Md where|fz|fr|bo
 deriving DecidableEq
inductive Res where
 |ok (m:Md) (d:D)|exc (c:Str)|stuck
def cellO(c:Addr)(y:V):HO:=.ext λh=>∃u,h.IsCell c (some u)/\aG y u
end D3
variable{y Kd No:D3.D}{R R1:List (L2.N×D3.D)}{pl:D3.D->D3.D->D3.D}{ds:List D3.D}{Φ:List D3.D->D3.Res}{m':D3.Md}{M:List (L2.Key×D3.D)}{Bd:Int->D3.D->Prop}{so:Int->D3.D->D3.D}
namespace D3
def zE:Stmt->Str|.FunctionDef n _ _ _ _ _ _ _ _ _=>n|_=>""
def CloK(K:Fg)(f0 n q:Str)(st:Stmt):Prop:=∃x qual st0 f fd,W.nsIn K mainGlobals f0=some (some (.ref f))/\Fun K x qual st0 f fd/\(if n="" then(gW st0)[1]? else(gW st0).find? λs=>zE s==n)=some st/\q=qual++".<locals>."++zE st
def lD(as:List Addr)(H:Hp):Hp:=λb=>if b∈as then none else H b
def aK4{as:List Addr}{F:Hp}(h:aD F F'):aD (lD as F) (lD as F'):=λb o e=>by by_cases a:b∈as;{rw[show lD as F b=none from al a]at e;cases e};rw[show lD as F b=F b from aK a]at e;rw[show lD as F' b=F' b from aK a];exact h b o e
def clA(cl:List (Str×Addr)):List Addr:=cl.filterMap λz=>cl.lookup z.1
def ClOk(fs:List (Str×D))(cl:List (Str×Addr)):Prop:=(∀x c,cl.lookup x=some c->x∈fs.map (·.1))/\∀x y c,cl.lookup x=some c->cl.lookup y=some c->x=y
def xobj(a C:Addr):HO:=.ext λh=>∃o,h.get? a=some o/\o.cls=.ref C
mutual
def NAt(K:Fg)(F:Hp):N->V->Prop|.i n,v=>v=.int n|.s x,v=>v=.str x/\x.length<=sizeLine/\PyData.strOk x=true|.t U,v=>∃a ys,v=.ref a/\SqT K F a ys/\bH K F U ys
def bH(K:Fg)(F:Hp):List N->List V->Prop|[],ys=>ys=[]|x::U,ys=>∃y zs,ys=y::zs/\NAt K F x y/\bH K F U zs
end
def zF(S:Key->Bool)(ks:List Key):Prop:=ks.Nodup/\∀k,S k=true↔k∈ks
mutual
def aB(K:Fg)(F:Hp):D->V->Prop|.non,v=>v=.non|.bl b,v=>v=.bl b|.int i,v=>v=.int i|.str x,v=>v=.str x/\x.length<=sizeLine/\PyData.strOk x=true|.tup ds,v=>∃a U,v=.ref a/\SqT K F a U/\aC K F ds U|.lst ds,v=>∃a U,v=.ref a/\SqL K F a U/\aC K F ds U|.dct kvs,v=>∃a U,v=.ref a/\F a=some (.dK U)/\aF K F kvs U|.ty n,v=>v=.ty n|.ob a,v=>v=.ref a|.ins c fs,v=>∃a C dx gs,v=.ref a/\W.nsIn K mainGlobals c=some (some (.ref C))/\F a=some (.ins C dx gs)/\dM K F fs gs|.fn x,v=>∃a,v=.ref a/\W.nsIn K mainGlobals x=some (some (.ref a))|.exn c,v=>∃a C,v=.ref a/\W.nsIn K mainGlobals c=some (some (.ref C))/\F a=some (xobj a C)|.set ks,v=>∃a S,v=.ref a/\F a=some (.set S ks.length)/\zF S ks|.dtn kvs,v=>∃a U,v=.ref a/\F a=some (.dN U)/\aS K F kvs U|.dtf kvs,v=>∃a o U,v=.ref a/\F a=some (.frz o (.dN U))/\aS K F kvs U|.dcf kvs,v=>∃a o U,v=.ref a/\F a=some (.frz o (.dK U))/\aF K F kvs U|.clo f0 n fs,v=>∃f c name q st doc pm ct cl,CloK K f0 n q st/\v=.ref f/\F f=some (gX f (W.fnMade name q (nG st) (gW st) (dL st) cl doc pm c ct))/\F c=some (.crec q)/\ClOk fs cl/\iK K F fs cl
def aS(K:Fg)(F:Hp):List (N×D)->List (N×Addr×V)->Prop|[],U=>U=[]|(k,d)::ds,U=>∃b y ys,U=(k,b,y)::ys/\(NAt K F k (.ref b)/\k.dp<=8)/\aB K F d y/\aS K F ds ys
def aC(K:Fg)(F:Hp):List D->List V->Prop|[],U=>U=[]|d::ds,U=>∃y ys,U=y::ys/\aB K F d y/\aC K F ds ys
def aF(K:Fg)(F:Hp):List (Key×D)->List (Key×V)->Prop|[],U=>U=[]|(k,d)::ds,U=>∃y ys,U=(k,y)::ys/\aB K F d y/\aF K F ds ys
def iK(K:Fg)(F:Hp):List (Str×D)->List (Str×Addr)->Prop|[],_=>True|(x,d)::ds,cl=>(∃a y,cl.lookup x=some a/\F a=some (cellO a y)/\aB K (lD (clA cl) F) d y)/\iK K F ds cl
def dM(K:Fg)(F:Hp):List (Str×D)->List (Str×V)->Prop|[],U=>U=[]|(k,d)::ds,U=>∃y ys,U=(k,y)::ys/\aB K F d y/\dM K F ds ys
end
def aD.seqT{K:Fg}{a:Addr}(e:aD H H')(h:SqT K H a U):SqT K H' a U:=by rcases h with(h|⟨o,h⟩)|h;{exact .inl (.inl (e _ _ h))};{exact .inl (.inr #[o,e _ _ h])};exact .inr h
section
variable{K:Fg}{F:Hp}
theorem bH.map:∀{U:List N}{ys:List V},bH K F U ys->(∀x∈U,∀v,NAt K F x v->NAt K F' x v)->bH K F' U ys|[],_,h,_=>by simpa only [bH]using h|x::U,ys,h,k=>by simp only[bH]at h ⊢;exists y,zs,e,q,r,h;exact#[y,zs,e,k x mcs y q,r.map λz a=>k z (mcm a)]
def NAt.mono(s:aD F F')(k:N):∀v,NAt K F k v->NAt K F' k v:=by induction k using N.ind with|hi n|hs x=>intro v h;simpa only [NAt]using h|ht U d=>intro v h;simp only[NAt]at h ⊢;exists a,ys,e,q,r,h;exact#[a,ys,e,aD.seqT s q,r.map d]
mutual
theorem aB.mono{F F':Hp}(s:aD F F'):∀(d:D) (v:V),aB K F d v->aB K F' d v|.non,_,h|.bl _,_,h|.int _,_,h|.str _,_,h=>by simpa only [aB]using h|.tup ds,v,h=>by simp only[aB]at h ⊢;exists a,U,e,q,r,h;exact#[a,U,e,aD.seqT s q,aC.mono s ds U r]|.lst ds,v,h=>by simp only[aB]at h ⊢;exists a,U,e,q,r,h;exact#[a,U,e,s.seq q,aC.mono s ds U r]|.dct ds,v,h=>by simp only[aB]at h ⊢;exists a,U,e,q,r,h;exact#[a,U,e,s _ _ q,aF.mono s ds U r]|.ty _,_,h|.ob _,_,h|.fn _,_,h=>by simpa only [aB]using h|.exn _,_,h=>by simp only[aB]at h ⊢;exists a,C,e,n,q,h;exact#[a,C,e,n,s _ _ q]|.set _,_,h=>by simp only[aB]at h ⊢;exists a,S,e,q,r,h;exact#[a,S,e,s _ _ q,r]|.dtn ds,v,h=>by simp only[aB]at h ⊢;exists a,U,e,q,r,h;exact#[a,U,e,s _ _ q,aS.mono s ds U r]|.dtf ds,v,h=>by simp only[aB]at h ⊢;exists a,o,U,e,q,r,h;exact#[a,o,U,e,s _ _ q,aS.mono s ds U r]|.dcf ds,v,h=>by simp only[aB]at h ⊢;exists a,o,U,e,q,r,h;exact#[a,o,U,e,s _ _ q,aF.mono s ds U r]|.clo f0 n fs,v,h=>by simp only[aB]at h ⊢;exists f,c,name,q,st,g,m,ct,cl,k,e,q1,l,o,r,h;exact#[f,c,name,q,st,g,m,ct,cl,k,e,s _ _ q1,s _ _ l,o,iK.mono s fs cl r]|.ins c fs,v,h=>by simp only[aB]at h ⊢;exists a,C,dx,G,e,n,q,r,h;exact#[a,C,dx,G,e,n,s _ _ q,dM.mono s fs G r]
theorem aC.mono{F F':Hp}(s:aD F F'):∀(ds:List D) (U:List V),aC K F ds U->aC K F' ds U|[],_,h=>by simpa only [aC]using h|d::ds,U,h=>by simp only[aC]at h ⊢;exists y,ys,e,q,r,h;exact#[y,ys,e,aB.mono s d y q,aC.mono s ds ys r]
theorem aF.mono{F F':Hp}(s:aD F F'):∀(ds:List (Key×D)) (U:List (Key×V)),aF K F ds U->aF K F' ds U|[],_,h=>by simpa only [aF]using h|(k,d)::ds,U,h=>by simp only[aF]at h ⊢;exists y,ys,e,q,r,h;exact#[y,ys,e,aB.mono s d y q,aF.mono s ds ys r]
theorem iK.mono{F F':Hp}(s:aD F F'):∀(fs:List (Str×D)) (cl:List (Str×Addr)),iK K F fs cl->iK K F' fs cl|[],_,h=>by simpa only [iK]using h|(x,d)::fs,cl,h=>by simp only[iK]at h ⊢;obtain⟨⟨a,y,e,q,r⟩,t⟩:=h;exact#[#[a,y,e,s _ _ q,aB.mono (aK4 s) d y r],iK.mono s fs cl t]
theorem aS.mono{F F':Hp}(s:aD F F'):∀(ds:List (N×D)) (U:List (N×Addr×V)),aS K F ds U->aS K F' ds U|[],_,h=>by simpa only [aS]using h|(k,d)::ds,U,h=>by simp only[aS]at h ⊢;exists b,y,ys,e,n,q,r,h;exact#[b,y,ys,e,#[NAt.mono s k _ n.1,n.2],aB.mono s d y q,aS.mono s ds ys r]
theorem dM.mono{F F':Hp}(s:aD F F'):∀(ds:List (Str×D)) (U:List (Str×V)),dM K F ds U->dM K F' ds U|[],_,h=>by simpa only [dM]using h|(k,d)::ds,U,h=>by simp only[dM]at h ⊢;exists y,ys,e,q,r,h;exact#[y,ys,e,aB.mono s d y q,dM.mono s ds ys r]
end
theorem dM.lookN:∀{ds:List (Str×D)}{U:List (Str×V)}{f:Str},dM K F ds U->ds.lookup f=none->U.lookup f=none|[],_,_,h,e=>by simp only[dM]at h;subst h;rfl|(k,d)::ds,_,f,h,e=>by simp only[dM]at h;exists y,ys,rfl,q,r,h;rw[a0K]at e ⊢;split at e;{cases e};exact dM.lookN r e
theorem aC.length:∀{ds:List D}{U:List V},aC K F ds U->U.length=ds.length|[],_,h=>by simp only[aC]at h;subst h;rfl|d::ds,_,h=>by simp only[aC]at h;exists y,ys,rfl,_,r,h;rw[aZX,aZX,aC.length r]
theorem aC.get:∀{ds:List D}{U:List V}{i:Nat}{x:V},aC K F ds U->U[i]? = some x->∃d,ds[i]? = some d/\aB K F d x|[],_,_,_,h,e=>by simp only[aC]at h;subst h;simp at e|d::ds,_,0,_,h,e=>by simp only[aC]at h;exists y,ys,rfl,r,_,h;simp at e;subst e;exact#[d,rfl,r]|d::ds,_,i+1,_,h,e=>by simp only[aC]at h;exists y,ys,rfl,_,r,h;exists f,E,a,aC.get (i:=i) r (by simpa using e);exact#[f,by simpa using E,a]
theorem aC.get':∀{ds:List D}{U:List V}{i:Nat}{d:D},aC K F ds U->ds[i]? = some d->∃x,U[i]? = some x/\aB K F d x|[],_,_,_,h,e=>by simp at e|d::ds,_,0,_,h,e=>by simp only[aC]at h;exists y,ys,rfl,r,_,h;simp at e;subst e;exact#[y,rfl,r]|d::ds,_,i+1,_,h,e=>by simp only[aC]at h;exists y,ys,rfl,_,r,h;exists f,E,a,aC.get' (i:=i) r (by simpa using e);exact#[f,by simpa using E,a]
theorem aC.append:∀{ds es:List D}{U ys:List V},aC K F ds U->aC K F es ys->aC K F (ds++es) (U++ys)|[],_,_,_,h,r=>by simp only[aC]at h;subst h;exact r|d::ds,_,_,_,h,r=>by simp only[aC]at h;exists y,ys,rfl,q,t,h;show aC K F (d::(ds++_)) (y::(ys++_));simp only[aC];exact#[y,_,rfl,q,aC.append t r]
def aC.nil:aC K F [] []:=by simp only[aC]
def aC.cons{d:D}{ds:List D}{x:V}{U:List V}(h:aB K F d x)(r:aC K F ds U):aC K F (d::ds) (x::U):=by simp only[aC];exact#[x,U,rfl,h,r]
end
def Top(K:Fg)(F H:Hp)(a:Addr):D->Prop|.lst ds=>∃U,H a=some (.lst U)/\aC K F ds U|.dct ds=>∃U,H a=some (.dK U)/\aF K F ds U|.ins c fs=>∃C dx g,W.nsIn K mainGlobals c=some (some (.ref C))/\H a=some (.ins C dx g)/\dM K F fs g|.set ks=>∃S,H a=some (.set S ks.length)/\zF S ks|.dtn ds=>∃U,H a=some (.dN U)/\aS K F ds U|_=>False
def Rp(K:Fg)(F H:Hp)(m:Md)(d:D)(v:V):Prop :=
 match m with|.fz=>aB K F d v|_=>∃a,v=.ref a/\F a=none/\Top K F H a d
inductive jW:Option HO->Prop
 |no:jW none
 |cr {q:Str}:jW (some (.crec q))
def iL{o:Option HO}(h:o=none):jW o:=h ▸ .no
structure aJ(F H F' H':Hp):Prop where
 same:aD H H'
 fsame:aD F F'
 sub:aD F' H'
 new:∀a,F a=none -> ¬ jW (H a)->F' a=none
theorem aJ.refl{F:Hp}(h:aD F H):aJ F H F H:=#[aD.refl _,aD.refl _,h,λ_ h _=>h]
theorem aJ.trans{F H1 g f:Hp}(a:aJ F H F1 H1)(b:aJ F1 H1 g f):aJ F H g f :=
 #[a.same.trans b.same,a.fsame.trans b.fsame,b.sub,λx l d=>b.new x (a.new x l d) (by
  cases e:H x with|none=>exact absurd (iL e) d|some o=>rw[a.same x o e,<- e];exact d)]
def aJ.laid{F:Hp}{p:Addr}(o:HO)(h:aD F H)(hp:H p=none):aJ F H (upd F p o) (upd H p o):=by have hf:F p=none:=h.free hp;refine#[λb u e=>?_,λb u e=>?_,λb u e=>?_,λa g f=>?_];{rw[aN (bT e hp)];exact e};{rw[aN (bT e hf)];exact e};{by_cases d:b=p;{subst d;rw[aY]at e ⊢;exact e};rw[aN d]at e ⊢;exact h b u e};(have:a≠p:=by rintro rfl;exact f (iL hp));rw[aN this];exact g
def aJ.fresh{F:Hp}{p:Addr}(o:HO)(h:aD F H)(hp:H p=none):aJ F H F (upd H p o):=by refine#[λb u e=>?_,aD.refl _,λb u e=>?_,λa d _=>d];{rw[aN (bT e hp)];exact e};rw[aN (bT (h b u e) hp)];exact h b u e
def Top.step{K:Fg}{F:Hp}{a:Addr}{d:D}(st:aJ F H F' H')(h:Top K F H a d):Top K F' H' a d:=by cases d with|lst ds|dct ds=>exists U,e,r,h;exact#[U,st.same _ _ e,r.mono st.fsame _ _]|ins c fs=>exists C,dx,g,n,e,r,h;exact#[C,dx,g,n,st.same _ _ e,r.mono st.fsame _ _]|set ks=>exists S,e,r,h;exact#[S,st.same _ _ e,r]|dtn ds=>exists U,e,r,h;exact#[U,st.same _ _ e,r.mono st.fsame _ _]|_=>exact h.elim
def Top.there{K:Fg}{F:Hp}{a:Addr}{d:D}(h:Top K F H a d):¬ jW (H a):=by cases d with|lst ds|dct ds=>exists U,e,r,h;rw[e];exact λz=>nomatch z|ins c fs=>exists C,dx,g,n,e,r,h;rw[e];exact λz=>nomatch z|set ks=>exists S,e,r,h;rw[e];exact λz=>nomatch z|dtn ds=>exists U,e,r,h;rw[e];exact λz=>nomatch z|_=>exact h.elim
theorem Rp.step{K:Fg}{F:Hp}{m:Md}{d:D}(st:aJ F H F' H')(h:Rp K F H m d v):Rp K F' H' m d v:=by cases m with|fz=>exact aB.mono st.fsame d v h|fr|bo=>exists a,e,n,t,h;exact#[a,e,st.new a n t.there,t.step st]
def Rp.seqL{K:Fg}{F:Hp}{m:Md}(s:aD F H)(h:Rp K F H m (.lst ds) v):∃a U,v=.ref a/\SqL K H a U/\aC K F ds U:=by cases m with|fz=>have h:aB K F (.lst ds) v:=h;simp only[aB]at h;exists a,U,e,q,r,h;exact#[a,U,e,s.seq q,r]|fr|bo=>exists a,e,n,U,q,r,h;exact#[a,U,e,SqL.of q,r]
theorem Rp.seqT{K:Fg}{F:Hp}{m:Md}(s:aD F H)(h:Rp K F H m (.tup ds) v):∃a U,v=.ref a/\SqT K H a U/\aC K F ds U:=by cases m with|fz=>have h:aB K F (.tup ds) v:=h;simp only[aB]at h;exists a,U,e,q,r,h;exact#[a,U,e,aD.seqT s q,r]|fr|bo=>exists a,e,n,q,h;exact q.elim
def Rp.dict{K:Fg}{F:Hp}{m:Md}{ds:List (Key×D)}(s:aD F H)(h:Rp K F H m (.dct ds) v):∃a U,v=.ref a/\H a=some (.dK U)/\aF K F ds U:=by cases m with|fz=>have h:aB K F (.dct ds) v:=h;simp only[aB]at h;exists a,U,e,q,r,h;exact#[a,U,e,s _ _ q,r]|fr|bo=>exists a,e,n,U,q,r,h;exact#[a,U,e,q,r]
theorem Rp.ins{K:Fg}{F:Hp}{m:Md}{c:Str}{fs:List (Str×D)}(s:aD F H)(h:Rp K F H m (.ins c fs) v):∃a C dx g,v=.ref a/\W.nsIn K mainGlobals c=some (some (.ref C))/\H a=some (.ins C dx g)/\dM K F fs g:=by cases m with|fz=>have h:aB K F (.ins c fs) v:=h;simp only[aB]at h;exists a,C,dx,g,e,n,q,r,h;exact#[a,C,dx,g,e,n,s _ _ q,r]|fr|bo=>exists a,e,n,C,dx,g,z,q,r,h;exact#[a,C,dx,g,e,z,q,r]
theorem Rp.int{K:Fg}{F:Hp}{m:Md}{i:Int}(h:Rp K F H m (.int i) v):v=.int i:=by cases m with|fz=>have h:aB K F (.int i) v:=h;simpa only [aB]using h|fr|bo=>exists a,e,n,q,h;exact q.elim
theorem Rp.bl{K:Fg}{F:Hp}{m:Md}{i:Bool}(h:Rp K F H m (.bl i) v):v=.bl i:=by cases m with|fz=>have h:aB K F (.bl i) v:=h;simpa only [aB]using h|fr|bo=>exists a,e,n,q,h;exact q.elim
theorem Rp.non{K:Fg}{F:Hp}{m:Md}(h:Rp K F H m .non v):v=.non:=by cases m with|fz=>have h:aB K F .non v:=h;simpa only [aB]using h|fr|bo=>exists a,e,n,q,h;exact q.elim
theorem Rp.str{K:Fg}{F:Hp}{m:Md}(h:Rp K F H m (.str x) v):v=.str x/\x.length<=sizeLine/\PyData.strOk x=true:=by cases m with|fz=>have h:aB K F (.str x) v:=h;simpa only [aB]using h|fr|bo=>exists a,e,n,q,h;exact q.elim
theorem Rp.ty{K:Fg}{F:Hp}{m:Md}{n:String}(h:Rp K F H m (.ty n) v):v=.ty n:=by cases m with|fz=>have h:aB K F (.ty n) v:=h;simpa only [aB]using h|fr|bo=>exists a,e,n,q,h;exact q.elim
theorem Rp.ob{K:Fg}{F:Hp}{m:Md}{n:Addr}(h:Rp K F H m (.ob n) v):v=.ref n:=by cases m with|fz=>have h:aB K F (.ob n) v:=h;simpa only [aB]using h|fr|bo=>exists a,e,n,q,h;exact q.elim
def rp_ty{K:Fg}{F:Hp}(i:String):Rp K F H .fz (.ty i) (.ty i):=by show aB K F _ _;simp only[aB]
def fC{K:Fg}{F:Hp}(i:Int):Rp K F H .fz (.int i) (.int i):=by show aB K F _ _;simp only[aB]
def cI{K:Fg}{F:Hp}(i:Bool):Rp K F H .fz (.bl i) (.bl i):=by show aB K F _ _;simp only[aB]
def zG{K:Fg}{F:Hp}:Rp K F H .fz .non .non:=by show aB K F _ _;simp only[aB]
def o9{K:Fg}{F:Hp}(h:x.length<=sizeLine/\PyData.strOk x=true):Rp K F H .fz (.str x) (.str x):=by show aB K F _ _;simp only[aB,true_and];exact h
abbrev Rho:=List (Option (Bool×D))
structure aR(K:Fg)(F0 H0 F H:Hp)(σ:L2.St)(Y:Rho):Prop where
 st:aJ F0 H0 F H
 slot:∀(i:Nat) (m:Bool) (d:D),Y[i]? = some (some (m,d))->∃v,σ[i]? = some (some v)/\Rp K F H (if m then .bo else .fz) d v/\(m=true->∀a,v=.ref a->H0 a=none)
 apart:∀(i j:Nat) (d d':D) (a:Addr),i≠j->Y[i]? = some (some (true,d))->Y[j]? = some (some (true,d'))->σ[i]? = some (some (.ref a))->σ[j]? = some (some (.ref a))->False
 len:σ.length=Y.length
theorem aR.step{K:Fg}{F:Hp}{Y:Rho}(r:aR K F0 H0 F H σ Y)(st:aJ F H F' H'):aR K F0 H0 F' H' σ Y :=
 #[r.st.trans st,λi m d e=>by exists v,f,a,E,r.slot i m d e;exact#[v,f,a.step st,E],r.apart,r.len]
theorem aR.sub{K:Fg}{F:Hp}{Y:Rho}(r:aR K F0 H0 F H σ Y):aD F H:=r.st.sub
abbrev XE:=Str->L2.St->Hp->Prop
structure Cw where
 K:Fg
 F0:Hp
 H0:Hp
 EE:XE
def tG(C:Cw)(g:Rho->Res):TE:=λσ H Q=>∃Y F,aR C.K C.F0 C.H0 F H σ Y/\match g Y with|.ok m d=>∀v F' H',aJ F H F' H'->Rp C.K F' H' m d v->(m=.fr->∀a,v=.ref a->H a=none)->Q v H'|.exc c=>∀F' H',aJ F H F' H'->C.EE c σ H'|.stuck=>False
abbrev Cw.at(C:Cw)(X:Cx):Cw:={C with K:=X.K}
end D3
variable{g ga gb gc gi ge:D3.Rho->D3.Res}{C:D3.Cw}{Y ρ':D3.Rho}
namespace D3
def PV(C:Cw)(X:Cx)(e:Expr)(g:Rho->Res):Prop:=PE X e (tG (C.at X) g)
def PE.imp{t t':TE}(h:PE X e t)(i:∀σ H Q,t' σ H Q->t σ H Q):PE X e t':=λO s σ H Q I q=>h O s σ H Q I (i σ H Q q)
noncomputable def Res.thn(r:Res)(k:Md->D->Res):Res:=match r with|.ok m d=>k m d|.exc c=>.exc c|.stuck=>.stuck
@[simp]theorem Res.thn_ok(m:Md)(d:D)(k:Md->D->Res):(Res.ok m d).thn k=k m d:=rfl
@[simp]theorem Res.thn_exc(c:Str)(k:Md->D->Res):(Res.exc c).thn k=.exc c:=rfl
@[simp]theorem Res.thn_stuck(k:Md->D->Res):Res.stuck.thn k=.stuck:=rfl
def Res.of:Option (Md×D)->Res|some (m,d)=>.ok m d|none=>.stuck
@[simp]theorem Res.of_some(m:Md)(d:D):Res.of (some (m,d))=.ok m d:=rfl
@[simp]theorem Res.of_none:Res.of none=.stuck:=rfl
def aX(C:Cw)(F H:Hp)(σ:L2.St)(r:Res)(Q:VK):Prop:=match r with|.ok m d=>∀v F' H',aJ F H F' H'->Rp C.K F' H' m d v->(m=.fr->∀a,v=.ref a->H a=none)->Q v H'|.exc c=>∀F' H',aJ F H F' H'->C.EE c σ H'|.stuck=>False
def aU{Q:VK}:tG C g σ H Q=∃Y F,aR C.K C.F0 C.H0 F H σ Y/\aX C F H σ (g Y) Q:=by unfold tG aX;rfl
def aX.step{F H1:Hp}{r:Res}{Q:VK}(st:aJ F H F1 H1)(h:aX C F H σ r Q):aX C F1 H1 σ r Q:=by cases r with|ok m d=>exact λv F' H' S f hf=>h v F' H' (st.trans S) f λe a ea=>st.same.free (hf e a ea)|exc c=>exact λF' H' S=>h F' H' (st.trans S)|stuck=>exact h
section
variable{a b:Expr}
def dG(Y:Rho)(i:Nat):Res:=match Y[i]? with|some (some (false,d))=>.ok .fz d|some (some (true,d))=>.ok .bo d|_=>.stuck
def aK5(i:Nat)(h:PE X (.Name x pos) (fR i)):PV C X (.Name x pos) (λY=>dG Y i):=by refine PE.imp h λσ H Q q=>?_;rw[aU]at q;exists Y,F,R,w,q;unfold dG at w;cases e:Y[i]? with|none=>rw[e]at w;exact w.elim|some o=>cases o with|none=>rw[e]at w;exact w.elim|some p=>exists m,d,p;exists v,E,r,_,R.slot i m d e;rw[e]at w;cases m with|false|true=>exact#[v,E,w v F H (.refl R.sub) r (by nofun)]
def jX(d:D)(h:PE X e (tC v))(r:∀F H,Rp X.K F H .fz d v):PV C X e (λ_=>.ok .fz d):=by refine PE.imp h λσ H Q q=>?_;rw[aU]at q;exists Y,F,R,w,q;exact w v F H (.refl R.sub) (r F H) (by nofun)
def aK6{i j:_}:PV C X (.Constant (.int i) j pos) (λ_=>.ok .fz (.int i)):=jX _ aIB λ_ _=>fC i
def pv_bl{i j:_}:PV C X (.Constant (.bool i) j pos) (λ_=>.ok .fz (.bl i)):=jX _ pe_bl λ_ _=>cI i
def aK7{j:_}:PV C X (.Constant .none j pos) (λ_=>.ok .fz .non):=jX _ aIC λ_ _=>zG
def aK8{j:_}(h:(decide (x.length<=sizeLine)&&PyData.strOk x)=true:=by decide +kernel):PV C X (.Constant (.str x) j pos) (λ_=>.ok .fz (.str x)) :=
 jX _ aID λ_ _=>o9 (by rw[aZL,a0L]at h;exact h)
noncomputable def op2(f:Md->D->Md->D->Option (Md×D))(x y:Res):Res:=x.thn λm d=>y.thn λn e=>Res.of (f m d n e)
def OpD(C:Cw)(X:Cx)(f:a3H->a3H->Sem a3H)(l:Md->D->Md->D->Option (Md×D)):Prop :=
 ∃r:R2,OpR X f r/\∀F H m x n y v u k d Q,aD F H->Rp X.K F H m x v->Rp X.K F H n y u->l m x n y=some (k,d) ->
  (∀V F' H',aJ F H F' H'->Rp X.K F' H' k d V->(k=.fr->∀a,V=.ref a->H a=none)->Q V H')->r v u H Q
def lE{f:Md->D->Md->D->Option (Md×D)}{r:R2}(h:∀F H m x n y v u k d Q,aD F H->Rp C.K F H m x v->Rp C.K F H n y u->f m x n y=some (k,d)->(∀V F' H',aJ F H F' H'->Rp C.K F' H' k d V->(k=.fr->∀a,V=.ref a->H a=none)->Q V H')->r v u H Q){Q:VK}(q:tG C (λY=>op2 f (ga Y) (gb Y)) σ H Q):tOp r (tG C ga) (tG C gb) σ H Q:=by unfold tOp;rw[aU]at q ⊢;exists Y,F,R,w,q;refine#[Y,F,R,?_];cases ea:ga Y with|stuck|exc c=>simp only[op2,ea,Res.thn]at w;exact w|ok m d=>intro v F1 H1 s1 r1 _;rw[aU];refine#[Y,F1,R.step s1,?_];have W:=w.step s1;simp only[op2,ea,Res.thn]at W;cases o:gb Y with|stuck|exc c=>rw[o]at W;exact W|ok n e=>rw[o]at W;intro u A t S B _;have l:aX C A t σ (Res.of (f m d n e)) Q:=aX.step S W;cases E:f m d n e with|none=>rw[E]at l;exact l.elim|some G=>exists k,J,G;rw[E]at l;exact h A t m d n e v u k J Q S.sub (r1.step S) B E l
def pv_op{op:Operator}{φ}(o:OpD C X (binaryOp op) φ)(ha:PV C X a ga)(d:PV C X b gb):PV C X (.BinOp a op b pos) (λY=>op2 φ (ga Y) (gb Y)):=by exists r,l,f,o;exact PE.imp (pe_op l ha d) λσ H Q q=>lE f q
def lF{op:CmpOp}{φ}(o:OpD C X (compareOp op) φ)(ha:PV C X a ga)(f:PV C X b gb)(d:behindInMarks op b=false):PV C X (.Compare a [op] [b] pos) (λY=>op2 φ (ga Y) (gb Y)):=by exists r,m,l,o;exact PE.imp (aJB m ha f d) λσ H Q q=>lE l q
def orO(f d:Md->D->Md->D->Option (Md×D)):Md->D->Md->D->Option (Md×D):=λm x n y=>(f m x n y).orElse λ_=>d m x n y
theorem OpD.or{f:a3H->a3H->Sem a3H}{φ ψ}(h:OpD C X f φ)(h':OpD C X f ψ):OpD C X f (orO φ ψ):=by exists r,D,B,h;exists G,o,l,h';refine#[_,D.or o,λF H m x n y v u k d Q s A t e w=>?_];unfold orO at e;cases E:φ m x n y with|none=>rw[E]at e;exact .inr (l F H m x n y v u k d Q s A t e w)|some p=>rw[E]at e;cases e;exact .inl (B F H m x n y v u k d Q s A t E w)
noncomputable def fI(c:Int->Int->Bool)(g:Int->Int->D):Md->D->Md->D->Option (Md×D):=λ_ x _ y=>match x,y with|.int i,.int j=>if c i j=true then some (.fz,g i j)else none|_,_=>none
def pA{f:a3H->a3H->Sem a3H}{Cc:Int->Int->Prop}{c:Int->Int->Bool}{g:Int->Int->V}{g':Int->Int->D}(o:OpR X f (rI Cc g))(B:∀i j,c i j=true->Cc i j)(A:∀F H i j,Rp X.K F H .fz (g' i j) (g i j)):OpD C X f (fI c g'):=by refine#[_,o,λF H m x n y v u k d Q s t r e w=>?_];unfold fI at e;split at e;{rename_i i j;cases t.int;cases r.int;split at e;{rename_i l;cases e;exact#[i,j,rfl,rfl,B i j l,w _ F H (.refl s) (A F H i j) (by nofun)]};cases e};cases e
def lG{f:a3H->a3H->Sem a3H}{g:Int->Int->V}{g':Int->Int->D}(o:OpR X f (rI0 g))(t:∀F H i j,Rp X.K F H .fz (g' i j) (g i j)):OpD C X f (fI (λ_ _=>true) g'):=by refine#[_,o,λF H m x n y v u k d Q s l r e w=>?_];unfold fI at e;split at e;{rename_i i j;cases l.int;cases r.int;rw[al rfl]at e;cases e;exact#[i,j,rfl,rfl,w _ F H (.refl s) (t F H i j) (by nofun)]};cases e
def bits(i:Int):Bool:=decide (i.natAbs.log2<9000)
def aK9:OpD C X (binaryOp .Add) (fI (λ_ _=>true) λi j=>.int (i+j)):=lG aI2 λ_ _ i j=>fC _
def aLA:OpD C X (binaryOp .Sub) (fI (λ_ _=>true) λi j=>.int (i-j)):=lG aI3 λ_ _ i j=>fC _
theorem aLB{i j:Int}(h:(bits i&&bits j)=true):IntMulOk i j:=by(rw[aZL]at h;have b:∀{i:Int},bits i=true->Builtin.Int.intBits i<=2 ^ 20:=λ{i} h=>by unfold bits at h;have:=a0M h;unfold Builtin.Int.intBits;split;{exact aYO _};(have e:(2:Nat) ^ 20=1048576:=by decide);lia);exact IntMulOk.of_bits (b h.1) (b h.2)
def w64(i:Int):Bool:=decide (i.natAbs<2 ^ 63)
theorem zH{i:Int}(h:w64 i=true):Builtin.Int.intBits i<=64:=by have h:=a0M h;unfold Builtin.Int.intBits;split;{exact aYO _};rename_i d;have:i.natAbs.log2<63:=(Nat.log2_lt (by simpa using d)).mpr h;lia
def aLC:OpD C X (binaryOp .Mult) (fI (λi j=>(bits i&&bits j)||(w64 i||w64 j)) λi j=>.int (i * j)) :=
 pA (Cc:=λi j=>IntMulOk i j) (opI λ_ _ _ _ _ _ _ d q=>mul_int q d) (λi j h=>by
  rcases(a0N _ _).mp h with h|h
  . exact aLB h
  . rcases(a0N _ _).mp h with h|h
    . exact IntMulOk.of_left (zH h)
    . exact IntMulOk.of_right (zH h)) λ_ _ i j=>fC _
def aLD:OpD C X (binaryOp .Mod) (fI (λ_ j=>decide (0<j)) λi j=>.int (i % j)):=pA aI4 (λi j h=>a0M h) λ_ _ i j=>fC _
theorem aLE:OpR X (binaryOp .FloorDiv) (rI (λ_ j=>0<j/\bits j=true) λi j=>.int (i / j)):=opI λi j _ _ _ _ _ d q=>by exists l,f,d;refine floordiv_int (by lia) ?_ (.inl (PyProof.noPylong_of_log2 (a0M f)));rw[Int.fdiv_eq_ediv_of_nonneg i (by lia)];exact q
def aLF:OpD C X (binaryOp .FloorDiv) (fI (λ_ j=>decide (0<j)&&bits j) λi j=>.int (i / j)):=pA aLE (λi j h=>by rw[aZL,a0L]at h;exact h) λ_ _ i j=>fC _
def aLG:OpD C X (binaryOp .Pow) (fI (λi j=>decide (0<=j)&&decide (j<=1000000)&&decide (i.natAbs<2 ^ 64)) λi j=>.int (i ^ j.toNat)) :=
 pA aI5 (λi j h=>by simp only[aZL,a0L]at h;exact#[h.1.1,h.1.2,h.2]) λ_ _ i j=>fC _
def aLH:OpD C X (compareOp .Lt) (fI (λ_ _=>true) λi j=>.bl (decide (i<j))):=lG op_lt λ_ _ i j=>cI _
def aLI:OpD C X (compareOp .LtE) (fI (λ_ _=>true) λi j=>.bl (decide (i<=j))):=lG op_le λ_ _ i j=>cI _
def aLJ:OpD C X (compareOp .Gt) (fI (λ_ _=>true) λi j=>.bl (decide (j<i))):=lG op_gt λ_ _ i j=>cI _
def aLK:OpD C X (compareOp .GtE) (fI (λ_ _=>true) λi j=>.bl (decide (j<=i))):=lG op_ge λ_ _ i j=>cI _
noncomputable def fS(c:Str->Str->Bool)(g:Str->Str->D):Md->D->Md->D->Option (Md×D):=λ_ x _ y=>match x,y with|.str i,.str j=>if c i j=true then some (.fz,g i j)else none|_,_=>none
def aLL{y:Str}(hx:PyData.strOk x=true)(d:PyData.strOk y=true):PyData.strOk (x++y)=true:=by unfold PyData.strOk at *;show(x.cps++y.cps).all _=true;rw[Array.all_append,hx,d];rfl
def aLM:OpD C X (binaryOp .Add) (fS (λi j=>decide (i.length+j.length<=sizeLine)) λi j=>.str (i++j)):=by refine#[_,aJG,λF H m x n y v u k d Q s l r e w=>?_];unfold fS at e;split at e;{rename_i i j;exists rfl,t,l.str;exists rfl,o,r.str;split at e;{rename_i f;cases e;have f:=a0M f;exact#[i,j,rfl,rfl,f,w _ F H (.refl s) (o9 #[by rw[strLen_append];exact f,aLL t.2 o.2]) (by nofun)]};cases e};cases e
def lH(i j:Str):Bool:=!(Builtin.Str.occurrences j i 0 j.length 1).isEmpty
def aLN:OpD C X (compareOp .In) (fS (λ_ _=>true) λi j=>.bl (lH i j)):=by refine#[_,aI7,λF H m x n y v u k d Q s f r e w=>?_];unfold fS at e;split at e;{rename_i i j;exists rfl,o,f.str;exists rfl,l,r.str;rw[al rfl]at e;cases e;exact#[i,j,rfl,rfl,w _ F H (.refl s) (cI _) (by nofun)]};cases e
def aLO:OpD C X (compareOp .NotIn) (fS (λ_ _=>true) λi j=>.bl (!lH i j)):=by refine#[_,aJA,λF H m x n y v u k d Q s f r e w=>?_];unfold fS at e;split at e;{rename_i i j;exists rfl,o,f.str;exists rfl,l,r.str;rw[al rfl]at e;cases e;exact#[i,j,rfl,rfl,w _ F H (.refl s) (cI _) (by nofun)]};cases e
end
section
variable{a b:Expr}
def aI:Res->Res|.ok .bo _=>.stuck|.ok _ d=>.ok .fz d|r=>r
def aJ.freeze{F:Hp}{x:Addr}{o:HO}(st:aJ F H F' H')(hx:H x=none)(d:F' x=none)(ho:H' x=some o):aJ F H (upd F' x o) H':=by refine#[st.same,λb u q=>?_,λb u q=>?_,λy m l=>?_];{rw[aN (bT (st.fsame b u q) d)];exact st.fsame b u q};{by_cases f:b=x;{subst f;rw[aY]at q;rw[<- q];exact ho};rw[aN f]at q;exact st.sub b u q};(have:y≠x:=by rintro rfl;exact l (iL hx));rw[aN this];exact st.new y m l
def Top.freeze{K:Fg}{F:Hp}{x:Addr}{d:D}(hx:F x=none)(h:Top K F H x d):∃o,H x=some o/\aB K (upd F x o) d (.ref x):=by(have s:∀o,aD F (upd F x o):=λo b u q=>by rw[aN (bT q hx)];exact q);cases d with|lst ds=>exists U,q,r,h;refine#[_,q,?_];simp only[aB];exact#[x,U,rfl,SqL.of aY,r.mono (s _) _ _]|dct ds=>exists U,q,r,h;refine#[_,q,?_];simp only[aB];exact#[x,U,rfl,aY,r.mono (s _) _ _]|ins c fs=>exists C,dx,G,n,q,r,h;refine#[_,q,?_];simp only[aB];exact#[x,C,dx,G,rfl,n,aY,r.mono (s _) _ _]|set ks=>exists S,q,r,h;refine#[_,q,?_];simp only[aB];exact#[x,S,rfl,aY,r]|dtn ds=>exists U,q,r,h;refine#[_,q,?_];simp only[aB];exact#[x,U,rfl,aY,r.mono (s _) _ _]|_=>exact h.elim
def aX.frz{F:Hp}{r:Res}{Q:VK}(w:aX C F H σ (aI r) Q):aX C F H σ r Q:=by cases r with|exc c|stuck=>exact w|ok m d=>cases m with|fz=>exact w|bo=>exact(show False from w).elim|fr=>intro v F' H' st rp fr;exists x,rfl,n,t,rp;exists o,ho,r,t.freeze n;exact w (.ref x) (upd F' x o) H' (st.freeze (fr rfl x rfl) n ho) r (by nofun)
def eB(h:PV C X e g):PV C X e (λY=>aI (g Y)):=PE.imp h λσ H Q q=>by rw[aU]at q ⊢;exists Y,F,R,w,q;(try dsimp only at w);exact#[Y,F,R,w.frz]
def jY(C:Cw)(F H:Hp)(σ:L2.St)(r:Res)(Q:Bool->Hp->Prop):Prop:=match r with|.ok _ (.bl b)=>∀F' H',aJ F H F' H'->Q b H'|.exc c=>∀F' H',aJ F H F' H'->C.EE c σ H'|_=>False
def jY.step{F H1:Hp}{r:Res}{Q:Bool->Hp->Prop}(st:aJ F H F1 H1)(h:jY C F H σ r Q):jY C F1 H1 σ r Q:=by
 cases r with
 |ok m d=>cases d with|bl b=>exact λF' H' S=>h F' H' (st.trans S)|_=>exact h
 |exc c=>exact λF' H' S=>h F' H' (st.trans S)|stuck=>exact h
def tT(C:Cw)(g:Rho->Res):TT:=λσ H Q=>∃Y F,aR C.K C.F0 C.H0 F H σ Y/\jY C F H σ (g Y) Q
def PTv(C:Cw)(X:Cx)(e:Expr)(g:Rho->Res):Prop:=PT X e (tT (C.at X) g)
def PWv(C:Cw)(X:Cx)(e:Expr)(g:Rho->Res):Prop:=PW X e (tT (C.at X) g)
def PT.imp{t t':TT}(h:PT X e t)(i:∀σ H Q,t' σ H Q->t σ H Q):PT X e t':=λO s σ H Q I q=>h O s σ H Q I (i σ H Q q)
def PW.imp{t t':TT}(h:PW X e t)(i:∀σ H Q,t' σ H Q->t σ H Q):PW X e t':=λdA O s σ H Q I q=>h dA O s σ H Q I (i σ H Q q)
def pB:D->Option Bool|.non=>some false|.bl b=>some b|.int i=>some (i != 0)|.str x=>some ((x.length:Int) != 0)|.tup ds|.lst ds|.dct ds=>some (!ds.isEmpty)|_=>none
def fT(r:Res):Res:=r.thn λ_ d=>match pB d with|some b=>.ok .fz (.bl b)|none=>.stuck
theorem aC.isEmpty{K:Fg}{F:Hp}(h:aC K F ds U):ds.isEmpty=U.isEmpty:=by cases ds with|nil=>simp only[aC]at h;subst h;rfl|cons d ds=>simp only[aC]at h;exists y,ys,rfl,_,h;rfl
theorem aF.isEmpty{K:Fg}{F:Hp}{ds:List (Key×D)}{U:List (Key×V)}(h:aF K F ds U):ds.isEmpty=U.isEmpty:=by cases ds with|nil=>simp only[aF]at h;subst h;rfl|cons d ds=>exists k,d,d;simp only[aF]at h;exists y,ys,rfl,_,h;rfl
def aLP{K:Fg}{F:Hp}{m:Md}{d:D}{k:Bool}(s:aD F H)(h:Rp K F H m d v)(e:pB d=some k):sY K v H k:=by cases d with|non=>cases h.non;cases e;rfl|bl b=>cases h.bl;cases e;rfl|int i=>cases h.int;cases e;rfl|str x=>exists rfl,f,_,h.str;cases e;exact#[f,rfl]|tup ds=>exists a,U,rfl,q,r,h.seqT s;cases e;exact .inr (.inl #[U,q,by rw[r.isEmpty]])|lst ds=>exists a,U,rfl,q,r,h.seqL s;cases e;exact .inl #[U,q,by rw[r.isEmpty]]|dct ds=>exists a,U,rfl,q,r,h.dict s;cases e;exact .inr (.inr #[U,q,by rw[r.isEmpty]])|ty n|ob n|ins n|fn n|exn n|set n|dtn n|dtf n|dcf n|clo _ _=>cases e
def aLQ(h:PV C X e g)(l:∀dA,isTrue e X.env dA=(do let v <- dA;standAt e.pos;holding [v] (truthy v)):=by intro _;rfl):PTv C X e (λY=>fT (g Y)):=by refine PT.imp (aJF h l) λσ H Q q=>?_;exists Y,F,R,w,q;(try dsimp only at w);rw[aU];refine#[Y,F,R,?_];cases f:g Y with|stuck|exc c=>rw[f]at w;exact w|ok m d=>(rw[f]at w;intro v F' H' st rp _;have w:jY (C.at X) F H σ (match pB d with|some b=>.ok .fz (.bl b)|none=>.stuck) Q:=w);cases E:pB d with|none=>rw[E]at w;exact w.elim|some k=>rw[E]at w;exact#[k,aLP st.sub rp E,w F' H' st]
def lI{op:CmpOp}{φ}(o:OpD C X (compareOp op) φ)(f:∀m x n y k d,φ m x n y=some (k,d)->∃t,k=.fz/\d=.bl t)(ha:PV C X a ga)(S:PV C X b gb)(N:behindInMarks op b=false):PTv C X (.Compare a [op] [b] pos) (λY=>op2 φ (ga Y) (gb Y)):=by exists r,V,T,o;refine PT.imp (aJC V ha S N) λσ H Q q=>?_;exists Y,F,R,w,q;(try dsimp only at w);unfold yF;refine lE T ?_;rw[aU];refine#[Y,F,R,?_];cases E:op2 φ (ga Y) (gb Y)with|stuck|exc c=>rw[E]at w;exact w|ok m d=>(rw[E]at w;have:∃t,m=.fz/\d=.bl t:=by unfold op2 at E;cases A:ga Y with|stuck|exc c=>rw[A]at E;cases E|ok D K=>cases G:gb Y with|stuck|exc c=>rw[A,G]at E;cases E|ok B J=>rw[A,G]at E;have E:Res.of (φ D K B J)=.ok m d:=E;cases l:φ D K B J with|none=>rw[l]at E;cases E|some L=>rw[l]at E;exists k,W,L;cases E;exact f _ _ _ _ _ _ l);exists t,rfl,rfl,this;intro v F' H' st rp _;cases rp.bl;exact#[t,rfl,w F' H' st]
def eP(x:Res)(y:Res):Res:=x.thn λ_ d=>match d with|.bl true=>y|.bl false=>.ok .fz (.bl false)|_=>.stuck
def orR(x:Res)(y:Res):Res:=x.thn λ_ d=>match d with|.bl true=>.ok .fz (.bl true)|.bl false=>y|_=>.stuck
def iZ(x:Res):Res:=x.thn λ_ d=>match d with|.bl b=>.ok .fz (.bl (!b))|_=>.stuck
def aLR(ha:PTv C X a ga):PTv C X (.UnaryOp .Not a pos) (λY=>iZ (ga Y)):=by refine PT.imp (aII ha) λσ H Q q=>?_;exists Y,F,R,w,q;(try dsimp only at w);refine#[Y,F,R,?_];cases E:ga Y with|stuck|exc c=>rw[E]at w;exact w|ok m d=>rw[E]at w;cases d with|bl b|_=>exact w
def zI{op:BoolOp}(h:PTv C X a ga):PWv C X (.BoolOp op [a] pos) ga:=by cases op with|And=>exact aIF h|Or=>exact aIG h
def zJ{Q:Bool->Hp->Prop}(q:tT C (λY=>eP (ga Y) (gb Y)) σ H Q):sP (tT C ga) (tT C gb) σ H Q:=by exists Y,F,R,w,q;(try dsimp only at w);refine#[Y,F,R,?_];cases E:ga Y with|stuck|exc c=>rw[E]at w;exact w|ok m d=>rw[E]at w;cases d with|bl b=>(intro F' H' st;cases b with|true=>rw[al rfl];exact#[Y,F',R.step st,jY.step st w]|false=>rw[aK aX8];exact w F' H' st)|_=>exact w
def tT_or{Q:Bool->Hp->Prop}(q:tT C (λY=>orR (ga Y) (gb Y)) σ H Q):tOr (tT C ga) (tT C gb) σ H Q:=by exists Y,F,R,w,q;(try dsimp only at w);refine#[Y,F,R,?_];cases E:ga Y with|stuck|exc c=>rw[E]at w;exact w|ok m d=>rw[E]at w;cases d with|bl b=>(intro F' H' st;cases b with|true=>rw[al rfl];exact w F' H' st|false=>rw[aK aX8];exact#[Y,F',R.step st,jY.step st w])|_=>exact w
def aLS{rest:List Expr}(ha:PTv C X a ga)(d:PWv C X (.BoolOp .And (b::rest) pos) gb):PWv C X (.BoolOp .And (a::b::rest) pos) (λY=>eP (ga Y) (gb Y)):=PW.imp (aIH ha d) λ_ _ _ q=>zJ q
def aLT{rest:List Expr}(ha:PTv C X a ga)(d:PWv C X (.BoolOp .Or (b::rest) pos) gb):PWv C X (.BoolOp .Or (a::b::rest) pos) (λY=>orR (ga Y) (gb Y)):=PW.imp (pw_or ha d) λ_ _ _ q=>tT_or q
def pt_w(h:PWv C X e g):PTv C X e g:=PW.pt h
def zK{op}(h:PV C X a ga):PV C X (.BoolOp op [a] pos) ga:=aIJ h
def aLU{rest:List Expr}(ha:PV C X a ga)(f:PV C X (.BoolOp .And (b::rest) pos) gb):PV C X (.BoolOp .And (a::b::rest) pos) (λY=>eP (ga Y) (gb Y)):=by refine PE.imp (aIK ha f) λσ H Q q=>?_;unfold xX;rw[aU]at q ⊢;exists Y,F,R,w,q;(try dsimp only at w);refine#[Y,F,R,?_];cases E:ga Y with|stuck|exc c=>rw[E]at w;exact w|ok m d=>rw[E]at w;cases d with|bl k=>(intro v F' H' st rp _;cases rp.bl;refine#[k,rfl,?_];cases k with|true=>rw[al rfl,aU];exact#[Y,F',R.step st,aX.step st w]|false=>rw[aK aX8];exact w (.bl false) F' H' st (cI _) (by nofun))|_=>exact w.elim
def aLV{rest:List Expr}(ha:PV C X a ga)(f:PV C X (.BoolOp .Or (b::rest) pos) gb):PV C X (.BoolOp .Or (a::b::rest) pos) (λY=>orR (ga Y) (gb Y)):=by refine PE.imp (pe_or ha f) λσ H Q q=>?_;unfold tOrV;rw[aU]at q ⊢;exists Y,F,R,w,q;(try dsimp only at w);refine#[Y,F,R,?_];cases E:ga Y with|stuck|exc c=>rw[E]at w;exact w|ok m d=>rw[E]at w;cases d with|bl k=>(intro v F' H' st rp _;cases rp.bl;refine#[k,rfl,?_];cases k with|true=>rw[al rfl];exact w (.bl true) F' H' st (cI _) (by nofun)|false=>rw[aK aX8,aU];exact#[Y,F',R.step st,aX.step st w])|_=>exact w.elim
def aLW(ha:PV C X a ga):PV C X (.UnaryOp .Not a pos) (λY=>iZ (ga Y)):=by refine PE.imp (aIL ha) λσ H Q q=>?_;unfold xY;rw[aU]at q ⊢;exists Y,F,R,w,q;(try dsimp only at w);refine#[Y,F,R,?_];cases E:ga Y with|stuck|exc c=>rw[E]at w;exact w|ok m d=>rw[E]at w;cases d with|bl k=>intro v F' H' st rp _;cases rp.bl;exact#[k,rfl,w _ F' H' st (cI _) (by nofun)]|_=>exact w.elim
def pC(x:Res):Res:=x.thn λ_ d=>match d with|.int i=>.ok .fz (.int (-i))|_=>.stuck
def aLX(ha:PV C X a ga):PV C X (.UnaryOp .USub a pos) (λY=>pC (ga Y)):=by refine PE.imp (pe_un aI6 ha) λσ H Q q=>?_;unfold tUn;rw[aU]at q ⊢;exists Y,F,R,w,q;(try dsimp only at w);refine#[Y,F,R,?_];cases E:ga Y with|stuck|exc c=>rw[E]at w;exact w|ok m d=>rw[E]at w;cases d with|int i=>intro v F' H' st rp _;cases rp.int;exact#[i,rfl,w _ F' H' st (fC _) (by nofun)]|_=>exact w.elim
def ixD:Md->D->Md->D->Option (Md×D):=λ_ x _ y=>match x,y with|.lst ds,.int i|.tup ds,.int i=>(atI ds i).map λd=>(.fz,d)|.str z,.int i=>(atI z.cps.toList i).map λc=>(.fz,.str #[(List.toArray [c])])|_,_=>none
theorem aC.atI{K:Fg}{F:Hp}{i:Int}{d:D}(h:aC K F ds U)(e:atI ds i=some d):∃x,L2.atI U i=some x/\aB K F d x:=by unfold L2.atI at *;rw[h.length];cases q:ixN ds.length i with|none=>rw[q]at e;cases e|some j=>rw[q]at e;exact h.get' e
def aLY{F:Hp}{m n k:Md}{x d:D}{u:V}{Q:VK}(s:aD F H)(A:Rp X.K F H m x v)(t:Rp X.K F H n y u)(e:ixD m x n y=some (k,d))(w:∀o F' H',aJ F H F' H'->Rp X.K F' H' k d o->(k=.fr->∀a,o=.ref a->H a=none)->Q o H'):rIx X.K v u H Q:=by unfold ixD at e;split at e;{rename_i ds i;cases t.int;exists p,U,rfl,B,r,A.seqL s;cases E:atI ds i with|none=>rw[E]at e;cases e|some N=>rw[E]at e;cases e;exists l,ex,f,r.atI E;exact .inl #[p,U,i,l,rfl,rfl,B,ex,w l F H (.refl s) f (by nofun)]};{rename_i ds i;cases t.int;exists p,U,rfl,B,r,A.seqT s;cases E:atI ds i with|none=>rw[E]at e;cases e|some N=>rw[E]at e;cases e;exists l,ex,f,r.atI E;exact .inr (.inl #[p,U,i,l,rfl,rfl,B,ex,w l F H (.refl s) f (by nofun)])};{rename_i z i;cases t.int;exists rfl,G,hk,A.str;cases E:atI z.cps.toList i with|none=>rw[E]at e;cases e|some c=>rw[E]at e;cases e;refine .inr (.inr #[z,i,c,rfl,rfl,G,E,w _ F H (.refl s) (o9 #[?_,?_]) (by nofun)]);{show 1<=sizeLine;decide};exists j,_,J,_,oZ E;unfold PyData.strOk at hk ⊢;rw[Array.all_eq_true_iff_forall_mem]at hk;have L:=hk c (by rw[<- aYJ];exact aY2 J);simpa using L};cases e
def pv_ix(ha:PV C X a ga)(l:PV C X b gb)(hs:nE b:=by intro _ _;rfl):PV C X (.Subscript a b pos) (λY=>op2 ixD (ga Y) (gb Y)):=by exact PE.imp (tE aJ8 ha l hs) λσ H Q q=>lE (λF H m x n y v u k d Q s f r e w=>aLY s f r e w) q
def POv(C:Cw)(X:Cx):Option Expr->Option (Rho->Res)->Prop|none,none=>True|some e,some g=>PV C X e g|_,_=>False
def zL(C:Cw):Option (Rho->Res)->TO|none=>yS|some g=>oY (tG C g)
def zM{e:Option Expr}{g:Option (Rho->Res)}(h:POv C X e g):PO X e (zL (C.at X) g):=by
 cases e with
 |none=>cases g with|none=>exact aJ0|some g=>exact h.elim
 |some e=>cases g with|none=>exact h.elim|some g=>exact aJ1 h
def fU(g:Option (Rho->Res))(Y:Rho)(k:Option Int->Res):Res:=match g with|none=>k none|some g=>(g Y).thn λ_ d=>match d with|.int i=>k (some i)|_=>.stuck
def pD{F:Hp}{g:Option (Rho->Res)}{k:Option Int->Res}{Q:VK}{R:Option Int->Hp->Prop}(r:aR C.K C.F0 C.H0 F H σ Y)(w:aX C F H σ (fU g Y k) Q)(h:∀i F' H',aJ F H F' H'->aR C.K C.F0 C.H0 F' H' σ Y->aX C F' H' σ (k i) Q->R i H'):zL C g σ H R:=by cases g with|none=>exact h none F H (.refl r.sub) r w|some g=>(show oY (tG C g) σ H R;unfold oY;rw[aU];refine#[Y,F,r,?_];have w:aX C F H σ ((g Y).thn λ_ d=>match d with|.int i=>k (some i)|_=>.stuck) Q:=w);cases E:g Y with|stuck|exc c=>rw[E]at w;exact w|ok m d=>rw[E]at w;intro v F' H' st rp _;cases d with|int i=>cases rp.int;exact#[i,rfl,h (some i) F' H' st (r.step st) (aX.step st w)]|_=>exact(show False from w).elim
end
inductive bC where
 |ok (U:List (Md×D))|exc (c:Str)|stuck
def RpL(K:Fg)(F H:Hp):List (Md×D)->List V->Prop|[],vs=>vs=[]|(m,d)::r,vs=>∃v us,vs=v::us/\Rp K F H m d v/\RpL K F H r us
def bC.thn(r:bC)(k:List (Md×D)->Res):Res:=match r with|.ok U=>k U|.exc c=>.exc c|.stuck=>.stuck
@[simp]theorem bC.thn_ok(U:List (Md×D))(k:List (Md×D)->Res):(bC.ok U).thn k=k U:=rfl
end D3
variable{gs:D3.Rho->D3.bC}
namespace D3
@[simp]theorem bC.thn_exc(c:Str)(k:List (Md×D)->Res):(bC.exc c).thn k=.exc c:=rfl
@[simp]theorem bC.thn_stuck(k:List (Md×D)->Res):bC.stuck.thn k=.stuck:=rfl
def nI(C:Cw)(F H:Hp)(σ:L2.St)(r:bC)(Q:List V->Hp->Prop):Prop:=match r with|.ok U=>∀vs F' H',aJ F H F' H'->RpL C.K F' H' U vs->Q vs H'|.exc c=>∀F' H',aJ F H F' H'->C.EE c σ H'|.stuck=>False
def nI.step{F H1:Hp}{r:bC}{Q:List V->Hp->Prop}(st:aJ F H F1 H1)(h:nI C F H σ r Q):nI C F1 H1 σ r Q:=by cases r with|ok m=>exact λv F' H' S a=>h v F' H' (st.trans S) a|exc c=>exact λF' H' S=>h F' H' (st.trans S)|stuck=>exact h
def tAv(C:Cw)(g:Rho->bC):TA:=λσ H Q=>∃Y F,aR C.K C.F0 C.H0 F H σ Y/\nI C F H σ (g Y) Q
def PAv(C:Cw)(X:Cx)(es:List Expr)(g:Rho->bC):Prop:=PA X es (tAv (C.at X) g)
def PA.imp{e:List Expr}{t t':TA}(h:PA X e t)(i:∀σ H Q,t' σ H Q->t σ H Q):PA X e t':=λp O s σ H Q I q=>h p O s σ H Q I (i σ H Q q)
def aQ(x:Res)(y:bC):bC:=match x with
 |.ok m d=>(match y with|.ok r=>.ok ((m,d)::r)|.exc c=>.exc c|.stuck=>.stuck)
 |.exc c=>.exc c|.stuck=>.stuck
@[simp]theorem aLZ(m:Md)(d:D)(r:List (Md×D)):aQ (.ok m d) (.ok r)=.ok ((m,d)::r):=rfl
section
variable{a b:Expr}{es:List Expr}
def nJ:PAv C X [] (λ_=>.ok []):=PA.imp m8 λσ H Q q=>by exists Y,F,R,w,q;exact w [] F H (.refl R.sub) rfl
def jZ(ha:PV C X e g)(o:PAv C X es gs)(hs:starEach (e::es) X.env=(false,eval e X.env)::starEach es X.env:=by rfl):PAv C X (e::es) (λY=>aQ (g Y) (gs Y)):=by refine PA.imp (m9 ha o hs) λσ H Q q=>?_;unfold iG;exists Y,F,R,w,q;dsimp only at w;rw[aU];refine#[Y,F,R,?_];cases f:g Y with|stuck|exc c=>rw[f]at w;exact w|ok m d=>rw[f]at w;intro v F1 H1 s1 r1 _;refine#[Y,F1,R.step s1,?_];have W:=nI.step s1 w;cases E:gs Y with|stuck|exc c=>rw[E]at W;exact W|ok r=>rw[E]at W;intro vs A t S l;exact W (v::vs) A t S #[v,vs,rfl,r1.step S,l]
def c7:List (Md×D)->Option (List D)|[]=>some []|(.fz,d)::r=>(c7 r).map (d :: ·)|_::_=>none
theorem RpL.fz{K:Fg}{F H:Hp}:∀{U:List (Md×D)}{vs:List V}{ds:List D},RpL K F H U vs->c7 U=some ds->aC K F ds vs
 |[],_,_,h,e=>by cases e;rw[show _=[]from h];exact aC.nil|(.fz,d)::r,_,_,h,e=>by exists v,us,rfl,l,f,h;unfold c7 at e;cases q:c7 r with|none=>rw[q]at e;cases e|some m=>rw[q]at e;cases e;exact aC.cons l (RpL.fz f q)
 |(.fr,d)::r,_,_,h,e|(.bo,d)::r,_,_,h,e=>by cases e
def dO(r:bC):Res:=r.thn λU=>match c7 U with|some ds=>if ds.length<=sizeLine then .ok .fz (.tup ds)else .stuck|none=>.stuck
def j4(r:bC):Res:=r.thn λU=>match c7 U with|some ds=>if ds.length<=sizeLine then .ok .fr (.lst ds)else .stuck|none=>.stuck
def aB.tup_of{K:Fg}{F:Hp}{p:Addr}(hp:F p=none)(r:aC K F ds U):aB K (upd F p (.tup U)) (.tup ds) (.ref p):=by simp only[aB];exact#[p,U,rfl,SqT.of aY,r.mono (λb u q=>by rw[aN (bT q hp)];exact q) _ _]
def aL0{x1}(h:PAv C X es gs):PV C X (.Tuple es x1 pos) (λY=>dO (gs Y)):=by refine PE.imp (aJO h) λσ H Q q=>?_;unfold tTup;rw[aU]at q;exists Y,F,R,w,q;refine#[Y,F,R,?_];cases d:gs Y with|stuck|exc c=>rw[d]at w;exact w|ok U=>(rw[d]at w;intro vs F1 H1 s1 r1;have W:aX (C.at X) F1 H1 σ (match c7 U with|some ds=>if ds.length<=sizeLine then .ok .fz (.tup ds)else .stuck|none=>.stuck) Q:=aX.step s1 w);cases E:c7 U with|none=>rw[E]at W;exact W.elim|some ds=>rw[E]at W;dsimp only at W;split at W;{rename_i f;have r:=r1.fz E;refine#[by rw[r.length];exact f,λp hp=>?_];exact W (.ref p) _ _ (aJ.laid (.tup vs) s1.sub hp) (aB.tup_of (s1.sub.free hp) r) (by nofun)};exact W.elim
def aL1(h:PAv C X es gs):PV C X (.List es pos) (λY=>j4 (gs Y)):=by refine PE.imp (yH h) λσ H Q q=>?_;unfold tLst;rw[aU]at q;exists Y,F,R,w,q;refine#[Y,F,R,?_];cases d:gs Y with|stuck|exc c=>rw[d]at w;exact w|ok U=>(rw[d]at w;intro vs F1 H1 s1 r1;have W:aX (C.at X) F1 H1 σ (match c7 U with|some ds=>if ds.length<=sizeLine then .ok .fr (.lst ds)else .stuck|none=>.stuck) Q:=aX.step s1 w);cases E:c7 U with|none=>rw[E]at W;exact W.elim|some ds=>rw[E]at W;dsimp only at W;split at W;{rename_i f;have r:=r1.fz E;refine#[by rw[r.length];exact f,λp hp=>?_];refine W (.ref p) F1 _ (aJ.fresh (.lst vs) s1.sub hp) #[p,rfl,s1.sub.free hp,vs,aY,r] λ_ a ea=>by cases ea;exact hp};exact W.elim
def gK:D->Option Key|.int i=>some (.inl i)|.str x=>some (.inr x)|_=>none
def nK{K:Fg}{F:Hp}{m:Md}{d:D}{k:Key}(e:gK d=some k)(r:Rp K F H m d v):v=kV k:=by cases d with|int i=>cases e;exact r.int|str x=>cases e;exact r.str.1|_=>cases e
def gY(X:Cx)(f:a3H)(m:List (Md×D)->Option (Md×D)):Prop :=
 ∃r:List V->Hp->VK->Prop,fA X f r/\∀F H U vs k d Q,aD F H->RpL X.K F H U vs->m U=some (k,d) ->
  (∀l F' H',aJ F H F' H'->Rp X.K F' H' k d l->(k=.fr->∀a,l=.ref a->H a=none)->Q l H')->r vs H Q
def eQ(d:List (Md×D)->Option (Md×D))(r:bC):Res:=r.thn λU=>Res.of (d U)
def zN{f:List (Md×D)->Option (Md×D)}{r:List V->Hp->VK->Prop}(h:∀F H U vs k d Q,aD F H->RpL C.K F H U vs->f U=some (k,d)->(∀l F' H',aJ F H F' H'->Rp C.K F' H' k d l->(k=.fr->∀a,l=.ref a->H a=none)->Q l H')->r vs H Q){Q:VK}(q:tG C (λY=>eQ f (gs Y)) σ H Q):tCB r (tAv C gs) σ H Q:=by unfold tCB;rw[aU]at q;exists Y,F,R,w,q;refine#[Y,F,R,?_];cases m:gs Y with|stuck|exc c=>rw[m]at w;exact w|ok U=>rw[m]at w;intro vs F1 H1 s1 r1;have W:aX C F1 H1 σ (Res.of (f U)) Q:=aX.step s1 w;cases E:f U with|none=>rw[E]at W;exact W.elim|some o=>exists k,d,o;rw[E]at W;exact h F1 H1 U vs k d Q s1.sub r1 E W
def zO{id:String}{φ}(o:gY X (.builtin id) φ)(t:Gl X x)(m:X.mg x=none)(l:bootBuiltins x=some (.builtin id))(ha:PAv C X (e::es) gs)(hn:x ≠ "__name__":=by decide)(f:(x==("__debug__":Str))=false:=by decide)(A:starEach (e::es) X.env=(false,eval e X.env)::starEach es X.env:=by rfl)(d:(backTo pos (starEach es X.env)).any (·.1)=false:=by rfl):PV C X (.Call (.Name x p) (e::es) [] pos) (λY=>eQ φ (gs Y)):=by exists r,D,B,o;exact PE.imp (aJR D t m l ha hn f A d) λσ H Q q=>zN B q
def gM:List (Md×D)->Option (Md×D)|[(_,.str z)]=>some (.fz,.int z.length)|[(_,.lst ds)]|[(_,.tup ds)]=>some (.fz,.int ds.length)|_=>none
def RpL.one{K:Fg}{F:Hp}{m:Md}{d:D}{vs:List V}(h:RpL K F H [(m,d)] vs):∃v,vs=[v]/\Rp K F H m d v:=by exists v,us,rfl,r,e,h;exact#[v,by rw[show us=[]from e],r]
def RpL.two{K:Fg}{F:Hp}{m n:Md}{d e:D}{vs:List V}(h:RpL K F H [(m,d),(n,e)] vs):∃v u,vs=[v,u]/\Rp K F H m d v/\Rp K F H n e u:=by exists v,us,rfl,r,l,f,rfl,o,e,h;exact#[v,l,by rw[show f=[]from e],r,o]
def aL2:gY X (.builtin "len") gM:=by refine#[_,aJH,λF H U vs k d Q s f e w=>?_];unfold gM at e;split at e;{rename_i m z;cases e;exists v,rfl,r,f.one;exists rfl,o,_,r.str;exact#[_,z.length,rfl,#[o,rfl],w _ F H (.refl s) (fC _) (by nofun)]};{rename_i m ds;cases e;exists v,rfl,r,f.one;exists a,U,rfl,q,l,r.seqL s;exact#[_,U.length,rfl,.inl #[U,q,rfl],by rw[l.length];exact w _ F H (.refl s) (fC _) (by nofun)]};{rename_i m ds;cases e;exists v,rfl,r,f.one;exists a,U,rfl,q,l,r.seqT s;exact#[_,U.length,rfl,.inr #[U,q,rfl],by rw[l.length];exact w _ F H (.refl s) (fC _) (by nofun)]};cases e
noncomputable def tyN:D->Option String|.non=>some "NoneType" |.bl _=>some "bool" |.int _=>some "int" |.str _=>some "str" |.tup _=>some "tuple" |.lst _=>some "list" |.dct _=>some "dict" |_=>none
noncomputable def nL(t c:String):Option Bool:=if["int","bool","str","list","tuple","dict"].contains c=true then some (t==c||(t == "bool" && c == "int"))else none
def i5:List (Md×D)->Option (Md×D)
 |[(_,d),(_,.ty c)]=>match tyN d with|some t=>(nL t c).map λb=>(.fz,.bl b)|none=>none
 |_=>none
def aL3{K:Fg}{d:D}{t c:String}{b:Bool}(ht:tyN d=some t)(e:nL t c=some b):W.kitOne K (.type t) (.type c)=some b:=by unfold nL at e;split at e;{rename_i l;simp only[List.contains_cons,List.contains_nil,Bool.or_false,a0N,aYK]at l;cases e;(have f:t="NoneType" \/ t="bool" \/ t="int" \/ t="str" \/ t="tuple" \/ t="list" \/ t="dict":=by cases d <;> cases ht <;> simp);rcases l with rfl|rfl|rfl|rfl|rfl|rfl <;> rcases f with rfl|rfl|rfl|rfl|rfl|rfl|rfl <;> rfl};cases e
def aL4:gY X (.builtin "isinstance") i5:=by refine#[λvs H Q=>∃(F:Hp) (m:Md) (d:D) (v:V) (t c:String) (b:Bool),aD F H/\Rp X.K F H m d v/\vs=[v,.ty c]/\tyN d=some t/\nL t c=some b/\Q (.bl b) H,?_,?_];{intro O s σ H U us Q I r h;exists F,m,d,v,t,c,b,sF,B,rfl,l,hb,q,h;exists u,Z,rfl,A,L,vals2 r;cases(show Z=Value.type c from L);have e:=aL3 (K:=X.K) l hb;have f:∀tk,EP X O σ Q (.bool b) {s with toks:=tk}:=λtk=>#[.bl b,H,I.tok _,rfl,q];cases d with|non=>cases B.non;cases l;cases(show u=Value.none from A);exact a0O W.kitx_none I.kIn True.intro e (λz=>nomatch z) f|bl y=>cases B.bl;cases l;cases(show u=Value.bool y from A);exact a0O W.kitx_bool I.kIn True.intro e (λz=>nomatch z) f|int i=>cases B.int;cases l;exists t,q,(show ∃t,u=Value.int i t from A);cases q;exact a0O W.kitx_int I.kIn True.intro e (λz=>nomatch z) f|str y=>exists rfl,_,B.str;cases l;exists t,q,(show ∃t,u=Value.str y t from A);cases q;exact a0O W.kitx_str I.kIn True.intro e (λz=>nomatch z) f|tup ds=>exists a,U,rfl,E,_,B.seqT sF;cases l;cases(show u=Value.ref a from A);obtain⟨its,_,⟨o,J,G,_⟩,_⟩:=I.tuple E;exact a0O W.kitx_tuple I.kIn #[o,J,G] e (λz=>nomatch z) f|lst ds=>exists a,U,rfl,E,_,B.seqL sF;cases l;cases(show u=Value.ref a from A);obtain⟨its,_,⟨o,n,J,G,_⟩,_⟩:=I.list E;exact a0O W.kitx_list I.kIn #[o,J,G] e (λz=>nomatch z) f|dct ds=>exists a,U,rfl,E,_,B.dict sF;cases l;cases(show u=Value.ref a from A);exists _,_,vs,_,p,(show bL X.prog X.w H s.heap a (.dK U)from I.hok a _ E);exists o,es,ep,J,G,_,p;exact a0O W.kitx_dict I.kIn #[o,J,G.1] e (λz=>nomatch z) f|_=>cases l};intro F H U vs k d Q s rx e w;unfold i5 at e;split at e;{rename_i m T n c;exists v,u,rfl,r1,r2,rx.two;cases r2.ty;cases N:tyN T with|none=>rw[N]at e;cases e|some t=>rw[N]at e;dsimp only at e;cases S:nL t c with|none=>rw[S]at e;cases e|some b=>rw[S]at e;cases e;exact#[F,m,T,v,t,c,b,s,r1,rfl,N,S,w _ F H (.refl s) (cI _) (by nofun)]};cases e
def pv_ty{T:String}(l:Gl X x)(f:X.mg x=none)(d:bootBuiltins x=some (.type T))(hn:x ≠ "__name__":=by decide)(hd:(x==("__debug__":Str))=false:=by decide):PV C X (.Name x pos) (λ_=>.ok .fz (.ty T)):=
 jX _ (aIE (v:=.ty T) l f d rfl hn hd) λ_ _=>rp_ty T
def aL5{y:Str}{t:Tok}(f:Gl X x)(d:X.mg x=some (.str y t))(h:(decide (y.length<=sizeLine)&&PyData.strOk y)=true:=by decide +kernel)(hd:(x==("__debug__":Str))=false:=by decide):PV C X (.Name x pos) (λ_=>.ok .fz (.str y)):=
 jX _ (sO (v:=.str y) f d #[t,rfl] hd) λ_ _=>o9 (by rw[aZL,a0L]at h;exact h)
def aL6{y:Int}{t:Tok}(f:Gl X x)(d:X.mg x=some (.int y t))(hd:(x==("__debug__":Str))=false:=by decide):PV C X (.Name x pos) (λ_=>.ok .fz (.int y)):=
 jX _ (sO (v:=.int y) f d #[t,rfl] hd) λ_ _=>fC _
def blsD:List D->Option (List Bool)|[]=>some []|.bl b::r=>(blsD r).map (b :: ·)|_=>none
def allD:List (Md×D)->Option (Md×D)|[(_,.lst ds)]=>(blsD ds).map λbs=>(.fz,.bl (bs.all id))|_=>none
end
inductive aH where
 |nx (Y:Rho)|rt (m:Md) (d:D)|bk (Y:Rho)|ct (Y:Rho)|exc (c:Str) (Y:Rho)|stuck
def bU(C:Cw)(f:Hp)(r:aH)(E:gJ):Prop:=match r with|.nx Y=>∀σ F H,aD f F->aR C.K C.F0 C.H0 F H σ Y->E.nx σ H|.bk Y=>∀σ F H,aD f F->aR C.K C.F0 C.H0 F H σ Y->E.bk σ H|.ct Y=>∀σ F H,aD f F->aR C.K C.F0 C.H0 F H σ Y->E.ct σ H|.exc c Y=>∀σ F H,aD f F->aR C.K C.F0 C.H0 F H σ Y->C.EE c σ H|.rt m d=>∀v F H,aJ C.F0 C.H0 F H->Rp C.K F H m d v->(m=.fr->∀a,v=.ref a->C.H0 a=none)->E.rt v H|.stuck=>False
def bU.mono{F:Hp}{r:aH}{E:gJ}(s:aD F F1)(w:bU C F r E):bU C F1 r E:=by cases r with|nx Y|bk Y|ct Y|exc c Y=>exact λσ F' H' z R=>w σ F' H' (s.trans z) R|rt m d|stuck=>exact w
def tH(C:Cw)(g:Rho->aH):TS:=λE σ H=>∃Y F,aR C.K C.F0 C.H0 F H σ Y/\bU C F (g Y) E
def PSv(C:Cw)(X:Cx)(st:Stmt)(g:Rho->aH):Prop:=PS X st (tH (C.at X) g)
def PBv(C:Cw)(X:Cx)(st:List Stmt)(g:Rho->aH):Prop:=PSs X st (tH (C.at X) g)
def PS.imp{e:Stmt}{t t':TS}(h:PS X e t)(i:∀E σ H,t' E σ H->t E σ H):PS X e t':=λO s σ H E I q=>h O s σ H E I (i E σ H q)
def PSs.imp{e:List Stmt}{t t':TS}(h:PSs X e t)(i:∀E σ H,t' E σ H->t E σ H):PSs X e t':=λO s σ H E I q=>h O s σ H E I (i E σ H q)
def aH.thn(r:aH)(k:Rho->aH):aH:=match r with|.nx Y=>k Y|r=>r
@[simp]theorem aH.thn_nx(Y:Rho)(k:Rho->aH):(aH.nx Y).thn k=k Y:=rfl
@[simp]theorem aH.thn_rt(m:Md)(d:D)(k:Rho->aH):(aH.rt m d).thn k=.rt m d:=rfl
@[simp]theorem aH.thn_bk(Y:Rho)(k:Rho->aH):(aH.bk Y).thn k=.bk Y:=rfl
@[simp]theorem aH.thn_ct(Y:Rho)(k:Rho->aH):(aH.ct Y).thn k=.ct Y:=rfl
@[simp]theorem aH.thn_exc(c:Str)(Y:Rho)(k:Rho->aH):(aH.exc c Y).thn k=.exc c Y:=rfl
@[simp]theorem aH.thn_stuck(k:Rho->aH):aH.stuck.thn k=.stuck:=rfl
section
variable{a b:Expr}{f A:Rho->aH}
def aL7:PBv C X [] (λY=>.nx Y):=PSs.imp aIM λE σ H q=>by exists Y,F,R,w,q;exact w σ F H (aD.refl _) R
def aL8{E:gJ}(q:tH C (λY=>(f Y).thn A) E σ H):tSeq (tH C f) (tH C A) E σ H:=by exists Y,F,R,w,q;refine#[Y,F,R,?_];dsimp only at w;cases l:f Y with|nx ρ'=>rw[l]at w;exact λo F' H' z r=>#[ρ',F',r,bU.mono z w]|rt m d|bk ρ'|ct ρ'|exc c ρ'|stuck=>rw[l]at w;exact w
def aL9(ha:PSv C X st f)(d:PBv C X sts A):PBv C X (st::sts) (λY=>(f Y).thn A):=PSs.imp (sQ ha d) λE σ H q=>aL8 q
def Res.thS(r:Res)(Y:Rho)(k:Md->D->aH):aH:=match r with|.ok m d=>k m d|.exc c=>.exc c Y|.stuck=>.stuck
@[simp]theorem Res.thS_ok(m:Md)(d:D)(Y:Rho)(k:Md->D->aH):(Res.ok m d).thS Y k=k m d:=rfl
@[simp]theorem Res.thS_exc(c:Str)(Y:Rho)(k:Md->D->aH):(Res.exc c).thS Y k=.exc c Y:=rfl
@[simp]theorem Res.thS_stuck(Y:Rho)(k:Md->D->aH):Res.stuck.thS Y k=.stuck:=rfl
def iM{F:Hp}{k:Md->D->aH}{E:gJ}{Q:VK}(R:aR C.K C.F0 C.H0 F H σ Y)(w:bU C F ((g Y).thS Y k) E)(h:∀m d v F' H',bU C F' (k m d) E->aJ F H F' H'->aR C.K C.F0 C.H0 F' H' σ Y->Rp C.K F' H' m d v->(m=.fr->∀a,v=.ref a->H a=none)->Q v H'):tG C g σ H Q:=by rw[aU];refine#[Y,F,R,?_];cases l:g Y with|stuck=>rw[l]at w;exact w|exc c=>rw[l]at w;exact λF' H' s=>w σ F' H' s.fsame (R.step s)|ok m d=>rw[l]at w;exact λv F' H' s r fr=>h m d v F' H' (bU.mono s.fsame w) s (R.step s) r fr
def aMA(l:PV C X e g)(hs:swapsWith e none pos.line X.env=pure false:=by rfl):PSv C X (.Expr e pos) (λY=>(g Y).thS Y λ_ _=>.nx Y):=PS.imp (oS l hs) λE σ H q=>by exists Y,F,R,w,q;exact iM R w λm d v F' H' W s r o fr=>W σ F' H' (aD.refl _) r
noncomputable def lJ(r:Res)(Y:Rho):aH:=r.thS Y λm d=>match m with|.bo=>.stuck|m=>.rt m d
def aMB(o:PV C X e g):PSv C X (.Return (some e) pos) (λY=>lJ (g Y) Y):=PS.imp (xZ o) λE σ H q=>by exists Y,F,R,w,q;refine iM R w λm d v F' H' W s l r fr=>?_;cases m with|bo=>exact(show False from W).elim|fz=>exact W v F' H' l.st r (by nofun)|fr=>exact W v F' H' l.st r λ_ a ea=>R.st.same.free (fr rfl a ea)
def gZ(Y:Rho)(i:Nat):aH:=match Y[i]? with|some (some (false,d))=>.rt .fz d|some (some (true,d))=>.rt .fr d|_=>.stuck
def aMC(i:Nat)(h:PE X (.Name x p) (fR i)):PSv C X (.Return (some (.Name x p)) pos) (λY=>gZ Y i):=PS.imp (xZ h) λE σ H q=>by exists Y,F,R,w,q;dsimp only at w;unfold gZ at w;cases e:Y[i]? with|none=>rw[e]at w;exact w.elim|some o=>cases o with|none=>rw[e]at w;exact w.elim|some q=>exists m,d,q;exists v,l,r,t,R.slot i m d e;rw[e]at w;cases m with|false=>exact#[v,l,w v F H R.st r (by nofun)]|true=>exact#[v,l,w v F H R.st r λ_=>t rfl]
noncomputable def ifS(t:Res)(Y:Rho)(x y:aH):aH:=t.thS Y λ_ d=>match d with|.bl true=>x|.bl false=>y|_=>.stuck
def aMD{s1 S:List Stmt}(o:PTv C X c gc)(ha:PBv C X s1 f)(r:PBv C X S A):PSv C X (.If c s1 S pos) (λY=>ifS (gc Y) Y (f Y) (A Y)):=by refine PS.imp (yA o ha r) λE σ H q=>?_;exists Y,F,R,w,q;dsimp only at w;refine#[Y,F,R,?_];cases l:gc Y with|stuck=>rw[l]at w;exact w|exc c=>rw[l]at w;exact λF' H' s=>w σ F' H' s.fsame (R.step s)|ok m d=>rw[l]at w;cases d with|bl k=>(intro F' H' s;cases k with|true=>rw[al rfl];exact#[Y,F',R.step s,bU.mono s.fsame w]|false=>rw[aK aX8];exact#[Y,F',R.step s,bU.mono s.fsame w])|_=>exact w.elim
noncomputable def dX(Y:Rho)(i:Nat)(r:Res):aH:=r.thS Y λm d=>match m with|.fz=>.nx (Y.set i (some (false,d)))|.fr=>.nx (Y.set i (some (true,d)))|.bo=>.stuck
theorem aR.set{K:Fg}{F:Hp}{m:Bool}{d:D}(S:aR K F0 H0 F H σ Y)(s:aJ F H F' H')(W:Rp K F' H' (if m then .bo else .fz) d v)(fr:m=true->∀a,v=.ref a->H a=none):aR K F0 H0 F' H' (σ.set i (some v)) (Y.set i (some (m,d))):=by have R:=S.step s;refine#[R.st,λj m' d' e=>?_,λj k V T a B G E q1 J=>?_,by rw[aZP,aZP];exact R.len];{by_cases N:j=i;{subst N;rw[a0P]at e;by_cases o:j<Y.length;{rw[al rfl,al o]at e;cases e;refine#[v,by rw[a0P,al rfl,al (by rw[R.len];exact o)],W,λz a ea=>S.st.same.free (fr z a ea)]};rw[al rfl,aK o]at e;cases e};rw[aX1 (λz=>N z.symm)]at e ⊢;exact R.slot j m' d' e};(have L:∀(l:Nat) (d:D) (b:Addr),l≠i->Y[l]? = some (some (true,d))->σ[l]? = some (some (.ref b)) -> ¬ jW (H b):=λl d b o e q=>by exists u,q',r,_,S.slot l true d e;rw[q]at q';cases q';exists b',Z,_,t,r;cases Z;exact t.there);by_cases N:j=i;{subst N;rw[aX1 B]at E J;rw[a0P]at G q1;by_cases o:j<Y.length;{rw[al rfl,al o]at G;rw[al rfl,al (by rw[R.len];exact o)]at q1;cases G;cases q1;exact L k T a (λz=>B z.symm) E J (iL (fr rfl a rfl))};rw[al rfl,aK o]at G;cases G};by_cases hk:k=i;{subst hk;rw[aX1 (λz=>B z.symm)]at G q1;rw[a0P]at E J;by_cases o:k<Y.length;{rw[al rfl,al o]at E;rw[al rfl,al (by rw[R.len];exact o)]at J;cases E;cases J;exact L j V a B G q1 (iL (fr rfl a rfl))};rw[al rfl,aK o]at E;cases E};rw[aX1 (λz=>N z.symm)]at G q1;rw[aX1 (λz=>hk z.symm)]at E J;exact R.apart j k V T a B G E q1 J
def tO{E:gJ}(q:tH (C.at X) (λY=>dX Y i (g Y)) E σ H):mZ (tG (C.at X) g) (mY i) E σ H:=by exists Y,F,R,w,q;dsimp only at w;refine iM R w λm d v F' H' W s l r fr=>?_;cases m with|bo=>exact(show False from W).elim|fz=>exact W _ F' H' (aD.refl _) (R.set (m:=false) s r (by nofun))|fr=>exact W _ F' H' (aD.refl _) (R.set (m:=true) s r λ_ a ea=>fr rfl a ea)
def aME(hN:X.N.Nodup)(hi:X.N[i]? = some x)(hx:Loc X.env.scope x)(d:PV C X e g)(hs:swapsWith e (some (.Name x pos')) pos.line X.env=pure false:=by rfl)(hf:X.fn x=true\/X.env.scope.names.lookup x=some .local:=by first|exact .inl rfl|exact .inr rfl|assumption):PSv C X (.Assign [.Name x pos'] e pos) (λY=>dX Y i (g Y)):=PS.imp (yC hN hi hx d hs hf) λE σ H q=>tO q
end
def PI.imp{t t':TI}(h:PI X tg e t)(i:∀σ H R,t' σ H R->t σ H R):PI X tg e t':=λO s σ H R I q=>h O s σ H R I (i σ H R q)
def PI.or{t t':TI}(h:PI X tg e t)(h':PI X tg e t'):PI X tg e (λσ H R=>t σ H R\/t' σ H R):=λO s σ H R I q=>by rcases q with q|q;{exact h O s σ H R I q};exact h' O s σ H R I q
structure j5(K:Fg)(F:Hp)(J:It)(ds:List D):Prop where
 go:∀i H,aD F H->i<ds.length->J.go i H
 stop:∀i H,aD F H->ds.length<=i->J.stop i H
 yld:∀i Fc H x H',aD F Fc->aD Fc H->i<ds.length->J.yld i H x H'->∃F' d,ds[i]? = some d/\aJ Fc H F' H'/\aB K F' d x
def WantI(C:Cw)(F H:Hp)(σ:L2.St)(r:Res)(R:It->Hp->Prop):Prop:=match r with|.ok _ (.lst ds)=>∀J F' H',aJ F H F' H'->j5 C.K F' J ds->R J H'|.exc c=>∀F' H',aJ F H F' H'->C.EE c σ H'|_=>False
def tIv(C:Cw)(g:Rho->Res):TI:=λσ H R=>∃Y F,aR C.K C.F0 C.H0 F H σ Y/\WantI C F H σ (g Y) R
def PIv(C:Cw)(X:Cx)(tg e:Expr)(g:Rho->Res):Prop:=PI X tg e (tIv (C.at X) g)
def iN(r:Res):Res:=r.thn λ_ d=>match d with|.lst ds|.tup ds=>.ok .fz (.lst ds)|_=>.stuck
def aMF{K:Fg}{F:Hp}{a:Addr}(l:SqT K F a U)(r:aC K F ds U):j5 K F (Itt K a) ds where
 go:=λi H s f=>by(have t:i<U.length:=by rw[r.length];exact f);exact#[U,U[i],aD.seqT s l,by simp[t]]
 stop:=λi H s f=>#[U,aD.seqT s l,by rw[r.length];exact f]
 yld:=λi Fc H x H' m S f y=>by exists rfl,y,y;have hx:=y U (aD.seqT S (aD.seqT m l));exists d,e,o,r.get hx;exact#[Fc,d,e,.refl S,o.mono m _ _]
def aMG(h:PV C X e g):PIv C X tg e (λY=>iN (aI (g Y))):=by
 have h:=eB h;refine PI.imp (PI.or (aIX h) (aIY h)) λσ H R q=>?_;exists Y,F,t,w,q;dsimp only at w;cases E:aI (g Y)with
 |stuck=>rw[E]at w;exact w.elim|exc c=>refine .inl ?_;unfold sU;rw[aU];refine#[Y,F,t,?_];rw[E]at w ⊢;exact w|ok m d =>
  rw[E]at w;have D:m=.fz:=by cases h:g Y with|ok m' J=>rw[h]at E;cases m' <;> cases E <;> rfl|exc c|stuck=>rw[h]at E;cases E
  subst D;cases d with
  |lst ds =>
   refine .inl ?_; unfold sU; rw [aU]; refine #[Y, F, t, ?_]; rw [E]; intro v F' H' st f _; have f : aB X.K F' (.lst ds) v := f; simp only [aB] at f; obtain ⟨a, U, rfl, l, r⟩ := f; exact #[a, rfl, #[U, st.sub.seq l], w _ F' H' st #[fun i H s o => by
       have G:i<U.length:=by rw[r.length];exact o
       exact#[U,U[i],s.seq l,by simp[G]],λi H s o=>#[U,s.seq l,by rw[r.length];exact o],λi Fc H x H' A S o y=>by
       exists rfl,y,y;have hx:=y U (S.seq (A.seq l));exists d,e,B,r.get hx;exact#[Fc,d,e,.refl S,B.mono A _ _]]]
  |tup ds=>refine .inr ?_;unfold iTup;rw[aU];refine#[Y,F,t,?_];rw[E];intro v F' H' st f _;have f:aB X.K F' (.tup ds) v:=f;simp only[aB]at f;exists a,U,rfl,l,r,f;exact#[a,rfl,#[U,aD.seqT st.sub l],w _ F' H' st (aMF l r)]|_=>exact w.elim
def cC(lo hi:Int):List D:=(List.range (hi-lo).toNat).map λi=>.int (lo+(i:Nat))
def gN(r:bC):Res:=r.thn λU=>match U with|[(_,.int n)]=>if(decide (-(2 ^ 62)<=n)&&decide (n<2 ^ 62))=true then .ok .fz (.lst (cC 0 n))else .stuck|_=>.stuck
def aMH{K:Fg}{F:Hp}{lo hi:Int}:j5 K F (Itr lo (hi-lo).toNat) (cC lo hi) where
 go:=λi H s h=>by simpa[cC,Itr]using h
 stop:=λi H s h=>by simpa[cC,Itr]using h
 yld:=λi Fc H x H' a S h y=>by(exists rfl,rfl,y;have h':i<(hi-lo).toNat:=by simpa[cC]using h);refine#[Fc,.int (lo+i),?_,.refl S,by simp only[aB]];simp only[cC,aY1,a0Q h',a0R]
def aMI{a:Expr}(l:Gl X "range")(f:X.mg "range"=none)(ha:PAv C X [a] gs)(hs:starEach [a] X.env=[(false,eval a X.env)]:=by rfl):PIv C X tg (.Call (.Name "range" p) [a] [] pos) (λY=>gN (gs Y)):=by refine PI.imp (aI0 l f ha hs) λσ H R q=>?_;exists Y,F,o,w,q;dsimp only at w;unfold yD;refine#[Y,F,o,?_];cases E:gs Y with|stuck|exc c=>rw[E]at w;exact w|ok U=>rw[E]at w;intro vs F' H' st rp;unfold gN at w;rw[bC.thn_ok]at w;split at w;{rename_i m n;split at w;{rename_i d;rw[aZL,a0L,a0L]at d;exists v,rfl,r,rp.one;cases r.int;have:=aMH (K:=X.K) (F:=F') (lo:=0) (hi:=n);rw[Int.sub_zero]at this;exact#[n,rfl,d.1,d.2,w _ F' H' st this]};exact w.elim};exact w.elim
def PGv(C:Cw)(X:Cx)(tg:Expr)(k:D->Rho->Option Rho):Prop:=∃t:TG,PG X tg t/\∀F H σ Y ρ' d v Q,aR X.K C.F0 C.H0 F H σ Y->aB X.K F d v->k d Y=some ρ' ->
 (∀a F' H',aD F F'->aR X.K C.F0 C.H0 F' H' a ρ'->Q a H')->t v σ H Q
noncomputable def bV(k:D->Rho->Option Rho)(body:Rho->aH):List D->Rho->aH|[],Y=>.nx Y|d::ds,Y=>match k d Y with|none=>.stuck|some f=>match body f with|.nx a|.ct a=>bV k body ds a|.bk a=>.nx a|r=>r
def lK(r:Res)(Y:Rho)(k:D->Rho->Option Rho)(body:Rho->aH):aH:=r.thS Y λ_ d=>match d with|.lst ds=>bV k body ds Y|_=>.stuck
theorem aMJ{k:D->Rho->Option Rho}{G:Rho->aH}(hp:PassesOwn (model X.prog X.w) X.A X.env X.xe)(hc:X.calm=true)(hi:PIv C X tg e g)(hg:PGv C X tg k)(hb:PBv C X body G)(hs:∀x,foldedSetIterable e X.env x=pure x:=by intro _;rfl):PSv C X (.For tg e body [] pos) (λY=>lK (g Y) Y k G):=by exists t,ht,hk,hg;refine PS.imp (yE hp hc hi ht hb hs) λE σ H q=>?_;exists Y,F,RS,w,q;dsimp only at w;unfold sV;refine#[Y,F,RS,?_];cases er:g Y with|stuck=>rw[er]at w;exact w|exc c=>rw[er]at w;exact λF' H' s=>w σ F' H' s.fsame (RS.step s)|ok m d=>rw[er]at w;cases d with|lst ds=>(intro J F1 H1 s1 hJ;have w:bU (C.at X) F1 (bV k G ds Y) E:=bU.mono s1.fsame w;refine#[λi m o H'=>m=ds.length-i/\i<=ds.length/\∃ρ' F',aD F1 F'/\aR X.K C.F0 C.H0 F' H' o ρ'/\bU (C.at X) F' (bV k G (ds.drop i) ρ') E,#[ds.length,by simp,aYO _,Y,F1,aD.refl _,RS.step s1,by simpa using w],?_];rintro i m o H' ⟨rfl,hi,ρ',F',sF,R',w'⟩;by_cases l:i<ds.length;{refine .inr #[hJ.go i H' (sF.trans R'.sub) l,λN S=>∃f B,aD F1 B/\aR X.K C.F0 C.H0 B S N f/\bU (C.at X) B (bV k G (ds.drop (i+1)) f) E,λN S ⟨f,B,a,b,c⟩=>#[ds.length-(i+1),by lia,rfl,l,f,B,a,b,c],λx S y=>?_];(exists B,d,ed,V,rd,hJ.yld i F' H' x S sF R'.sub l y;have hd:ds.drop i=d::ds.drop (i+1):=by rw[a0S l];rw[a0T l]at ed;cases ed;rfl);rw[hd]at w';unfold bV at w';cases ek:k d ρ' with|none=>rw[ek]at w';exact w'.elim|some r=>rw[ek]at w';dsimp only at w';refine hk B S o ρ' r d x _ (R'.step V) rd ek λaa F3 H3 z3 R3=>?_;have T:aD F1 F3:=(sF.trans V.fsame).trans z3;have W:=bU.mono (V.fsame.trans z3) w';refine#[r,F3,R3,?_];cases eb:G r with|nx f|ct f=>rw[eb]at W;exact λL F4 H4 Z R4=>#[f,F4,T.trans Z,R4,bU.mono Z W]|bk f=>rw[eb]at W;exact λL F4 H4 Z R4=>W L F4 H4 Z R4|rt m d|exc c f|stuck=>rw[eb]at W;exact W};(have ei:i=ds.length:=by lia);subst ei;refine .inl #[hJ.stop _ H' (sF.trans R'.sub) (aYC _),?_];rw[a0U]at w';exact w' o F' H' (aD.refl _) R')|_=>exact w.elim
end D3
namespace L2
theorem tP {env : Env} : ∀ (names : List (Str × NameKind)) (a : List (Str × Addr)), (∀ y ∈ names, y.2 = .free → ∃ c, env.cells.lookup y.1 = some c) → (∀ y c, a.lookup y = some c → env.cells.lookup y = some c) →
    ∃cl,(forIn names a λ(x:Str×NameKind) (cs:List (Str×Addr))=>(if x.2 == .free then(do let c <- cellOf env x.1;pure (ForInStep.yield ((x.1,c)::cs)))else pure (ForInStep.yield cs):Sem (ForInStep (List (Str×Addr)))))=pure cl /\
     (∀y c,cl.lookup y=some c->env.cells.lookup y=some c)/\(∀y c,a.lookup y=some c->cl.lookup y=some c)/\∀y,(y,NameKind.free)∈names->∃c,cl.lookup y=some c
 |[],a,_,ha=>#[a,by rw[a0V],ha,λ_ _ h=>h,λ_ h=>by cases h]|(n,k)::r,a,h,ha=>by
  rw[a0W];by_cases hk:k=.free
  . subst hk;exists c,m,h (n,.free) mcs rfl;have B:cellOf env n=pure c:=by unfold cellOf;rw[m]
    have e:((if(NameKind.free==NameKind.free)=true then(do let c <- cellOf env n;pure (ForInStep.yield ((n,c)::a)))else pure (ForInStep.yield a)):Sem (ForInStep (List (Str×Addr))))=pure (ForInStep.yield ((n,c)::a)):=by rw[al (by decide),B,a0X]
    exists cl,A,t,E,o,tP (env:=env) r ((n,c)::a) (λy f=>h y (mcm f)) (λy l q=>by
     rw[a0K]at q;cases d:y==n with|true=>rw[d]at q;cases q;rw[aYK.mp d];exact m|false=>rw[d]at q;exact ha y l q)
    refine#[cl,?_,t,λy l q=>?_,λy f=>?_]
    . dsimp only;rw[e,a0X];exact A
    . cases d:y==n with|true=>have:=aYK.mp d;subst this;have q':=ha y l q;rw[m]at q';cases q';exact E y c (by rw[a0K,d])|false=>exact E y l (by rw[a0K,d];exact q)
    . rcases aXV.mp f with z|z;{cases z;exact#[c,E n c (by rw[a0K,a0Y])]};exact o y z
  . (have e:((if(k==NameKind.free)=true then(do let c <- cellOf env n;pure (ForInStep.yield ((n,c)::a)))else pure (ForInStep.yield a)):Sem (ForInStep (List (Str×Addr))))=pure (ForInStep.yield a):=by rw[aK (by simpa using hk)]);exists cl,A,t,E,o,tP (env:=env) r a (λy f=>h y (mcm f)) ha;refine#[cl,?_,t,E,λy f=>?_];{dsimp only;rw[e,a0X];exact A};rcases aXV.mp f with z|z;{cases z;exact absurd rfl hk};exact o y z
def aMK(h:∀y∈scope.names,y.2=.free->∃c,env.cells.lookup y.1=some c):∃cl,closureFor scope env=pure cl/\(∀y c,cl.lookup y=some c->env.cells.lookup y=some c)/\∀y,(y,NameKind.free)∈scope.names->∃c,cl.lookup y=some c:=by exists cl,d,a,_,E,tP (env:=env) scope.names [] h (λy c q=>by simp at q);refine#[cl,?_,a,E];unfold closureFor;rw[bind_pure];exact d
def aML(t:∀y∈scope.names,y.2 ≠ .cell)(h:(relabel scope env).names.lookup x=some .cell\/(relabel scope env).names.lookup x=some .free):(x,NameKind.free)∈scope.names:=by
 unfold relabel at h;dsimp only at h;have go:∀(l:List (Str×NameKind)),(∀y∈l,y.2 ≠ .cell)->((l.map λ(n,k)=>if(k==NameKind.free&&env.scope.kind == .function&&env.kindOf n==some .cell)then(n,NameKind.cell)else(n,k)).lookup x=some .cell\/(l.map λ(n,k)=>if(k==NameKind.free&&env.scope.kind == .function&&env.kindOf n==some .cell)then(n,NameKind.cell)else(n,k)).lookup x=some .free)->(x,NameKind.free)∈l:=by
  intro l
  induction l with
  |nil=>intro _ h;simp at h|cons y l m =>
   intro f h;exists n,k,y;rw[aZZ]at h;by_cases hx:x=n
   . subst hx;have hk:k=.free:=by
       by_cases hk:k=.free
       . exact hk
       . have e:(k==NameKind.free&&env.scope.kind == .function&&env.kindOf x==some .cell)=false:=by
           have:(k==NameKind.free)=false:=by simpa using hk
           rw[this];rfl
         simp only[e,a0I,aZC,a0K,a0Y]at h;rcases h with h|h
         . cases h;exact absurd rfl (f _ mcs)
         . cases h;exact absurd rfl hk
     subst hk;exact mcs
   . (have r:(x==n)=false:=by simpa using hx);(have o:∀(kk:NameKind) (L:List (Str×NameKind)),((n,kk)::L).lookup x=L.lookup x:=λkk L=>by rw[a0K,r]);by_cases a:(k==NameKind.free&&env.scope.kind == .function&&env.kindOf n==some .cell)=true;{dsimp only at h;rw[al a,o]at h;exact mcm (m (λy d=>f y (mcm d)) h)};dsimp only at h;rw[aK a,o]at h;exact mcm (m (λy d=>f y (mcm d)) h)
 exact go scope.names t h
noncomputable def a7(X:Cx)(scope:Scope)(N:List Str)(cl:List (Str×Addr))(C:Addr)(fp:List Addr)(s3:a3I)(a:Hp):Cx where
 prog:=X.prog
 w:=X.w
 K:=X.K
 mg:=X.mg
 base:=X.base
 A:=X.A
 N:=N
 s₀:=s3
 H₀:=a
 env:=compEnvC scope cl C X.env
 outer:=X.stack
 stack:=X.stack
 ex:=fp
 fn:=λ_=>false
 calm:=X.calm
 pn:=[]
 xe:=λ_ _=>False
def dY(X:Cx)(cs:List Expr)(t:TT):Prop :=
 ∀(O:LAO) (s:a3I) (σ:St) (H:Hp) (Q:Bool->Hp->Prop),Inv X O σ H s->t σ H Q ->
  wpAny (model X.prog X.w) X.A (forIn cs true λc r=>if r=true then do let ok <- isTrue c X.env (eval c X.env);pure (ForInStep.yield ok)else pure (ForInStep.yield r)) (TP X O σ Q) X.xe s
def zP:dY X [] (λ_ H Q=>Q true H):=λO s σ H Q I h=>by rw[a0V];exact aYA #[H,I,h]
theorem zQ{X:Cx}:∀cs:List Expr,(forIn cs false λc r=>if r=true then do let ok <- isTrue c X.env (eval c X.env);pure (ForInStep.yield ok)else pure (ForInStep.yield r):Sem Bool)=pure false|[]=>by rw[a0V]|c::cs=>by rw[a0W,aK aX8,a0X];exact zQ cs
def aMM{cs:List Expr}{t u:TT}(f:PT X c t)(d:dY X cs u):dY X (c::cs) (sP t u):=λO s σ H Q I h=>by rw[a0W,al rfl];refine aYB (aYB (thn (f O s σ H _ I h) λb S ⟨H1,a,q1⟩=>aYA ?_));cases b with|true=>rw[al rfl]at q1;exact d O S σ H1 Q a q1|false=>rw[aK aX8]at q1;dsimp only;rw[zQ];exact aYA #[H1,a,q1]
def zR(comp tg iter:Expr)(ifs:List Expr)(a:Addr->Env->Sem Unit):Prop:=∀prog w (A:a3J) it D env,A.under (.compLoop comp 0 it (.ref D) env)=A/\(model prog w).den (.compLoop comp 0 it (.ref D) env)=Sem.onRaise (do
 standAt iter.pos
 match <- pyNext it with
 |none=>pure (.done .next)|some v =>
  letOwnedTupleGo tg it v
  assign tg env v
  let mut ok:=true
  for c in ifs do
   if ok then ok <- isTrue c env (eval c env)
  if ok then
   a D env
  again (.compLoop comp 0 it (.ref D) env)) (λx=>do noteFrame x env;theTreesLotGoes x)
def aMN {prog : a3L} {w : a3K} {A : a3J} {R : Result → a3I → Prop} {s : a3I} {comp t iter : Expr} {ifs : List Expr} {a : Addr → Env → Sem Unit} {it : a3H} {D : Addr} {env : Env} (ht : zR comp t iter ifs a) (I : Nat → a3I → Prop) (turn : ∀ n s, I n s → wpAny (model prog w) A (pyNext it) (fun r s1 => match r with
      |none=>R (.ok .next) s1| some v => wpAny (model prog w) A (letOwnedTupleGo t it v) (fun _ S => wpAny (model prog w) A (assign t env v) (fun _ l =>
          wpAny (model prog w) A (forIn ifs true λc r=>if r=true then do let ok <- isTrue c env (eval c env);pure (ForInStep.yield ok)else pure (ForInStep.yield r)) (λok s3 =>
           if ok=true then wpAny (model prog w) A (a D env) (λ_ f=>∃m,m<n/\I m f) (λ_ _=>False) s3
           else ∃ m, m < n ∧ I m s3) (fun _ _ => False) l) (fun _ _ => False) S) (fun _ _ => False) s1) (fun _ _ => False) s)
    (n:Nat) (h:I n s) :
    codeAny (model prog w) A (.compLoop comp 0 it (.ref D) env) R s:=by
 refine codeAny_loop rfl I (λn s E=>?_) n h;rw[(ht prog w A ..).1,(ht prog w A ..).2];refine wpAny_noted ?_;refine aYB (aYS (aYB (aX3 (turn n s E) (λr s1 B=>?_) λ_ _ h'=>h'.elim)));cases r with|none=>exact aYA B|some v=>refine aYB (aX3 B (λ_ S d=>?_) λ_ _ h'=>h'.elim);refine aYB (aX3 d (λ_ l G=>aYB (aX3 G (λok s3 o=>?_) λ_ _ h'=>h'.elim)) λ_ _ h'=>h'.elim);cases ok with|false=>exact aYA #[rfl,o]|true=>exact aYB (aX3 o (λ_ f F=>aYA #[rfl,F]) λ_ _ h'=>h'.elim)
def c8(aE:List Nat)(σ:St):St:=aE.map λi=>(σ[i]?).getD none
def tQ(σ a:St):Prop:=σ.length=a.length/\∀(j:Nat) v,σ[j]? = some (some v)->a[j]? = some (some v)
def nM(aE:List Nat)(k:Nat)(wi:TI)(gt:TG)(tt:TT)(te:TE):TE:=λσ H Q=>wi σ H λJ H1=>∀D,H1 D=none ->
 ∃W:Nat->Nat->List V->Hp->Prop,(∃m,W 0 m [] (upd H1 D (.lst [])))/\∀i m ys H,W i m ys H->H D=some (.lst ys) /\
  ((J.stop i H/\Q (.ref D) H)\/(J.go i H/\ys.length<sizeLine/\∀x H',J.yld i H x H'->gt x (c8 aE σ++List.replicate k none) H' λa l=>tQ (c8 aE σ++List.replicate k none) a/\tt a l λb f =>
   if b=true then te a f λy d=>d D=some (.lst ys)/\∃m',m'<m/\W (i+1) m' (ys++[y]) (upd d D (.lst (ys++[y])))else ∃m',m'<m/\W (i+1) m' ys f))
def aMO(aE:List Nat)(k:Nat)(wi:TI)(gt:TG)(tt:TT){d:Type}(O:List d->HO)(tb:St->Hp->Addr->List d->(List d->Hp->Prop)->Prop):TE:=λσ H Q=>wi σ H λJ H1=>∀D,H1 D=none ->
 ∃W:Nat->Nat->List d->Hp->Prop,(∃m,W 0 m [] (upd H1 D (O [])))/\∀i m ys H,W i m ys H->H D=some (O ys) /\
  ((J.stop i H/\Q (.ref D) H)\/(J.go i H/\ys.length<sizeLine/\∀x H',J.yld i H x H'->gt x (c8 aE σ++List.replicate k none) H' λa o=>tQ (c8 aE σ++List.replicate k none) a/\tt a o λb f =>
   if b=true then tb a f D ys λzs l=>∃m',m'<m/\W (i+1) m' zs l else ∃m',m'<m/\W (i+1) m' ys f))
structure CK(X:Cx)(comp tg iter:Expr)(ifs:List Expr)(scope:Scope)(N:List Str){γ:Type}(a:List γ->HO)(mk:Sem a3H)(act:Addr->Env->Sem Unit)(tb:St->Hp->Addr->List γ->(List γ->Hp->Prop)->Prop):Prop where
 cl:clausesOf comp=[#[tg,iter,ifs,0]]
 tn:zR comp tg iter ifs act
 st:∀{it acc env R s},codeAny (model X.prog X.w) X.A (.compLoop comp 0 it acc env) R s->wpAny (model X.prog X.w) X.A (pyIter it) (λit' s'=>codeAny (model X.prog X.w) X.A (.compLoop comp 0 it' acc env) R s') (notedBy (model X.prog X.w) X.A env λx s'=>R (.error x) s') s->codeAny (model X.prog X.w) X.A (.compStart comp 0 it acc env) R s
 nw:∀{O σ H s R},Inv X O σ H s->(∀s',s'.heap.objs.size=s.heap.objs.size+1->(∀b o,s.heap.get? b=some o->s'.heap.get? b=some o)->Inv X O σ (upd H s.heap.objs.size (a [])) s'->R (.ref s.heap.objs.size) s')->wpAny (model X.prog X.w) X.A mk R X.xe s
 ac:∀{cl C fp s3 H3 O σ H s D ys K R},Inv (a7 X scope N cl C fp s3 H3) O σ H s->ys.length<sizeLine->tb σ H D ys K->(∀zs H' s',Inv (a7 X scope N cl C fp s3 H3) O σ H' s'->K zs H'->R () s')->wpAny (model X.prog X.w) X.A (act D (compEnvC scope cl C X.env)) R (λ_ _=>False) s
def tR{comp:Expr}{γ:Type}{d:List γ->HO}{mk:Sem a3H}{br:Addr->Env->Sem Unit}{tb:St->Hp->Addr->List γ->(List γ->Hp->Prop)->Prop}{use:Option (a3H->Sem Unit)}{QQ:VSP}{σ:St}{Q:VK}(hc:X.calm=true)(hi:PI X tg iter wi)(cO:∀y∈scope.names,y.2 ≠ .cell)(cP:scope.kind=.function)(eL:∀y∈scope.names,y.2=.local->scope.names.lookup y.1=some .local)(dF:∀y∈scope.names,y.2=.free->X.env.kindOf y.1=some .cell\/X.env.kindOf y.1=some .free)(dU:aL.map some=aE.map λi=>X.N[i]?)(eN:∀y∈aL,(y,NameKind.free)∈scope.names)(eM:∀y∈aL,(relabel scope X.env).names.lookup y=some .cell\/(relabel scope X.env).names.lookup y=some .free)(hg:∀cl C fp S H3,PG (a7 X scope (aL++tgN) cl C fp S H3) tg gt)(hf:∀cl C fp S H3,dY (a7 X scope (aL++tgN) cl C fp S H3) ifs tt)(k:CK X comp tg iter ifs scope (aL++tgN) d mk br tb)(hs:∀x,foldedSetIterable iter X.env x=pure x)(I:Inv X O σ H s)(h:aMO aE tgN.length wi gt tt d tb σ H Q)(aA:∀(D Z:Addr) (s6:a3I) (V:Hp),(∃m,s6.heap.Ns Z m)->(∀L,Heap.SameBut Z s6.heap L->Inv X O σ V {s6 with heap:=L})->V Z=none->X.s₀.heap.objs.size<=Z->Z≠X.env.locals->(∀x c,X.env.cells.lookup x=some c->c≠Z)->(∀p∈X.pn++O,p.1≠Z)->Q (.ref D) V->compPost (model X.prog X.w) X.A X.xe use QQ (.ref D) Z (.ok .next) s6):wpAny (model X.prog X.w) X.A (comprehension comp scope X.env (firstIterPos [#[tg,iter,ifs,0]] pos) mk (firstAsync [#[tg,iter,ifs,0]]) (firstIter [#[tg,iter,ifs,0]] X.env) use) QQ X.xe s:=by
 exists cl,aq,l,af,aMK (scope:=scope) (env:=X.env) λy hy hk=>I.ok.has y.1 (dF y hy hk);refine wpAny_comprehension_free (use:=use) k.cl hs aq cP eL (thn (hi O s σ H _ I h) λv s1 h1=>thn h1 λbw s2 B=>?_);exists it,fp,tn,J,H2,e,I2,T,aj,f2,q,B;subst e;have hn:H2 s2.heap.objs.size=none:=I2.hok.fresh (aYC _);obtain⟨W,⟨m0,w0⟩,turn⟩:=q s2.heap.objs.size hn;refine k.nw I2 λS bg E t=>?_;generalize bi:upd H2 s2.heap.objs.size (d [])=H3 at t w0;have bc:∀b∈fp,b<s2.heap.objs.size:=λb f=>by exists o,eo,_,T.obj 0 _ aj b f;exact aXL eo
 have bj:s2.heap.objs.size∉fp:=λf=>aXN _ (bc _ f);refine wpAny_newFunctionEnv cO (by intro y hy;simp at hy) (λh4 ay aw=>?_) cP
 try dsimp only at ay aw ⊢
 have K:∀b o,S.heap.get? b=some o->h4.get? b=some o:=λb o e=>aw.extBut b o (aXO (aXL e)) (hps e);have aa:∀b∈fp,b∉frs X.stack:=λb f z=>by exists _,f1,bq,_,f2 b f;rcases aXV.mp (I2.stkSub b z)with q|q;{exact f1 q};exact bq q
 have ak:(a7 X scope (aL++tgN) cl S.heap.objs.size fp S H3).Ok :=
  { mod:=t.ok.mod
    kind:=cP
    glob:=t.ok.glob
    blt:=t.ok.blt
    above:=aYC _
    inj:=λx y c h1 B=>t.ok.inj x y c (l x c h1) (l y c B)
    has:=λx hx=>af x (aML cO hx)
    cab:=λx c z=>by cases z
    hd:=t.ok.hd
    frames:=t.ok.frames
    stk:=.inl rfl
    exf:=λb f=>#[aXO (by show b<S.heap.objs.size;rw[bg];exact a0Z (bc b f)),λx c e=>(f2 b f).2.2.2.2.1 x c (l x c e)]
    bs:=t.bs
    bsz:=aXS t.ok.bsz t.sz
    noex:=λb o e f=>by exists _,_,_,f3,_,f2 b f;rcases f3 with z|z;{exact I2.ok.noex b o e z};exact absurd (aXL (I2.ok.bs b o e).1) (Nat.not_lt.mpr z)
    exfs:=aa
    funs:=t.stack
    frf:=t.stkFree
    tabs:=t.ok.tabs.mono t.base.tbls }
 have G:aL.length=aE.length:=by have:=congrArg List.length dU;simpa using this
 generalize ae:c8 aE σ++List.replicate tgN.length none=σ0 at turn;have Ic:Inv (a7 X scope (aL++tgN) cl S.heap.objs.size fp S H3) [] σ0 H3 {S with heap:=h4,toks:=S.toks+([]:List (Str×a3H)).length}:=by refine#[ak,rfl,t.bare,Un.kept K,#[_,ay,λi y v h1 B h3=>?_],λx c e=>?_,t.hok.fresh (aYC _),λx c e=>t.freeC x c (l x c e),λp hp=>absurd (show p∈([]:LAO)from hp) (by simp),t.hok.kept K,?_];{by_cases hi:i<aE.length;{(have ey:aL[i]? = some y:=by have h1:(aL++tgN)[i]? = some y:=h1;rw[aY0 (by rw[G];exact hi)]at h1;exact h1);(have hj:X.N[aE[i]]? = some y:=by(have e1:(aL.map some)[i]? = (aE.map λi=>X.N[i]?)[i]?:=by rw[dU]);rw[aY1,aY1,ey,a0T hi]at e1;simpa using e1.symm);(have ev:σ[aE[i]]? = some (some v):=by rw[<- ae,aY0 (by simpa[c8]using hi)]at B;unfold c8 at B;rw[aY1,a0T hi]at B;simp only[a0R,a00]at B;cases z:σ[aE[i]]? with|none=>rw[z]at B;cases B|some o=>rw[z]at B;exact congrArg some B);have av:=eN y (aY2 ey);have az:=dF _ av rfl;exists m,_,hl,t.loc;exists u,ru,lk,hl aE[i] y v hj ev (by rcases az with z|z;exact .inr (.inl z);exact .inr (.inr z));refine#[u,ru,.inr #[eM y (aY2 ey),?_]];rcases lk with⟨hk,_⟩|⟨_,c,ec,ic⟩;{rcases az with z|z;{rw[show X.env.kindOf y=some .cell from z]at hk;cases hk};rw[show X.env.kindOf y=some .free from z]at hk;cases hk};exists c',bf,af y av;have:=l y c' bf;rw[ec]at this;cases this;exact#[c,bf,ic.keeps K]};rw[<- ae,aYY (by simpa[c8]using hi),aYZ]at B;split at B <;> cases B};{exists v,q,t.cell x c (l x c e);exact#[v,q.keeps K]};rw[<- ae];show(c8 aE σ++List.replicate tgN.length none).length=(aL++tgN).length;simp[c8,G]
 have ar:∀{H':Hp},(∀b∈fp,H' b=none)->∀b∈fp,cX (a7 X scope (aL++tgN) cl S.heap.objs.size fp S H3) [] H' b:=λhn b f =>
  #[hn b f,(ak.exf b f).1,aa b f,.inl f,(ak.exf b f).2,λp hp=>absurd (show p∈([]:LAO)from hp) (by simp)]
 have loop:codeAny (model X.prog X.w) X.A (.compLoop comp 0 (.ref it) (.ref s2.heap.objs.size) (compEnvC scope cl S.heap.objs.size X.env)) (compPost (model X.prog X.w) X.A X.xe use QQ (.ref s2.heap.objs.size) S.heap.objs.size) {S with heap:=h4,toks:=S.toks+([]:List (Str×a3H)).length}:=by
  refine aMN k.tn (λn s'=>∃i ys H',Inv (a7 X scope (aL++tgN) cl S.heap.objs.size fp S H3) [] σ0 H' s'/\tn i s'.heap/\(∀b∈fp,H' b=none)/\W i n ys H') ?_ m0
   #[0,[],H3,Ic,T.keep _ _ _ aj (λb f o e=>K b o (E b o e)),λb f=>by rw[<- bi,aN (by intro z;rw[z]at f;exact bj f)];exact(f2 b f).1,w0]
  rintro n s5 ⟨i,ys,V,I5,st5,fr5,w5⟩;exists hD,hw,turn i n ys V w5;rcases hw with⟨stop,qq⟩|⟨go,hlen,step⟩
  . refine thn (T.done (a7 X scope (aL++tgN) cl S.heap.objs.size fp S H3) rfl rfl rfl hc i [] s5 σ0 V _ I5 (ar fr5) st5 stop) λr s6 ⟨hr,I6⟩=>?_;subst hr;exists m,hm,_,id I6.loc;refine aA s2.heap.objs.size S.heap.objs.size s6 V #[m,hm] (λL F=>?_) I6.free t.sz (λz=>?_) (λx c ec z=>?_) (λp hp z=>?_) qq;rotate_left
    . obtain⟨m,⟨o,es,ep,ho,_⟩,_⟩:=id t.loc;rw[<- z]at ho;exact aXN _ (aXL ho)
    . exists v,o,ho,_,t.cell x c ec;rw[z]at ho;exact aXN _ (aXL ho)
    . have:=(t.pin p hp).1;rw[z]at this;exact aXN _ (aXL this)
    have u:=I6.base;have am:∀b o,S.heap.get? b=some o->b≠S.heap.objs.size:=λb o e=>aXO (aXL e);have un:Un (frs X.stack) fp H3 V S.heap L:=by refine#[λb o e n f hx=>F.extBut b o (am b o e) (u.keep b o e n f hx),λb o e n f hx=>?_,u.free,λb o e hx=>?_,u.tups,u.frzs,u.tbls];{exists sl,q,u.slot b o e n f hx;exact#[sl,F.extBut b _ (am b o e) q]};exists o',q,u.there b o e hx;exact#[o',F.extBut b _ (am b o e) q]
    have hok : HOk X.prog X.w V L := fun a o e => (I6.hok a o e).stay (fun b v f q => F.extBut b v (by
        intro z;have fr:=I6.free;rcases f with f|f
        . rw[f]at z;rw[z]at e;rw[show V S.heap.objs.size=none from fr]at e;cases e
        . rw[z,show V S.heap.objs.size=none from fr]at f;cases f) q) (λ_ q=>q) λ_ _ q=>q
    have bh:=I6.os;exists hh,g6,d6,t6,o6,s6;obtain rfl:o6=S.os:=bh;have I8:=t.call (h':=L) (g':=g6) (d':=d6) (t':=t6) (ch:=fp) un hok I6.bare λb f=>by exists _,f1,_,f3,f4,f5,f2 b f;exact#[f3,f1,f4,f5]
    exact I8
  . refine thn (T.item (a7 X scope (aL++tgN) cl S.heap.objs.size fp S H3) rfl rfl rfl hc i [] s5 σ0 V _ I5 (ar fr5) st5 go) λr s6 ⟨u,hr,h6⟩=>?_;subst hr;refine thn h6 λ_ s7 ⟨x,H7,I7,r7,y7,ai,bn⟩=>?_;have bu:=I7.pinned (ar bn) (T.obj _ _ ai);refine thn (hg cl S.heap.objs.size fp S H3 _ s7 σ0 H7 x u _ bu r7 (step x H7 y7)) λ_ s8 ⟨au,H8,I8,wk,q8⟩=>?_;have ag:∀{H':Hp}{s':a3I}{m':Nat}{ah:List γ},Inv (a7 X scope (aL++tgN) cl S.heap.objs.size fp S H3) ([]++m5 fp s7.heap) au H' s'->m'<n->W (i+1) m' ah H' ->
        ∃m,m<n/\∃i ys H',Inv (a7 X scope (aL++tgN) cl S.heap.objs.size fp S H3) [] σ0 H' s'/\tn i s'.heap/\(∀b∈fp,H' b=none)/\W i m ys H':=λ{H' s' m' ah} I' hm w'=>by
      have pinned:∀b∈fp,∀o,s7.heap.get? b=some o->s'.heap.get? b=some o/\H' b=none:=λb f o e=>by have:=I'.pin (b,o) (aYG _ (aYG _ (sW f e)));exact#[this.1,this.2.1]
      refine#[m',hm,i+1,ah,H',I'.unpinned.weak wk.1 wk.2,T.keep _ _ _ ai λb f o e=>(pinned b f o e).1,λb f=>?_,w'];exists o,e,_,T.obj _ _ ai b f;exact(pinned b f o e).2
    refine thn (hf cl S.heap.objs.size fp S H3 _ s8 au H8 _ I8 q8) λb s9 ⟨H9,I9,q9⟩=>?_;cases b with|false=>rw[aK aX8]at q9 ⊢;exists m',hm,w9,q9;exact ag I9 hm w9|true=>rw[al rfl]at q9 ⊢;exact k.ac I9 hlen q9 λzs H' s' I' ⟨m',hm,w'⟩=>ag I' hm w'
 exact k.st loop (T.self _ 0 _ _ _ (T.keep _ _ _ aj (λb f o e=>K b o (E b o e))) loop)
def ckL {X : Cx} {elt tg iter : Expr} {ifs : List Expr} {scope : Scope} {pos : Pos} {N : List Str} {te : TE} (l : ∀ cl C fp s3 H3, PE (a7 X scope N cl C fp s3 H3) elt te) :
    CK X (.ListComp elt [#[tg,iter,ifs,0]] scope pos) tg iter ifs scope N .lst (newList []) (λD env=>do let _ <- call (.builtin "list.append") [.ref D,<- eval elt env]) (λσ H D ys K=>te σ H λy a=>a D=some (.lst ys)/\K (ys++[y]) (upd a D (.lst (ys++[y])))) where
 cl:=rfl
 tn _ _ _ _ _ _:=#[rfl,rfl]
 st:=codeAny_compStart_list
 nw I h:=aZM (h _ (aYL _ _) (λb o e=>hps e) (I.laid (t':=_) (λb u e=>hps e) (aYC _) #[aYO _,[],0,.nil,aXK _ rfl]))
 ac {cl C fp s3 H3 _ σ _ _ D ys _ _} I hlen h w:=aYB (thn (l cl C fp s3 H3 _ _ σ _ _ I h) λy S ⟨d,a,A,r,m,f⟩=>aYB (thn (tI (X:=a7 X scope N cl C fp s3 H3) _ S σ a (.ref D) [d] (.ref D) [y] (λv H'=>v=.non/\H'=upd a D (.lst (ys++[d]))) A rfl (.cons r .nil)
  #[D,ys,d,rfl,rfl,m,hlen,rfl,rfl]) λ_ B ⟨_,_,t,_,_,E⟩=>aYA (w _ _ _ (E ▸ t) f)))
def aMP(o:X.calm=true)(hi:PI X tg iter wi)(J:∀y∈scope.names,y.2 ≠ .cell)(G:scope.kind=.function)(A:∀y∈scope.names,y.2=.local->scope.names.lookup y.1=some .local)(F:∀y∈scope.names,y.2=.free->X.env.kindOf y.1=some .cell\/X.env.kindOf y.1=some .free)(B:aL.map some=aE.map λi=>X.N[i]?)(E:∀y∈aL,(y,NameKind.free)∈scope.names)(t:∀y∈aL,(relabel scope X.env).names.lookup y=some .cell\/(relabel scope X.env).names.lookup y=some .free)(f:∀cl C fp s3 H3,PG (a7 X scope (aL++tgN) cl C fp s3 H3) tg gt)(hf:∀cl C fp s3 H3,dY (a7 X scope (aL++tgN) cl C fp s3 H3) ifs tt)(l:∀cl C fp s3 H3,PE (a7 X scope (aL++tgN) cl C fp s3 H3) elt te)(hs:∀x,foldedSetIterable iter X.env x=pure x:=by intro _;rfl):PE X (.ListComp elt [#[tg,iter,ifs,0]] scope pos) (nM aE tgN.length wi gt tt te):=by intro O s σ H Q I h;rw[eval_ListComp];exact tR (use:=none) o hi J G A F B E t f hf (ckL l) hs I h λD Z S K a r _ _ _ _ _ q=>by exists m,a,a;exact#[m,a,λd hs=>#[.ref D,K,r d hs,rfl,q]]
def Inv.dropped{σ:St}{f:Heap}{Z:Addr}(I:Inv X O σ H s)(hs:Heap.SameBut Z s.heap f)(hz:H Z=none)(h0:X.s₀.heap.objs.size<=Z)(A:Z≠X.env.locals)(r:∀x c,X.env.cells.lookup x=some c->c≠Z)(m:∀p∈X.pn++O,p.1≠Z):Inv X O σ H {s with heap:=f}:=by
 have un:Un (frs X.stack) [Z] H H s.heap f:=by have k:∀b o,s.heap.get? b=some o->b∉[Z]->f.get? b=some o:=λb o e l=>hs.extBut b o (λz=>l (by rw[z];exact mcs)) e;exact#[λb o e _ _ hx=>k b o e hx,λb o e _ _ hx=>#[o.slots,k b o e hx],λ_ _ _ n _=>n,λb o e hx=>#[o,k b o e hx],λ_ _ q=>q,λ_ _ _ q=>q,λ_ ps q=>#[#[],by simpa using q]]
 have hok:HOk X.prog X.w H f:=λa o e=>(I.hok a o e).stay (λb v l q=>hs.extBut b v (by
  rintro rfl;rcases l with l|l
  . rw[l,e]at hz;cases hz
  . rw[hz]at l;cases l) q) (λ_ q=>q) λ_ _ q=>q
 exists B,g,d,t,o,s;exact I.call (g':=g) (d':=d) (t':=t) (ch:=[Z]) un hok I.bare λb l=>by(obtain rfl:b=Z:=by simpa using l);exact#[.inr h0,A,r,m]
def aMQ{spos:Pos}(K:X.calm=true)(hi:PI X tg iter wi)(cO:∀y∈scope.names,y.2 ≠ .cell)(cP:scope.kind=.function)(eL:∀y∈scope.names,y.2=.local->scope.names.lookup y.1=some .local)(dF:∀y∈scope.names,y.2=.free->X.env.kindOf y.1=some .cell\/X.env.kindOf y.1=some .free)(dU:aL.map some=aE.map λi=>X.N[i]?)(W:∀y∈aL,(y,NameKind.free)∈scope.names)(eM:∀y∈aL,(relabel scope X.env).names.lookup y=some .cell\/(relabel scope X.env).names.lookup y=some .free)(G:∀cl C fp s3 H3,PG (a7 X scope (aL++tgN) cl C fp s3 H3) tg gt)(hf:∀cl C fp s3 H3,dY (a7 X scope (aL++tgN) cl C fp s3 H3) ifs tt)(J:∀cl C fp s3 H3,PE (a7 X scope (aL++tgN) cl C fp s3 H3) elt te)(hN:X.N.Nodup)(hx:X.N[i]? = some x)(hk:X.env.scope.names.lookup x=some .local)(d:swapsWith (.ListComp elt [#[tg,iter,ifs,0]] scope pos) (some (.Name x pos')) spos.line X.env=pure true)(hs:∀x,foldedSetIterable iter X.env x=pure x:=by intro _;rfl):PS X (.Assign [.Name x pos'] (.ListComp elt [#[tg,iter,ifs,0]] scope pos) spos) (mZ (nM aE tgN.length wi gt tt te) (mY i)):=by intro O s σ H En I h;rw[exec_Assign_Name_used _ _ _ _ d];refine aYB (aYS (aYB ?_));show wpAny _ X.A (comprehension (.ListComp elt [#[tg,iter,ifs,0]] scope pos) scope X.env (firstIterPos [#[tg,iter,ifs,0]] pos) (newList []) (firstAsync [#[tg,iter,ifs,0]]) (firstIter [#[tg,iter,ifs,0]] X.env) (some (assign (.Name x pos') X.env))>>=_) _ _ s;refine aYB (tR (use:=some (assign (.Name x pos') X.env)) K hi cO cP eL dF dU W eM G hf (ckL J) hs I (show nM aE tgN.length wi gt tt te σ H _ from h) λD Z B H5 l L F h0 t r T q=>?_);exists m,l,l;have I6:=L B.heap (Heap.SameBut.refl _ _);refine wpAny_assign_Name (xV I6 hN hx (.inl hk) (show aG (.ref D) (.ref D)from rfl) (λs' I' o=>?_) (.inr hk));(exists a,S,ha,o;have E:Z≠a:=by rcases ha with rfl|ha;{exact t};exact λz=>r x a ha z.symm);exact#[m,l.sameBut S E,λV f=>aYA (aYA #[_,H5,I'.dropped f F h0 t r T,q])]
end L2
namespace D3
def bZ(aE:List Nat)(Y:Rho):Rho:=aE.map λi=>match Y[i]? with|some (some (false,d))=>some (false,d)|_=>none
def eC(k:D->Rho->Option Rho)(t e:Rho->Res)(a:Rho):List D->Option (List D)|[]=>some []|d::ds=>match k d a with|none=>none|some f=>match t f with|.ok _ (.bl true)=>((match aI (e f)with|.ok _ y=>(eC k t e a ds).map (y :: ·)|_=>none))|.ok _ (.bl false)=>eC k t e a ds|_=>none
def bO(src:Res)(Y:Rho)(aE:List Nat)(n:Nat)(k:D->Rho->Option Rho)(t e:Rho->Res):Res:=src.thn λ_ d=>match d with
 |.lst ds=>if ds.length<sizeLine then(match eC k t e (bZ aE Y++List.replicate n none) ds with|some ys=>.ok .fr (.lst ys)|none=>.stuck)else .stuck
 |_=>.stuck
abbrev Cw.nox(C:Cw):Cw:={C with EE:=λ_ _ _=>False}
theorem aJ.upd{F:Hp}{x:Addr}{o:HO}(st:aJ F H F' H')(hx:H x=none)(a:F' x=none):aJ F H F' (L2.upd H' x o) :=
 #[λb u q=>by rw[aN (bT q hx)];exact st.same b u q,st.fsame,λb u q=>by rw[aN (bT q a)];exact st.sub b u q,st.new]
def aMR:dY X [] (tT (C.at X) λ_=>.ok .fz (.bl true)):=λO s σ H Q I h=>by exists Y,F,R,w,h;exact zP O s σ H Q I (w F H (.refl R.sub))
def aMS{cs:List Expr}(d:PTv C X c ga)(a:dY X cs (tT (C.at X) gb)):dY X (c::cs) (tT (C.at X) λY=>eP (ga Y) (gb Y)):=λO s σ H Q I h =>
 aMM d a O s σ H Q I (zJ h)
def zS{K:Fg}{F:Hp}(aE:List Nat)(n:Nat)(R:aR K F0 H0 F H σ Y):aR K F0 H0 F H (c8 aE σ++List.replicate n none) (bZ aE Y++List.replicate n none):=by(have l:∀(i:Nat) (m:Bool) (d:D),(bZ aE Y++List.replicate n none)[i]? = some (some (m,d))->m=false/\∃v,(c8 aE σ++List.replicate n none)[i]? = some (some v)/\aB K F d v:=λi m d e=>by by_cases f:i<aE.length;{rw[aY0 (by simpa[bZ]using f)]at e;rw[aY0 (by simpa[c8]using f)];unfold bZ at e;unfold c8;rw[aY1,a0T f]at e ⊢;simp only[a0R,a00]at e;cases z:Y[aE[i]]? with|none=>rw[z]at e;cases e|some o=>rw[z]at e;cases o with|none=>cases e|some q=>exists b,t,q;cases b with|true=>cases e|false=>cases e;exists v,E,r,_,R.slot _ _ _ z;exact#[rfl,v,by simp[E],r]};rw[aYY (by simpa[bZ]using f),aYZ]at e;split at e <;> cases e);refine#[R.st,λi m d e=>?_,λi j d t a _ E _ _ _=>?_,by simp[c8,bZ]];{exists rfl,v,E,r,l i m d e;exact#[v,E,r,by nofun]};have:=(l i true d E).1;cases this
mutual
def aT:D->Option PyData|.non=>some .none|.bl b=>some (.bool b)|.int i=>some (.int i)|.str x=>some (.str x)|.tup ds=>(cA ds).map .tuple|.lst ds=>(cA ds).map .list|_=>none
def cA:List D->Option (List PyData)|[]=>some []|d::ds=>match aT d,cA ds with|some p,some ps=>some (p::ps)|_,_=>none
end
section
variable{F:Hp}
mutual
theorem pE(I:Inv X O σ H s)(sF:aD F H):∀(d:D) (p:PyData) (v:V) (u:a3H),aB X.K F d v->aG v u->aT d=some p->(∃as,Reads s.heap u p as)/\p.canLay0=true
 |.non,p,v,u,h,r,e=>by simp only[aB]at h;subst h;cases r;simp only[aT]at e;cases e;exact#[#[_,.none],rfl]|.bl b,p,v,u,h,r,e=>by simp only[aB]at h;subst h;cases r;simp only[aT]at e;cases e;exact#[#[_,.bool b],rfl]|.int i,p,v,u,h,r,e=>by simp only[aB]at h;subst h;exists t,rfl,r;simp only[aT]at e;cases e;exact#[#[_,.int i t],rfl]|.str x,p,v,u,h,r,e=>by simp only[aB]at h;exists rfl,_,hk,h;exists t,rfl,r;simp only[aT]at e;cases e;exact#[#[_,.str x t],by simpa only [PyData.canLay0]using hk]|.tup ds,p,v,u,h,r,e=>by simp only[aB]at h;exists a,U,rfl,q,l,h;cases r;simp only[aT]at e;cases ep:cA ds with|none=>rw[ep]at e;cases e|some ps=>rw[ep]at e;cases e;obtain⟨its,f,⟨o,G,E,n,B⟩,_⟩:=I.tuple (aD.seqT sF q);obtain⟨⟨as,m⟩,A⟩:=pF I sF ds ps U its l f ep;exact#[#[_,.tuple G E B (by simpa using m)],by simpa only [PyData.canLay0]using A]
 |.lst ds,p,v,u,h,r,e=>by simp only[aB]at h;exists a,U,rfl,q,l,h;cases r;simp only[aT]at e;cases ep:cA ds with|none=>rw[ep]at e;cases e|some ps=>rw[ep]at e;cases e;obtain⟨its,f,⟨o,n,G,E,_,B⟩,_⟩:=I.list (sF.seq q);obtain⟨⟨as,m⟩,A⟩:=pF I sF ds ps U its l f ep;exact#[#[_,.list G E B (by simpa using m)],by simpa only [PyData.canLay0]using A]
 |.dct _,p,v,u,h,r,e|.ty _,p,v,u,h,r,e|.ob _,p,v,u,h,r,e|.ins _ _,p,v,u,h,r,e|.fn _,p,v,u,h,r,e|.exn _,p,v,u,h,r,e|.set _,p,v,u,h,r,e|.dtn _,p,v,u,h,r,e|.dtf _,p,v,u,h,r,e|.dcf _,p,v,u,h,r,e|.clo _ _ _,p,v,u,h,r,e=>by simp only[aT]at e;cases e
theorem pF(I:Inv X O σ H s)(sF:aD F H):∀(ds:List D) (ps:List PyData) (U:List V) (us:List a3H),aC X.K F ds U->aM U us->cA ds=some ps->(∃as,ReadsAll s.heap us ps as)/\PyData.canLayAll0 ps=true|[],ps,U,us,h,r,e=>by simp only[aC]at h;subst h;cases r;simp only[cA]at e;cases e;exact#[#[_,.nil],rfl]|d::ds,ps,U,us,h,r,e=>by simp only[aC]at h;exists y,ys,rfl,hd,B,h;cases r with|cons A t=>simp only[cA]at e;cases E:aT d with|none=>rw[E]at e;cases e|some p=>cases l:cA ds with|none=>rw[E,l]at e;cases e|some a=>rw[E,l]at e;cases e;obtain⟨⟨as,o⟩,G⟩:=pE I sF d p y _ hd A E;obtain⟨⟨bs,m⟩,f⟩:=pF I sF ds a ys _ B t l;exact#[#[_,.cons o m],by simp only[PyData.canLayAll0,G,f,Bool.and_self]]
end
def zT(I:Inv X O σ H s)(sF:aD F H){m:Md}{d:D}{p:PyData}(h:Rp X.K F H m d v)(r:aG v u)(e:aT d=some p):(∃as,Reads s.heap u p as)/\p.canLay0=true:=by cases m with|fz=>exact pE I sF d p v u h r e|_=>exists a,rfl,n,t,h;cases d with|lst ds=>(exists U,q,l,t;cases r;simp only[aT]at e;cases ep:cA ds with|none=>rw[ep]at e;cases e|some ps=>rw[ep]at e;cases e;obtain⟨its,f,⟨o,n,J,G,_,E⟩,_⟩:=I.list (SqL.of q);obtain⟨⟨as,A⟩,B⟩:=pF I sF ds ps U its l f ep;exact#[#[_,.list J G E (by simpa using A)],by simpa only [PyData.canLay0]using B])|dct ds|ins _ _|set _|dtn _|dtf _|dcf _|clo _ _=>simp only[aT]at e;cases e|_=>exact t.elim
end
def eR(p:PyData):Bool:=decide (p.depth<=50)
noncomputable def eqF(neg:Bool):Md->D->Md->D->Option (Md×D):=λ_ x _ y=>match aT x,aT y with|some p,some q=>if(eR p&&eR q)=true then some (.fz,.bl (if neg then !PyData.eqv p q else PyData.eqv p q))else none|_,_=>none
theorem zU{f:a3H->a3H->Sem a3H}(J:X.A.units+64<cLine)(rule:∀(s:a3I) (a b:a3H) (l D:PyData) (as bs:List Addr) (Q:VSP),Reads s.heap a l as->Reads s.heap b D bs->l.canLay0=true->D.canLay0=true->X.A.units+min l.depth D.depth<cLine->Q (.bool (if neg then !PyData.eqv l D else PyData.eqv l D)) s->wpAny (model X.prog X.w) X.A (f a b) Q X.xe s):OpD C X f (eqF neg):=by refine#[λx y H Q=>∃F m n d e p q,aD F H/\Rp X.K F H m d x/\Rp X.K F H n e y/\aT d=some p/\aT e=some q/\(eR p&&eR q)=true/\Q (.bl (if neg then !PyData.eqv p q else PyData.eqv p q)) H,?_,?_];{intro O s σ H x y v u Q I rx ry h;exists F,m,n,d,e,p,q,sF,hd,t,ep,eq,hs,E,h;obtain⟨⟨as,o⟩,ca⟩:=zT I sF hd rx ep;obtain⟨⟨bs,r⟩,G⟩:=zT I sF t ry eq;rw[aZL]at hs;have L:=a0M hs.1;refine rule s v u p q as bs _ o r ca G (by have:=a0G p.depth q.depth;lia) #[.bl _,H,I,rfl,E]};intro F H m x n y v u k d Q s rx ry e w;unfold eqF at e;split at e;{rename_i p q ep eq;split at e;{rename_i B;cases e;exact#[F,m,n,x,y,p,q,s,rx,ry,ep,eq,B,w _ F H (.refl s) (cI _) (by nofun)]};cases e};cases e
def aMT(f:X.A.units+64<cLine):OpD C X (compareOp .Eq) (eqF false):=zU f λs a b m D as bs Q d r ca l hd q=>SeqAt.compareEq_reads d r ca l hd q
def aMU(f:X.A.units+64<cLine):OpD C X (compareOp .NotEq) (eqF true):=zU f λs a b m D as bs Q d r ca l hd q=>SeqAt.compareNe_reads d r ca l hd q
section
def zV:List D->Option (List Str)|[]=>some []|.str x::r=>(zV r).map (x :: ·)|_=>none
noncomputable def joinD:Md->D->List (Md×D)->Option (Md×D):=λ_ x U=>match x,U with
 |.str z,[(_,.lst ds)]=>(match zV ds with|some ys=>if(ys.map (·.length)).sum+ys.length * z.length<=sizeLine then some (.fz,.str (Txt.join z ys))else none|none=>none)
 |_,_=>none
theorem zW:∀{ys:List Str}{us:List a3H},aM (ys.map V.str) us->StrsAre us ys|[],_,h=>by cases h;exact .nil|y::ys,_,h=>by cases h with|cons r t=>exists tk,rfl,r;exact .cons y tk (zW t)
end
def spV(K:Fg)(mg:SOV)(n:Nat)(Φ:List D->Res):Sp:=λvs H Q E=>vs.length=n/\∃F ds,aD F H/\aC K F ds vs/\match Φ ds with|.ok m d=>m ≠ .bo/\∀v F' H',aJ F H F' H'->Rp K F' H' m d v->(m=.fr->∀a,v=.ref a->H a=none)->Q v H'|.exc c=>∀F' H' u,aJ F H F' H'->mg c=some u->E u none H'|.stuck=>False
structure FnV(P:a3L)(w:a3K)(K:Fg)(mg:SOV)(base:Heap)(CX:CXT)(k:Nat)(x:Str)(n:Nat)(Φ:List D->Res):Prop where
 ex:∃f fd ps,bM P w K mg base CX k f fd ps (spV K mg n Φ)/\mg x=some (.ref f)/\W.keepIn K (.ref f)=true/\cR K fd ps []
noncomputable def aV(n:Nat)(Φ:List D->Res)(r:bC):Res:=r.thn λU=>match c7 U with
 |some ds=>if ds.length=n then(match Φ ds with|.ok .bo _=>.stuck|r=>r)else .stuck
 |none=>.stuck
def XOk(CX:CXT)(C:Cw)(X:Cx):Prop:=∀(O:LAO) (σ:L2.St) (H:Hp) (s:a3I) (e:a3H) (s':a3I),Inv X O σ H s->CX X.stack H s (λu _ H'=>∃c,X.mg c=some u/\C.EE c σ H') e s'->X.xe e s'
section
variable{es:List Expr}
def tU{f:Addr}{Q:VK}{vs:List V}{E:XK}(F:bM X.prog X.w X.K X.mg X.base CX k f fd ps (spV X.K X.mg n Φ))(l:bB k X.A)(o:cR X.K fd ps [])(hx:∀e s',CX X.stack H s E e s'->X.xe e s')(I:Inv X O σ H s)(r:aM vs us)(h:spV X.K X.mg n Φ vs H Q E):wpAny (model X.prog X.w) X.A (call (.ref f) us) (EP X O σ Q) X.xe s:=by(have m:(us++[]).length=ps.length:=by rw[aYR,<- r.length];exact F.len _ _ _ _ h);have a:=o s us I.kIn m;rw[aYR]at a;refine a01 (aZ9 (F.run X.A X.stack s H #[us,[]] us vs Q E l I.env0 a r h) λr s' d=>?_);cases r with|error e=>exact hx e s' d|ok fl=>cases fl with|ret u=>exact I.after d|next|brk|cont=>exact False.elim d
def aMV(F:FnV X.prog X.w X.K X.mg X.base CX k x n Φ)(G:bB k X.A)(hx:XOk CX (C.at X) X)(L:Gl X x)(ha:PAv C X (e::es) gs)(l:(x==("__debug__":Str))=false:=by decide)(N:starEach (e::es) X.env=(false,eval e X.env)::starEach es X.env:=by rfl)(a:(backTo pos (starEach es X.env)).any (·.1)=false:=by rfl):PV C X (.Call (.Name x p) (e::es) [] pos) (λY=>aV n Φ (gs Y)):=by exists f,fd,ps,Z,J,hk,V,F.ex;intro O s σ H Q I h;rw[aU]at h;exists Y,F,R,w,h;refine aY5 (mX I L J ?_ l);refine a02 (h₀:=X.base) I.ok.mod.kin hk (thn (ha pos O s σ H (λvs H1=>spV X.K X.mg n Φ vs H1 Q λu _ H'=>∃c,X.mg c=some u/\C.EE c σ H') I ?_) λus S ⟨vs,H1,o,r,q⟩=>#[o.kIn,tU Z G V (λe s' T=>hx O σ H1 S e s' o T) o r q]) N a;refine#[Y,F,R,?_];cases B:gs Y with|stuck|exc c=>rw[B]at w;exact w|ok U=>rw[B]at w;intro vs F1 H1 S r1;have W:aX (C.at X) F1 H1 σ (aV n Φ (.ok U)) Q:=aX.step S w;unfold aV at W;rw[bC.thn_ok]at W;cases E:c7 U with|none=>rw[E]at W;exact W.elim|some ds=>rw[E]at W;dsimp only at W;split at W;{rename_i hn;have t:=r1.fz E;refine#[by rw[t.length];exact hn,F1,ds,S.sub,t,?_];cases ep:Φ ds with|stuck=>rw[ep]at W;exact W|exc c=>rw[ep]at W;exact λF' H' u st D=>#[c,D,W F' H' st]|ok m d=>rw[ep]at W;cases m with|bo=>exact W.elim|fz|fr=>exact#[by decide,W]};exact W.elim
end
def endR:aH->Res|.nx _=>.ok .fz .non|.rt m d=>.ok m d|.exc c _=>.exc c|_=>.stuck
def eT(n:Nat)(ds:List D):Rho:=ds.map (λd=>some (false,d))++List.replicate (n-ds.length) none
def zX{K:Fg}{F:Hp}{N:List Str}{vs:List V}(s:aD F H)(r:aC K F ds vs):aR K F H F H (start N vs) (eT N.length ds):=by(have l:∀(i:Nat) (m:Bool) (d:D),(eT N.length ds)[i]? = some (some (m,d))->m=false/\∃v,(start N vs)[i]? = some (some v)/\aB K F d v:=λi m d e=>by unfold eT at e;unfold L2.start;by_cases f:i<ds.length;{rw[aY0 (by simpa using f),aY1,a0T f]at e;cases e;exists v,ev,o,r.get' (a0T f);exact#[rfl,v,by rw[aY0 (by simpa[r.length]using f),aY1,ev];rfl,o]};rw[aYY (by simpa using f),aYZ]at e;split at e <;> cases e);refine#[.refl s,λi m d e=>?_,λi j d t a _ E _ _ _=>?_,by simp[L2.start,eT,r.length]];{exists rfl,v,E,o,l i m d e;exact#[v,E,o,by nofun]};have:=(l i true d E).1;cases this
def pG(ns:List Int):List D:=[.lst (ns.map .int)]
theorem zY{K:Fg}{F:Hp}:∀ns:List Int,aC K F (ns.map D.int) (ns.map V.int)|[]=>aC.nil|n::ns=>aC.cons (by simp only[aB]) (zY ns)
def noK:Md->D->Md->D->Option (Md×D):=λ_ _ _ _=>none
abbrev fAdd:Md->D->Md->D->Option (Md×D):=orO (fI (λ_ _=>true) λi j=>.int (i+j)) (fS (λi j=>decide (i.length+j.length<=sizeLine)) λi j=>.str (i++j))
abbrev fSub:Md->D->Md->D->Option (Md×D):=fI (λ_ _=>true) λi j=>.int (i-j)
abbrev fMul:Md->D->Md->D->Option (Md×D):=orO (fI (λi j=>(bits i&&bits j)||(w64 i||w64 j)) λi j=>.int (i * j)) noK
abbrev fMod:Md->D->Md->D->Option (Md×D):=fI (λ_ j=>decide (0<j)) λi j=>.int (i % j)
abbrev fDiv:Md->D->Md->D->Option (Md×D):=fI (λ_ j=>decide (0<j)&&bits j) λi j=>.int (i / j)
abbrev fPow:Md->D->Md->D->Option (Md×D):=fI (λi j=>decide (0<=j)&&decide (j<=1000000)&&decide (i.natAbs<2 ^ 64)) λi j=>.int (i ^ j.toNat)
abbrev fLt:Md->D->Md->D->Option (Md×D):=fI (λ_ _=>true) λi j=>.bl (decide (i<j))
abbrev fLe:Md->D->Md->D->Option (Md×D):=fI (λ_ _=>true) λi j=>.bl (decide (i<=j))
abbrev fGt:Md->D->Md->D->Option (Md×D):=fI (λ_ _=>true) λi j=>.bl (decide (j<i))
abbrev fGe:Md->D->Md->D->Option (Md×D):=fI (λ_ _=>true) λi j=>.bl (decide (j<=i))
abbrev fEq:Md->D->Md->D->Option (Md×D):=orO (eqF false) noK
abbrev fNe:Md->D->Md->D->Option (Md×D):=orO (eqF true) noK
abbrev fIn:Md->D->Md->D->Option (Md×D):=fS (λ_ _=>true) λi j=>.bl (lH i j)
abbrev aMW:Md->D->Md->D->Option (Md×D):=fS (λ_ _=>true) λi j=>.bl (!lH i j)
def IsB(a:Md->D->Md->D->Option (Md×D)):Prop:=∀m x n y k d,a m x n y=some (k,d)->∃t,k=.fz/\d=.bl t
def pH{c:Int->Int->Bool}{g:Int->Int->Bool}:IsB (fI c λi j=>.bl (g i j)):=λm x n y k d e=>by unfold fI at e;split at e;{split at e;{cases e;exact#[_,rfl,rfl]};cases e};cases e
def zZ{c:Str->Str->Bool}{g:Str->Str->Bool}:IsB (fS c λi j=>.bl (g i j)):=λm x n y k d e=>by unfold fS at e;split at e;{split at e;{cases e;exact#[_,rfl,rfl]};cases e};cases e
def nN{φ ψ}(h:IsB φ)(h':IsB ψ):IsB (orO φ ψ):=λm x n y k d e=>by unfold orO at e;cases E:φ m x n y with|none=>rw[E]at e;exact h' _ _ _ _ _ _ e|some p=>rw[E]at e;cases e;exact h _ _ _ _ _ _ E
def aAA:IsB (eqF neg):=λm x n y k d e=>by unfold eqF at e;split at e;{split at e;{cases e;exact#[_,rfl,rfl]};cases e};cases e
def nO{f:a3H->a3H->Sem a3H}:OpD C X f noK:=#[λ_ _ _ _=>False,λ_ _ _ _ _ _ _ _ _ _ _ _ h=>h.elim,λ_ _ _ _ _ _ _ _ _ _ _ _ _ _ e _=>by cases e]
def o_add:OpD C X (binaryOp .Add) fAdd:=aK9.or aLM
def o_mul:OpD C X (binaryOp .Mult) fMul:=aLC.or nO
def o_eq(a:X.A.units+64<cLine):OpD C X (compareOp .Eq) fEq:=(aMT a).or nO
def o_ne(a:X.A.units+64<cLine):OpD C X (compareOp .NotEq) fNe:=(aMU a).or nO
def phi(n N:Nat)(g:Rho->aH):List D->Res:=λds=>if ds.length=n then endR (g (eT N ds))else .stuck
def lL(scope sc:Scope):List (Str×NameKind):=scope.names.map λ(n,k)=>if(k == .free&&sc.kind == .function&&sc.names.lookup n==some .cell)then(n,.cell)else(n,k)
def aMX:bootBuiltins "len"=some (.builtin "len"):=by decide +kernel
def aMY:bootBuiltins "isinstance"=some (.builtin "isinstance"):=by decide +kernel
def aMZ:bootBuiltins "int"=some (.type "int"):=by decide +kernel
def aM0:bootBuiltins "bool"=some (.type "bool"):=by decide +kernel
def aM1:bootBuiltins "str"=some (.type "str"):=by decide +kernel
def aM2:bootBuiltins "tuple"=some (.type "tuple"):=by decide +kernel
def aM3:bootBuiltins "list"=some (.type "list"):=by decide +kernel
def aM4:bootBuiltins "dict"=some (.type "dict"):=by decide +kernel
structure CI where
 name:Str
 ups:List Str
 flds:List Str
 meths:List (Str×Str×Nat)
def bI:Expr->Bool|.Starred ..=>false|_=>true
end D3
variable{cl:List D3.CI}
namespace D3
def lM:Expr->Bool|.Call (.Name x _) [] [] _=>x != "super" |_=>true
def bQ{x:Expr}{es:List Expr}(h:bI x=true):starEach (x::es) env=(false,eval x env)::starEach es env:=by cases x <;> first|rfl|cases h
theorem i6(pos:Pos)(env:Env):∀{es:List Expr},(∀x∈es,bI x=true)->(backTo pos (starEach es env)).any (·.1)=false|[],_=>rfl|x::es,h=>by rw[bQ (h x mcs)];show((false||(backTo pos (starEach es env)).any (·.1))=false);rw[i6 pos env λy a=>h y (mcm a)];rfl
theorem j6(pos:Pos)(env:Env):∀{es:List Expr},(∀x∈es,bI x=true)->(backTo pos (starEach es env)).all (λx=>!x.1)=true|[],_=>rfl|x::es,h=>by rw[bQ (h x mcs)];show((true&&(backTo pos (starEach es env)).all (λx=>!x.1))=true);rw[j6 pos env λy a=>h y (mcm a)];rfl
def lN{o:Expr}{n:Str}{w:Sem a3H}(h:lM o=true):attributeBase o n env w=w:=by
 cases o with
 |Call f as ks pos=>cases f with|Name x p=>(cases as with|nil=>(cases ks with|nil=>show(if x != "super" || n == "__class__" || env.kindOf "super" != some .globalImplicit||env.kindOf "__class__" != some .free then w else _)=w;have:(x != ("super":Str))=true:=h;rw[al (by rw[this];rfl)]|cons _ _=>rfl)|cons _ _=>rfl)|_=>rfl
 |_=>rfl
theorem aM5 {o : Expr} {m : Str} {apos pos : Pos} {args : List Expr} {env : Env} (t : lM o = true) (l : ∀ x ∈ args, bI x = true) (hn : args.length < 30) (r : apos.endLine = pos.line) :
    eval (.Call (.Attribute o m apos) args [] pos) env=(do
     let d <- eval o env
     standAt apos.atName
     let(f,first) <- holding [d] (getMethod d m (do return (<- importBound o env).getD true))
     callWith pos f first (backTo pos (starEach args env)) (backToKw pos (keywordEach [] env))):=by
 have few:methodCallForm (args.length+([]:List Keyword).length) (backTo pos (starEach args env)) (backToKw pos (keywordEach [] env))=true:=by unfold methodCallForm;rw[j6 pos env l];show(true&&true&&decide (args.length+0+0<30))=true;rw[aZ8 (by lia)];rfl
 show(do
  let d <- attributeBase o m env (eval o env)
  standAt apos.atName
  methodCall o m apos pos env d (args.length+([]:List Keyword).length) (backTo pos (starEach args env)) (backToKw pos (keywordEach [] env)))=_
 rw[lN t];unfold methodCall;rw[few];have hp:methodCallPos true o env apos pos=pure pos:=by unfold methodCallPos;rw[al (by rw[r];simp)]
 rw[hp];show(do
  let d <- eval o env
  standAt apos.atName
  let(f,first) <- holding [d] (getMethod d m (do return (<- importBound o env).getD true))
  let a <- pure pos
  callWith a f first (backTo pos (starEach args env)) (backToKw pos (keywordEach [] env)))=_
 simp only[a0X]
structure MtV(P:a3L)(w:a3K)(K:Fg)(mg:SOV)(base:Heap)(CX:CXT)(k:Nat)(c m:Str)(n:Nat)(Φ:List D->Res):Prop where
 ex:∃C f fd ps,W.nsIn K mainGlobals c=some (some (.ref C))/\Cls K C/\m7 K C m f/\bM P w K mg base CX k f fd ps (spV K mg n Φ)/\cR K fd ps []
structure FlV(K:Fg)(c f:Str):Prop where
 ex:∃C,W.nsIn K mainGlobals c=some (some (.ref C))/\Cls K C/\sZ K C f
def CI.meth(cl:List CI)(c m:Str):Option (Str×Nat):=match cl.find? (λi=>i.name==c)with|some i=>i.meths.lookup m|none=>none
def fD(cl:List CI)(Φ:Str->List D->Res)(m:Str)(o:Res)(as:bC):Res:=o.thn λa d=>match a,d with
 |.fz,.ins c fs=>(match CI.meth cl c m with|some (key,n)=>if fs.lookup m=none then aV n (Φ key) (aQ (.ok .fz (.ins c fs)) as)else .stuck|none=>.stuck)
 |_,_=>.stuck
section
variable{o:Expr}{es:List Expr}{go:Rho->Res}{m:Str}{Φ:Str->List D->Res}
def aM6(hM:∀c m key n,CI.meth cl c m=some (key,n)->MtV X.prog X.w X.K X.mg X.base CX k c m n (Φ key))(hr:bB k X.A)(hx:XOk CX (C.at X) X)(ho:PV C X o go)(ha:PAv C X es gs)(hb:lM o=true)(J:∀x∈es,bI x=true)(hn:es.length<30)(hl:apos.endLine=pos.line)(aj:es=[]->gs=λ_=>.ok []):PV C X (.Call (.Attribute o m apos) es [] pos) (λY=>fD cl Φ m (go Y) (gs Y)):=by
 intro O s σ H Q I q;rw[aU]at q;exists Y,F,R,w,q;refine aJN (pl:=(do return (<- importBound o X.env).getD true)) ho I ?_ (aM5 hb J hn hl)
 show tG (C.at X) go σ H _;rw[aU];refine#[Y,F,R,?_];cases er:go Y with
 |stuck|exc c=>rw[er]at w;exact w|ok md d =>
  rw[er]at w;intro v F1 H1 s1 r1 _;have l:aX (C.at X) F1 H1 σ (fD cl Φ m (.ok md d) (gs Y)) Q:=aX.step s1 w;unfold fD at l;rw[Res.thn_ok]at l;cases md with
  |fr|bo=>exact l.elim|fz =>
  cases d with
  |ins c fs =>
   dsimp only at l;cases em:CI.meth cl c m with
   |none=>rw[em]at l;exact l.elim|some kn =>
    exists key,n,kn;rw[em]at l;dsimp only at l;split at l
    . rename_i ai;exists C',f',fd,ps,n1,aq,me,FO,ak,(hM c m key n em).ex;have ag:=r1;exists a,C2,dx,am,ev,n2,ea,rf,r1.ins s1.sub;rw[n1]at n2;cases n2;subst ev;refine#[a,C',dx,am,f',rfl,ea,aq,me,rf.lookN ai,λN I1=>?_];have aa:∀(vs:List V) (us:List a3H) (S:a3I) (B t:Hp) (U:List (Md×D)),aJ F1 H1 B t->RpL X.K B t U vs->Inv X O σ t S->aM vs us->gs Y=.ok U->wpAny (model X.prog X.w) X.A (call (.ref f') (.ref a::us)) (EP X O σ Q) X.xe S:=by
        intro vs us S B t U G Z I2 rv L;rw[L]at l;have f:aX (C.at X) B t σ (aV n (Φ key) (aQ (.ok .fz (.ins c fs)) (.ok U))) Q:=aX.step G l;rw[aLZ]at f;unfold aV at f;rw[bC.thn_ok]at f;have af:RpL X.K B t ((.fz,.ins c fs)::U) (.ref a::vs):=#[_,_,rfl,ag.step G,Z];cases ef:c7 ((.fz,.ins c fs)::U)with|none=>rw[ef]at f;exact f.elim|some ds=>rw[ef]at f;dsimp only at f;split at f;{rename_i ah;have T:=af.fz ef;refine tU (E:=λu _ H'=>∃c,X.mg c=some u/\C.EE c σ H') (vs:=.ref a::vs) (us:=.ref a::us) FO hr ak (λe s' hc=>hx O σ t S e s' I2 hc) I2 (.cons rfl rv) #[by rw[T.length];exact ah,B,ds,G.sub,T,?_];cases ep:Φ key ds with|stuck=>rw[ep]at f;exact f|exc c=>rw[ep]at f;exact λF' H' u st hu=>#[c,hu,f F' H' st]|ok m d=>rw[ep]at f;cases m with|bo=>exact f.elim|fz|fr=>exact#[by decide,f]};exact f.elim
      cases es with|nil=>(refine W.callWith_K0 (first:=[.ref a]) I1.kIn me.kp ?_;(have L:gs Y=.ok []:=by rw[aj rfl]);exact aa [] [] N F1 H1 [] (.refl s1.sub) rfl I1 .nil L)|cons e es=>refine a02 (first:=[.ref a]) (h₀:=X.base) I.ok.mod.kin me.kp (thn (ha pos O N σ H1 (λvs t=>∃B U,aJ F1 H1 B t/\RpL X.K B t U vs/\gs Y=.ok U) I1 ?_) λus S ⟨vs,t,I2,r,B,U,ae,Z,L⟩=>#[I2.kIn,?_]) (bQ (J e mcs)) (i6 _ _ λy hy=>J y (mcm hy));{refine#[Y,F1,R.step s1,?_];cases L:gs Y with|stuck|exc c=>rw[L]at l;exact l|ok U=>exact λvs B t S Z=>#[B,U,S,Z,rfl]};exact aa vs us S B t U ae Z I2 r L
    . exact l.elim
  |_=>exact l.elim
end
def aR.mut{K:Fg}{F:Hp}{d d':D}{a:Addr}{o:HO}(R:aR K F0 H0 F H σ Y)(e:Y[i]? = some (some (true,d)))(ev:σ[i]? = some (some (.ref a)))(t:Top K F (upd H a o) a d'):aR K F0 H0 F (upd H a o) σ (Y.set i (some (true,d'))):=by
 exists v,J,rp,hn,R.slot i true d e;rw[ev]at J;cases J;have h0:H0 a=none:=hn rfl a rfl;exists a',ea,hf,tt,rp;cases ea;have hl:i<Y.length:=(aXY.mp e).1;have st:aJ F0 H0 F (upd H a o):=#[λb u q=>by rw[aN (bT q h0)];exact R.st.same b u q,R.st.fsame,λb u q=>by rw[aN (bT q hf)];exact R.st.sub b u q,R.st.new]
 refine#[st,λj m A E=>?_,λj l d1 A b L e1 E q1 q2=>?_,by rw[aZP];exact R.len]
 . by_cases N:j=i;{subst N;rw[aX0 hl]at E;cases E;exact#[.ref a,ev,#[a,rfl,hf,t],λ_ b T=>by cases T;exact h0]};rw[aX1 (λz=>N z.symm)]at E;exists u,Z,W,hu,R.slot j m A E;refine#[u,Z,?_,hu];cases m with|false=>exact W|true=>(exists b,T,hb,tb,W;subst T;have f:b≠a:=λz=>by subst z;exact R.apart j i A d b N E e Z ev);refine#[b,rfl,hb,?_];cases A with|lst ds|dct ds=>exists U,q,r,tb;exact#[U,by rw[aN f];exact q,r]|ins c fs=>exists C,dx,gs,n,q,r,tb;exact#[C,dx,gs,n,by rw[aN f];exact q,r]|set ks=>exists S,q,r,tb;exact#[S,by rw[aN f];exact q,r]|dtn ds=>exists U,q,r,tb;exact#[U,by rw[aN f];exact q,r]|_=>exact tb.elim
 . have B:∀(l:Nat) (A:D),(Y.set i (some (true,d')))[l]? = some (some (true,A))->∃V,Y[l]? = some (some (true,V)):=λl A q=>by
     by_cases G:l=i
     . subst G;exact#[d,e]
     . rw[aX1 (λz=>G z.symm)]at q;exact#[A,q]
   exists V,q3,B j d1 e1;exists d4,q4,B l A E;exact R.apart j l V d4 b L q3 q4 q1 q2
def putFD(f:Str)(v:D):List (Str×D)->List (Str×D)|[]=>[(f,v)]|(g,u)::r=>if g=f then(g,v)::r else(g,u)::putFD f v r
structure tV(K:Fg)(mg:SOV)(c:Str):Prop where
 ex:∃C,W.nsIn K mainGlobals c=some (some (.ref C))/\mg c=some (.ref C)/\W.makesIn K C=true/\W.findIn K (.ref C) "__init__"=some (some (.builtin "object.__init__"))/\W.keepIn K (.ref C)=true
def aM7{C:Addr}(m:X.mg x=some (.ref C))(l:W.makesIn X.K C=true)(D:W.findIn X.K (.ref C) "__init__"=some (some (.builtin "object.__init__")))(B:W.keepIn X.K (.ref C)=true)(A:Gl X x)(f:(x==("__debug__":Str))=false):PE X (.Call (.Name x p) [] [] pos) (λσ H Q=>∀a dx,H a=none->H dx=none->dx≠a->Q (.ref a) (upd (upd H dx (.own a)) a (.ins C dx []))):=by(intro O s σ H Q I h;refine aY5 (mX I A m ?_ f);refine W.callWith_K0 I.kIn B (a01 (aJK I.kIn l D (λself=>W.Looks.of_pure (W.oi_bind self)) ?_));have E:=Inv.made (C:=C) I;have d:=W.makes_of (M:=model X.prog X.w) I.kIn l;have r:((s.heap.push W.emptyDict).push (W.instObj C s.heap.objs.size)).get? (s.heap.objs.size+1)=some (W.instObj C s.heap.objs.size):=by have:=aXK (s.heap.push W.emptyDict) (o:=W.instObj C s.heap.objs.size) rfl;rwa [aYL]at this);have t:W.Looks (model X.prog X.w) ((s.heap.push W.emptyDict).push (W.instObj C s.heap.objs.size)) (typeOf (.ref (s.heap.objs.size+1))) (.ref C):=(W.Looks.ld r).andThen .now;have t2:W.Looks (model X.prog X.w) ((s.heap.push W.emptyDict).push (W.instObj C s.heap.objs.size)) (isInstance (.ref (s.heap.objs.size+1)) (.type "object")) true:=t.andThen (d.top.keeps λb o e=>hps (hps e));refine codeAny_call_builtin W.oi_plain W.entry_oi (@W.check_slot (model X.prog X.w) _ _ _ "object.__init__" "object" "__init__" (.ref (s.heap.objs.size+1)) [] [] _ W.oi_kind W.oi_split t2 (W.oi_args (.ref (s.heap.objs.size+1))) ?_);rw[W.oi_run];refine aYA (And.intro rfl ⟨.ref (s.heap.objs.size+1),_,E,rfl,?_⟩);exact h (s.heap.objs.size+1) s.heap.objs.size (I.hok.fresh (a03 _)) (I.hok.fresh (aYC _)) (aXO (aYN _))
def aM8{F:Hp}{a C:Addr}(s:aD F H)(ha:H a=none)(hd:H dx=none)(d:dx≠a):aJ F H F (upd (upd H dx (.own a)) a (.ins C dx [])):=by have S:=aJ.fresh (.own a) s hd;refine S.trans (aJ.fresh _ S.sub ?_);rw[aN (λz=>d z.symm)];exact ha
def aM9{c:Str}(M:tV X.K X.mg c)(l:Gl X c)(d:(c==("__debug__":Str))=false):PV C X (.Call (.Name c p) [] [] pos) (λ_=>.ok .fr (.ins c [])):=by(exists t,n,f,r,o,m,M.ex;refine PE.imp (aM7 f r o m l d) λσ H Q q=>?_;rw[aU]at q;exists Y,F,R,w,q;intro a dx ha hd hne;refine w (.ref a) F _ (aM8 R.sub ha hd hne) #[a,rfl,R.sub.free ha,t,dx,[],n,aY,?_] λ_ b E=>by cases E;exact ha);simp only[dM]
def spI(K:Fg)(mg:SOV)(c:Str)(n:Nat)(Φ:List D->Res):Sp:=λvs H Q E=>∃x us dx C H1 F ds,vs=.ref x::us/\us.length=n/\W.nsIn K mainGlobals c=some (some (.ref C)) /\
 H=upd (upd H1 dx (.own x)) x (.ins C dx [])/\H1 x=none/\H1 dx=none/\dx≠x/\aD F H1/\aC K F ds us/\match Φ ds with|.ok _ d=>∀F' H',aJ F H1 F' H'->Rp K F' H' .fr d (.ref x)->Q .non H'|.exc c=>∀F' H' u,aJ F H1 F' H'->mg c=some u->E u none H'|.stuck=>False
structure InV(P:a3L)(w:a3K)(K:Fg)(mg:SOV)(base:Heap)(CX:CXT)(k:Nat)(c:Str)(n:Nat)(Φ:List D->Res):Prop where
 ex:∃C f fd ps,W.nsIn K mainGlobals c=some (some (.ref C))/\mg c=some (.ref C)/\Mk K C f/\bM P w K mg base CX k f fd ps (spI K mg c n Φ)/\cR K fd ps []
structure IsV(K:Fg)(mg:SOV)(cl:List CI)(c:Str):Prop where
 ex:∃C,mg c=some (.ref C)/\(∀t∈["NoneType","bool","int","str","tuple","list","dict"],W.kitOne K (.type t) (.ref C)=some false) /\
  ∀i∈cl,∃C',W.nsIn K mainGlobals i.name=some (some (.ref C'))/\Cls K C'/\W.findIn K (.ref C') "__class__"=some (some (.builtin "object.__class__")) /\
   W.specialIn K (.builtin "object.__class__") "__get__"=some (some (.builtin "getset_descriptor.__get__"))/\W.takesIn K (.builtin "object.__class__")=some true/\W.mroIn K C' (.type "object")=some true /\
   W.kitOne K (.ref C') (.ref C)=some (i.ups.contains c)
section
variable{a b:Expr}
def gO:D->Bool|.non=>true|_=>false
def aAB{K:Fg}{F:Hp}{m:Md}{d:D}(s:aD F H)(r:Rp K F H m d v):decide (v=.non)=gO d:=by
 cases d with
 |non=>cases r.non;rfl|bl _=>cases r.bl;rfl|int _=>cases r.int;rfl|str _=>cases r.str.1;rfl|tup _=>exists _,_,rfl,_,r.seqT s;rfl|lst _=>exists _,_,rfl,_,r.seqL s;rfl|dct _=>exists _,_,rfl,_,r.dict s;rfl|ty _=>cases r.ty;rfl|ob _=>cases r.ob;rfl|ins _ _=>exists _,_,_,_,rfl,_,r.ins s;rfl|fn _=>cases m with|fz=>have r:aB K F _ v:=r;simp only[aB]at r;exists _,rfl,_,r;rfl|fr|bo=>exists _,_,_,q,r;exact q.elim
 |exn _=>cases m with|fz=>have r:aB K F _ v:=r;simp only[aB]at r;exists _,_,rfl,_,r;rfl|fr|bo=>exists _,_,_,q,r;exact q.elim
 |set _|dtn _=>cases m with|fz=>have r:aB K F _ v:=r;simp only[aB]at r;exists _,_,rfl,_,r;rfl|fr|bo=>exists _,rfl,_,_,r;rfl
 |dtf _|dcf _=>cases m with|fz=>have r:aB K F _ v:=r;simp only[aB]at r;exists _,_,_,rfl,_,r;rfl|fr|bo=>exists _,rfl,_,_,r;rfl
 |clo _ _=>cases m with|fz=>have r:aB K F _ v:=r;simp only[aB]at r;exists _,_,_,_,_,_,_,_,_,_,rfl,_,r;rfl|fr|bo=>exists _,rfl,_,_,r;rfl
noncomputable def fIs(neg:Bool):Md->D->Md->D->Option (Md×D):=λ_ x _ y=>match y with|.non=>some (.fz,.bl (if neg then !gO x else gO x))|_=>none
def aNA:OpD C X (compareOp .Is) (fIs false):=by refine#[_,aI8,λF H m x n y v u k d Q s f r e w=>?_];unfold fIs at e;split at e;{cases e;cases r.non;exact#[rfl,by rw[aAB s f];exact w _ F H (.refl s) (cI _) (by nofun)]};cases e
def aNB:OpD C X (compareOp .IsNot) (fIs true):=by refine#[_,aI9,λF H m x n y v u k d Q s f r e w=>?_];unfold fIs at e;split at e;{cases e;cases r.non;exact#[rfl,by rw[aAB s f];exact w _ F H (.refl s) (cI _) (by nofun)]};cases e
def aAC:IsB (fIs neg):=λm x n y k d e=>by unfold fIs at e;split at e;{cases e;exact#[_,rfl,rfl]};cases e
theorem aNC:OpR X (binaryOp .Add) (λx y H Q=>∃l b U ys,x=.ref l/\y=.ref b/\SqL X.K H l U/\SqL X.K H b ys/\U.length+ys.length<=sizeLine/\∀p,H p=none->Q (.ref p) (upd H p (.lst (U++ys)))):=by(intro O s σ H x y v u Q I rx ry h;exists l,b,U,ys,rfl,rfl,N,V,L,q,h;cases rx;cases ry;exists its,A,p1,_,I.list N;exists d,t,p2,_,I.list V;obtain⟨⟨cls,W,data,J⟩,n,ho,E,T,hd⟩:=p1;obtain⟨⟨G,D,data2,S⟩,n2,f,r,B,m⟩:=p2;simp only at E hd r m;subst E hd r m;have e:its.toArray++d.toArray=(its++d).toArray:=by simp);have l1:=A.length;have Z:=t.length;refine aY6 #[_,ho,rfl] #[_,f,rfl] noFill_list_add seq_list_add PySem.F.slot_list_add PySem.F.entry_list_add (PySem.F.args_list_add_2 _ _) (list_addW l b its.toArray d.toArray n n2 W D J S (by simp;lia)) #[ho,f,?_];rw[e];refine#[.ref s.heap.objs.size,_,I.laid (t':=s.toks) (o:=.lst (U++ys)) (λb ob q=>hps q) (aYC _) ?_,rfl,q _ (I.hok.fresh (aYC _))];exact#[by rw[aY3];exact L,_,0,A.append t,aXK _ rfl]
theorem aND:OpR X (binaryOp .Add) (λx y H Q=>∃l b U ys,x=.ref l/\y=.ref b/\SqT X.K H l U/\SqT X.K H b ys/\U.length+ys.length<=sizeLine/\(U=[]->Q (.ref b) H)/\(U≠[]->ys=[]->Q (.ref l) H)/\(U≠[]->ys≠[]->∀p,H p=none->Q (.ref p) (upd H p (.tup (U++ys))))):=by
 intro O s σ H x y v u Q I rx ry h;exists l,b,U,ys,rfl,rfl,V,W,T,L,q1,J,h;cases rx;cases ry;exists its,B,p1,_,I.tuple V;exists d,A,p2,_,I.tuple W;have n1:=B.nil_iff;have n2:=A.nil_iff;have l1:=B.length;have l2:=A.length;by_cases f:its=[]
 . obtain⟨⟨cls,Z,data,G⟩,ho,E,n,hd⟩:=id p1;obtain⟨⟨F,D,data2,S⟩,m,t,N,r⟩:=id p2;simp only at E hd t r;subst E hd t r;exact aY6 #[_,ho,rfl] #[_,m,rfl] aY7 seq_tuple_add aY8 aY9 (aZA _ _)
     (tuple_addW0 l b its.toArray d.toArray n N Z D G S (by simp[f])) #[ho,m,#[.ref b,H,I,rfl,L (n1.mp f)]]
 . refine HT.aJT p1 p2 f (λz=>#[.ref l,H,I,rfl,q1 (λw=>f (n1.mpr w)) (n2.mp z)]) (λz=>?_) (by lia);refine#[.ref s.heap.objs.size,_,I.laid (t':=s.toks) (o:=.tup (U++ys)) (λb ob q=>hps q) (aYC _) ?_,rfl,J (λw=>f (n1.mpr w)) (λw=>z (n2.mpr w)) _ (I.hok.fresh (aYC _))];exact#[by rw[aY3];exact T,_,B.append A,gR.new _ _]
noncomputable def pI:Md->D->Md->D->Option (Md×D):=λm x n y=>match x,y with|.lst U,.lst ys=>if U.length+ys.length<=sizeLine then some (.fr,.lst (U++ys))else none|.tup U,.tup ys=>if U.length+ys.length<=sizeLine then some (.fz,.tup (U++ys))else none|_,_=>none
def aC.nilIff{K:Fg}{F:Hp}(h:aC K F ds U):U=[]↔ds=[]:=by have:=h.length;constructor;{intro e;subst e;cases ds with|nil=>rfl|cons _ _=>simp at this};intro e;subst e;cases U with|nil=>rfl|cons _ _=>simp at this
def aNE:OpD C X (binaryOp .Add) pI:=by
 refine#[_,aNC.or aND,λF H m x n y v u k d Q s o l e w=>?_];unfold pI at e;split at e
 . rename_i U ys;split at e;{rename_i A;cases e;exists a,us,rfl,q1,f,o.seqL s;exists b,vs,rfl,t,r,l.seqL s;refine .inl #[a,b,us,vs,rfl,rfl,q1,t,by rw[f.length,r.length];exact A,λp hp=>?_];exact w (.ref p) F _ (aJ.fresh _ s hp) #[p,rfl,s.free hp,_,aY,f.append r] λ_ a ea=>by cases ea;exact hp};cases e
 . rename_i U ys;split at e
   . rename_i A;cases e;have ex:=o;have E:=l;exists a,us,rfl,q1,f,o.seqT s;exists b,vs,rfl,t,r,l.seqT s;have fz:∀{m:Md}{zs:List D}{c:Addr},Rp X.K F H m (.tup zs) (.ref c)->aB X.K F (.tup zs) (.ref c):=λ{m zs c} h=>by
       cases m with|fz=>exact h|fr|bo=>exists _,_,_,q,h;exact q.elim
     refine .inr #[a,b,us,vs,rfl,rfl,q1,t,by rw[f.length,r.length];exact A,λz=>?_,λ_ z=>?_,λ_ _ p hp=>?_]
     . have:U=[]:=f.nilIff.mp z;subst this;exact w (.ref b) F H (.refl s) (fz E) (by nofun)
     . have:ys=[]:=r.nilIff.mp z;subst this;rw[aYR]at w;exact w (.ref a) F H (.refl s) (fz ex) (by nofun)
     . exact w (.ref p) _ _ (aJ.laid (.tup (us++vs)) s hp) (aB.tup_of (s.free hp) (f.append r)) (by nofun)
   . cases e
 . cases e
def bY:D->Bool|.non|.bl _|.int _|.str _=>true|_=>false
noncomputable def eqD:D->D->Bool|.non,.non=>true|.bl a,.bl b=>a==b|.bl a,.int b=>(if a then 1 else 0)==b|.int a,.bl b=>a==(if b then 1 else 0)|.int a,.int b|.str a,.str b=>a==b|_,_=>false
noncomputable def lO(neg:Bool):Md->D->Md->D->Option (Md×D):=λ_ x _ y=>match y with|.lst ys|.tup ys=>if(bY x&&ys.all bY)=true then some (.fz,.bl (if neg then !(ys.any λy=>eqD y x)else(ys.any λy=>eqD y x)))else none|_=>none
def vOf:D->V|.non=>.non|.bl b=>.bl b|.int i=>.int i|.str x=>.str x|_=>.non
def pJ{K:Fg}{F:Hp}{m:Md}{d:D}(h:bY d=true)(r:Rp K F H m d v):v=vOf d:=by cases d with|non=>exact r.non|bl _=>exact r.bl|int _=>exact r.int|str _=>exact r.str.1|_=>cases h
theorem pK{K:Fg}{F:Hp}:∀{ds:List D}{U:List V},ds.all bY=true->aC K F ds U->U=ds.map vOf|[],_,_,r=>by simp only[aC]at r;exact r|d::ds,_,h,r=>by simp only[aC]at r;exists y,ys,rfl,l,f,r;rw[aZR,aZL]at h;rw[aZZ,pJ (H:=F) (m:=.fz) h.1 l,pK h.2 f]
def pL{d:D}(h:bY d=true):fB (vOf d)=true:=by cases d <;> first|rfl|cases h
def aAD{x:D}(hx:bY x=true)(d:bY y=true):eqV (vOf x) (vOf y)=eqD x y:=by cases x <;> cases y <;> first|rfl|(cases hx;done)|(cases d;done)
theorem tW{x:D}(hx:bY x=true):∀{ds:List D},ds.all bY=true->inV (vOf x) (ds.map vOf)=ds.any λy=>eqD y x|[],_=>rfl|d::ds,h=>by rw[aZR,aZL]at h;show(eqV (vOf d) (vOf x)||inV (vOf x) (ds.map vOf))=(eqD d x||ds.any _);rw[aAD h.1 hx,tW hx h.2]
theorem pM:∀{ds:List D},ds.all bY=true->(ds.map vOf).all fB=true|[],_=>rfl|d::ds,h=>by rw[aZR,aZL]at h;rw[aZZ,aZR,pL h.1,pM h.2];rfl
def aAE{f:a3H->a3H->Sem a3H}(o:OpR X f (rIn X.K neg)):OpD C X f (lO neg):=by refine#[_,o,λF H m x n y v u k d Q s A t e w=>?_];unfold lO at e;split at e;{rename_i ys;split at e;{rename_i hf;rw[aZL]at hf;cases e;exists b,vs,rfl,l,r,t.seqL s;have ev:=pJ hf.1 A;have es:=pK hf.2 r;subst ev;subst es;exact#[b,_,rfl,.inl l,pL hf.1,pM hf.2,by rw[tW hf.1 hf.2];exact w _ F H (.refl s) (cI _) (by nofun)]};cases e};{rename_i ys;split at e;{rename_i hf;rw[aZL]at hf;cases e;exists b,vs,rfl,l,r,t.seqT s;have ev:=pJ hf.1 A;have es:=pK hf.2 r;subst ev;subst es;exact#[b,_,rfl,.inr l,pL hf.1,pM hf.2,by rw[tW hf.1 hf.2];exact w _ F H (.refl s) (cI _) (by nofun)]};cases e};cases e
def aAF:IsB (lO neg):=λm x n y k d e=>by unfold lO at e;split at e;{split at e;{cases e;exact#[_,rfl,rfl]};cases e};{split at e;{cases e;exact#[_,rfl,rfl]};cases e};cases e
def j7:List (Md×D)->Option (Md×D)|[(_,.lst ds)]|[(.fz,.tup ds)]=>some (.fz,.tup ds)|_=>none
def lP:List (Md×D)->Option (Md×D)|[(_,.lst ds)]|[(_,.tup ds)]=>some (.fr,.lst ds)|_=>none
def small(i:Int):Bool:=decide (i.natAbs.log2<1920)
def aNF:gY X (.type "tuple") j7:=by refine#[_,aKI,λF H U vs k d Q s f e w=>?_];unfold j7 at e;split at e;{rename_i m ds;cases e;exists v,rfl,r,f.one;exists a,U,rfl,q,o,r.seqL s;exact#[a,U,rfl,.inl #[q,λl t=>w (.ref l) _ _ (aJ.laid (.tup U) s t) (aB.tup_of (s.free t) o) (by nofun)]]};{rename_i ds;cases e;exists v,rfl,r,f.one;have A:=r;exists a,U,rfl,q,o,r.seqT s;exact#[a,U,rfl,.inr #[q,w (.ref a) F H (.refl s) A (by nofun)]]};cases e
def aNG:gY X (.type "list") lP:=by refine#[_,aKH,λF H U vs k d Q s t e w=>?_];unfold lP at e;split at e;{rename_i m ds;cases e;exists v,rfl,r,t.one;exists a,U,rfl,q,o,r.seqL s;exact#[a,U,rfl,.inl q,λl f=>w (.ref l) F _ (aJ.fresh _ s f) #[l,rfl,s.free f,U,aY,o] λ_ a ea=>by cases ea;exact f]};{rename_i m ds;cases e;exists v,rfl,r,t.one;exists a,U,rfl,q,o,r.seqT s;exact#[a,U,rfl,.inr q,λl f=>w (.ref l) F _ (aJ.fresh _ s f) #[l,rfl,s.free f,U,aY,o] λ_ a ea=>by cases ea;exact f]};cases e
end
def aNH{T:String}{φ}{es:List Expr}(o:gY X (.type T) φ)(t:Gl X x)(m:X.mg x=none)(l:bootBuiltins x=some (.type T))(ha:PAv C X (e::es) gs)(hn:x ≠ "__name__")(d:(x==("__debug__":Str))=false)(a:∀x∈e::es,bI x=true):PV C X (.Call (.Name x p) (e::es) [] pos) (λY=>eQ φ (gs Y)):=by exists r,B,A,o;exact PE.imp (aJS B t m l ha hn d (bQ (a e mcs)) (i6 _ _ λy f=>a y (mcm f))) λσ H Q q=>zN A q
section
variable{A:a3J}{E:VSP}
theorem aNI{l:Addr}{Q:List a3H->a3I->Prop}(G:A.handled=none)(ht:s.heap.IsList l items)(h:∀h',Heap.ExtBut s.heap.objs.size s.heap h'->∀tk,Q items.toList {s with heap:=h',toks:=tk}):wpAny (model prog w) A (unpackItems (.ref l) items.size none) Q E s:=by(unfold unpackItems notIterableAtAll;refine aYB (aYB (aZ5 ht.typeIs PySem.F.slot_list_iter.lookup ?_));refine aYA ?_;dsimp only;rw[aK aX8];refine aYB (aZG (wpAny_pyIter_list ht ?_));have m:l<s.heap.objs.size:=by exists o,e,_,ht;exact aXL e);(have a:l≠s.heap.objs.size:=aXO m;have keep:∀b o,s.heap.get? b=some o->(s.heap.push { cls:=Value.type "list_iterator",data:=Data.fields (List.toArray [Value.ref l,Value.int 0 0]) }).get? b=some o:=λb o q=>hps q;have d:(s.heap.push { cls:=Value.type "list_iterator",data:=Data.fields (List.toArray [Value.ref l,Value.int 0 0]) }).IsList l items:=by exists o,e,c,ht;exact#[o,keep l o e,c]);have t:(s.heap.push { cls:=Value.type "list_iterator",data:=Data.fields (List.toArray [Value.ref l,Value.int 0 0]) }).IsListIter s.heap.objs.size l 0:=#[_,aXK _ rfl,rfl,rfl];refine aYB (aZG (W.kun_draw a items.size 0 _ _ t d (by lia) λh' B f=>?_));(have L:List.take items.size (List.drop 0 items.toList)=items.toList:=by rw[a04];exact a05 (by simp));rw[L];rw[aK (by simp)];(have r:h'.IsList l items:=by exists o,e,c,d;exact#[o,by rw[f.2 l a];exact e,c]);rw[a06]at B;refine aYB (aZG ((Walks.list G s.heap.objs.size l a items).done _ _ _ #[B,r] λJ tk K=>?_));rw[aK (by simp)];refine aYA (h J (λb o D e=>K b o (by simpa using D) ?_) tk);show h'.get? b=some o;rw[f.2 b D];exact keep b o e
def aNJ{l:Addr}{Q:Unit->a3I->Prop}(d:A.handled=none)(ht:s.heap.IsList l items)(hn:(assignEach elts env).length=items.size)(a:(assignEach elts env).findIdx? (·.1)=none)(h:∀h',Heap.ExtBut s.heap.objs.size s.heap h'->∀tk,wpAny (model prog w) A (assignInOrder ((assignEach elts env).map (·.2)) items.toList) Q E {s with heap:=h',toks:=tk}):wpAny (model prog w) A (assign (.Tuple elts k pos) env (.ref l)) Q E s:=by rw[assign_Tuple];refine aYB (aYS ?_);unfold unpack;rw[a,hn];exact aYB (aZG (aNI d ht h))
def aNK{t S:Addr}{l V:a3H}{lo hi:Option Int}(ht:IsTup s.heap t items)(hs:s.heap.IsSliceOf S l V .none)(pl:IsPart l lo)(m:IsPart V hi)(h0:HT.sIx items.size 0 lo=0)(o:HT.sIx items.size items.size hi=items.size)(h:Q (.ref t) s):wpAny (model prog w) A (getItem (.ref t) (.ref S)) Q E s:=by
 exists os,d,f,hds,id hs;have tS:s.TypeIs (.ref S) "slice":=#[os,d,f];unfold getItem
 try with_reducible refine aZG ?_
 first|refine aYB (aYA ?_)|skip
 refine aYB (wpAny_sequenceKey ht.typeIs (by decide) (aYB (aZH (name:=Str.ofString "__getitem__") ht.typeIs aZI (aZJ aZI ht.typeIs entry_tuple_getitem ?_ (args_tuple_getitem _ _)))))
 show wpAny _ _ (Builtin.Tuple.tupleItemsOf (.ref t)>>=_) _ _ s;refine aYB (tupleItemsOf_ ht (aYB (aZK tS ?_)));rw[al (by decide)]
 refine aYB (HT.yR hs pl m ?_);have a:(((HT.sIx items.size 0 lo:Nat):Int)==0&&(1:Int)==1&&(HT.sIx items.size items.size hi-HT.sIx items.size 0 lo)==items.size)=true:=by rw[h0,o];simp
 show wpAny _ _ (if(((HT.sIx items.size 0 lo:Nat):Int)==0&&(1:Int)==1&&(HT.sIx items.size items.size hi-HT.sIx items.size 0 lo)==items.size)=true then _ else _) _ _ s;rw[al a];unfold Builtin.Tuple.tupleIsExact;refine aYB (aYB (aZK ht.typeIs (aYA ?_)));rw[al (by decide)]
 refine aYB (a0E ?_)
 first
  |exact aYA #[_,rfl,aYA h]
  |exact#[_,rfl,aYA h]
end
def rSlW(K:Fg):V->Option Int->Option Int->Hp->VK->Prop:=λx lo d H Q=>∃a U,x=.ref a/\SqT K H a U/\(HT.sIx U.length 0 lo=0/\HT.sIx U.length U.length d=U.length)/\Q x H
def aNL:SlR X (rSlW X.K):=by(intro O s σ H x v vl vu lo hi sl Q I rx hs pl pu h;exists a,U,rfl,hx,f,q,h;cases rx;exists its,r,l,m,I.tuple hx;have d:its.toArray.size=U.length:=by rw[aYI];exact r.length.symm);exact#["tuple",_,PyProof.Rows.slot_tuple_getitem.lookup,l.typeIs,aNK l hs pl pu (by rw[d];exact f.1) (by rw[d];exact f.2) #[.ref a,H,I,rfl,q]]
def gSeq(K:Fg)(n:Nat)(t:TGs):TG:=λv σ H Q=>∃a U,v=.ref a/\(SqT K H a U\/SqL K H a U)/\U.length=n/\t U σ H Q
def aNM{es:List Expr}{t:TGs}(B:X.calm=true)(h:PGs X es t)(hn:(assignEach es X.env).length=n)(d:(assignEach es X.env).findIdx? (·.1)=none):PG X (.Tuple es k pos) (gSeq X.K n t):=by intro O s σ H v u Q I r l;exists a,U,E,f,A,l,l;rcases f with f|f;{exact aIQ B h hn d O s σ H v u Q I r #[a,U,E,f,A,l]};subst E;cases r;exists its,m,D,G,I.list f;refine aNJ (I.ok.hd B) D.isList (by simp[hn,<- A,m.length]) d λh' hx tk=>?_;have F:Inv X O σ H {s with heap:=h',toks:=tk}:=I.kept (t':=tk) λb o e=>hx b o (aXO (aXL e)) e;exact h O _ σ H U _ Q F (by simpa using m) l
inductive Tg where
 |nm (i:Nat)|tp (ts:List Tg)
mutual
def aO:Tg->D->Rho->Option Rho|.nm i,d,Y=>some (Y.set i (some (false,d)))|.tp ts,d,Y=>match d with|.tup ds|.lst ds=>dZ ts ds Y|_=>none
def dZ:List Tg->List D->Rho->Option Rho|[],ds,Y=>if ds.isEmpty then some Y else none|t::ts,ds,Y=>match ds with|d::ds=>((match aO t d Y with|some a=>dZ ts ds a|none=>none))|[]=>none
end
mutual
def dP:Tg->List Nat|.nm i=>[i]|.tp ts=>pN ts
def pN:List Tg->List Nat|[]=>[]|t::ts=>dP t++pN ts
end
mutual
def gOf(K:Fg):Tg->TG|.nm i=>mY i|.tp ts=>gSeq K ts.length (i7 K ts)
def i7(K:Fg):List Tg->TGs|[]=>gNil|t::ts=>yB (gOf K t) (i7 K ts)
end
end D3
variable{t:D3.Tg}
namespace D3
def PGw(X:Cx)(tg:Expr)(t:Tg):Prop:=PG X tg (gOf X.K t)
def j8(X:Cx)(T:List Expr)(ts:List Tg):Prop:=PGs X T (i7 X.K ts)
def i8:Expr->Bool|.Starred ..=>false|_=>true
def tX{es:List Expr}(h:i8 e=true):assignEach (e::es) env=(false,assign e env)::assignEach es env:=by cases e <;> first|rfl|cases h
theorem tY:∀{ts:List Tg}{ds:List D}{Y ρ':Rho},dZ ts ds Y=some ρ'->ds.length=ts.length|[],ds,Y,ρ',e=>by simp only[dZ]at e;split at e;{rename_i h;(have:ds=[]:=by simpa using h);subst this;rfl};cases e|t::ts,ds,Y,ρ',e=>by simp only[dZ]at e;split at e;{split at e;{rw[aZX,aZX,tY e]};cases e};cases e
mutual
theorem lQ{K:Fg}{F0 H0:Hp}:∀(t:Tg) {F H:Hp}{σ:L2.St}{Y ρ':Rho}{d:D}{v:V}{Q:L2.St->Hp->Prop},aR K F0 H0 F H σ Y->aB K F d v->aO t d Y=some ρ'->(∀f,aR K F0 H0 F H f ρ'->f.length=σ.length->(∀j,j∉dP t->f[j]? = σ[j]?)->Q f H)->gOf K t v σ H Q|.nm i,F,H,σ,Y,ρ',d,v,Q,R,r,e,w=>by simp only[aO]at e;cases e;simp only[gOf];refine w _ (R.set (m:=false) (.refl R.sub) r (by nofun)) (by rw[aZP]) λj A=>?_;simp only[dP,a07]at A;rw[aX1 (λz=>A z.symm)]|.tp ts,F,H,σ,Y,ρ',d,v,Q,R,r,e,w=>by simp only[aO]at e;split at e;{rename_i ds;simp only[aB]at r;exists a,U,rfl,o,l,r;simp only[gOf];refine#[a,U,rfl,.inl (aD.seqT R.sub o),by rw[l.length];exact tY e,tZ ts R l e ?_];simp only[dP]at w;exact w};{rename_i ds;simp only[aB]at r;exists a,U,rfl,o,l,r;simp only[gOf];refine#[a,U,rfl,.inr (R.sub.seq o),by rw[l.length];exact tY e,tZ ts R l e ?_];simp only[dP]at w;exact w};cases e
theorem tZ{K:Fg}{F0 H0:Hp}:∀(ts:List Tg) {F H:Hp}{σ:L2.St}{Y ρ':Rho}{ds:List D}{vs:List V}{Q:L2.St->Hp->Prop},aR K F0 H0 F H σ Y->aC K F ds vs->dZ ts ds Y=some ρ'->(∀a,aR K F0 H0 F H a ρ'->a.length=σ.length->(∀j,j∉pN ts->a[j]? = σ[j]?)->Q a H)->i7 K ts vs σ H Q|[],F,H,σ,Y,ρ',ds,vs,Q,R,r,e,w=>by simp only[dZ]at e;split at e;{cases e;rename_i hd;(have:ds=[]:=by simpa using hd);subst this;simp only[aC]at r;simp only[i7];exact#[r,w σ R rfl λ_ _=>rfl]};cases e|t::ts,F,H,σ,Y,ρ',ds,vs,Q,R,r,e,w=>by simp only[dZ]at e;split at e;{rename_i d ds';split at e;{rename_i o N;simp only[aC]at r;exists y,ys,rfl,B,A,r;simp only[i7];refine#[y,ys,rfl,lQ t R B N λm R1 E J=>tZ ts R1 A e λf R2 L G=>w f R2 (L.trans E) λj l=>?_];simp only[pN,aXW,not_or]at l;rw[G j l.2,J j l.1]};cases e};cases e
end
def aNN(hN:X.N.Nodup)(hi:X.N[i]? = some x)(hx:L2.Loc X.env.scope x)(hf:X.fn x=true\/X.env.scope.names.lookup x=some .local):PGw X (.Name x pos) (.nm i):=by unfold PGw;simp only[gOf];exact aIN hN hi hx hf
def aNO:j8 X [] []:=by unfold j8;simp only[i7];exact aIO
def aNP{es:List Expr}{ts:List Tg}(d:PGw X e t)(a:j8 X es ts)(hs:i8 e=true):j8 X (e::es) (t::ts):=by unfold j8;simp only[i7];exact aIP d a (by rw[tX hs];rfl)
def aNQ{es:List Expr}(hs:∀e∈es,i8 e=true):(assignEach es env).length=es.length/\(assignEach es env).findIdx? (·.1)=none:=by induction es with|nil=>exact#[rfl,rfl]|cons e es a=>exists f,d,a λx hx=>hs x (mcm hx);rw[tX (hs e mcs)];refine#[by rw[aZX,aZX,f],?_];rw[a08];simp[d]
def aNR{es:List Expr}{ts:List Tg}(d:X.calm=true)(h:j8 X es ts)(hs:∀e∈es,i8 e=true)(a:es.length=ts.length):PGw X (.Tuple es k pos) (.tp ts):=by have st:=aNQ (env:=X.env) hs;unfold PGw;simp only[gOf];exact aNM (n:=ts.length) d h (by rw[st.1,a]) st.2
def aNS(h:PGw X tg t):PGv C X tg (aO t) :=
 #[_,h,λF H σ Y ρ' d v Q R r e w=>lQ t R r e λa f _ _=>w a F H (aD.refl _) f]
def pO(t:Tg)(Y:Rho)(r:Res):aH:=(aI r).thS Y λm d=>match m with|.fz=>(match aO t d Y with|some ρ'=>.nx ρ'|none=>.stuck)|_=>.stuck
def aNT(G:PV C X e g)(D:PGw X tg t)(hs:swapsWithSole [tg] e pos.line X.env=pure false)(B:swappedStores [tg] e X.env=pure none)(f:i8 tg=true):PSv C X (.Assign [tg] e pos) (λY=>pO t Y (g Y)):=by
 refine PS.imp (aIR (eB G) D hs B (by rw[tX f];rfl)) λL σ H A=>?_
 exists Y,F,R,w,A;unfold pO at w;refine iM R w λm d v F' H' W s J o fr=>?_;cases m with
 |fr|bo=>exact(show False from W).elim|fz =>
 cases E:aO t d Y with|none=>rw[E]at W;exact(show False from W).elim|some ρ'=>rw[E]at W;have l:aB X.K F' d v:=o;exact lQ t J l E λa r _ _=>W a F' H' (aD.refl _) r
noncomputable def dQ(t:Rho->Res)(b:Rho->aH):Nat->Rho->aH|0,_=>.stuck|n+1,Y=>(t Y).thS Y λ_ d=>match d with|.bl true=>((match b Y with|.nx ρ'|.ct ρ'=>dQ t b n ρ'|.bk ρ'=>.nx ρ'|r=>r))|.bl false=>.nx Y|_=>.stuck
def aNU{t:Rho->Res}{b:Rho->aH}(n:Nat)(hp:PassesOwn (model X.prog X.w) X.A X.env X.xe)(J:PTv C X c t)(L:PBv C X body b):PSv C X (.While c body [] pos) (dQ t b n):=by refine PS.imp (aIT hp J L) λD σ H q=>?_;exists Y,F,R,w,q;refine#[λm σ H=>∃Y F,aR X.K C.F0 C.H0 F H σ Y/\bU (C.at X) F (dQ t b m Y) D,#[n,Y,F,R,w],?_];rintro m σ H ⟨Y,F,R,w⟩;refine#[Y,F,R,?_];cases m with|zero=>exact w.elim|succ m=>unfold dQ at w;cases B:t Y with|stuck=>rw[B]at w;exact w|exc c=>rw[B]at w;exact λF' H' s=>w σ F' H' s.fsame (R.step s)|ok G d=>rw[B]at w;cases d with|bl k=>(intro F' H' s;cases k with|false=>rw[aK aX8];exact w σ F' H' s.fsame (R.step s)|true=>(rw[al rfl];have w:bU (C.at X) F (match b Y with|.nx ρ'=>dQ t b m ρ'|.ct ρ'=>dQ t b m ρ'|.bk ρ'=>.nx ρ'|r=>r) D:=w);refine#[λf H'=>∃Y F,aR X.K C.F0 C.H0 F H' f Y/\bU (C.at X) F (dQ t b m Y) D,λf H' h=>#[m,aYN _,h],Y,F',R.step s,?_];cases E:b Y with|nx ρ'|ct ρ'=>rw[E]at w;exact λa l o z R2=>#[ρ',l,R2,bU.mono (s.fsame.trans z) w]|bk ρ'=>rw[E]at w;exact λa l o z R2=>w a l o (s.fsame.trans z) R2|rt G d=>rw[E]at w;exact w|exc c ρ'=>rw[E]at w;exact λa l o z R2=>w a l o (s.fsame.trans z) R2|stuck=>rw[E]at w;exact w.elim)|_=>exact w.elim
theorem aAG{gt:Rho->Res}(af:∀j∈dP t,aE.length<=j){Q:VK}(q:tG (C.at X) (λY=>bO (gi Y) Y aE tgN.length (aO t) gt ge) σ H Q):nM aE tgN.length (tIv (C.at X) gi) (gOf X.K t) (tT (C.nox.at X) gt) (tG (C.nox.at X) λY=>aI (ge Y)) σ H Q:=by
 rw[aU]at q;exists Y,F,RS,w,q;unfold nM;refine#[Y,F,RS,?_];cases er:gi Y with
 |stuck|exc c=>rw[er]at w;exact w|ok m d =>
  rw[er]at w;cases d with
  |lst ds =>
   unfold bO at w;rw[Res.thn_ok]at w;dsimp only at w;split at w
   . rename_i ak;intro J F1 H1 s1 hJ Da hDa;cases et:eC (aO t) gt ge (bZ aE Y++List.replicate tgN.length none) ds with
     |none=>rw[et]at w;exact w.elim|some T =>
      rw[et]at w;have D:H Da=none:=s1.same.free hDa;have aa:F1 Da=none:=s1.sub.free hDa;have R0:=zS aE tgN.length RS;refine#[λi m ys H'=>m=ds.length-i/\i<=ds.length/\H' Da=some (.lst ys)/\∃F' zs,aJ F H F' H'/\aD F1 F'/\F' Da=none/\aC X.K F' zs ys/\zs.length<=i /\
       ∃rest,eC (aO t) gt ge (bZ aE Y++List.replicate tgN.length none) (ds.drop i)=some rest/\T=zs++rest,
       #[ds.length,by simp,aYO _,aY,F1,[],s1.upd D aa,aD.refl _,aa,aC.nil,aYC _,T,by simpa using et,rfl],?_]
      rintro i m ys H' ⟨rfl,hile,hD,F',zs,st,sF,hFD,rz,hzl,rest,ec,etot⟩;refine#[hD,?_];by_cases f:i<ds.length
      . refine .inr #[hJ.go i H' (sF.trans st.sub) f,by rw[rz.length];lia,λv H2 y=>?_]
        exists F2,d,ed,o,rd,hJ.yld i F' H' v H2 sF st.sub f y;have hd:ds.drop i=d::ds.drop (i+1):=by rw[a0S f];rw[a0T f]at ed;cases ed;rfl
        rw[hd]at ec;unfold eC at ec;have ae:H2 Da=some (.lst ys):=o.same _ _ hD;have ah:F2 Da=none:=o.new _ hFD (by rw[hD];exact λz=>nomatch z)
        cases eg:aO t d (bZ aE Y++List.replicate tgN.length none)with
        |none=>rw[eg]at ec;cases ec|some l =>
        rw[eg]at ec;dsimp only at ec;have R2:=(R0.step st).step o;refine lQ t R2 rd eg λaj R1 V A=>?_;refine#[#[V.symm,λj u ej=>?_],l,F2,R1,?_]
        . by_cases hj:j∈dP t;{have:=af j hj;rw[aYY (by simpa[c8]using this),aYZ]at ej;split at ej <;> cases ej};rw[A j hj];exact ej
        cases E:gt l with
        |stuck|exc c=>rw[E]at ec;cases ec|ok mt dt=>cases dt with|bl b=>(rw[E]at ec;intro F3 H3 S;have B:H3 Da=some (.lst ys):=S.same _ _ ae;have Z:F3 Da=none:=S.new _ ah (by rw[ae];exact λz=>nomatch z);cases b with|false=>rw[aK aX8];exact#[ds.length-(i+1),by lia,rfl,f,B,F3,zs,(st.trans o).trans S,(sF.trans o.fsame).trans S.fsame,Z,rz.mono (o.fsame.trans S.fsame) _ _,Nat.le_succ_of_le hzl,rest,ec,etot]|true=>rw[al rfl,aU];refine#[_,F3,R1.step S,?_];dsimp only at ec;cases L:aI (ge l)with|stuck|exc c=>rw[L]at ec;cases ec|ok me ye=>(rw[L]at ec;dsimp only at ec;have ag:me=.fz:=by cases h:ge l with|ok m' d'=>rw[h]at L;cases m' <;> cases L <;> rfl|exc c|stuck=>rw[h]at L;cases L);subst ag;cases G:eC (aO t) gt ge (bZ aE Y++List.replicate tgN.length none) (ds.drop (i+1))with|none=>rw[G]at ec;cases ec|some r=>rw[G]at ec;cases ec;intro u F4 H4 N ru _;have ai:H4 Da=some (.lst ys):=N.same _ _ B;have W:F4 Da=none:=N.new _ Z (by rw[B];exact λz=>nomatch z);refine#[ai,ds.length-(i+1),by lia,rfl,f,aY,F4,zs++[ye],(((st.trans o).trans S).trans N).upd D W,((sF.trans o.fsame).trans S.fsame).trans N.fsame,W,?_,by simp;lia,r,G,by rw[etot];simp];exact aC.append (rz.mono ((o.fsame.trans S.fsame).trans N.fsame) _ _) (aC.cons ru aC.nil))|_=>rw[E]at ec;cases ec
      . (have ei:i=ds.length:=by lia);subst ei;rw[a0U]at ec;cases ec;rw[aYR]at etot;subst etot;exact .inl #[hJ.stop _ H' (sF.trans st.sub) (aYC _),w (.ref Da) F' H' st #[Da,rfl,hFD,ys,hD,rz] λ_ a ea=>by cases ea;exact D]
   . exact w.elim
  |_=>exact w.elim
def aNV{gt:Rho->Res}(o:X.calm=true)(hi:PIv C X tg iter gi)(J:∀y∈scope.names,y.2 ≠ .cell)(G:scope.kind=.function)(B:∀y∈scope.names,y.2=.local->scope.names.lookup y.1=some .local)(F:∀y∈scope.names,y.2=.free->X.env.kindOf y.1=some .cell\/X.env.kindOf y.1=some .free)(D:aL.map some=aE.map λi=>X.N[i]?)(E:∀y∈aL,(y,NameKind.free)∈scope.names)(r:∀y∈aL,(relabel scope X.env).names.lookup y=some .cell\/(relabel scope X.env).names.lookup y=some .free)(f:∀j∈dP t,aE.length<=j)(l:∀cl A fp S a,PGw (a7 X scope (aL++tgN) cl A fp S a) tg t)(hf:∀cl A fp S a,dY (a7 X scope (aL++tgN) cl A fp S a) ifs (tT (C.nox.at X) gt))(m:∀cl A fp S a,PV C.nox (a7 X scope (aL++tgN) cl A fp S a) elt ge)(hs:∀x,foldedSetIterable iter X.env x=pure x:=by intro _;rfl):PV C X (.ListComp elt [#[tg,iter,ifs,0]] scope pos) (λY=>bO (gi Y) Y aE tgN.length (aO t) gt ge):=by
 have d:aL.length=aE.length:=by simpa using congrArg List.length D
 refine PE.imp (aMP (aL:=aL) (tgN:=tgN) (gt:=gOf X.K t) (tt:=tT (C.nox.at X) gt) (te:=tG (C.nox.at X) λY=>aI (ge Y)) o hi J G B F D E r
  l hf (λcl A fp S a=>eB (m cl A fp S a)) hs) λσ H Q q=>aAG f q
def aNW(fz:Bool){spos:Pos}{gt:Rho->Res}(o:X.calm=true)(hi:PIv C X tg iter gi)(T:∀y∈scope.names,y.2 ≠ .cell)(L:scope.kind=.function)(D:∀y∈scope.names,y.2=.local->scope.names.lookup y.1=some .local)(J:∀y∈scope.names,y.2=.free->X.env.kindOf y.1=some .cell\/X.env.kindOf y.1=some .free)(G:aL.map some=aE.map λi=>X.N[i]?)(r:∀y∈aL,(y,NameKind.free)∈scope.names)(B:∀y∈aL,(relabel scope X.env).names.lookup y=some .cell\/(relabel scope X.env).names.lookup y=some .free)(f:∀j∈dP t,aE.length<=j)(l:∀cl A fp S a,PGw (a7 X scope (aL++tgN) cl A fp S a) tg t)(hf:∀cl A fp S a,dY (a7 X scope (aL++tgN) cl A fp S a) ifs (tT (C.nox.at X) gt))(m:∀cl A fp S a,PV C.nox (a7 X scope (aL++tgN) cl A fp S a) elt ge)(hN:X.N.Nodup)(hx:X.N[i]? = some x)(hk:X.env.scope.names.lookup x=some .local)(d:swapsWith (.ListComp elt [#[tg,iter,ifs,0]] scope pos) (some (.Name x pos')) spos.line X.env=pure true)(hs:∀x,foldedSetIterable iter X.env x=pure x:=by intro _;rfl):PSv C X (.Assign [.Name x pos'] (.ListComp elt [#[tg,iter,ifs,0]] scope pos) spos) (λY=>dX Y i (if fz=true then aI (bO (gi Y) Y aE tgN.length (aO t) gt ge)else bO (gi Y) Y aE tgN.length (aO t) gt ge)):=by
 refine PS.imp (aMQ (aL:=aL) (tgN:=tgN) (gt:=gOf X.K t) (tt:=tT (C.nox.at X) gt) (te:=tG (C.nox.at X) λY=>aI (ge Y)) o hi T L D J G r B
  l hf (λcl A fp S a=>eB (m cl A fp S a)) hN hx hk d hs) λE σ H q=>aAG f ?_
 cases fz with|false=>exact tO q|true=>have q:=tO q;unfold mZ at q;rw[aU]at q ⊢;exists Y,F,R,w,q;exact#[Y,F,R,aX.frz w]
inductive PVL(C:Cw)(X:Cx):List Expr->List (Rho->Res)->Prop where
 |nil:PVL C X [] []
 |cons {e:Expr}{g:Rho->Res}{es:List Expr}{gs:List (Rho->Res)} (h:PV C X e g) (r:PVL C X es gs):PVL C X (e::es) (g::gs)
inductive LtI(A:a3J)(s:a3I):List a3H->List a3H->Bool->Prop where
 |nn:LtI A s [] [] false
 |nc {w:a3H}{ws:List a3H}:LtI A s [] (w::ws) true
 |cn {v:a3H}{vs:List a3H}:LtI A s (v::vs) [] false
 |eq {v w:a3H}{vs ws:List a3H}{b:Bool} (h:SeqAt.EqAt A s v w true) (r:LtI A s vs ws b):LtI A s (v::vs) (w::ws) b
 |ne {v w:a3H}{vs ws:List a3H}{b:Bool} (h:SeqAt.EqAt A s v w false) (l:∀(prog:a3L) (w':a3K) (E:VSP) (Q:VSP),Q (.bool b) s->wpAny (model prog w') A (richCompare .Lt v w) Q E s):LtI A s (v::vs) (w::ws) b
section
open PySem.SeqAt
open PySem.AutoSeq1 (wpAny_loadPart')
open PySem.MeetsSeq PySem.MeetsSeq2 PySem.MeetsSeq3
theorem aNX(l b:Addr)(items a:Array a3H)(n n2:Nat)(V G:Option Addr)(J S:Array (Option a3H))(r:Bool):Meets (Builtin.«tuple.__lt__» #[[.ref l,.ref b],[]]) (λA R s=>s.heap.get? l=some { cls:=.type "tuple",dict:=V,data:=.seq items n,slots:=J }/\s.heap.get? b=some { cls:=.type "tuple",dict:=G,data:=.seq a n2,slots:=S }/\LtI A.in1 s items.toList a.toList r/\R (.ok (.ret (.bool r))) s):=
 .of_wp λprog w A R s h=>by
  exists hp,g,d,tk,os,s;exists L,T,N,h,h;have f2:=AutoSeq1.sub_tuple_tuple
  wp_walk using wpAny_loadPart' L,wpAny_loadPart' T,a0D _ (λrest b s'=>b.1=none/\s'=#[hp,g,d,tk,os]/\∃(vs ws:List a3H),rest=vs.zip ws /\
   LtI A.in1 #[hp,g,d,tk,os] vs ws r/\vs.length+a.size=ws.length+items.size) _
  case turn =>
   rintro⟨y,x⟩ rest b s' ⟨o,rfl,vs,ws,hz,hvi,hlen⟩;cases hvi with|nn|nc=>rw[List.zip_nil_left]at hz;cases hz|cn=>rw[List.zip_nil_right]at hz;cases hz|eq D B=>(rw[a09]at hz;injection hz with m f;injection m with E hx;subst E hx;simp only[aZX]at hlen;refine aYB (D prog w _ _ ?_);wp_walk;exact#[rfl,rfl,_,_,f,B,by lia])|ne D B=>rw[a09]at hz;injection hz with m f;injection m with E hx;subst E hx;refine aYB (D prog w _ _ ?_);have F:=B prog w;wp_walk using F;exact#[_,rfl,by simpa using h]
  case fin =>
   rintro⟨Z,W⟩ s' ⟨o,rfl,vs,ws,hz,hvi,hlen⟩;simp only at o;subst o;have K:r=decide (items.size<a.size):=by cases hvi with|nn=>simp only[aZY]at hlen;exact(aXH (by lia)).symm|nc=>simp only[aZY,aZX]at hlen;exact(aZ8 (by lia)).symm|cn=>simp only[aZY,aZX]at hlen;exact(aXH (by lia)).symm|eq D B|ne D B=>rw[a09]at hz;cases hz
   rw[K]at h
   wp_walk
   exact#[_,rfl,by simpa[Builtin.Tuple.tupleCompareSizes]using h]
  case h=>exact#[rfl,rfl,items.toList,a.toList,rfl,N,by simp[Nat.add_comm]]
end
section
variable{A:a3J}{E:VSP}
def aNY{l:Addr}{a:Array a3H}{r:Bool}(K:IsTup s.heap l items)(L:IsTup s.heap b a)(hi:LtI (A.in1) s items.toList a.toList r)(J:A.units<cLine)(h:Q (.bool r) s):wpAny (model prog w) A (compareOp .Lt (.ref l) (.ref b)) Q E s:=by
 obtain⟨⟨cls,N,data,G⟩,ho,o,n,hd⟩:=id K;obtain⟨⟨B,D,data2,S⟩,d,m,n2,f⟩:=id L;simp only at o hd m f;subst o hd m f;exact richCompare_meets_room (op:=.Lt) #[_,ho,rfl] #[_,d,rfl] PySem.F.slot_tuple_lt PySem.F.entry_tuple_lt (PySem.F.args_tuple_lt_2 _ _) (aNX l b items a n n2 N D G S r)
  #[ho,d,hi,show Value.bool r≠Value.notImplemented/\Q (.bool r) s from#[(λx=>nomatch x),h]] J
end
section
open PySem.SeqAt
open PySem.AutoSeq1 (wpAny_loadPart')
open PySem.MeetsSeq PySem.MeetsSeq2 PySem.MeetsSeq3
variable{A:a3J}{E:VSP}
def aNZ{t:Addr}{U:Array a3H}{x:a3H}(hi:s.heap.IsTupleIter it t i)(ht:IsTup s.heap t U)(hx:U[i]? = some x)(q:∀h',h'.IsTupleIter it t (i+1)->Heap.SameBut it s.heap h'->Q x {s with heap:=h'}):wpAny (model prog w) A (Builtin.SmallTypes.nextOf (.ref it)) Q E s:=by
 have ty:=hi.typeIs;exists o,ho,a,hd,hi;exists p,hp,_,n,hs,ht
 delta Builtin.SmallTypes.nextOf
 apply aYB;apply aZH (name:=Str.ofString "__next__") ty a1A;refine aZJ a1A ty a1B ?w (a1C _)
 case w =>
  refine aYB (m:=field (.ref it) 0) (aZF ho hd (x:=.ref t) rfl ?_);rw[show(Value.ref t==Value.none)=false from rfl,aK aX8]
  refine aYB (m:=field (.ref it) 1) (aZF ho hd (x:=.int i 0) rfl ?_);apply aYB;apply wpAny_seqItems hp hs;rw[aZB];simp only[hx];apply aYB;apply a1D ho hd (by simp)
  refine aYA #[x,rfl,aYA (q _ #[_,aZN _ ho (Obj.isFreed_of_fields (a1E hd _)),?_,?_] (a1F ..))]
  . rw[Obj.cls_mapFields,a]
  . rw[a1E hd];simp[rawInt]
def aAH{t:Addr}{U:Array a3H}(h0:A.handled=none)(hi:s.heap.IsTupleIter it t i)(ht:IsTup s.heap t U)(hx:U[i]? = none)(q:∀h' e,Heap.ExtBut it s.heap h'->(∃o,h'.get? e=some o/\o.cls=.type "StopIteration")->E (.ref e) {s with heap:=h'}):wpAny (model prog w) A (Builtin.SmallTypes.nextOf (.ref it)) Q E s:=by
 have ty:=hi.typeIs;exists o,ho,d,hd,hi;exists p,hp,_,n,hs,ht
 delta Builtin.SmallTypes.nextOf
 apply aYB;apply aZH (name:=Str.ofString "__next__") ty a1A;refine aZJ a1A ty a1B ?w (a1C _)
 case w =>
  refine aYB (m:=field (.ref it) 0) (aZF ho hd (x:=.ref t) rfl ?_);rw[show(Value.ref t==Value.none)=false from rfl,aK aX8]
  refine aYB (m:=field (.ref it) 1) (aZF ho hd (x:=.int i 0) rfl ?_);apply aYB;apply wpAny_seqItems hp hs;rw[aZB];simp only[hx];apply aYB;apply a0E;apply aYB;apply a1D ho hd (by simp)
  refine aYB (m:=newExc (.type "StopIteration") []) ?_;simp only[newExc,newTuple];apply aYB;refine aZM ?_ (by size_fits)
  apply aYB (m:=firstArgMember _ _);refine wpAny_of_eq (a:=.none) ?_ ?_
  . first|rfl|(unfold firstArgMember;rfl)
  refine aZM (hd:=by size_fits) ?_
  simp only[raiseNew];apply aYB;apply wpAny_handled
  first|rw[show A.in1.handled=none from h0]|rw[h0]
  refine wpAny_throw ?_;exact q _ _ ((Heap.SameBut.extBut (a1F ..)).push _ |>.push _) #[_,aXK _ rfl,rfl]
def aAI{a:Addr}{U:Array a3H}(x:IsTup h a U)(k:∀o,h.get? a=some o->h'.get? a=some o):IsTup h' a U:=by exists o,ho,r,x;exact#[o,k o ho,r]
end
def aN0{its:List Addr}{n:Addr}(I:Inv X O σ H s)(k:∀b o,b∉its->s.heap.get? b=some o->h'.get? b=some o)(hf:∀b∈its,cX X O H b)(hn:s.heap.objs.size<=n)(new:∃us,aM U us/\gR h' n us.toArray)(hz:U.length<=sizeLine):Inv X O σ (upd H n (.tup U)) {s with heap:=h',toks:=t'}:=by
 have fr:H n=none:=I.hok.fresh hn;have lt:∀{b o},s.heap.get? b=some o->b≠n:=λe z=>absurd (aXL e) (by rw[z];exact Nat.not_lt.mpr hn)
 have N:∀{b u},H b=some u->b≠n:=λe z=>by rw[z,fr]at e;cases e
 have d:∀{b u},H b=some u->b∉its:=λe z=>by rw[(hf _ z).1]at e;cases e
 refine I.call (g':=s.gens) (d':=s.drawn) (ch:=its) #[λb o e _ _ hx=>k b o hx e,λb o e _ _ hx=>#[o.slots,k b o hx e],λb o e h0 _=>by rw[aN (lt e)];exact h0,λb o e hx=>#[o,k b o hx e],
  λb u e=>by rw[aN (N e)];exact e,λb u v e=>by rw[aN (N e)];exact e,λb u e=>#[#[],by rw[aN (N e),e];simp]] (λb u e=>?_) I.bare λb a=>?_
 . by_cases a:b=n;{subst a;rw[aY]at e;cases e;exact#[hz,new]};rw[aN a]at e;refine(I.hok b u e).stay (λc v f q=>k c v ?_ q) (λc q=>?_) λc v q=>?_;{rcases f with z|z;{rw[z];exact d e};exact d z};{rw[aN (N q)];exact q};rw[aN (N q)];exact q
 . exists f0,f1,f2,f3,l,F,hf b a;exact#[f3,f1,l,F]
def pP{its:List Addr}(I:Inv X O σ H s)(k:∀b o,b∉its->s.heap.get? b=some o->h'.get? b=some o)(hf:∀b∈its,cX X O H b):Inv X O σ H {s with heap:=h',toks:=t'}:=by
 have N:∀{b u},H b=some u->b∉its:=λe z=>by rw[(hf _ z).1]at e;cases e
 refine I.call (g':=s.gens) (d':=s.drawn) (ch:=its) #[λb o e _ _ hx=>k b o hx e,λb o e _ _ hx=>#[o.slots,k b o hx e],λb o e h0 _=>h0,λb o e hx=>#[o,k b o hx e],
  λb u e=>e,λb u v e=>e,λb u e=>#[#[],by rw[e];simp]] (λb u e=>?_) I.bare λb d=>?_
 . refine(I.hok b u e).stay (λc v a q=>k c v ?_ q) (λ_ q=>q) λ_ _ q=>q;rcases a with z|z;{rw[z];exact N e};exact N z
 . exists f0,f1,f2,f3,F,f,hf b d;exact#[f3,f1,F,f]
open PySem.AutoSeq1 (wpAny_loadPart')
def aN1{A:a3J}(m:A.handled=none)(it t:Addr)(f:t≠it)(items:Array a3H):Draws prog w A it [it,t] items.size (λi v=>items[i]? = some v) (λi h=>h.IsTupleIter it t i/\IsTup h t items) where
 live:=λ_ _ st=>let⟨o,ho,_⟩:=st.1;#[o,ho]
 frame:=λ_ _ _ st hk=>#[st.1.at λo e=>hk it (by simp) o e,aAI st.2 λo e=>hk t (by simp) o e]
 item:=λi s Q E l st r=>by refine aNZ st.1 st.2 (x:=items[i]) (by simp[l]) λh' d a=>?_;exact r _ h' s.toks (by simp[l]) #[d,aAI st.2 λo e=>a.extBut _ o f e] a
 done:=λs Q E st B=>aAH m st.1 st.2 (by simp) B
def aN2(l:Addr)(items:Array a3H):Meets (Builtin.«enumerate.__new__» #[[.type "enumerate",.ref l],[]]) (λ_ R s=>s.heap.IsTuple l items/\R (.ok (.ret (.ref (s.heap.push { cls:=.type "tuple_iterator",data:=.fields (List.toArray [.ref l,.int 0 0]) }).objs.size))) { s with heap:=(s.heap.push { cls:=.type "tuple_iterator",data:=.fields (List.toArray [.ref l,.int 0 0]) }).push { cls:=.type "enumerate",data:=.fields (List.toArray [.none,.bool false,.ref s.heap.objs.size,rawInt 0,.none,.none]) } }):=
 .of_wp λprog w A R s h=>by exists hp,g,d,tk,os,s;exists a,h,h;have f:=sub_enumerate;have a:Heap.IsTuple (Shared.heap #[hp,g,d,tk,os]) l items:=a;exists o,ho,m,n,hd,id a;wp_walk using wpAny_loadPart' ho;refine wpAny_stack_any λst=>aYA ?_;split;{rename_i c _ _ _ _ _;cases(c==Value.type "enumerate");{wp_walk using wpAny_loadPart' ho,aYD a;exact#[_,rfl,h]};wp_walk using wpAny_loadPart' ho,aYD a;exact#[_,rfl,h]};wp_walk using wpAny_loadPart' ho,aYD a;exact#[_,rfl,h]
section
variable{A:a3J}{E:VSP}
def aN3{a:Addr}{us:Array a3H}(ha:s.heap.IsTuple a us)(q:∀g,IsEnum g (s.heap.objs.size+1) s.heap.objs.size 0 .none->g.IsTupleIter s.heap.objs.size a 0->(∀c u,s.heap.get? c=some u->g.get? c=some u)->Q (.ref (s.heap.objs.size+1)) {s with heap:=g}):wpAny (model prog w) A (call (.type "enumerate") [.ref a]) Q E s:=by let i0:Obj:={ cls:=.type "tuple_iterator",data:=.fields (List.toArray [.ref a,.int 0 0]) };let d:Obj:={ cls:=.type "enumerate",data:=.fields (List.toArray [.none,.bool false,.ref s.heap.objs.size,rawInt 0,.none,.none]) };(have Z:(s.heap.push i0).objs.size=s.heap.objs.size+1:=aYL ..;have G:((s.heap.push i0).push d).get? (s.heap.objs.size+1)=some d:=by rw[<- Z];exact aXK _ rfl);have l:((s.heap.push i0).push d).get? s.heap.objs.size=some i0:=hps (aXK _ rfl);have up:∀c u,s.heap.get? c=some u->((s.heap.push i0).push d).get? c=some u:=λc u z=>hps (hps z);have f:(∃o,((s.heap.push i0).push d).get? (s.heap.objs.size+1)=some o/\o.cls=.type "enumerate")/\Q (.ref (s.heap.objs.size+1)) {s with heap:=(s.heap.push i0).push d}:=#[#[d,G,rfl],q _ G #[i0,l,rfl,rfl] up];rw[<- Z]at f;exact callType_new F.called_enumerate (by decide) (F.typeCall_enumerate_1 _) (F.newCall_enumerate_1 _) (λo=>F.args_object_init_2 o _) F.entry_enumerate_new (aN2 a us) #[ha,f]
end
def Ite(S:Hp->List V->Prop):It :=
 #[fun i H => ∃ U x, S H U ∧ U[i]? = some x,
  λi H v H'=>∃p x,v=.ref p/\H p=none/\H'=upd H p (.tup [.int i,x])/\∀U,S H U->U[i]? = some x,
  λi H=>∃U,S H U/\U.length<=i]
section
variable{K:Fg}{a:Nat}
theorem aAJ{Sq:Hp->List V->Prop}(e it l:Addr)(N:e≠it)(ae:e≠l)(ai:l≠it)(B:Nat->Heap->Prop)(At:Heap->Array a3H->Prop)(L:∀i h,B i h->∃o,h.get? it=some o/\∀v,o.data ≠ .cell v)(keep:∀i h h',B i h->(∀o,h.get? it=some o->h'.get? it=some o)->B i h')(dr:∀A:a3J,A.handled=none->∀items:Array a3H,Draws P w A it [it,l] items.size (λi v=>items[i]? = some v) (λi h=>B i h/\At h items))(dn:∀(A:a3J) (s:a3I) (items:Array a3H) (k:Nat) (Q E:VSP),A.handled=none->B k s.heap->At s.heap items->items[k]? = none->(∀h' x,Heap.ExtBut it s.heap h'->(∃o,h'.get? x=some o/\o.cls=.type "StopIteration")->E (.ref x) {s with heap:=h'})->wpAny (model P w) A (Builtin.SmallTypes.nextOf (.ref it)) Q E s)(look:∀(X:Cx) (O:LAO) (s:a3I) (σ:L2.St) (H:Hp) (U:List V),X.prog=P->X.w=w->X.K=K->Inv X O σ H s->Sq H U->∃us,aM U us/\At s.heap us.toArray)(inj:∀(X:Cx) (O:LAO) (s:a3I) (σ:L2.St) (H:Hp) (U ys:List V),X.prog=P->X.w=w->X.K=K->Inv X O σ H s->Sq H U->Sq H ys->ys=U):gU P w K (.Tuple elts a pos) (Ite Sq) [e,it] e (λk h=>(∃f,IsEnum h e it k f)/\B k h) where
 mem:=by simp
 obj:=λk h st b r=>by obtain⟨⟨f,D⟩,J⟩:=st;simp only[aXV,a1G,a1H]at r;rcases r with rfl|rfl;{exact#[_,D,λv e=>by cases e]};exists o,e,d,L k h J;exact#[o,e,d]
 keep:=λk h h' st q=>by obtain⟨⟨f,D⟩,J⟩:=st;exact#[#[f,q e (by simp) _ D],keep k h h' J λo e=>q it (by simp) o e]
 item:=by
  intro X Z W hK hc k O s σ H E I hf st hg;obtain⟨⟨f,D⟩,J⟩:=st;exists U,x,S,hx,hg;exists us,r1,p1,look X O s σ H U Z W hK I S;exists u,hu,ru,r1.get hx;have aa:k<us.toArray.size:=by rw[aYI];exact(aXY.mp hu).1
  refine wpAny_pyNext_enum_itemD (dr X.A.in1 (I.ok.hd hc) us.toArray) D #[J,p1] aa N (by simp[N,ae]) λx' h' tk G a1 a2 a3 a4 a5=>?_
  have:x'=u:=by rw[List.getElem?_toArray]at G;rw[hu]at G;exact(aX2 G).symm
  subst this;refine#[_,rfl,wpAny_letOwnedTupleGo_enum (s:={s with heap:=h',toks:=tk+1}) a1 λh2 b1 b2=>?_]
  have en:s.heap.objs.size≠e:=λq=>absurd (aXL D) (by rw[<- q];exact aXN _)
  have up:∀b o,b∉[e,it]->s.heap.get? b=some o->h2.get? b=some o:=λb o r z=>by simp only[aXV,a1G,a1H,not_or]at r;exact b2.extBut _ _ r.1 (a5 b o r.1 r.2 z)
  have I2:=aN0 (t':=tk+1) (U:=[.int k,x]) I up hf (aYC _) #[[.int k tk,x'],.cons #[tk,rfl] (.cons ru .nil),#[_,b2.extBut _ _ en a3,rfl,rfl,_,rfl]] (show 2<=sizeLine by decide +kernel)
  refine#[.ref s.heap.objs.size,_,I2,rfl,#[_,x,rfl,I.hok.fresh (aYC _),rfl,λzs q=>by rw[inj X O s σ H U zs Z W hK I S q];exact hx],?_,λb r=>?_]
  . (have ek:((k:Int)+1)=((k+1:Nat):Int):=by lia);rw[ek]at b1;exact#[#[x',b1],keep _ _ _ a2.1 λo z=>b2.extBut _ o N.symm z]
  . have ah:=r;obtain⟨o,z⟩:∃o,s.heap.get? b=some o:=by
      simp only[aXV,a1G,a1H]at r;rcases r with rfl|rfl
      . exact#[_,D]
      . exists o,z,_,L _ _ J;exact#[o,z]
    rw[aN λq=>absurd (aXL z) (by rw[q];exact aXN _)]
    exact(hf b ah).1
 done:=by
  intro X Z W hK hc k O s σ H E I hf st hg;obtain⟨⟨f,D⟩,J⟩:=st;exists U,S,hn,hg;exists us,r1,p1,look X O s σ H U Z W hK I S;have e1:=r1.length;have te:s.TypeIs (.ref e) "enumerate":=#[_,D,rfl]
  delta pyNext
  apply aYB;apply a1I;apply aZH (name:=Str.ofString "__next__") te F.slot_enumerate_next;refine aZJ F.slot_enumerate_next te F.entry_enumerate_next ?nx (F.args_enumerate_next_1 _);refine aYB (m:=field (.ref e) 2) (aZF D rfl (x:=.ref it) rfl ?_);refine aYB (dn X.A.in1 s us.toArray k _ _ (I.ok.hd hc) J p1 (by simp;lia) λh' x af G=>?_)
  exists o,ho,ag,G;refine aYB (a0H (T:="StopIteration") (b:=true) #[o,ho,ag] isSubtype_stop ?_);refine aYA #[rfl,pP (t':=s.toks) I (λb o r z=>af b o (by
   simp only[aXV,a1G,a1H,not_or]at r;exact r.2) z) hf]
 self:=λ_ _ _ _ _ st h=>by obtain⟨⟨f,D⟩,_⟩:=st;exact a1J D h
def aN4(e it l:Addr)(D:e≠it)(B:e≠l)(f:l≠it):gU P w K (.Tuple elts a pos) (Ite λH=>SqL K H l) [e,it] e (λk h=>(∃m,IsEnum h e it k m)/\h.IsListIter it l k) :=
 aAJ e it l D B f (fun k h => h.IsListIter it l k) (fun h U => h.IsList l U) (fun i h st => by
     exists o,e,_,d,st;exact#[o,e,λv q=>by rw[d]at q;cases q]) (λi h h' st k=>st.at k) (λA G items=>Draws.list G it l f items)
  (λA s items k Q E G st ha hx q=>wpAny_nextOf_list_end G st ha hx q)
  (λX O s σ H U L J F I q=>by
   subst F;exists us,r,p,_,I.list q;exact#[us,r,p.isList])
  (λX O s σ H U ys L J F I q q'=>by subst F;exact I.list_inj q' q)
def aN5(e it l:Addr)(D:e≠it)(B:e≠l)(f:l≠it):gU P w K (.Tuple elts a pos) (Ite λH=>SqT K H l) [e,it] e (λk h=>(∃m,IsEnum h e it k m)/\h.IsTupleIter it l k) :=
 aAJ e it l D B f (fun k h => h.IsTupleIter it l k) (fun h U => IsTup h l U) (fun i h st => by
     exists o,e,_,d,st;exact#[o,e,λv q=>by rw[d]at q;cases q]) (λi h h' st k=>st.at k) (λA G items=>aN1 G it l f items)
  (λA s items k Q E G st ha hx q=>aAH G st ha hx q)
  (λX O s σ H U L J F I q=>by
   subst F;exists us,r,p,_,I.tuple q;exact#[us,r,p])
  (λX O s σ H U ys L J F I q q'=>by subst F;exact I.tuple_inj q' q)
end
def aN6:bootBuiltins ("enumerate":Str)=some (.type "enumerate"):=by first|rfl|decide +kernel|kernel_rfl
def aAK(K:Fg)(ta:TA):TI:=λσ H R=>ta σ H λvs H1=>∃a U,vs=[.ref a]/\((SqL K H1 a U/\R (Ite λH=>SqL K H a) H1)\/(SqT K H1 a U/\R (Ite λH=>SqT K H a) H1))
def aN7{a:Expr}{ta:TA}{cx}{N:Pos}(V:Gl X "enumerate")(T:X.mg "enumerate"=none)(ha:PA X [a] ta)(hs:starEach [a] X.env=[(false,eval a X.env)]:=by rfl):PI X (.Tuple elts cx N) (.Call (.Name "enumerate" p) [a] [] pos) (aAK X.K ta):=by intro O s σ H R I h;refine Call_ (jS I V T aN6 (aYE (thn (ha pos O s σ H _ I h) λus S q1=>?_) (by rw[hs];rfl) (by rfl)));exists vs,H1,d,J,l,U,rfl,q,q1;cases J with|cons r G=>(cases G;cases r;have E:∀b:Addr,S.heap.objs.size<=b->cX X O H1 b:=λb f=>d.fpOk f (d.hok.fresh f);have F:∀b:Addr,b∈[S.heap.objs.size+1,S.heap.objs.size]->cX X O H1 b:=λb f=>by simp only[aXV,a1G,a1H]at f;rcases f with rfl|rfl;{exact E _ (a03 _)};exact E _ (aYC _));rcases q with⟨m,q⟩|⟨m,q⟩;{exists ls,_,p1,_,d.list m;(have L:l<S.heap.objs.size:=by exists o,n,e,_,id p1;exact aXL e);refine call_enumerate_list p1.isList λh' A D W B=>a1J (s:={S with heap:=h'}) A ?_;exact#[_,[S.heap.objs.size+1,S.heap.objs.size],_,_,H1,rfl,d.kept (t':=S.toks) B,aN4 _ _ l (Nat.succ_ne_self _) (aX9 (a0Z L)) (aXO L),#[#[_,A],D],F,q]};exists ls,_,p1,_,d.tuple m;(have L:l<S.heap.objs.size:=by exists o,e,_,id p1;exact aXL e);refine aN3 (show S.heap.IsTuple l ls.toArray from p1) λh' A D B=>a1J (s:={S with heap:=h'}) A ?_;exact#[_,[S.heap.objs.size+1,S.heap.objs.size],_,_,H1,rfl,d.kept (t':=S.toks) B,aN5 _ _ l (Nat.succ_ne_self _) (aX9 (a0Z L)) (aXO L),#[#[_,A],D],F,q]
def fE:Nat->List D->List D|_,[]=>[]|i,d::ds=>.tup [.int i,d]::fE (i+1) ds
theorem pQ:∀{ds:List D}{i:Nat},(fE i ds).length=ds.length|[],_=>rfl|d::ds,i=>by simp only[fE,aZX,pQ]
theorem aAL:∀{ds:List D}{j i:Nat}{d:D},ds[i]? = some d->(fE j ds)[i]? = some (.tup [.int ((j+i:Nat):Int),d])|[],_,_,_,h=>by simp at h|x::ds,j,0,d,h=>by simp at h;subst h;rfl|x::ds,j,i+1,d,h=>by have:=aAL (ds:=ds) (j:=j+1) (i:=i) (by simpa using h);(have e:j+1+i=j+(i+1):=by lia);rw[e]at this;simpa[fE]using this
theorem aAM{K:Fg}{F:Hp}{l:Hp->List V->Prop}(d:∀H,aD F H->l H U)(r:aC K F ds U):j5 K F (Ite l) (fE 0 ds) where
 go:=λi H s a=>by(rw[pQ]at a;have o:i<U.length:=by rw[r.length];lia);exact#[U,U[i],d H s,by simp[o]]
 stop:=λi H s a=>by rw[pQ]at a;exact#[U,d H s,by rw[r.length];lia]
 yld:=λi Fc H x H' f S a y=>by rw[pQ]at a;exists p,u,rfl,hp,rfl,hx,y;have ex:=hx U (d H (f.trans S));exists A,E,m,r.get' (a0T a);rw[ex]at E;cases E;refine#[_,_,aAL (a0T a),aJ.laid (.tup [.int i,u]) S hp,?_];refine aB.tup_of (S.free hp) ?_;simp only[aC];exact#[.int i,[u],rfl,by simp only[aB,a06],u,[],rfl,m.mono f _ _,rfl]
def pR(r:bC):Res:=r.thn λU=>match U with|[(.fz,.lst ds)]|[(.fz,.tup ds)]=>.ok .fz (.lst (fE 0 ds))|_=>.stuck
def aN8{a:Expr}{cx}{f:Pos}(o:Gl X "enumerate")(m:X.mg "enumerate"=none)(ha:PAv C X [a] gs)(hs:starEach [a] X.env=[(false,eval a X.env)]:=by rfl):PIv C X (.Tuple elts cx f) (.Call (.Name "enumerate" p) [a] [] pos) (λY=>pR (gs Y)):=by refine PI.imp (aN7 o m ha hs) λσ H R q=>?_;exists Y,F,B,w,q;dsimp only at w;unfold aAK;refine#[Y,F,B,?_];cases E:gs Y with|stuck|exc c=>rw[E]at w;exact w|ok U=>rw[E]at w;intro vs F' H' st rp;unfold pR at w;rw[bC.thn_ok]at w;split at w;{rename_i ds;exists v,rfl,r,rp.one;have r:aB X.K F' (.lst ds) v:=r;simp only[aB]at r;exists A,d,rfl,q1,l,r;exact#[A,d,rfl,.inl #[st.sub.seq q1,w _ F' H' st (aAM (λH s=>s.seq q1) l)]]};{rename_i ds;exists v,rfl,r,rp.one;have r:aB X.K F' (.tup ds) v:=r;simp only[aB]at r;exists A,d,rfl,q1,l,r;exact#[A,d,rfl,.inr #[aD.seqT st.sub q1,w _ F' H' st (aAM (λH s=>aD.seqT s q1) l)]]};exact w.elim
open PySem.Calls PySem.W
section
variable{K:Fg}{x D:Addr}{a:Obj}
def XAt(h:Heap)(x:Addr)(a:Obj)(D:Addr):Prop:=h.get? x=some a/\a.cls=.ref D
structure XCls(K:Fg)(D:Addr):Prop where
 ga:W.findIn K (.ref D) "__getattribute__"=some (some (.builtin "BaseException.__getattribute__"))
 gn:W.findIn K (.ref D) "__getattr__"=some none
 ca:W.findIn K (.ref D) "__class__"=some (some (.builtin "object.__class__"))
 bx:W.mroIn K D (.type "BaseException")=some true
 ob:W.mroIn K D (.type "object")=some true
 hn:W.specialIn K (.builtin "object.__class__") "__get__"=some (some (.builtin "getset_descriptor.__get__"))
 tk:W.takesIn K (.builtin "object.__class__")=some true
end
open PySem.Calls
structure Fly(P:a3L)(w:a3K)(outer:List Env)(H:Hp)(s:a3I)(H1:Hp)(B hp:Heap):Prop where
 un:Un (frs outer) [] H H1 s.heap hp
 ok:HOk P w H1 hp
 kb:∀b o,hp.get? b=some o->s.heap.get? b≠none->b∉frs outer->B.get? b=some o
 kh:∀b u,H1 b=some u->∃o,hp.get? b=some o/\B.get? b=some o
 fr:∀b∈frs outer,H b=none/\∃o,s.heap.get? b=some o/\∀vs,o.data ≠ .fields vs
section
variable{H1:Hp}{B:Heap}
def iO:b∉([]:List Addr):=by simp
theorem Fly.slots(f:Fly P w outer H s H1 B hp)(up:hp.UpToSlots h')(d:b∈frs outer):∃o a S,s.heap.get? b=some o/\hp.get? b=some {o with slots:=a}/\h'.get? b=some {o with slots:=S}:=by exists hn,o,e,nf,f.fr b d;exists a,E,f.un.slot b o e hn d iO;exists S,l,up b _ E nf;exact#[o,a,S,e,E,l]
def Fly.on(f:Fly P w outer H s H1 B hp)(st:B.StaysIn h')(up:hp.UpToSlots h'):Fly P w outer H s H1 B h' where
 un:={
  keep:=λb o e n d _=>st b o (f.kb b o (f.un.keep b o e n d iO) (by rw[e];exact λz=>nomatch z) d)
  slot:=λb o e n d _=>by exists l,F,S,r,_,E,f.slots up d;rw[e]at r;cases r;exact#[S,E]
  free:=f.un.free
  there:=λb o e _=>by by_cases d:b∈frs outer;{exists l,F,S,r,_,E,f.slots up d;exact#[_,E]};exists l,m,f.un.there b o e iO;exact#[l,st b l (f.kb b l m (by rw[e];exact λz=>nomatch z) d)]
  tups:=f.un.tups
  frzs:=f.un.frzs
  tbls:=f.un.tbls }
 ok := fun a o e => (f.ok a o e).stay (fun b u d q => by
     have:∃A,H1 b=some A:=by rcases d with rfl|d;{exact#[o,e]};exact#[_,d]
     exists A,J,this;exists l,m,E,f.kh b A J;rw[q]at m;cases m;exact st b u E) (λ_ q=>q) λ_ _ q=>q
 kb:=λb o e ns d=>by cases r:s.heap.get? b with|none=>exact absurd r ns|some G=>exists l,m,f.un.there b G r iO;have E:=f.kb b l m ns d;have D:=st b l E;rw[e]at D;cases D;exact E
 kh:=λb u e=>by exists o,_,E,f.kh b u e;exact#[o,st b o E,E]
 fr:=f.fr
end
def CX1(P:a3L)(w:a3K):CXT:=λouter H s E ev s'=>∃(e C:Addr) (a:a3H) (H1:Hp) (B:Heap),
 ev=.ref e/\s'.os=s.os/\AllBare s'.gens/\Heap.FlyingW B outer e (.ref C) a s'.heap/\Fly P w outer H s H1 B s'.heap/\E (.ref C) none H1
section
variable{H1:Hp}{B:Heap}
def aN9(I:Inv X O σ H s):∀b∈frs X.stack,H b=none/\∃o,s.heap.get? b=some o/\∀vs,o.data ≠ .fields vs:=λb a =>
 #[I.stkFree b a,(I.stack.mem a).2]
def Fly.inv(I:Inv X O σ H s)(f:Fly X.prog X.w X.stack H s H1 B s'.heap)(ho:s'.os=s.os)(a:AllBare s'.gens):Inv X O σ H1 s' :=
 Inv.call' (ch:=[]) I ho f.un f.ok a (λb z=>absurd z iO)
def Fly.out(I:Inv X O σ H s)(f:Fly X.prog X.w X.stack H s H1 B s'.heap)(ho:s'.os=s.os)(J:AllBare s'.gens)(hx:X.ex=[])(hs:X.stack=X.env::X.outer)(hf:X.env.frame=some X.env.locals)(st:B.StaysIn h')(up:s'.heap.UpToSlots h'):Fly X.prog X.w X.outer X.H₀ X.s₀ H1 B h':=by have V:=f.inv I ho J;have f1:=f.on st up;have d:=V.base;rw[hx]at d;have l:∀b o,X.s₀.heap.get? b=some o->∃m,s.heap.get? b=some m:=λb o e=>I.base.there b o e (by rw[hx];exact iO);have N:∀b o,X.s₀.heap.get? b=some o->b≠X.env.locals:=λb o e z=>absurd (aXL e) (by rw[z];exact Nat.not_lt.mpr I.ok.above);(have sub:∀b,b∉frs X.outer->b≠X.env.locals->b∉frs X.stack:=λb L K z=>by rcases aXV.mp (I.stkSub b z)with q|q;{exact K q};exact L q);(have S:∀b,b∈frs X.outer->b∈frs X.stack:=λb a=>by rw[hs];unfold frs;rw[aXU,hf];exact mcm a);refine#[#[λb o e n a _=>?_,λb o e n a _=>?_,d.free,λb o e _=>?_,d.tups,d.frzs,d.tbls],f1.ok,λb o e ns a=>?_,f1.kh,λb a=>?_];{have r:=d.keep b o e n a iO;exists m,E,l b o e;exact st b o (f.kb b o r (by rw[E];exact λz=>nomatch z) (sub b a (N b o e)))};{exists Z,r,d.slot b o e n a iO;exists m,G,A,E,D,T,f.slots up (S b a);have q:=aX2 (r.symm.trans D);refine#[A,?_];rw[T];exists c1,d1,W,l1,o;exists c2,d2,t2,l2,m;simp only[Obj.mk.injEq]at q;exists rfl,rfl,rfl,_,q;rfl};{exists m,E,l b o e;exact f1.un.there b m E iO};{cases E:X.s₀.heap.get? b with|none=>exact absurd E ns|some F=>exists m,r,l b F E;exact f1.kb b o e (by rw[r];exact λz=>nomatch z) (sub b a (N b F E))};exact#[I.ok.frf b a,(I.ok.funs.mem a).2]
def nP(h:Heap)(l:List Env):Heap:=W.hideAll h (frs l)
def Fly.raise(I:Inv X O σ H s)(hx:X.ex=[])(hs:X.stack=X.env::X.outer)(hf:X.env.frame=some X.env.locals)(st:(nP s.heap X.stack).StaysIn h')(up:s.heap.UpToSlots h'):Fly X.prog X.w X.outer X.H₀ X.s₀ H (nP s.heap X.stack) h':=by
 have f:Fly X.prog X.w X.stack H s H (nP s.heap X.stack) s.heap :=
  #[Un.refl,I.hok,λb o e _ a=>W.hideAll_get _ e a,λb u e=>by
   have hn:b∉frs X.stack:=λz=>by rw[I.stkFree b z]at e;cases e
   have:∃o,s.heap.get? b=some o:=by have:=I.hok b u e;cases u with|lst U=>exists _,_,_,_,e,this;exact#[_,e]|tup U=>exists _,_,_,o,e,_,this;exact#[_,e]|dK kvs|dT kvs|dN kvs=>exists _,_,_,_,o,_,_,e,_,this;exact#[_,e]|set S n=>exists o,_,_,_,e,_,this;exact#[_,e]|ins C dx fs=>exists _,_,_,e,_,this;exact#[_,e]|own y=>exists _,e,this;exact#[_,e]|xd fs=>obtain⟨_,⟨_,_,_,e,_⟩,_⟩:=this;exact#[_,e]|rng lo l=>exists _,_,_,e,this;exact#[_,e]|frz ob u=>exists e,_,this;exact#[_,e]|tbl ps|crec q=>exists _,_,_,e,_,this;exact#[_,e]|met f y=>exact#[_,this]|ext d=>obtain⟨_,⟨_,e⟩,_⟩:=this;exact#[_,e]
   exists o,E,this;exact#[o,E,W.hideAll_get _ E hn],aN9 I]
 exact f.out I rfl I.bare hx hs hf st up
end
noncomputable def vErr:List a3H:=[.type "ValueError",.type "Exception",.type "BaseException",.type "object"]
def aAN(K:Fg)(C:Addr):Prop:=W.excIn K C vErr "ValueError.__new__"=true
def RzOk(C:Cw)(X:Cx):Prop:=∀(O:LAO) (σ:L2.St) (H:Hp) (s:a3I) (c:Str) (a:Addr) (vs:List a3H) (h':Heap) (e:Addr),Inv X O σ H s->X.mg c=some (.ref a)->C.EE c σ H ->
 Heap.MadeExcOf s.heap h' e (.ref a) vs->X.xe (.ref e) {s with heap:=h'}
section
structure FnCx(X:Cx):Prop where
 hx:X.ex=[]
 hs:X.stack=X.env::X.outer
 hf:X.env.frame=some X.env.locals
end
section
variable{K:Fg}{N:List Str}{f:Addr}{A:a3J}{E:XK}
def fnCx:FnCx (cH (CX1 P w) P w K mg base N qual scope f cdv A outer s H E):=#[rfl,rfl,rfl]
def g9(mg:SOV)(E:XK):XE:=λc _ H'=>∀u,mg c=some u->E u none H'
def t7(m:C.EE=g9 mg E):XOk (CX1 P w) C (cH (CX1 P w) P w K mg base N qual scope f cdv A outer s H E):=by intro O σ H1 s1 ev s' I h;exists e,J,r,G,B,rfl,ho,a,fl,o,c,l,d,h;rw[m]at d;have D:=I.ok.frames;refine wpAny_leaves_onW D rfl fl λh' F up=>?_;exact#[e,J,r,G,B,rfl,ho.trans I.os,a,F,o.out I ho a rfl rfl rfl F.1 up,d _ l]
def aOA(r:C.EE=g9 mg E):RzOk C (cH (CX1 P w) P w K mg base N qual scope f cdv A outer s H E):=by intro O σ H1 s1 c Cc vs h1 e I hm d made;rw[r]at d;have B:=I.ok.frames;have m:∀env∈(cH (CX1 P w) P w K mg base N qual scope f cdv A outer s H E).stack,∀a,env.frame=some a->a∈frs (cH (CX1 P w) P w K mg base N qual scope f cdv A outer s H E).stack:=λenv d a ha=>aYF.mpr #[env,d,ha];have F:s1.heap.FunFrames (nP s1.heap (cH (CX1 P w) P w K mg base N qual scope f cdv A outer s H E).stack) _:=W.funFrames_hide I.stack m;have S:(nP s1.heap (cH (CX1 P w) P w K mg base N qual scope f cdv A outer s H E).stack).StaysIn s1.heap:=λb o q=>W.of_hideAll _ q;refine wpAny_leaves_madeW (s:={s1 with heap:=h1}) B rfl S F made λh' t fl _ _ up=>?_;have l:s1.heap.UpToSlots h':=(Heap.UpToSlots.of_keeps made.keeps).trans up;exact#[e,Cc,.ref t,H1,_,rfl,I.os,I.bare,fl,Fly.raise I rfl rfl rfl fl.1 l,d _ hm]
end
structure HX where
 cls:Str
 slot:Option Nat
 g:Rho->aH
def t8(K:Fg)(mg:SOV)(xt:Str->Str->Option Bool):Prop:=∀c x b,xt c x=some b->∃C a,W.nsIn K mainGlobals c=some (some (.ref C))/\mg c=some (.ref C)/\mg x=some (.ref a) /\
 W.mroIn K a (.type "BaseException")=some true/\W.typeIn K (.ref a)=some (.type "type")/\W.mroIn K C (.ref a)=some b
def pS(mg:SOV)(n:Str)(cv:V):Prop:=(∃C,mg n=some (.ref C)/\cv=.ref C)\/(mg n=none/\n ≠ "__name__" /\ ∃T,bootBuiltins n=some (.type T)/\cv=.ty T)
def aAO:V->a3H|.ref a=>.ref a|.ty T=>.type T|_=>.none
def t9(K:Fg)(mg:SOV)(a:Str->Str->Option Bool):Prop:=∀c n b,a c n=some b->∃C cv,W.nsIn K mainGlobals c=some (some (.ref C))/\XCls K C/\pS mg n cv/\W.kitOne K (.ref C) (aAO cv)=some b
def aOB{K:Fg}{f:Addr}{N:List Str}{g:Rho->aH}(F:Fun K x qual st f fd)(S:jU N ps (dL st))(a:∀(C:Cw) (cdv:a3H),W.codeIn K cdv qual=true->∀(A:a3J) (outer:List Env) (s:a3I) (H:Hp) (E:XK),C.EE=g9 mg E->bB k (A.deeper (envOfC qual (dL st) s.heap.objs.size f cdv))->PBv C (cH (CX1 P w) P w K mg base N qual (dL st) f cdv A outer s H E) (gW st) g):bM P w K mg base (CX1 P w) (k+1) f fd ps (spV K mg ps.length (phi ps.length N.length g)):=by(exists oc,od,kV,aa,pm,an,cdv,ct,J,rfl,L,l,F.ex;refine yO L l S (λvs H Q E h=>h.1) λA outer s H vs Q E V h=>?_;exists Z,F0,ds,sF,D,h,h;have B:ds.length=ps.length:=by rw[<- D.length];exact Z);let C:Cw:=#[K,F0,H,g9 mg E];refine#[_,a C cdv l A outer s H E rfl V,eT N.length ds,F0,zX sF D,?_];unfold phi at h;rw[al B]at h;cases o:g (eT N.length ds)with|nx Y=>rw[o]at h;exact λr F' H' _ R=>h.2 .non F' H' R.st zG (by nofun)|rt m d=>rw[o]at h;exact λv F' H' s G fr=>h.2 v F' H' s G fr|bk Y|ct Y=>rw[o]at h;exact h.elim|exc c Y=>rw[o]at h;exact λr F' H' _ R u T=>h F' H' u R.st T|stuck=>rw[o]at h;exact h.elim
noncomputable def eU(Y:Rho)(i:Nat)(r:Res):aH:=match Y[i]? with
 |some (some (true,.lst ds))=>(aI r).thS Y λm d=>match m with|.fz=>if ds.length<sizeLine then .nx (Y.set i (some (true,.lst (ds++[d]))))else .stuck|_=>.stuck
 |_=>.stuck
def pT{r:Res}{m:Md}{d:D}(h:aI r=.ok m d):m=.fz:=by cases r with|ok m' a=>cases m' <;> cases h <;> rfl|exc c|stuck=>cases h
def aOC(i:Nat)(L:PE X (.Name x p) (fR i))(V:PV C X e g)(hs:bI e=true)(f:ap.endLine=cp.line):PSv C X (.Expr (.Call (.Attribute (.Name x p) "append" ap) [e] [] cp) pos) (λY=>eU Y i (g Y)):=by
 have Z := yW (X := X) (o := .Name x p) (e := e) (es := []) (apos := ap) (cpos := cp) PySem.F.plainAttrs_list PySem.F.slot_list_append PySem.F.type_list_append tI L (m9 (eB V) m8 (bQ hs)) (lN rfl) (by
     rw[j6 _ _ (λy G=>by simp only[aXV,a1G,a1H]at G;subst G;exact hs)];rfl) (aYK.mpr f) (bQ hs) rfl
 refine PS.imp (oS Z) λE σ H q=>?_;exists Y,F,R,w,q;dsimp only at w;unfold sS tBM;cases l:Y[i]? with
 |none=>unfold eU at w;rw[l]at w;exact w.elim|some o =>
  cases o with
  |none=>unfold eU at w;rw[l]at w;exact w.elim|some bd =>
   exists b,d0,bd;cases b with
   |false=>unfold eU at w;rw[l]at w;exact w.elim|true =>
    cases d0 with
    |lst ds =>
     unfold eU at w;rw[l]at w;dsimp only at w;exists v0,r,A,N,R.slot i true _ l;exists a,ea,T,U,J,D,A;subst ea;refine#[.ref a,r,.inl #[rfl,U,SqL.of J],?_];unfold iG;refine iM R w λm d v F' H' W s R' K fr=>?_;cases m with
     |fr|bo=>exact(show False from W).elim|fz =>
     dsimp only at W;split at W
     . rename_i S;have B:H' a=some (.lst U):=s.same _ _ J;refine#[a,U,v,rfl,rfl,B,by rw[D.length];exact S,?_];exact W σ F' _ (aD.refl _) (R'.mut l r #[_,aY,aC.append (D.mono s.fsame _ _) (aC.cons K aC.nil)])
     . exact W.elim
    |_=>unfold eU at w;rw[l]at w;exact w.elim
def Hld(B:Heap)(l:List Env)(e:Addr)(cls a:a3H)(h:Heap):Prop:=B.StaysIn h/\B.get? e=none/\h.FunFrames B l/\∃fl,h.TracedAtW B e cls a fl
section
variable{M:Model}{A:a3J}{E:VSP}{B:Heap}{L e:Addr}{cls a:a3H}{Q:Unit->a3I->Prop}
def aOD(J:A.frames=some (env::outer))(hf:env.frame=some L)(hh:Hld B (env::outer) e cls a s.heap)(hQ:∀h',Heap.HeldW B (env::outer) e cls a L h'->s.heap.UpToSlots h'->Q () {s with heap:=h'}):wpAny M A (noteFrame (.ref e) env) Q E s:=by
 exists Z,K,V,fl,G,hh;by_cases hl:fl=rawInt L
 . subst hl;exact wpAny_noteFrame_againW hf G (hQ s.heap #[Z,K,V,G] (Heap.UpToSlots.refl _))
 obtain⟨oe,U,T,oT,ys,q1,⟨q2,q3⟩,S,N,q6,q7,r,m,l⟩:=G;subst q2;unfold noteFrame;simp only[hf];refine aYB (aZF q1 S N ?_);have n1:(Value.ref T != Value.none)=true:=by simp
 have n2:¬ ((fl==rawInt L)=true):=by rw[aYK];exact hl
 rw[al n1];refine aYB (aZF r m l ?_);rw[aK n2];exists D,_,aXR.mp l;exists F,_,aXR.mp N;refine aYB (a1D r m D ?_);generalize hg:s.heap.update T (Obj.mapFields λz=>z.setIfInBounds 3 Value.none)=g;have d:∀b,b≠T->g.get? b=s.heap.get? b:=λb hb=>by rw[<- hg];exact aZO _ _ (Ne.symm hb)
 have plain:∀b o,s.heap.get? b=some o->(∀z,o.data ≠ .fields z)->g.get? b=some o:=λb o W f=>by rw[d b (by rintro rfl;rw[r]at W;cases W;exact f ys m)];exact W
 have inB:∀b o,B.get? b=some o->g.get? b=some o:=λb o w=>by rw[d b (by rintro rfl;rw[q6]at w;cases w)];exact Z b o w
 refine wpAny_entryW (s:={s with heap:=g}) J (V.of_keeps λb o W f=>#[o,plain b o W f,rfl]) hf (by show g.get? e=_;rw[d e (Ne.symm q7)];exact q1) inB K S F q3 λh' hn=>?_
 exists m1,m2,m3,m4,hn;exact hQ h' #[m1,K,m2,m3] λb o W f=>m4 b o (plain b o W f) f
def aOE(m:A.frames=some (env::outer))(hf:env.frame=some L)(F:Hld B (env::outer) e cls a s.heap)(G:∀h',Heap.FlyingW B outer e cls a h'->s.heap.UpToSlots h'->Q () {s with heap:=h'}):wpAny M A (leaving env (.ref e)) Q E s:=by unfold leaving;refine aYB (aOD m hf F λK d l=>?_);refine wpAny_landsW (s:={s with heap:=K}) d λJ fl f=>?_;exists D,r,o,W,fl;exact G J #[D,r,o.2.2,W] (l.trans f)
end
def HX1(P:a3L)(w:a3K):CXT:=λouter H s E ev s'=>∃(e C:Addr) (a:a3H) (H1:Hp) (B:Heap),
 ev=.ref e/\s'.os=s.os/\AllBare s'.gens/\Hld B outer e (.ref C) a s'.heap/\Fly P w outer H s H1 B s'.heap/\E (.ref C) none H1
section
variable{K:Fg}{N:List Str}{f:Addr}{A:a3J}{E:XK}
def aOF(m:C.EE=g9 mg E):XOk (HX1 P w) C (cH (CX1 P w) P w K mg base N qual scope f cdv A outer s H E):=by intro O σ H1 s1 ev s' I h;exists e,G,r,D,B,rfl,ho,a,fl,o,c,l,d,h;rw[m]at d;refine aOE I.ok.frames rfl fl λh' F up=>?_;exact#[e,G,r,D,B,rfl,ho.trans I.os,a,F,o.out I ho a rfl rfl rfl F.1 up,d _ l]
end
end D3
namespace L2
open D3
end L2
namespace D3
end D3
namespace PySem
open PySem.Sem (wp)
open Builtin
end PySem
namespace L2
end L2
namespace D3
open PySem.Calls
theorem aC.drop{K:Fg}{F:Hp}:∀(n:Nat) {ds:List D}{U:List V},aC K F ds U->aC K F (ds.drop n) (U.drop n)|0,_,_,h=>h|n+1,[],U,h=>by simp only[aC]at h;subst h;simp[aC]|n+1,d::ds,U,h=>by simp only[aC]at h;exists v,vs,rfl,_,t,h;exact aC.drop n t
theorem aC.take{K:Fg}{F:Hp}:∀(n:Nat) {ds:List D}{U:List V},aC K F ds U->aC K F (ds.take n) (U.take n)|0,_,_,_=>by simp[aC]|n+1,[],U,h=>by simp only[aC]at h;subst h;simp[aC]|n+1,d::ds,U,h=>by simp only[aC]at h;exists v,vs,rfl,r,t,h;simp only[List.take_succ_cons,aC];exact#[v,_,rfl,r,aC.take n t]
def fF(U:List D)(lo hi:Option Int):List D:=(U.drop (HT.sIx U.length 0 lo)).take (HT.sIx U.length U.length hi-HT.sIx U.length 0 lo)
def aC.cut{K:Fg}{F:Hp}(h:aC K F ds U)(lo hi:Option Int):aC K F (fF ds lo hi) (iI U lo hi):=by unfold fF iI;rw[h.length];exact(h.drop _).take _
def nQ(n:Nat)(lo hi:Option Int):Bool:=HT.sIx n 0 lo==0&&HT.sIx n n hi==n
noncomputable def slP(x:Res)(lo hi:Option (Rho->Res))(Y:Rho):Res:=x.thn λm d=>match d with|.lst ds=>fU lo Y λl=>fU hi Y λh=>.ok .fr (.lst (fF ds l h))|.tup ds=>fU lo Y λl=>fU hi Y λh=>if(nQ ds.length l h&&m != .fz)=true then .stuck else .ok .fz (.tup (fF ds l h))|_=>.stuck
section
variable{a:Expr}
def aOG{lo hi:Option Expr}{gl G:Option (Rho->Res)}(ha:PV C X a ga)(Z:POv C X lo gl)(hh:POv C X hi G):PV C X (.Subscript a (.Slice lo hi none p2) pos) (λY=>slP (ga Y) gl G Y):=by refine PE.imp (aJ2 (aKD.or (aJ3.or aNL)) ha (zM Z) (zM hh)) λσ H Q q=>?_;unfold tSl;rw[aU]at q ⊢;exists Y,F,R,w,q;(try dsimp only at w);refine#[Y,F,R,?_];cases T:ga Y with|stuck|exc c=>rw[T]at w;exact w|ok m d=>rw[T]at w;intro v F1 H1 s1 rp _;cases d with|lst ds=>have K:aX (C.at X) F1 H1 σ (fU gl Y λl=>fU G Y λh=>.ok .fr (.lst (fF ds l h))) Q:=aX.step s1 w;refine pD (R.step s1) K λl F2 H2 B R2 J=>pD R2 J λh L V S r W=>.inl ?_;exists p,U,rfl,E,o,((rp.step B).step S).seqL r.sub;exact#[p,U,rfl,E,λD f=>W (.ref D) L _ (aJ.fresh _ r.sub f) #[D,rfl,r.sub.free f,_,aY,o.cut l h] λ_ a ea=>by cases ea;exact f]|tup ds=>((have K:aX (C.at X) F1 H1 σ (fU gl Y λl=>fU G Y λh=>if(nQ ds.length l h&&m != .fz)=true then .stuck else .ok .fz (.tup (fF ds l h))) Q:=aX.step s1 w;refine pD (R.step s1) K λl F2 H2 B R2 J=>pD R2 J λh L V S r W=>.inr ?_;exists p,U,rfl,E,o,((rp.step B).step S).seqT r.sub;have N:nQ ds.length l h=true↔HT.sIx U.length 0 l=0/\HT.sIx U.length U.length h=U.length:=by rw[o.length];unfold nQ;simp);cases A:nQ ds.length l h with|true=>(cases m with|fz=>rw[A,aK (by decide)]at W;(have e:=N.mp A;have ec:fF ds l h=ds:=by unfold fF;rw[<- o.length,e.1,e.2,o.length,a04,Nat.sub_zero];exact a1K);rw[ec]at W;exact .inr #[p,U,rfl,E,e,W (.ref p) L V (.refl r.sub) ((rp.step B).step S) (by nofun)]|fr|bo=>rw[A,al (by decide)]at W;exact W.elim)|false=>rw[A,aK (by simp)]at W;refine .inl #[p,U,rfl,E,λz=>?_,λD f=>W (.ref D) _ _ (aJ.laid (.tup (iI U l h)) r.sub f) (aB.tup_of (r.sub.free f) (o.cut l h)) (by nofun)];rw[N.mpr z]at A;cases A)|_=>exact(show False from w).elim
end
def bR(kvs:List (Key×D))(k:Key):Option D:=(kvs.find? λkv=>decide (kv.1=k)).map (·.2)
theorem aF.val{K:Fg}{F:Hp}:∀{kvs:List (Key×D)}{U:List (Key×V)} (k:Key),aF K F kvs U->match bR kvs k with|some d=>∃v,dW U k=some v/\aB K F d v|none=>dW U k=none
 |[],U,k,h=>by simp only[aF]at h;subst h;rfl|(a,d)::kvs,U,k,h=>by simp only[aF]at h;exists y,ys,rfl,r,t,h;by_cases e:a=k;{(have E:bR ((a,d)::kvs) k=some d:=by simp[bR,aZW,e]);rw[E];exact#[y,tJ e,r]};(have E:bR ((a,d)::kvs) k=bR kvs k:=by simp[bR,aZW,e]);rw[E,tK (p:=(a,y)) e];exact aF.val k t
def rIxK:R2:=λx y H Q=>∃a v,x=.ref a/\iJ H a y (some v)/\Q v H
def aOH(l:X.A.units+1<cLine):IxR X rIxK:=by
 intro value slice O s σ H x y v u Q I rx ry h hsub;exists a,W,rfl,g,q,h;cases(show v=Value.ref a from rx)
 have d:s.TypeIs (.ref a) "dict":=aKO I g;unfold subscriptTail;refine aYB ?_;rw[aZ4 d.not_modules];refine aYB (aZ5 d PySem.F.slot_dict_getitem.lookup ?_);have f:wpAny (model X.prog X.w) X.A (subscripted slice false (.ref a) u) (λr S=>wpAny (model X.prog X.w) X.A (letTemporaryGo value (.ref a) r>>=λ_=>pure r) (EP X O σ Q) X.xe S) X.xe s:=by rw[hsub];exact aZ6 (aKL l I g ry λz S m rz=>aYB (aZ7 (aYA #[W,H,m,rz,q])))
 first
  |exact aYA (aYB f)
  |exact aYB (aYA (aYB f))
  |exact aYB f
def ixK:Md->D->Md->D->Option (Md×D):=λ_ x _ y=>match x,gK y with|.dct kvs,some k|.dcf kvs,some k=>(bR kvs k).map λd=>(.fz,d)|_,_=>none
def aOI{K:Fg}{F:Hp}{m n:Md}{kvs:List (Key×D)}{k:Key}{u:V}(s:aD F H)(d:Rp K F H m (.dcf kvs) v)(f:Rp K F H n y u)(E:gK y=some k):∃a U,v=.ref a/\aF K F kvs U/\iJ H a u (dW U k):=by cases m with|fz=>have d:aB K F (.dcf kvs) v:=d;simp only[aB]at d;exists a,o,U,rfl,hf,r,d;exact#[a,U,rfl,r,.inl #[U,k,.inr #[o,s _ _ hf],nK E f,rfl]]|fr|bo=>exists a,_,_,q,d;exact q.elim
def uA{K:Fg}{F:Hp}{m n:Md}{kvs:List (Key×D)}{k:Key}{u:V}(s:aD F H)(f:Rp K F H m (.dct kvs) v)(r:Rp K F H n y u)(E:gK y=some k):∃a U,v=.ref a/\H a=some (.dK U)/\aF K F kvs U/\iJ H a u (dW U k):=by exists a,U,rfl,d,rk,f.dict s;exact#[a,U,rfl,d,rk,.inl #[U,k,.inl d,nK E r,rfl]]
section
variable{a:Expr}
def inK(neg:Bool):Md->D->Md->D->Option (Md×D):=λ_ x _ y=>match gK x,y with|some k,.dct kvs=>some (.fz,.bl (if neg then !(bR kvs k).isSome else(bR kvs k).isSome))|_,_=>none
def aAP{K:Fg}{F:Hp}{kvs:List (Key×D)}{U:List (Key×V)}(k:Key)(h:aF K F kvs U):(dW U k).isSome=(bR kvs k).isSome:=by have:=aF.val k h;cases e:bR kvs k with|none=>rw[e]at this;have this:dW U k=none:=this;rw[this];rfl|some d=>rw[e]at this;exists v,ev,_,this;rw[ev];rfl
def aAQ(f:X.A.units+1<cLine):OpD C X (compareOp .In) (inK false):=by refine#[λx y H Q=>∃a o,y=.ref a/\iJ H a x o/\Q (.bl o.isSome) H,?_,?_];{intro O s σ H x y v u Q I rx ry h;exists a,o,rfl,g,q,h;cases(show u=Value.ref a from ry);exact d_in f I g rx λS l=>#[.bl o.isSome,H,l,rfl,q]};intro F H m x n y v u k d Q s rx ry e w;unfold inK at e;split at e;{rename_i K kvs E;cases e;exists p,U,rfl,r,rk,g,uA s ry rx E;exact#[p,_,rfl,g,by rw[aAP K rk];exact w _ F H (.refl s) (cI _) (by nofun)]};cases e
def aAR(f:X.A.units+1<cLine):OpD C X (compareOp .NotIn) (inK true):=by refine#[λx y H Q=>∃a o,y=.ref a/\iJ H a x o/\Q (.bl (!o.isSome)) H,?_,?_];{intro O s σ H x y v u Q I rx ry h;exists a,o,rfl,g,q,h;cases(show u=Value.ref a from ry);exact aKM f I g rx λS l=>#[.bl (!o.isSome),H,l,rfl,q]};intro F H m x n y v u k d Q s rx ry e w;unfold inK at e;split at e;{rename_i K kvs E;cases e;exists p,U,rfl,r,rk,g,uA s ry rx E;exact#[p,_,rfl,g,by rw[aAP K rk];exact w _ F H (.refl s) (cI _) (by nofun)]};cases e
end
def fV(kvs:List (Key×D))(k:Key)(d:D):List (Key×D):=if(kvs.any λkv=>decide (kv.1=k))=true then kvs.map (λkv=>if kv.1=k then(kv.1,d)else kv)else kvs++[(k,d)]
theorem aF.keys{K:Fg}{F:Hp}:∀{kvs:List (Key×D)}{U:List (Key×V)},aF K F kvs U->U.map (·.1)=kvs.map (·.1)|[],U,h=>by simp only[aF]at h;subst h;rfl|(k,d)::kvs,U,h=>by simp only[aF]at h;exists y,ys,rfl,_,t,h;simp[aF.keys t]
theorem aF.snoc{K:Fg}{F:Hp}{k:Key}{d:D}{v:V}(r:aB K F d v):∀{kvs:List (Key×D)}{U:List (Key×V)},aF K F kvs U->aF K F (kvs++[(k,d)]) (U++[(k,v)])|[],U,h=>by simp only[aF]at h;subst h;simp only[a0J,aF];exact#[v,[],rfl,r,rfl]|(f,l)::kvs,U,h=>by simp only[aF]at h;exists y,ys,rfl,a,t,h;simp only[a0B,aF];exact#[y,_,rfl,a,aF.snoc r t]
theorem aF.repl{K:Fg}{F:Hp}{k:Key}{d:D}{v:V}(r:aB K F d v):∀{kvs:List (Key×D)}{U:List (Key×V)},aF K F kvs U->aF K F (kvs.map λkv=>if kv.1=k then(kv.1,d)else kv) (U.map λkv=>if kv.1=k then(kv.1,v)else kv)|[],U,h=>by simp only[aF]at h;subst h;simp[aF]|(l,m)::kvs,U,h=>by simp only[aF]at h;exists y,ys,rfl,f,t,h;have a:=aF.repl (k:=k) r t;by_cases e:l=k;{simp only[aZZ,e,aZE,aF];exact#[v,_,rfl,r,a]};simp only[aZZ,e,aZC,aF];exact#[y,_,rfl,f,a]
def aF.put{K:Fg}{F:Hp}{k:Key}{d:D}{kvs:List (Key×D)}{U:List (Key×V)}(h:aF K F kvs U)(r:aB K F d v):aF K F (fV kvs k d) (cZ U k v):=by(have e:(U.any λkv=>decide (kv.1=k))=(kvs.any λkv=>decide (kv.1=k)):=by(have:=h.keys;have a:∀{f:Type} (l:List (Key×f)),(l.any λkv=>decide (kv.1=k))=(l.map (·.1)).any (λx=>decide (x=k)):=λl=>by rw[List.any_map];rfl);rw[a,a,this]);unfold fV cZ;rw[e];split;{exact aF.repl r h};exact aF.snoc r h
def aF.len{K:Fg}{F:Hp}{kvs:List (Key×D)}{U:List (Key×V)}(h:aF K F kvs U):U.length=kvs.length:=by have:=congrArg List.length h.keys;simpa using this
section
variable{a b:Expr}
def aOJ(B:X.A.units+1<cLine)(ha:PV C X a ga)(D:PV C X b gb)(hs:nE b):PV C X (.Subscript a b pos) (λY=>op2 ixK (ga Y) (gb Y)):=by refine PE.imp (tE (aOH B) ha D hs) λσ H Q q=>lE (λF H m x n y v u k d Q s o l e w=>?_) q;unfold ixK at e;split at e;{rename_i kvs K f;exists p,U,rfl,J,rk,g,uA s o l f;cases E:bR kvs K with|none=>rw[E]at e;cases e|some G=>rw[E]at e;cases e;have:=aF.val K rk;rw[E]at this;exists V,ev,r,this;rw[ev]at g;exact#[p,V,rfl,g,w V F H (.refl s) r (by nofun)]};{rename_i kvs K f;exists p,U,rfl,rk,g,aOI s o l f;cases E:bR kvs K with|none=>rw[E]at e;cases e|some G=>rw[E]at e;cases e;have:=aF.val K rk;rw[E]at this;exists V,ev,r,this;rw[ev]at g;exact#[p,V,rfl,g,w V F H (.refl s) r (by nofun)]};cases e
def aOK{op:CmpOp}(ho:op=if neg then .NotIn else .In)(d:X.A.units+1<cLine)(ha:PV C X a ga)(l:PV C X b gb)(f:behindInMarks op b=false):PV C X (.Compare a [op] [b] pos) (λY=>op2 (inK neg) (ga Y) (gb Y)):=by cases neg with|false=>subst ho;exact lF (aAQ d) ha l f|true=>subst ho;exact lF (aAR d) ha l f
end
open PySem.SeqAt PySem.MeetsSeq
def aOL{M:Model}{A:a3J}{E:VSP}{a:Type}{r:Std.Legacy.Range}{f:Nat->a->Sem (ForInStep a)}{b:a}{Q:a->a3I->Prop}(h:wpAny M A (forIn (List.range' r.start r.size r.step) b f) Q E s):wpAny M A (forIn r b f) Q E s:=by rw[Std.Legacy.Range.forIn_eq_forIn_range'];exact h
theorem aOM(l:Addr)(items:Array a3H)(n:Nat)(F:Option Addr)(S:Array (Option a3H))(x:a3H)(e:a3H->Bool)(j:Nat)(J:j<items.size)(hit:e items[j]=true)(f:∀m (G:m<items.size),m<j->e items[m]=false):Meets (Builtin.«tuple.index» #[[.ref l,x],[]]) (λA R s=>s.heap.get? l=some #[.type "tuple",F,.seq items n,S]/\(∀y,y∈items->EqAt A.in1 s y x (e y))/\R (.ok (.ret (.int j s.toks))) {s with toks:=s.toks+1}):=
 .of_wp λprog w A R s h=>by exists hp,g,d,tk,os,s;exists r,B,h,h;wp_walk using wpAny_loadPart' r,aOL;(rw[Nat.min_self];have E:(List.range' (Std.Legacy.Range.start [:items.size]) (Std.Legacy.Range.size [:items.size]) (Std.Legacy.Range.step [:items.size]))=List.range' 0 items.size 1:=by simp[Std.Legacy.Range.size]);rw[E];refine a0D _ (λrest b s'=>b=(none,())/\s'=#[hp,g,d,tk,os]/\∃i,rest=List.range' i (items.size-i) 1/\i<=j) _ ?_ ?_ _ _ #[rfl,rfl,0,rfl,aYO _];{rintro y rest b s' ⟨rfl,rfl,i,hr,hi⟩;(have a:i<items.size:=by lia);(have hs:items.size-i=(items.size-(i+1))+1:=by lia);(rw[hs,List.range'_succ]at hr;cases hr;have o:items[y]? = some items[y]:=by simp[a]);dsimp only;rw[o];dsimp only;refine aYB (B _ (Array.getElem_mem a) prog w _ _ ?_);by_cases D:y=j;{subst D;rw[hit,al rfl];wp_walk;exact#[_,rfl,h]};rw[f y a (by lia),aK aX8];exact aYA #[rfl,rfl,y+1,rfl,by lia]};rintro b s' ⟨rfl,rfl,i,hr,hi⟩;(have:(List.range' i (items.size-i) 1).length=0:=by rw[<- hr];rfl);simp at this;lia
def SqT.plain{a:Addr}(I:L2.Inv X O σ H s)(h:SqT X.K H a U):∃its:List a3H,aM U its/\gR s.heap a its.toArray/\U.length<=sizeLine:=by rcases h with h|⟨o,its,n,hk,hc,hd,hs,hz,r⟩;{exists z,its,r,p,h.ok I.hok;exact#[its,r,p,z]};exact#[its.toList,r,#[o,I.kIn a o hk,hc,hd,n,by simpa using hs],by rw[r.length,aX5];exact hz]
def aAS(K:Fg)(td ty:TE):TE:=λσ H Q=>td σ H λx H1=>∃a xs0,x=.ref a/\SqT K H1 a xs0/\ty σ H1 λy d=>∃U j,SqT K d a U/\fB y=true/\U.all fB=true/\U.findIdx? (λz=>eqV z y)=some j/\Q (.int (j:Nat)) d
theorem aAT{y:V}:∀{U:List V}{us:List a3H},aM U us->U.all fB=true->us.findIdx? (eqU y)=U.findIdx? λz=>eqV z y|_,_,.nil,_=>rfl|z::U,u::us,.cons r t,f=>by rw[aZR,aZL]at f;rw[a08,a08,tF r f.1,aAT t f.2]
section
variable{o:Expr}{ty:TE}
def aON(ho:PE X o td)(he:PE X e ty)(m:M1 X o "index" apos e cpos):PE X (.Call (.Attribute o "index" apos) [e] [] cpos) (aAS X.K td ty):=by
 intro O s σ H Q I h;refine a1L m.base m.few m.line PySem.F.plainAttrs_tuple PySem.F.slot_tuple_index PySem.F.type_tuple_index (thn (ho O s σ H _ I h) λu Z E=>?_);exists x,H1,T,rx,a,V,rfl,hq,q1,E;cases(show u=Value.ref a from rx)
 obtain⟨D,_,⟨B,N,c0,d0,_⟩,_⟩:=SqT.plain T hq;refine#[#[B,N,c0],λb eb=>by cases eb;exact#[B,N,d0],?_]
 rw[m.trees];refine aZT rfl (aZU (aYQ (thn (he O Z σ H1 _ T q1) λiv s2 d=>aYP ?_)));exists y,H2,S,ry,U,j,f,fy,fs,G,q2,d;obtain⟨its,r,⟨⟨cls,dd,data,W⟩,J,co,_,n,L⟩,E⟩:=SqT.plain S f;simp only at co L;subst co L;rw[<- aAT r fs]at G;exists jl,hit,l,List.findIdx?_eq_some_iff_getElem.mp G
 exact call_meets PySem.F.slot_tuple_index #[_,J,rfl] PySem.F.entry_tuple_index (PySem.F.args_tuple_index_2 _ _) (aOM a its.toArray n dd W iv (eqU y) j (by simpa using jl) (by simpa using hit) (λk hk A=>by
  have:=l k A
  simpa using this)) #[J,λw hw=>k9 ry fy r fs w (by simpa using hw),#[.int (j:Nat),H2,S.tok _,#[_,rfl],q2]]
end
def lT(o r:Res):Res:=o.thn λ_ d=>match d with
 |.tup ds=>r.thn λ_ y=>if(bY y&&ds.all bY)=true then(match ds.findIdx? (λz=>eqD z y)with|some j=>.ok .fz (.int (j:Nat))|none=>.stuck)else .stuck
 |_=>.stuck
theorem aAU{y:D}(a:bY y=true):∀{ds:List D},ds.all bY=true->(ds.map vOf).findIdx? (λz=>eqV z (vOf y))=ds.findIdx? λz=>eqD z y|[],_=>rfl|d::ds,h=>by rw[aZR,aZL]at h;rw[aZZ,a08,a08,aAD h.1 a,aAU a h.2]
section
variable{o:Expr}{go:Rho->Res}
def aOO(ho:PV C X o go)(J:PV C X e g)(m:M1 X o "index" apos e cpos):PV C X (.Call (.Attribute o "index" apos) [e] [] cpos) (λY=>lT (go Y) (g Y)):=by refine PE.imp (aON ho J m) λσ H Q q=>?_;unfold aAS;rw[aU]at q ⊢;exists Y,F,R,w,q;(try dsimp only at w);refine#[Y,F,R,?_];cases E:go Y with|stuck|exc c=>rw[E]at w;exact w|ok m d=>rw[E]at w;intro v F1 H1 s1 rp _;cases d with|tup ds=>((exists a,U,rfl,A,G,rp.seqT s1.sub;refine#[a,U,rfl,A,?_];rw[aU];refine#[Y,F1,R.step s1,?_];have f:aX (C.at X) F1 H1 σ ((g Y).thn λ_ y=>if(bY y&&ds.all bY)=true then(match ds.findIdx? (λz=>eqD z y)with|some j=>.ok .fz (.int (j:Nat))|none=>.stuck)else .stuck) Q:=aX.step s1 w);cases B:g Y with|stuck|exc c=>rw[B]at f;exact f|ok n y=>rw[B]at f;intro u L D S r _;have W:=aX.step S f;simp only[Res.thn]at W;split at W;{rename_i hf;rw[aZL]at hf;have l:SqT X.K D a U:=aD.seqT S.same A;have ev:=pJ hf.1 r;have es:=pK hf.2 G;subst ev;subst es;split at W;{rename_i j ej;exact#[_,j,l,pL hf.1,pM hf.2,by rw[aAU hf.1 hf.2];exact ej,W _ L D (.refl S.sub) (fC _) (by nofun)]};exact W.elim};exact W.elim)|_=>exact(show False from w).elim
end
def fG(kb:List (Key×D)):List (Key×D)->Option Bool|[]=>some true|(k,d)::r=>match bR kb k with|none=>some false|some e=>(match aT d,aT e with|some p,some q=>if(eR p&&eR q)=true then(fG kb r).map λb=>PyData.eqv p q&&b else none|_,_=>none)
theorem aAV{O:LAO}{σ:L2.St}{F H:Hp}{s:a3I}(hu:X.A.units+64<cLine)(I:L2.Inv X O σ H s)(sF:aD F H){kb:List (Key×D)}{ys:List (Key×V)}{S:List (Key×a3H)}(rb:aF X.K F kb ys)(f:KV ys S):∀{m:List (Key×D)}{U:List (Key×V)}{l:List (Key×a3H)}{r:Bool},aF X.K F m U->KV U l->fG kb m=some r->W.KeqHits X.A.in1 s S l r|[],U,l,r,h,kv,e=>by simp only[aF]at h;subst h;cases kv;cases e;exact .nil|(k,d)::m,U,l,r,h,kv,e=>by simp only[aF]at h;exists y,aa,rfl,ry,t,h;cases kv with|cons h1 t1=>rename_i q1 ae;exists k1,Z,q1;exists e1,r1,h1;dsimp only at e1 r1;subst e1;unfold fG at e;have a:=aF.val k rb;have o:=f.val k;cases eg:bR kb k with|none=>rw[eg]at e a;cases e;have a:dW ys k=none:=a;rw[a]at o;exact .miss (cQ.none_of o)|some ee=>rw[eg]at e a;exists v2,J,B,a;rw[J]at o;exists T,L,E,cQ.some_of o;dsimp only at e;split at e;{rename_i p q ep eq;split at e;{rename_i hs;cases N:fG kb m with|none=>rw[N]at e;cases e|some b=>rw[N]at e;cases e;rw[aZL]at hs;have af:=a0M hs.1;obtain⟨⟨as,ra⟩,ca⟩:=pE I sF d p y Z ry r1 ep;obtain⟨⟨bs,G⟩,cb⟩:=pE I sF ee q v2 T B E eq;exact .hit L (a0F p q X.A.in1 s Z T as bs ra G ca cb (by show X.A.units+1+min p.depth q.depth<cLine;have:=a0G p.depth q.depth;lia)) (aAV hu I sF rb f t t1 N)};cases e};cases e
def j9(w:a3K)(K:Fg):List (Str×Str)->List DictEntry->Prop|[],es=>es=[]|(z,f)::r,es=>∃t a es',es=#[PyData.keyHash w.params z,.str z t,.ref a]::es'/\W.nsIn K mainGlobals f=some (some (.ref a))/\j9 w K r es'
structure i9(w:a3K)(K:Fg)(mg:SOV)(x:Str)(tb:List (Str×Str)):Prop where
 ex:∃a ob es ep,mg x=some (.ref a)/\K.lookup a=some ob/\ob.ExactDict/\ob.data=.dict es ep/\j9 w K tb es.toList
 nd:(tb.map (·.1)).Nodup
theorem j9.pairs{P:a3L}{w:a3K}{K:Fg}:∀{tb:List (Str×Str)}{es:List DictEntry},j9 w K tb es->∃kvs:List (Key×a3H),Pairs (cB P w) es kvs/\kvs.map (·.1)=tb.map (λp=>.inr p.1)/\(∀e∈es,∃k,(cB P w).is k e.key=true/\e.hash=(cB P w).hash k)/\∀z f,tb.lookup z=some f->∃a,valueAt kvs (.inr z)=some (.ref a)/\W.nsIn K mainGlobals f=some (some (.ref a))|[],es,h=>by have h:es=[]:=h;subst h;refine#[[],.nil,rfl,λe h=>?_,λz f h=>?_];{cases h};cases h|(z,f)::r,es,h=>by(exists t,a,E,rfl,hn,D,h;exists kvs,p1,p2,B,A,j9.pairs (P:=P) D;have m:(cB P w).is (.inr z) (.str z t)=true:=by show Value.isStrOf z (.str z t)=true;simp[Value.isStrOf]);refine#[(.inr z,.ref a)::kvs,.cons m rfl p1,by simp[p2],λe l=>?_,λZ F d=>?_];{rcases aXV.mp l with rfl|l;{exact#[.inr z,m,rfl]};exact B e l};rw[a0K]at d;unfold valueAt;by_cases e:Z=z;{subst e;rw[a0Y]at d;cases d;exact#[a,by simp[aZW],hn]};have:(Z==z)=false:=aXI.mpr e;rw[this]at d;exists G,q1,o,A Z F d;refine#[G,?_,o];unfold valueAt at q1;simp[aZW];simpa[Ne.symm e]using q1
abbrev Tbl:=List (Str×Str)
abbrev Fns:=List Str
def kA(tb:List (Str×Str))(r:Res):Res:=r.thn λ_ d=>match d with
 |.str z=>(match tb.lookup z with|some f=>.ok .fz (.fn f)|none=>.stuck)
 |_=>.stuck
def pU(Φ:Str->List D->Res)(fs:List Str)(n:Nat)(r:Res)(as:bC):Res:=match r with|.ok .fz (.fn f)=>if fs.contains f=true then aV n (Φ f) as else .stuck|_=>.stuck
section
variable{b:Expr}{es:List Expr}{tb:List (Str×Str)}
def aOP(T:i9 X.w X.K X.mg x tb)(hg:Gl X x)(hb:PV C X b gb)(hs:tN b)(hd:(x==("__debug__":Str))=false):PV C X (.Subscript (.Name x p) b pos) (λY=>kA tb (gb Y)):=by
 exists a,ob,es,ep,V,hk,xd,o,te,T.ex;intro O s σ H Q I h;rw[aU]at h;exists Y,F,R,w,h;have r:=hb O s σ H (λy A=>∃z f,y=.str z/\tb.lookup z=some f/\∀fa,W.nsIn X.K mainGlobals f=some (some (.ref fa))->Q (.ref fa) A) I (by
  rw[aU];refine#[Y,F,R,?_];cases B:gb Y with
  |stuck|exc c=>rw[B]at w;exact w|ok m d =>
   rw[B]at w;intro v F1 H1 s1 r1 _;have l:aX (C.at X) F1 H1 σ (kA tb (.ok m d)) Q:=aX.step s1 w;unfold kA at l;rw[Res.thn_ok]at l;cases d with|str z=>(dsimp only at l;cases E:tb.lookup z with|none=>rw[E]at l;exact l.elim|some f=>rw[E]at l;refine#[z,f,?_,E,λfa hf=>l (.ref fa) F1 H1 (.refl s1.sub) (by show aB _ _ _ _;simp only[aB];exact#[fa,rfl,hf]) (by nofun)];exact(nK (k:=.inr z) rfl r1))|_=>exact l.elim)
 refine aKN PySem.F.slot_dict_getitem.lookup hs (mX I hg V (thn r λiv S ⟨y,A,G,J,z,f,ey,E,q⟩=>?_) hd);subst ey;exists kvs,p1,p2,N,L,j9.pairs (P:=X.prog) te;have Z:S.heap.get? a=some ob:=G.kIn a ob hk
 have D:S.heap.DictOf (cB X.prog X.w) a kvs:=#[ob,es,ep,Z,xd,o,λe he=>N e (by simpa using he),p1,by
  rw[p2];have:=T.nd;unfold List.Nodup at this ⊢;rw[a1M]at this ⊢;exact this.imp λh z=>h (Sum.inr.inj z)]
 exists fa,v1,v2,L z f E;exact#[D.typeIs,wpAny_getItem_of (jV (k:=.inr z) J) D.mapOf v1 #[.ref fa,A,G.tok _,rfl,q fa v2]]
def aOQ{fs:List Str}{Φ:Str->List D->Res}(F:∀f,fs.contains f=true->FnV X.prog X.w X.K X.mg X.base CX k f n (Φ f))(hr:bB k X.A)(hx:XOk CX (C.at X) X)(hv:PE X (.Name x p) (fR i))(ha:PAv C X (e::es) gs)(he:starEach (e::es) X.env=(false,eval e X.env)::starEach es X.env)(o:(backTo pos (starEach es X.env)).any (·.1)=false):PV C X (.Call (.Name x p) (e::es) [] pos) (λY=>pU Φ fs n (dG Y i) (gs Y)):=by intro O s σ H Q I h;rw[aU]at h;exists Y,G,R,w,h;unfold pU at w;split at w;rotate_left;{exact w.elim};rename_i f eg;split at w;rotate_left;{exact w.elim};(rename_i hf;exists fa,fd,ps,FF,hm,hk,hb,(F f hf).ex;have T:Y[i]? = some (some (false,.fn f)):=by unfold dG at eg;split at eg;{rename_i d q;cases eg;exact q};{cases eg};cases eg);(exists v,ev,l,_,R.slot i false (.fn f) T;have l:aB X.K G (.fn f) v:=l;simp only[aB]at l;exists a,rfl,na,l;have ea:a=fa:=by have:=a1N I.ok.mod.kin I.ok.mod.glob na;rw[hm]at this;cases this;rfl);subst ea;refine aY5 (thn (hv O s σ H (λV H'=>V=.ref a/\H'=H) I #[.ref a,ev,rfl,rfl]) λu s0 ⟨V,H0,N,Z,e1,e2⟩=>?_);subst e1 e2;obtain rfl:u=Value.ref a:=Z;refine a02 (h₀:=X.base) N.ok.mod.kin hk (thn (ha pos O s0 σ H0 (λvs H1=>spV X.K X.mg n (Φ f) vs H1 Q λu _ H'=>∃c,X.mg c=some u/\C.EE c σ H') N ?_) λus S ⟨vs,H1,B,r,q⟩=>#[B.kIn,tU FF hr hb (λe s' hc=>hx O σ H1 S e s' B hc) B r q]) he o;refine#[Y,G,R,?_];cases L:gs Y with|stuck|exc c=>rw[L]at w;exact w|ok U=>rw[L]at w;intro vs F1 H1 S r1;have W:aX (C.at X) F1 H1 σ (aV n (Φ f) (.ok U)) Q:=aX.step S w;unfold aV at W;rw[bC.thn_ok]at W;cases E:c7 U with|none=>rw[E]at W;exact W.elim|some ds=>rw[E]at W;dsimp only at W;split at W;{rename_i hn;have J:=r1.fz E;refine#[by rw[J.length];exact hn,F1,ds,S.sub,J,?_];cases ep:Φ f ds with|stuck=>rw[ep]at W;exact W|exc c=>rw[ep]at W;exact λF' H' u st hu=>#[c,hu,W F' H' st]|ok m d=>rw[ep]at W;cases m with|bo=>exact W.elim|fz|fr=>exact#[by decide,W]};exact W.elim
end
def pV:Key->D|.inl i=>.int i|.inr x=>.str x
def fW:Key->Bool|.inl _=>true|.inr x=>decide (x.length<=sizeLine)&&PyData.strOk x
def is_kV{k:Key}(h:(cB P w).is k u=true):aG (kV k) u:=by cases k with|inl i=>have h:Value.isInt i u=true:=h;cases u <;> simp[Value.isInt]at h;subst h;exact#[_,rfl]|inr x=>have h:Value.isStrOf x u=true:=h;cases u <;> simp[Value.isStrOf]at h;subst h;exact#[_,rfl]
theorem aAW{K:Fg}{F:Hp}:∀{kvs:List (Key×D)}{U:List (Key×V)},aF K F kvs U->(kvs.all λkv=>fW kv.1)=true->aC K F (kvs.map λkv=>pV kv.1) (U.map λkv=>kV kv.1)|[],U,h,_=>by simp only[aF]at h;subst h;simp[aC]|(k,d)::kvs,U,h,a=>by simp only[aF]at h;exists y,ys,rfl,_,t,h;rw[aZR,aZL]at a;simp only[aZZ,aC];refine#[_,_,rfl,?_,aAW t a.2];cases k with|inl i=>simp only[pV,aB,kV]|inr x=>have A:(decide (x.length<=sizeLine)&&PyData.strOk x)=true:=a.1;rw[aZL,a0L]at A;show aB K F (.str x) (.str x);unfold aB;exact#[rfl,A]
def aR.frz{K:Fg}{F:Hp}(R:aR K F0 H0 F H σ Y){d:D}(e:Y[i]? = some (some (true,d))):∃F',aD F F'/\aR K F0 H0 F' H σ (Y.set i (some (false,d))):=by
 exists v,ev,W,hn,R.slot i true d e;exists x,rfl,nx,t,W;exists o,ho,r,t.freeze nx;have sm:aD F (upd F x o):=λb u q=>by rw[aN (bT q nx)];exact q
 have T:i<Y.length:=(aXY.mp e).1;refine#[upd F x o,sm,R.st.freeze (hn rfl x rfl) nx ho,λj m N B=>?_,λj k G d2 a L e1 e2 q1 Z=>?_,by rw[aZP];exact R.len]
 . by_cases l:j=i;{subst l;rw[aX0 T]at B;cases B;exact#[.ref x,ev,r,by nofun]};rw[aX1 (λz=>l z.symm)]at B;exists V,E,A,J,R.slot j m N B;refine#[V,E,?_,J];cases m with|false=>exact aB.mono sm _ _ A|true=>(exists a,rfl,na,t',A;have ax:a≠x:=λz=>by subst z;exact R.apart j i N d a l B e E ev);refine#[a,rfl,by rw[aN ax];exact na,?_];cases N with|lst ds|dct ds=>exists U,q,f,t';exact#[U,q,f.mono sm _ _]|ins c fs=>exists C,dx,gs,n,q,f,t';exact#[C,dx,gs,n,q,f.mono sm _ _]|set ks=>exists S,q,f,t';exact#[S,q,f]|dtn ds=>exists U,q,f,t';exact#[U,q,f.mono sm _ _]|_=>exact t'.elim
 . have own:∀{j:Nat}{G:D},(Y.set i (some (false,d)))[j]? = some (some (true,G))->Y[j]? = some (some (true,G)):=λ{j G} z=>by
     by_cases l:j=i
     . subst l;rw[aX0 T]at z;cases z
     . rw[aX1 (λy=>l y.symm)]at z;exact z
   exact R.apart j k G d2 a L (own e1) (own e2) q1 Z
def lU(Y:Rho)(i:Nat):aH:=match Y[i]? with|some (some (true,d))=>.nx (Y.set i (some (false,d)))|_=>.stuck
def aOR{g:Rho->aH}(h:PBv C X sts g):PBv C X sts (λY=>(lU Y i).thn g):=by refine PSs.imp h λE σ H q=>?_;exists Y,F,R,w,q;dsimp only at w;unfold lU at w;split at w;{rename_i d e;exists F',sm,r,R.frz e;exact#[_,F',r,bU.mono sm w]};exact w.elim
def Ent(w:a3K):List Str->List (Int×a3H)->Prop|[],l=>l=[]|x::U,l=>∃t r,l=(hashStr w x,.str x t)::r/\Ent w U r
def kB(w:a3K):Bool:=w.params.followText "set-order"
def SetX(w:a3K)(h:Heap)(a:Addr)(U:List Str):Prop:=∃o es ep t,h.get? a=some o/\o.ExactSet/\o.data=.set es ep t/\Ent w U es.toList/\U.Nodup/\U.length<scanBound/\t.fits es.size=true/\t.led = !kB w/\(U=[]\/t.plain=false)
def sob(w:a3K):Obj:={ cls:=.type "set",dict:=none,data:=.set #[] 0 (.fresh 0 0 (!kB w)) }
def Small(m:Nat):Prop:=m=7\/m=15\/m=31
def SetM(w:a3K)(h:Heap)(a:Addr)(U:List Str):Prop:=∃o es ep t,h.get? a=some o/\o.ExactSet/\o.data=.set es ep t/\Ent w U es.toList/\U.Nodup/\U.length<scanBound/\t.fits es.size=true/\t.led = !kB w/\(U=[]\/t.plain=false)/\Small t.mask/\t.dummies = #[]
section
def Wide(h:Heap)(a:Addr)(n:Nat):Prop:=∀o es ep t,h.get? a=some o->o.data=.set es ep t->n<=t.mask
end
noncomputable def lts(x y:Str):Bool:=ltCps x.cps.toList y.cps.toList
def lV{y:Str}:lts x y=true↔x.cps.toList<y.cps.toList:=by unfold lts;rw[ltCps_eq,a0L]
def pW(x:Str):lts x x=false:=by cases h:lts x x with|false=>rfl|true=>exact absurd (lV.mp h) (List.lt_irrefl _)
def uB{y:Str}(a:lts x y=true)(b:lts y z=true):lts x z=true:=lV.mpr (List.lt_trans (lV.mp a) (lV.mp b))
def uC{y:Str}(a:lts x y=false)(b:lts y x=false):x=y:=by
 have f:¬ x.cps.toList<y.cps.toList:=λh=>by rw[lV.mpr h]at a;cases a
 have d:¬ y.cps.toList<x.cps.toList:=λh=>by rw[lV.mpr h]at b;cases b
 have e:=List.le_antisymm (List.not_lt.mp d) (List.not_lt.mp f);cases x;cases y;exact congrArg Str.mk (Array.ext' e)
theorem aAX:∀{l:List Str}{p:Str},risingS p l=true->∀x∈l,lts x p=false|y::l,p,h,x,hx=>by have h:(!lts y p&&risingS y l)=true:=h;rw[aZL,a1O]at h;rcases aXV.mp hx with rfl|hx;{exact h.1};have a:=aAX h.2 x hx;cases q:lts x p with|false=>rfl|true=>cases d:lts p y with|true=>rw[uB q d]at a;cases a|false=>have:=uC d h.1;subst this;rw[q]at a;cases a
def sx(w:a3K)(l:Addr)(ys:List Str):HO:=.ext λh=>SetX w h l ys
theorem aAY:∀{ys:List Str}{us:List a3H},StrsAre us ys->aM (ys.map V.str) us|[],_,.nil=>.nil|_::ys,_,.cons y t h=>.cons #[t,rfl] (aAY h)
def aAZ:bootBuiltins "sorted"=some (.builtin "sorted"):=by decide +kernel
def txD:List D->Option (List Str)|[]=>some []|.str x::ds=>(txD ds).map (x :: ·)|_::_=>none
theorem aA0{K:Fg}{F:Hp}:∀{ds:List D}{U:List V}{ns:List Str},txD ds=some ns->aC K F ds U->U=ns.map V.str/\∀x∈ns,x.length<=sizeLine/\PyData.strOk x=true|[],U,ns,e,r=>by cases e;simp only[aC]at r;subst r;exact#[rfl,λx hx=>by cases hx]|d::ds,U,ns,e,r=>by cases d with|str x=>(simp only[txD]at e;cases q:txD ds with|none=>rw[q]at e;cases e|some ms=>rw[q]at e;cases e;simp only[aC]at r;exists v,vs,rfl,a,f,r;exists rfl,m,aA0 q f;simp only[aB]at a;exists rfl,o,a;exact#[rfl,λy l=>(aXV.mp l).elim (λe=>by subst e;exact o) (m y)])|_=>cases e
theorem aA1{K:Fg}{F:Hp}:∀{ns:List Str},(∀x∈ns,x.length<=sizeLine/\PyData.strOk x=true)->aC K F (ns.map .str) (ns.map V.str)|[],_=>by simp[aC]|x::ns,h=>by simp only[aZZ,aC,aB];exact#[_,_,rfl,#[rfl,h x mcs],aA1 λy a=>h y (mcm a)]
def AllF(Y:Rho):Prop:=∀(i:Nat) (m:Bool) (d:D),Y[i]? = some (some (m,d))->m=false
def AR(K:Fg)(w:a3K)(b:Bool)(d:Addr)(F:Hp)(zs:List D)(o:HO):Prop:=match b with|true=>∃ys,o=.lst ys/\aC K F zs ys|false=>∃(ns ys:List Str),zs=ns.map .str/\o=sx w d ys/\ys.Nodup/\ys.length<=ns.length/\(∀x,x∈ys↔x∈ns)/\∀x∈ns,x.length<=sizeLine/\PyData.strOk x=true
open PySem.W
section
variable{lt:Nat->Nat->Bool}{cmp:Nat->Nat->(Bool->a3I->Prop)->a3I->Prop}{J:a3I->Prop}
def Upto(lt:Nat->Nat->Bool)(p:Array Nat)(b:Nat):Prop:=∀i j,i<j->j<b->lt (p.getD i 0) (p.getD j 0)=true
def iP(n:Nat)(lt:Nat->Nat->Bool)(cmp:Nat->Nat->(Bool->a3I->Prop)->a3I->Prop)(J:a3I->Prop):Prop:=∀i j s C,i<n->j<n->J s->(∀s',J s'->C (lt i j) s')->cmp i j C s
end
def pX(d:α):∀(l:List α),(List.range l.length).map (λi=>l.getD i d)=l:=λl=>by apply a1P;{simp};intro i h1 h2;simp at h1;simp[h1]
theorem uD{α:Type}{K:Fg}{F:Hp}{f:α->D}{g:α->V}:∀{q:List α},(∀i∈q,aB K F (f i) (g i))->aC K F (q.map f) (q.map g)|[],_=>aC.nil|i::q,h=>aC.cons (h i mcs) (uD λj a=>h j (mcm a))
theorem aA2{α:Type}{g:α->V}{u:α->a3H}:∀{q:List α},(∀i∈q,aG (g i) (u i))->aM (q.map g) (q.map u)|[],_=>.nil|i::q,h=>.cons (h i mcs) (aA2 λj a=>h j (mcm a))
theorem aA3:∀{U:List V}{us:List a3H}{i:Nat},aM U us->i<U.length->aG (U.getD i .non) (us.getD i .none)
 |[],_,i,h,e=>by simp at e|x::U,_,0,h,e=>by cases h with|cons r t=>exact r
 |x::U,_,i+1,h,e=>by cases h with|cons r t=>have:=aA3 (i:=i) t (by simpa using e);simpa using this
open PySem.SeqAt PySem.MeetsSeq
def epO(o:Obj):Nat:=match o.data with|.dict _ ep=>ep|_=>0
def Itd(d:Addr)(o:Obj)(U:List (Key×V)):It :=
 #[λi H=>H d=some (.frz o (.dK U))/\i<U.length,λi H x H'=>H'=H/\∃kv,U[i]? = some kv/\x=kV kv.1,λi H=>H d=some (.frz o (.dK U))/\U.length<=i]
def uE{d:Addr}{o:Obj}{U:List (Key×V)}(ok:HOk P w H h)(hd:H d=some (.frz o (.dK U))):(d==sysModules)=false/\∃vs,KV U vs/\h.DictAt (cB P w) d vs (epO o):=by(exists g,z,y,vs,r,f,ok d _ hd;exists ep,D,f.dictAt;refine#[y,vs,r,?_];exists l,es,G,c,a,rest,id D;rw[g]at G;cases G;have:epO o=ep:=by unfold epO;rw[a]);rw[this];exact D
def aOS{U:List (Key×V)}{vs:List (Key×a3H)}(r:KV U vs){k:Key}{x:a3H}(h:vs[i]? = some (k,x)):∃v,U[i]? = some (k,v):=by(have e:=r.keys;have:(U.map (·.1))[i]? = (vs.map (·.1))[i]?:=by rw[e]);rw[aY1,aY1,h]at this;cases q:U[i]? with|none=>rw[q]at this;cases this|some kv=>rw[q]at this;exists K,v,kv;simp at this;subst this;exact#[v,rfl]
theorem aOT{K:Fg}(d it:Addr)(o:Obj)(U:List (Key×V)):gU P w K tg (Itd d o U) [it] it (λi h=>h.IsKeyIter it d i U.length (epO o)) where
 mem:=by simp
 obj:=λi h st b f=>by(have e:b=it:=by simpa using f);subst e;exists o,e,c,d,st;exact#[o,e,λv z=>by rw[d]at z;cases z]
 keep:=λi h h' st k=>st.at λo e=>k it (by simp) o e
 item:=by intro X D A F S i O s σ H E I hf st hg;subst D A F;exists hd,N,hg;exists ns,vs,r,L,uE I.hok hd;exists f0,f1,f2,f3,J,G,hf it (by simp);(have l:vs.length=U.length:=r.length.symm;have hx:vs[i]? = some (vs[i]'(by lia)):=by simp[l,N]);exists v,ev,aOS r (k:=(vs[i]'(by lia)).1) (x:=(vs[i]'(by lia)).2) hx;refine wpAny_pyNext_dict_item (k:=(vs[i]'(by lia)).1) (v:=(vs[i]'(by lia)).2) (by rw[l];exact st) L hx λkey h' m a B=>?_;have I1:L2.Inv X O σ H {s with heap:=h'}:=I.turned (t':=s.toks) (λb o f e=>B.extBut b o f e) f0 f1 f3 J G;rw[l]at a;exists o1,W,c1,Z,id a;exact#[key,rfl,k7 (s:={s with heap:=h'}) W c1 Z (by decide) #[_,H,I1,is_kV m,#[rfl,_,ev,rfl],a,λb f=>(hf b f).1]]
 done:=by intro X D A F S i O s σ H E I hf st hg;subst D A F;exists hd,N,hg;exists ns,vs,r,L,uE I.hok hd;exists f0,f1,f2,f3,J,G,hf it (by simp);have l:vs.length=U.length:=r.length.symm;exact wpAny_pyNext_dict_end (I.ok.hd S) (by rw[l];exact st) L (by simp;lia) λh' T=>#[rfl,I.turned (t':=s.toks) (λb o f e=>T b o f e) f0 f1 f3 J G]
 self:=λ_ _ _ _ _ st h=>a1Q st h
end D3
namespace L2
open D3
end L2
namespace D3
abbrev Rise(U:Array Nat):Prop:=U.toList.Pairwise (· < ·)
def PlOk(t:SetTable):Prop:=t.plain=false\/(t.dummies = #[]/\Rise t.place)
def EntI(w:a3K):List Int->List (Int×a3H)->Prop|[],l=>l=[]|x::U,l=>∃t r,l=(hashInt x,.int x t)::r/\EntI w U r
def SetI(w:a3K)(h:Heap)(a:Addr)(U:List Int):Prop:=∃o es ep t,h.get? a=some o/\o.ExactSet/\o.data=.set es ep t/\EntI w U es.toList/\U.Nodup/\U.length<scanBound/\t.fits es.size=true/\t.led = !kB w/\PlOk t
def iQ(Y:Rho)(i:Nat)(rk r:Res):aH:=match Y[i]? with
 |some (some (true,.lst ds))=>(aI r).thS Y λm d=>match m with|.fz=>(rk.thS Y λ_ K=>(match K with|.int k=>((match ixN ds.length k with|some j=>.nx (Y.set i (some (true,.lst (ds.set j d))))|none=>.stuck))|_=>.stuck))|_=>.stuck
 |_=>.stuck
theorem aC.set{K:Fg}{F:Hp}:∀{ds:List D}{U:List V}{j:Nat}{d:D}{v:V},aC K F ds U->aB K F d v->aC K F (ds.set j d) (U.set j v)|[],_,_,_,_,h,_=>by simp only[aC]at h;subst h;exact aC.nil|a::ds,_,0,_,_,h,r=>by simp only[aC]at h;exists y,ys,rfl,q,t,h;exact aC.cons r t|a::ds,_,j+1,_,_,h,r=>by simp only[aC]at h;exists y,ys,rfl,q,t,h;exact aC.cons q (aC.set t r)
section
variable{gk:Rho->Res}
def aOU(i:Nat)(hv:PE X (.Name x p) (fR i))(hk:PV C X ke gk)(he:PV C X e g)(K:swapsWith e (some (.Subscript (.Name x p) ke sp)) pos.line X.env=pure false):PSv C X (.Assign [.Subscript (.Name x p) ke sp] e pos) (λY=>iQ Y i (gk Y) (g Y)):=by
 have h1:PS X (.Assign [.Subscript (.Name x p) ke sp] e pos) (λE σ H=>tG (C.at X) (λY=>aI (g Y)) σ H λv H1=>fR i σ H1 λo A=>tG (C.at X) gk σ A λk V=>yV o k v V (λT=>E.nx σ T)):=by intro O s σ H D I h;refine wpAny_Assign_Subscript (thn (eB he O s σ H _ I h) λr s1 ⟨v,H1,I1,rv,q1⟩=>thn (hv O s1 σ H1 _ I1 q1) λu S ⟨x,A,I2,rx,q2⟩=>thn (hk O S σ A _ I2 q2) λiv s3 ⟨y,V,I3,ry,q3⟩=>?_) K;refine thn (aKA O s3 σ V _ _ _ _ _ _ _ I3 rx ry rv q3) λ_ s4 ⟨T,I4,q4⟩=>?_;exact#[σ,T,I4,q4]
 refine PS.imp h1 λE σ H q=>?_;exists Y,F,R,w,q;dsimp only at w;cases f:Y[i]? with
 |none=>unfold iQ at w;rw[f]at w;exact w.elim|some o =>
  cases o with
  |none=>unfold iQ at w;rw[f]at w;exact w.elim|some bd =>
   exists b,d0,bd;cases b with
   |false=>unfold iQ at w;rw[f]at w;exact w.elim|true =>
    cases d0 with
    |lst ds =>
     unfold iQ at w;rw[f]at w;dsimp only at w;exists v0,l,J,aa,R.slot i true _ f;exists a,ea,ae,U,hh,Z,J;subst ea;refine iM R w λm d v F' H' B s R' rp fr=>?_;cases m with
     |fr|bo=>exact(show False from B).elim|fz =>
     dsimp only at B;refine#[.ref a,l,?_];refine iM R' B λm2 kd u F2 A W S R2 G _=>?_;cases kd with|int k=>(dsimp only at W;cases N:ixN ds.length k with|none=>rw[N]at W;exact W.elim|some j=>rw[N]at W;dsimp only at W;have L:A a=some (.lst U):=S.same _ _ (s.same _ _ hh);cases G.int;refine#[a,U,k,j,rfl,rfl,L,by rw[Z.length];exact N,?_];exact W σ F2 _ (aD.refl _) (R2.mut f l #[_,aY,aC.set (Z.mono (s.fsame.trans S.fsame) _ _) (aB.mono S.fsame _ _ rp)]))|_=>exact(show False from W).elim
    |_=>unfold iQ at w;rw[f]at w;exact w.elim
end
open PySem.Calls
end D3
namespace PySem
open PySem.Sem (wp)
def aOV(a b c:a3H):checkTypeCall "range" #[[a,b,c],[]]=pure ():=by kernel_rfl
def aOW(a b c:a3H):checkBuiltinCall "range.__new__" #[[.type "range",a,b,c],[]]=pure ():=by kernel_rfl
def aOX(obj a b c:a3H):argsOk "object.__init__" #[[obj,a,b,c],[]]:=by unfold argsOk;rw[signature?_of (id:="object.__init__") (n:=['_','_','t','i','n','i','_','_']) (o:=['t','c','e','j','b','o']) (by kernel_rfl) F.owner_object];kernel_rfl
section
variable{A:a3J}{E:VSP}
def aOY{a b c:Int}{t u v:Tok}(d:¬ (some c==some (0:Int))=true)(hp:Builtin.divisionGoesByPylong (b-a) c=false)(h:Q (.ref s.heap.objs.size) { s with heap:=s.heap.push { cls:=.type "range",data:=.fields (List.toArray [.int a t,.int b u,.int c v]) } }):wpAny (model prog w) A (call (.type "range") [.int a t,.int b u,.int c v]) Q E s:=
 callType_new F.called_range (by decide) (aOV _ _ _) (aOW _ _ _) (λobj=>aOX obj _ _ _) F.entry_range_new
  (AutoRange.range___new___type_int_int_int_1 a b c t u v F.called_range.sub d) #[hp,#[_,aXK _ rfl,rfl],h]
end
end PySem
namespace L2
def nSt(lo hi c:Int):Nat:=(Builtin.Range.rangeSize lo hi c).toNat
def ItS(lo c:Int)(n:Nat):It:=#[λi _=>i<n,λi H x H'=>H'=H/\x=.int (lo+i * c),λi _=>n<=i]
theorem aOZ{K:Fg}(it:Addr)(lo c:Int)(n:Nat):gU P w K tg (ItS lo c n) [it] it (λi h=>IsRangeIter h it (lo+(i:Nat) * c) ((n:Int)-(i:Nat)) c) where
 mem:=by simp
 obj:=λi h st b a=>by
  have e:b=it:=by simpa using a
  subst e;exact#[_,st,λv z=>by
   have Z:Data.fields _=Data.cell v:=z;cases Z]
 keep:=λi h h' st k=>k it (by simp) _ st
 item:=by intro X l d m f i O s σ H E I hf st hg;subst l d m;exists f0,f1,f2,f3,r,F,hf it (by simp);have W:=Walks.range (prog:=X.prog) (w:=X.w) (I.ok.hd f) it lo c n;refine W.item i s _ _ hg st λv h' tk A S kk=>?_;exists t,rfl,A;have D:Inv X O σ H {s with heap:=h',toks:=tk}:=I.turned (λb o a e=>kk b o (by simpa using a) e) f0 f1 f3 r F;exact#[_,rfl,k7 (s:={s with heap:=h',toks:=tk}) (n:="range_iterator") S rfl rfl (by decide) #[.int (lo+i * c),H,D,#[t,rfl],#[rfl,rfl],S,λb a=>(hf b a).1]]
 done:=by intro X l d m f i O s σ H E I hf st hg;subst l d m;exists f0,f1,f2,f3,r,F,hf it (by simp);exact wpAny_pyNext_range_end (I.ok.hd f) st (by have:n<=i:=hg;lia) λh' B=>#[rfl,I.turned (t':=s.toks) (λb o a e=>B b o a e) f0 f1 f3 r F]
 self:=λ_ _ _ _ _ st h=>wpAny_pyIter_rangeiter st h
theorem aO0{lo hi c:Int}(h:0<c):0<=Builtin.Range.rangeSize lo hi c:=by unfold Builtin.Range.rangeSize;rw[al h];split;{have:=Int.ediv_nonneg (show 0<=hi-lo-1 by lia) (show 0<=c by lia);lia};lia
theorem aO1{σ:St}{R:It->Hp->Prop}{E:VSP}{lo hi c:Int}{t u v:Tok}{tk:Nat}(I:Inv X O σ H s)(d:0<c)(hs:Builtin.Range.small lo hi c=true)(q:R (ItS lo c (nSt lo hi c)) H):wpAny (model X.prog X.w) X.A (pyIter (.ref s.heap.objs.size)) (PIE X O σ tg R) E { s with heap:=s.heap.push { cls:=.type "range",data:=.fields (List.toArray [.int lo t,.int hi u,.int c v]) },toks:=tk }:=by
 refine wpAny_pyIter_range (IsRange.new ..) hs ?_;have a:Inv X O σ H { s with heap:=s.heap.push { cls:=.type "range",data:=.fields (List.toArray [.int lo t,.int hi u,.int c v]) },toks:=tk }:=I.kept λb o e=>hps e
 refine#[(s.heap.push { cls:=.type "range",data:=.fields (List.toArray [.int lo t,.int hi u,.int c v]) }).objs.size,[(s.heap.push { cls:=.type "range",data:=.fields (List.toArray [.int lo t,.int hi u,.int c v]) }).objs.size],_,_,H,rfl,
  a.kept (t':=tk) λb o e=>hps e,aOZ _ lo c (nSt lo hi c),?_,λb f=>?_,q]
 . (have m:lo+((0:Nat):Int) * c=lo:=by simp);(have l:((nSt lo hi c:Nat):Int)-((0:Nat):Int)=Builtin.Range.rangeSize lo hi c:=by have:=aO0 (lo:=lo) (hi:=hi) d;unfold nSt;lia);show IsRangeIter _ _ (lo+((0:Nat):Int) * c) (((nSt lo hi c:Nat):Int)-((0:Nat):Int)) c;rw[m,l];exact aXK _ rfl
 . (have e:b=(s.heap.push { cls:=.type "range",data:=.fields (List.toArray [.int lo t,.int hi u,.int c v]) }).objs.size:=by simpa using f);subst e;exact a.fpOk (aYC _) (a.hok.fresh (aYC _))
def aA4(ta:TA):TI:=λσ H R=>ta σ H λvs H1=>∃i j c:Int,vs=[.int i,.int j,.int c]/\(0<=i/\i<=1000000/\0<=j+1000/\j<=1000000/\0<c/\c<=1000000)/\R (ItS i c (nSt i j c)) H1
theorem aO2{i j c:Int}(h:0<=i/\i<=1000000/\0<=j+1000/\j<=1000000/\0<c/\c<=1000000):Builtin.Range.small i j c=true:=by(have q:0<=(j-i-1) / c\/¬ i<j:=by by_cases a:i<j;{exact .inl (Int.ediv_nonneg (by lia) (by lia))};exact .inr a);have d:i<j->(j-i-1) / c<=j-i-1:=λa=>Int.ediv_le_self _ (by lia);unfold Builtin.Range.small;simp only[Builtin.Range.rangeSize,Builtin.Range.rangeFitsLong,aZL,a0N,a0L,aYK,al h.2.2.2.2.1];by_cases a:i<j;{have B:=d a;have f:=q.resolve_right (λz=>z a);simp only[al a];generalize (j-i-1) / c=z at *;lia};simp only[aK a];lia
theorem aO3{a b d:Expr}{ta:TA}(E:Gl X "range")(D:X.mg "range"=none)(ha:PA X [a,b,d] ta)(hs:starEach [a,b,d] X.env=(false,eval a X.env)::starEach [b,d] X.env)(m:(backTo pos (starEach [b,d] X.env)).any (·.1)=false):PI X tg (.Call (.Name "range" p) [a,b,d] [] pos) (aA4 ta):=by intro O s σ H R I h;refine Call_ (jS I E D boot_range (aYE (thn (ha pos O s σ H _ I h) λus S ⟨vs,H1,F,A,q1⟩=>?_) hs m));exists i,j,c,e,o,q,q1;subst e;cases A with|cons r f=>cases f with|cons B f=>cases f with|cons l f=>cases f;exists t,rfl,r;exists t',rfl,B;exists T,rfl,l;exact aOY (by simp;lia) (PyProof.noPylong_small (by lia)) (aO1 F o.2.2.2.2.1 (aO2 o) q)
end L2
namespace D3
open PySem.Calls
def jA(lo hi c:Int):List D:=(List.range (nSt lo hi c)).map λ(i:Nat)=>.int (lo+(i:Int) * c)
def kC(r:bC):Res:=r.thn λU=>match U with|[(_,.int i),(_,.int j),(_,.int c)]=>if(decide (0<=i)&&decide (i<=1000000)&&decide (0<=j+1000)&&decide (j<=1000000)&&decide (0<c)&&decide (c<=1000000))=true then .ok .fz (.lst (jA i j c))else .stuck|_=>.stuck
def aO4{K:Fg}{F:Hp}{lo hi c:Int}:j5 K F (ItS lo c (nSt lo hi c)) (jA lo hi c) where
 go:=λi H s h=>by simpa[jA,ItS]using h
 stop:=λi H s h=>by simpa[jA,ItS]using h
 yld:=λi Fc H x H' a S h y=>by(exists rfl,rfl,y;have h':i<nSt lo hi c:=by simpa[jA]using h);refine#[Fc,.int (lo+i * c),?_,.refl S,by simp only[aB]];simp only[jA,aY1,a0Q h',a0R]
def RpL.three{K:Fg}{F:Hp}{a b c:Md×D}{vs:List V}(h:RpL K F H [a,b,c] vs):∃u v w,vs=[u,v,w]/\Rp K F H a.1 a.2 u/\Rp K F H b.1 b.2 v/\Rp K F H c.1 c.2 w:=by exists u,us,rfl,l,f,h;exists v,w,rfl,d,r,RpL.two f;exact#[u,v,w,rfl,l,d,r]
def aO5{a b d:Expr}(B:Gl X "range")(A:X.mg "range"=none)(ha:PAv C X [a,b,d] gs)(hs:starEach [a,b,d] X.env=(false,eval a X.env)::starEach [b,d] X.env)(m:(backTo pos (starEach [b,d] X.env)).any (·.1)=false):PIv C X tg (.Call (.Name "range" p) [a,b,d] [] pos) (λY=>kC (gs Y)):=by refine PI.imp (aO3 B A ha hs m) λσ H R q=>?_;exists Y,F,D,w,q;dsimp only at w;unfold aA4;refine#[Y,F,D,?_];cases E:gs Y with|stuck|exc c=>rw[E]at w;exact w|ok U=>rw[E]at w;intro vs F' H' st rp;unfold kC at w;rw[bC.thn_ok]at w;split at w;{rename_i G i m2 j m3 c;split at w;{rename_i f;simp only[aZL,a0L]at f;exists v,u,x,rfl,r,o,l,rp.three;cases r.int;cases o.int;cases l.int;exact#[i,j,c,rfl,#[f.1.1.1.1.1,f.1.1.1.1.2,f.1.1.1.2,f.1.1.2,f.1.2,f.2],w _ F' H' st aO4]};exact w.elim};exact w.elim
def hO(Y:Rho):List ((Rho->Res)×(Rho->Res))->List (Key×D)->Res|[],A=>if A.length<=15 then .ok .fr (.dct (A.foldl (λa kv=>fV a kv.1 kv.2) []))else .stuck|(gk,G)::r,A=>(gk Y).thn λ_ f=>(aI (G Y)).thn λm d=>(match m,gK f with|.fz,some k=>hO Y r (A++[(k,d)])|_,_=>.stuck)
def kvf(kv:Key×V):V×V:=(kV kv.1,kv.2)
theorem aF.snocX{K:Fg}{F:Hp}{k:Key}{d:D}{v:V}:∀{kvs:List (Key×D)}{U:List (Key×V)},aF K F kvs U->aB K F d v->aF K F (kvs++[(k,d)]) (U++[(k,v)])|[],U,h,r=>by simp only[aF]at h;subst h;show aF K F [(k,d)] [(k,v)];simp only[aF];exact#[v,[],rfl,r,rfl]|(a,f)::kvs,U,h,r=>by simp only[aF]at h;exists y,ys,rfl,q,t,h;show aF K F ((a,f)::(kvs++[(k,d)])) ((a,y)::(ys++[(k,v)]));simp only[aF];exact#[y,_,rfl,q,aF.snocX t r]
theorem aF.fold{K:Fg}{F:Hp}:∀{kvs:List (Key×D)}{U:List (Key×V)}{a:List (Key×D)}{b:List (Key×V)},aF K F kvs U->aF K F a b->aF K F (kvs.foldl (λa kv=>fV a kv.1 kv.2) a) (U.foldl (λA kv=>cZ A kv.1 kv.2) b)|[],U,a,b,h,q=>by simp only[aF]at h;subst h;exact q|(k,d)::kvs,U,a,b,h,q=>by simp only[aF]at h;exists y,ys,rfl,r,t,h;exact aF.fold (kvs:=kvs) (U:=ys) t (q.put r)
theorem aF.lenX{K:Fg}{F:Hp}:∀{kvs:List (Key×D)}{U:List (Key×V)},aF K F kvs U->U.length=kvs.length|[],U,h=>by simp only[aF]at h;subst h;rfl|(k,d)::kvs,U,h=>by simp only[aF]at h;exists y,ys,rfl,_,t,h;rw[aZX,aZX,aF.lenX t]
theorem aF.monoX{K:Fg}{F F':Hp}(s:aD F F'):∀{kvs:List (Key×D)}{U:List (Key×V)},aF K F kvs U->aF K F' kvs U|[],U,h=>by simpa only [aF]using h|(k,d)::kvs,U,h=>by simp only[aF]at h ⊢;exists y,ys,e,r,t,h;exact#[y,ys,e,aB.mono s _ _ r,aF.monoX s t]
theorem aA5{F H:Hp}{σ:L2.St}{Y:Rho}{p:Addr}{Q:VK}(hp:H p=none):∀(gs:List ((Rho->Res)×(Rho->Res))) (A:List (Key×D)) (U:List (Key×V)) (F1 H1:Hp),aR C.K C.F0 C.H0 F1 H1 σ Y->aJ F H F1 H1->F1 p=none->H1 p=some (.dK [])->aF C.K F1 A U->aX C F H σ (hO Y gs A) Q->o8 (gs.map λg=>(tG C g.1,tG C λY=>aI (g.2 Y))) σ H1 (λps f=>f p=some (.dK [])/\∃kvs:List (Key×V),U.map kvf++ps=kvs.map kvf/\kvs.length<=15/\Q (.ref p) (upd f p (.dK (iY [] kvs))))|[],A,U,F1,H1,R,st,hf,o,rk,w=>by unfold hO at w;show H1 p=some (.dK [])/\_;split at w;{rename_i hl;refine#[o,U,by rw[aYR],by rw[rk.lenX];exact hl,?_];exact w (.ref p) F1 _ (st.upd hp hf) #[p,rfl,hf,_,aY,aF.fold rk (by simp only[aF])] λ_ a ea=>by cases ea;exact hp};exact w.elim|(gk,T)::r,A,U,F1,H1,R,st,hf,o,rk,w=>by unfold hO at w;show tG C gk σ H1 _;rw[aU];refine#[Y,F1,R,?_];cases J:gk Y with|stuck=>rw[J]at w;exact w.elim|exc c=>rw[J]at w;exact λF' H' s'=>w F' H' (st.trans s')|ok mk dk=>rw[J,Res.thn_ok]at w;intro u F2 f S r2 _;have m:f p=some (.dK []):=S.same _ _ o;have G:F2 p=none:=S.new p hf (by rw[o];exact λz=>nomatch z);show tG C (λY=>aI (T Y)) σ f _;rw[aU];refine#[Y,F2,R.step S,?_];cases ev:aI (T Y)with|stuck=>rw[ev]at w;exact w.elim|exc c=>rw[ev]at w;exact λF' H' s'=>w F' H' ((st.trans S).trans s')|ok md d=>rw[ev,Res.thn_ok]at w;have hm:md=.fz:=pT ev;subst hm;intro v Z W l r3 _;have B:W p=some (.dK []):=l.same _ _ m;have E:Z p=none:=l.new p G (by rw[m];exact λz=>nomatch z);cases L:gK dk with|none=>rw[L]at w;exact w.elim|some k=>(rw[L]at w;dsimp only at w;have eu:u=kV k:=nK L r2;subst eu;have N:=aA5 hp r (A++[(k,d)]) (U++[(k,v)]) Z W ((R.step S).step l) ((st.trans S).trans l) E B (aF.snocX (rk.monoX (S.fsame.trans l.fsame)) r3) w;have key:(λps f=>f p=some (HO.dK [])/\∃kvs:List (Key×V),(U++[(k,v)]).map kvf++ps=kvs.map kvf/\kvs.length<=15/\Q (.ref p) (upd f p (.dK (iY [] kvs))))=λps f=>f p=some (HO.dK [])/\∃kvs:List (Key×V),U.map kvf++((kV k,v)::ps)=kvs.map kvf/\kvs.length<=15/\Q (.ref p) (upd f p (.dK (iY [] kvs))):=by funext ps f;rw[a1R,a1S];rfl);rw[key]at N;exact N
def aO6{keys:List (Option Expr)}{gs:List ((Rho->Res)×(Rho->Res))}(h:PPs X pos keys values (gs.map λg=>(tG (C.at X) g.1,tG (C.at X) λY=>aI (g.2 Y))))(a:keys.all (·.isSome)=true)(f:keys.length=values.length)(h0:keys≠[])(d:keys.length<=15):PV C X (.Dict keys values pos) (λY=>hO Y gs []):=by refine PE.imp (aKS h a f h0 d) λσ H Q q=>?_;rw[aU]at q;exists Y,F,R,w,q;intro p hp;have s0:aJ F H F (upd H p (.dK [])):=aJ.fresh _ R.sub hp;exact aA5 (C:=C.at X) hp gs [] [] F (upd H p (.dK [])) (R.step s0) s0 (R.sub.free hp) aY (by simp only[aF]) w
theorem aA6:∀{U ys:List Expr}{fs gs:List (Rho->Res)},PVL C X U fs->PVL C X ys gs->U.length=ys.length->PPs X pos (U.map some) ys ((fs.zip gs).map λg=>(tG (C.at X) g.1,tG (C.at X) λY=>aI (g.2 Y)))|_,_,_,_,.nil,.nil,_=>aKQ|_,_,_,_,.nil,.cons _ _,h|_,_,_,_,.cons _ _,.nil,h=>by simp at h|_,_,_,_,.cons hk rk,.cons a r,h=>aKR hk (eB a) (aA6 rk r (by simpa using h))
theorem aA7:∀{ks:List (Option Expr)},ks.all (·.isSome)=true->(ks.filterMap id).map some=ks|[],_=>rfl|none::_,h=>by simp at h|some x::ks,h=>by(have:ks.all (·.isSome)=true:=by simpa using h);show some x::(ks.filterMap id).map some=_;rw[aA7 this]
def aO7{keys:List (Option Expr)}{fs gs:List (Rho->Res)}(hk:PVL C X (keys.filterMap id) fs)(m:PVL C X values gs)(a:keys.all (·.isSome)=true)(l:keys.length=values.length)(h0:keys≠[])(f:keys.length<=15):PV C X (.Dict keys values pos) (λY=>hO Y (fs.zip gs) []):=by(have e:=aA7 a;have d:(keys.filterMap id).length=values.length:=by rw[<- l,<- congrArg List.length e,aY4]);have:=aA6 (pos:=pos) hk m d;rw[e]at this;exact aO6 this a l h0 f
theorem bH.is:∀{U:List N}{ys:List V}{us:List a3H},(∀x∈U,∀v u,NAt X.K H x v->aG v u->IsN s.heap x u)->bH X.K H U ys->aM ys us->aW s.heap U us|[],ys,us,_,h,r=>by rw[bH]at h;subst h;cases r;rw[aW]|x::U,ys,us,k,h,r=>by rw[bH]at h;exists y,zs,rfl,m,l,h;cases r with|cons d a=>rw[aW];exact#[_,_,rfl,k x mcs _ _ m d,bH.is (λz f=>k z (mcm f)) l a]
theorem NAt.is(I:L2.Inv X O σ H s)(k:N):∀v u,NAt X.K H k v->aG v u->IsN s.heap k u:=by induction k using N.ind with|hi n=>intro v u h r;rw[NAt]at h;subst h;exists t,rfl,r;rw[IsN];exact#[t,rfl]|hs x=>intro v u h r;rw[NAt]at h;exists rfl,_,hk,h;exists t,rfl,r;rw[IsN];exact#[#[t,rfl],hk]|ht U l=>intro v u h r;rw[NAt]at h;exists a,ys,rfl,m,A,h;cases r;obtain⟨its,f,⟨o,e,c,_,n,d⟩,_⟩:=SqT.plain I m;rw[IsN];exact#[a,o,its.toArray,n,rfl,e,c,d,by simpa using bH.is l A f]
abbrev KN:=Paired (λ(p:N×Addr×V) (q:N×Addr×a3H)=>p.1=q.1/\p.2.1=q.2.1/\aG p.2.2 q.2.2)
def hU(K:Fg)(H:Hp)(kvs:List (N×Addr×V)):Prop:=∀p∈kvs,NAt K H p.1 (.ref p.2.1)/\p.1.dp<=8
noncomputable def bW(kvs:List (N×Addr×V))(k:N):Option V:=(kvs.find? λp=>decide (p.1=k)).map (·.2.2)
def jB(kvs:List (N×Addr×V))(k:N)(b:Addr)(v:V):List (N×Addr×V):=if(bW kvs k).isSome=true then kvs.map (λp=>if p.1=k then(p.1,p.2.1,v)else p)else kvs++[(k,b,v)]
def pY{p:N×Addr×V}{r:List (N×Addr×V)}{k:N}(e:p.1=k):bW (p::r) k=some p.2.2:=by simp[bW,aZW,e]
def pZ{p:N×Addr×V}{r:List (N×Addr×V)}{k:N}(e:¬ p.1=k):bW (p::r) k=bW r k:=by simp[bW,aZW,e]
def KN.val{U:List (N×Addr×a3H)}(r:KN kvs U)(k:N):cQ (bW kvs k) ((atKey U k).map (·.2)):=by induction r with|nil=>exact True.intro| @cons p q ps a h t d=>by_cases e:p.1=k;{(have b:atKey (q::a) k=some q.2:=by simp[atKey,aZW,h.1.symm.trans e]);rw[pY e,b];exact h.2.2};have E:¬ q.1=k:=λz=>e (h.1.trans z);(have b:atKey (q::a) k=atKey a k:=by simp[atKey,aZW,E]);rw[pZ e,b];exact d
def KN.repl{U:List (N×Addr×a3H)}(r:KN kvs U)(k:N){y:V}(a:aG y u):KN (kvs.map λp=>if p.1=k then(p.1,p.2.1,y)else p) (U.map (putAt k u)):=by induction r with|nil=>exact .nil| @cons p q ps f h t d=>rw[aZZ,aZZ];refine .cons ?_ d;unfold putAt;by_cases e:p.1=k;{rw[al e,al (h.1.symm.trans e)];exact#[h.1,h.2.1,a]};rw[aK e,aK (λz=>e (h.1.trans z))];exact h
def KN.put{U:List (N×Addr×a3H)}(r:KN kvs U)(k:N)(b:Addr){y:V}(a:aG y u):KN (jB kvs k b y) (storedH U k b u):=by(have e:(bW kvs k).isSome=(atKey U k).isSome:=by rw[(r.val k).isSome_eq,aZ3]);unfold jB storedH;rw[e];by_cases q:(atKey U k).isSome=true;{rw[al q,al q];exact r.repl k a};rw[aK q,aK q];exact Paired.snoc r #[rfl,rfl,a]
theorem aO8(kvs:List (N×Addr×V))(k:N)(b:Addr)(v:V):(jB kvs k b v).length<=kvs.length+1:=by unfold jB;split;{rw[aY4];lia};rw[aY3];exact aYC _
def KN.is{U:List (N×Addr×a3H)}{P:N->Addr->Prop}(r:KN kvs U)(h:∀p∈kvs,P p.1 p.2.1):∀x∈U,P x.1 x.2.1:=by induction r with|nil=>intro x hx;cases hx| @cons p q ps f a t d=>intro x hx;rcases aXV.mp hx with e|hx;{subst e;have:=h p mcs;rw[a.1,a.2.1]at this;exact this};exact d (λp hp=>h p (mcm hp)) x hx
def kD{a:Addr}(I:L2.Inv X O σ H s)(e:Rd H a (.dN kvs))(hk:hU X.K H kvs):kvs.length<=sizeLine/\(a==sysModules)=false/\∃U,KN kvs U/\s.heap.DictOfH (nH X.prog X.w) a U:=by exists z,y,U,r,o,es,ep,A,m,l,f,d,(show bL X.prog X.w H s.heap a (.dN kvs)from e.ok I.hok);exact#[z,y,U,r,o,es,ep,A,m,l,f,KN.is (P:=λk b=>(nH X.prog X.w).is s.heap k b) r λp hp=>#[NAt.is I _ _ _ (hk p hp).1 rfl,(hk p hp).2],d]
def hW(K:Fg)(H:Hp)(a:Addr)(y:V)(r:Option V):Prop:=∃kvs k b,Rd H a (.dN kvs)/\hU K H kvs/\y=.ref b/\(NAt K H k (.ref b)/\k.dp<=8)/\r=bW kvs k
def NPut(K:Fg)(H:Hp)(a:Addr)(y v:V)(H':Hp):Prop:=∃kvs k b,H a=some (.dN kvs)/\hU K H kvs/\y=.ref b/\(NAt K H k (.ref b)/\k.dp<=8)/\kvs.length<sizeLine/\H'=upd H a (.dN (jB kvs k b v))
section
variable{a:Addr}{y d:V}{r:a3H}{o:Option V}{A:a3J}{E:VSP}
theorem lW(f:A.units+64<cLine):(nH X.prog X.w).room A.in1:=by show A.units+1+8<cLine;lia
def aO9(G:A.units+64<cLine)(I:L2.Inv X O σ H s)(g:hW X.K H a y (some v))(D:aG y u)(h:∀W s',L2.Inv X O σ H s'->aG v W->Q W s'):wpAny (model X.prog X.w) A (getItem (.ref a) u) Q E s:=by exists kvs,k,b,e,hk,rfl,kb,l,g;cases D;exists z,hd,U,m,J,kD I e hk;exists W,F,f,cQ.some_of (v:=v) (o:=(atKey U k).map (·.2)) (by rw[l];exact m.val k);exists p,hp,B,aZ1.mp F;refine wpAny_getItem_heap (lW G) (k:=k) #[NAt.is I _ _ _ kb.1 rfl,kb.2] J hp ?_;rw[B];exact h W _ (I.tok _) f
def ng_in(B:A.units+64<cLine)(I:L2.Inv X O σ H s)(g:hW X.K H a y o)(m:aG y u)(h:∀s',L2.Inv X O σ H s'->Q (.bool o.isSome) s'):wpAny (model X.prog X.w) A (compareOp .In u (.ref a)) Q E s:=by exists kvs,k,b,e,hk,rfl,kb,l,g;cases m;exists z,hd,U,f,D,kD I e hk;refine wpAny_in_heap (lW B) (k:=k) #[NAt.is I _ _ _ kb.1 rfl,kb.2] hd D ?_;have q:=(f.val k).isSome_eq;rw[aZ3]at q;rw[<- q,<- l];exact h _ (I.tok _)
def aPA(B:A.units+64<cLine)(I:L2.Inv X O σ H s)(g:hW X.K H a y o)(m:aG y u)(h:∀s',L2.Inv X O σ H s'->Q (.bool (!o.isSome)) s'):wpAny (model X.prog X.w) A (compareOp .NotIn u (.ref a)) Q E s:=by exists kvs,k,b,e,hk,rfl,kb,l,g;cases m;exists z,hd,U,f,D,kD I e hk;refine wpAny_notIn_heap (lW B) (k:=k) #[NAt.is I _ _ _ kb.1 rfl,kb.2] hd D ?_;have q:=(f.val k).isSome_eq;rw[aZ3]at q;rw[<- q,<- l];exact h _ (I.tok _)
def aPB(G:A.units+64<cLine)(I:L2.Inv X O σ H s)(g:hW X.K H a y o)(m:aG y u)(B:aG d r)(h:∀W s',L2.Inv X O σ H s'->aG (o.getD d) W->Q W s'):wpAny (model X.prog X.w) A (call (.builtin "dict.get") [.ref a,u,r]) Q E s:=by exists kvs,k,b,e,hk,rfl,kb,l,g;cases m;exists z,hd,U,f,D,kD I e hk;refine call_meetsIn PySem.F.slot_dict_get D.typeIs PySem.F.entry_dict_get (PySem.F.args_dict_get_3 _ _ _) (meetsH_dict_get_default (nH X.prog X.w) a b hd r) #[lW G,k,U,#[NAt.is I _ _ _ kb.1 rfl,kb.2],D,h _ _ (I.tok _) ?_];rw[l];exact(f.val k).getD B
theorem aPC{Q:Unit->a3I->Prop}(J:A.units+64<cLine)(I:L2.Inv X O σ H s)(g:NPut X.K H a y v H')(B:aG y u)(F:aG v r)(h:∀s',L2.Inv X O σ H' s'->Q () s'):wpAny (model X.prog X.w) A (setItem (.ref a) u r) Q E s:=by
 exists kvs,k,b,e,hk,rfl,kb,l,rfl,g;cases B;exists z,hd,U,f,W,kD I (.inl e) hk;have G:U.length<=sizeLine:=by rw[<- aXJ f];exact z
 have L:(jB kvs k b v).length<=sizeLine:=by have:=aO8 kvs k b v;lia
 refine wpAny_setItem_heap (hsz:=G) (lW J) (k:=k) #[NAt.is I _ _ _ kb.1 rfl,kb.2] W λh' D hs=>h _ ?_;exists q,es,ep,m,V,T,S,_,N,D;exact o7 I (by rw[e];exact True.intro) hs #[q,m] #[L,hd,_,f.put k b F,q,es,ep,m,V,T,S,N]
def aPD(I:L2.Inv X O σ H s)(g:hW X.K H a y o):s.TypeIs (.ref a) "dict":=by exists kvs,k,b,e,hk,_,g;exists _,_,U,_,D,kD I e hk;exact D.typeIs
end
open PySem.Calls
mutual
def nD:N->D|.i n=>.int n|.s x=>.str x|.t U=>.tup (nDL U)
def nDL:List N->List D|[]=>[]|x::U=>nD x::nDL U
end
mutual
def bX:D->Option N|.int i=>some (.i i)|.str x=>some (.s x)|.tup ds=>(cS ds).map .t|_=>none
def cS:List D->Option (List N)|[]=>some []|d::ds=>match bX d,cS ds with|some k,some ks=>some (k::ks)|_,_=>none
end
def cD(d:D):Option N:=match d with
 |.tup ds=>match cS ds with|some ks=>if(N.t ks).dp<=8 then some (.t ks)else none|none=>none
 |_=>none
section
variable{K:Fg}{F:Hp}
mutual
theorem aA8:∀{d:D}{k:N}{v:V},bX d=some k->aB K F d v->NAt K F k v|.int i,k,v,e,r|.str x,k,v,e,r=>by simp only[bX]at e;cases e;simpa only [aB,NAt]using r|.tup ds,k,v,e,r=>by simp only[bX]at e;exists ks,E,rfl,aZ1.mp e;simp only[aB]at r;exists a,U,rfl,l,f,r;rw[NAt];exact#[a,U,rfl,l,nR E f]|.non,_,_,e,_|.bl _,_,_,e,_|.lst _,_,_,e,_|.dct _,_,_,e,_|.ty _,_,_,e,_|.ob _,_,_,e,_|.ins _ _,_,_,e,_|.fn _,_,_,e,_|.exn _,_,_,e,_|.set _,_,_,e,_|.dtn _,_,_,e,_|.dtf _,_,_,e,_|.dcf _,_,_,e,_|.clo _ _ _,_,_,e,_=>by simp only[bX]at e;cases e
theorem nR:∀{ds:List D}{ks:List N}{U:List V},cS ds=some ks->aC K F ds U->bH K F ks U|[],ks,U,e,r=>by simp only[cS]at e;cases e;simpa only [aC,bH]using r|d::ds,ks,U,e,r=>by simp only[cS]at e;simp only[aC]at r;exists y,ys,rfl,l,f,r;cases E:bX d with|none=>rw[E]at e;cases e|some k=>cases a:cS ds with|none=>rw[E,a]at e;cases e|some m=>rw[E,a]at e;cases e;rw[bH];exact#[y,ys,rfl,aA8 E l,nR a f]
end
def qC{d:D}{k:N}{m:Md}(e:cD d=some k)(r:Rp K F H m d v):∃b,v=.ref b/\NAt K F k (.ref b)/\k.dp<=8:=by unfold cD at e;split at e;{rename_i ds;split at e;{rename_i ks E;split at e;{rename_i hd;cases e;cases m with|fz=>have r:aB K F (.tup ds) v:=r;have h:=aA8 (k:=.t ks) (by simp only[bX];rw[E];rfl) r;simp only[aB]at r;exists a,U,rfl,_,r;exact#[a,rfl,h,hd]|fr|bo=>exists a,_,_,q,r;exact q.elim};cases e};cases e};cases e
theorem aA9:∀{U:List N}{ys:List V},(∀x∈U,∀v,NAt K F x v->aB K F (nD x) v)->bH K F U ys->aC K F (nDL U) ys|[],ys,_,h=>by rw[bH]at h;subst h;rw[nDL];exact aC.nil|x::U,ys,k,h=>by rw[bH]at h;exists y,zs,rfl,f,d,h;rw[nDL];exact aC.cons (k x mcs y f) (aA9 (λz a=>k z (mcm a)) d)
def uF(k:N):∀v,NAt K F k v->aB K F (nD k) v:=by induction k using N.ind with|hi n|hs x=>intro v h;rw[NAt]at h;rw[nD];simpa only [aB]using h|ht U d=>intro v h;rw[NAt]at h;exists a,ys,rfl,f,l,h;rw[nD];simp only[aB];exact#[a,ys,rfl,f,aA9 d l]
def bE(kvs:List (N×D))(k:N):Option D:=(kvs.find? λkv=>decide (kv.1=k)).map (·.2)
def d5(kvs:List (N×D))(k:N)(d:D):List (N×D):=if(bE kvs k).isSome=true then kvs.map (λkv=>if kv.1=k then(kv.1,d)else kv)else kvs++[(k,d)]
def qD{p:N×D}{r:List (N×D)}{k:N}(e:p.1=k):bE (p::r) k=some p.2:=by simp[bE,aZW,e]
def qE{p:N×D}{r:List (N×D)}{k:N}(e:¬ p.1=k):bE (p::r) k=bE r k:=by simp[bE,aZW,e]
theorem aS.val:∀{kvs:List (N×D)}{U:List (N×Addr×V)} (k:N),aS K F kvs U->match bE kvs k with|some d=>∃v,bW U k=some v/\aB K F d v|none=>bW U k=none
 |[],U,k,h=>by simp only[aS]at h;subst h;rfl|(a,d)::kvs,U,k,h=>by simp only[aS]at h;exists b,y,ys,rfl,_,r,t,h;by_cases e:a=k;{rw[qD (p:=(a,d)) e];exact#[y,pY (p:=(a,b,y)) e,r]};rw[qE (p:=(a,d)) e,pZ (p:=(a,b,y)) e];exact aS.val k t
def aS.hasK{kvs:List (N×D)}{U:List (N×Addr×V)}(k:N)(h:aS K F kvs U):(bW U k).isSome=(bE kvs k).isSome:=by have:=aS.val k h;cases e:bE kvs k with|none=>rw[e]at this;dsimp only at this;rw[this];rfl|some d=>rw[e]at this;exists v,ev,_,this;rw[ev];rfl
theorem aS.keys:∀{kvs:List (N×D)}{U:List (N×Addr×V)},aS K F kvs U->hU K F U|[],U,h=>by simp only[aS]at h;subst h;intro p hp;cases hp|(a,d)::kvs,U,h=>by simp only[aS]at h;exists b,y,ys,rfl,q,r,t,h;intro p hp;rcases aXV.mp hp with rfl|hp;{exact q};exact t.keys p hp
theorem hU.mono{U:List (N×Addr×V)}(s:aD F F')(h:hU K F U):hU K F' U:=λp hp=>#[NAt.mono s _ _ (h p hp).1,(h p hp).2]
theorem aS.len:∀{kvs:List (N×D)}{U:List (N×Addr×V)},aS K F kvs U->U.length=kvs.length|[],U,h=>by simp only[aS]at h;subst h;rfl|(a,d)::kvs,U,h=>by simp only[aS]at h;exists b,y,ys,rfl,q,r,t,h;rw[aZX,aZX,t.len]
theorem aS.repl{k:N}{d:D}(a:aB K F d v):∀{kvs:List (N×D)}{U:List (N×Addr×V)},aS K F kvs U->aS K F (kvs.map λkv=>if kv.1=k then(kv.1,d)else kv) (U.map λp=>if p.1=k then(p.1,p.2.1,v)else p)|[],U,h=>by simp only[aS]at h;subst h;simp only[aS,aZ0]|(f,l)::kvs,U,h=>by simp only[aS]at h;exists b,y,ys,rfl,q,r,t,h;rw[aZZ,aZZ];by_cases e:f=k;{rw[al e,al e];simp only[aS];exact#[b,v,_,rfl,q,a,t.repl a]};rw[aK e,aK e];simp only[aS];exact#[b,y,_,rfl,q,r,t.repl a]
theorem aS.snoc{k:N}{d:D}(hk:NAt K F k (.ref b)/\k.dp<=8)(a:aB K F d v):∀{kvs:List (N×D)}{U:List (N×Addr×V)},aS K F kvs U->aS K F (kvs++[(k,d)]) (U++[(k,b,v)])|[],U,h=>by simp only[aS]at h;subst h;simp only[aS,a0J];exact#[b,v,[],rfl,hk,a,rfl]|(f,l)::kvs,U,h=>by simp only[aS]at h;exists B,y,ys,rfl,q,r,t,h;rw[a0B,a0B];simp only[aS];exact#[B,y,_,rfl,q,r,t.snoc hk a]
def aS.put{k:N}{d:D}{kvs:List (N×D)}{U:List (N×Addr×V)}(hk:NAt K F k (.ref b)/\k.dp<=8)(r:aB K F d v)(h:aS K F kvs U):aS K F (d5 kvs k d) (jB U k b v):=by unfold d5 jB;rw[h.hasK k];split;{exact h.repl r};exact h.snoc hk r
def asN:D->Option (List (N×D))|.dtn kvs|.dtf kvs=>some kvs|_=>none
theorem Rp.asN{m:Md}{d:D}{kvs:List (N×D)}(s:aD F H)(r:Rp K F H m d v)(e:asN d=some kvs):∃a U,v=.ref a/\Rd H a (.dN U)/\aS K F kvs U:=by
 cases d with
 |dtn ks=>cases e;cases m with|fz=>have r:aB K F (.dtn kvs) v:=r;simp only[aB]at r;exists a,U,rfl,q,t,r;exact#[a,U,rfl,.inl (s _ _ q),t]|fr|bo=>exists a,rfl,_,U,q,t,r;exact#[a,U,rfl,.inl q,t]
 |dtf ks=>cases e;cases m with|fz=>have r:aB K F (.dtf kvs) v:=r;simp only[aB]at r;exists a,o,U,rfl,q,t,r;exact#[a,U,rfl,.inr #[o,s _ _ q],t]|fr|bo=>exists a,_,_,q,r;exact q.elim
 |_=>cases e
def qF{m n:Md}{x:D}{kvs:List (N×D)}{k:N}{u:V}(s:aD F H)(f:Rp K F H m x v)(ex:D3.asN x=some kvs)(r:Rp K F H n y u)(E:cD y=some k):∃a U,v=.ref a/\Rd H a (.dN U)/\aS K F kvs U/\hW K H a u (bW U k):=by exists a,U,rfl,d,t,Rp.asN s f ex;exists b,rfl,hn,hd,qC E r;exact#[a,U,rfl,d,t,U,k,b,d,t.keys.mono s,rfl,#[NAt.mono s _ _ hn,hd],rfl]
end
def rIxN(K:Fg):R2:=λx y H Q=>∃a v,x=.ref a/\hW K H a y (some v)/\Q v H
def ix_dn(l:X.A.units+64<cLine):IxR X (rIxN X.K):=by
 intro value slice O s σ H x y v u Q I rx ry h hsub;exists a,W,rfl,g,q,h;cases(show v=Value.ref a from rx)
 have d:=aPD I g;unfold subscriptTail;refine aYB ?_;rw[aZ4 d.not_modules];refine aYB (aZ5 d PySem.F.slot_dict_getitem.lookup ?_);have f:wpAny (model X.prog X.w) X.A (subscripted slice false (.ref a) u) (λr S=>wpAny (model X.prog X.w) X.A (letTemporaryGo value (.ref a) r>>=λ_=>pure r) (EP X O σ Q) X.xe S) X.xe s:=by rw[hsub];exact aZ6 (aO9 l I g ry λz S m rz=>aYB (aZ7 (aYA #[W,H,m,rz,q])))
 first
  |exact aYA (aYB f)
  |exact aYB (aYA (aYB f))
  |exact aYB f
noncomputable def eD:Md->D->Md->D->Option (Md×D):=λ_ x _ y=>match asN x,cD y with|some kvs,some k=>(bE kvs k).map λd=>(.fz,d)|_,_=>none
def eV(neg:Bool):Md->D->Md->D->Option (Md×D):=λ_ x _ y=>match cD x,asN y with|some k,some kvs=>some (.fz,.bl (if neg then !(bE kvs k).isSome else(bE kvs k).isSome))|_,_=>none
def lX(a rk r:Res):Res:=a.thn λ_ f=>match asN f with
 |some kvs=>rk.thn λ_ D=>(aI r).thn λm d=>(match m,cD D with|.fz,some k=>.ok .fz ((bE kvs k).getD d)|_,_=>.stuck)
 |none=>.stuck
noncomputable def eW(Y:Rho)(i:Nat)(rk r:Res):aH:=match Y[i]? with
 |some (some (true,.dtn kvs))=>(aI r).thS Y λm d=>match m with|.fz=>(rk.thS Y λ_ K=>(match cD K with|some k=>if kvs.length<sizeLine then .nx (Y.set i (some (true,.dtn (d5 kvs k d))))else .stuck|none=>.stuck))|_=>.stuck
 |_=>.stuck
def tNNew:TE:=λ_ H Q=>∀p,H p=none->Q (.ref p) (upd H p (.dN []))
def aBA:PE X (.Dict [] [] pos) tNNew:=λO s σ H Q I h =>
 wpAny_Dict_empty #[.ref s.heap.objs.size,_,I.laid (a:=s.heap.objs.size) (o:=.dN []) (t':=s.toks) (λ_ _ q=>hps q) (aYC _)
  #[aYO _,aXI.mpr (Ne.symm (aXO I.big)),[],.nil,_,#[],0,aXK _ rfl,#[rfl,rfl,rfl],rfl,rfl,a1T],rfl,h _ (I.hok.fresh (aYC _))]
section
variable{a b o f:Expr}{go gf:Rho->Res}
def aPE:PV C X (.Dict [] [] pos) (λ_=>.ok .fr (.dtn [])):=by refine PE.imp aBA λσ H Q q=>?_;rw[aU]at q;exists Y,F,R,w,q;intro p hp;exact w (.ref p) F _ (aJ.fresh _ R.sub hp) #[p,rfl,R.sub.free hp,[],aY,by simp[aS]] λ_ a ea=>by cases ea;exact hp
def aPF(L:X.A.units+64<cLine)(ha:PV C X a ga)(N:PV C X b gb)(hs:nE b):PV C X (.Subscript a b pos) (λY=>op2 eD (ga Y) (gb Y)):=by refine PE.imp (tE (ix_dn L) ha N hs) λσ H Q q=>lE (λF H m x n y v u k d Q s G D e w=>?_) q;unfold eD at e;split at e;{rename_i kvs K l E;exists p,U,rfl,S,rk,g,qF s G l D E;have r:=aS.val K rk;cases B:bE kvs K with|none=>rw[B]at e;cases e|some T=>rw[B]at e r;cases e;exists V,ev,J,r;rw[ev]at g;exact#[p,V,rfl,g,w V F H (.refl s) J (by nofun)]};cases e
def aBB(B:X.A.units+64<cLine):OpD C X (compareOp .In) (eV false):=by refine#[λx y H Q=>∃a o,y=.ref a/\hW X.K H a x o/\Q (.bl o.isSome) H,?_,?_];{intro O s σ H x y v u Q I rx ry h;exists a,o,rfl,g,q,h;cases(show u=Value.ref a from ry);exact ng_in B I g rx λS D=>#[.bl o.isSome,H,D,rfl,q]};intro F H m x n y v u k d Q s rx ry e w;unfold eV at e;split at e;{rename_i r kvs l E;cases e;exists p,U,rfl,G,rk,g,qF s ry E rx l;exact#[p,_,rfl,g,by rw[rk.hasK r];exact w _ F H (.refl s) (cI _) (by nofun)]};cases e
def aBC(B:X.A.units+64<cLine):OpD C X (compareOp .NotIn) (eV true):=by refine#[λx y H Q=>∃a o,y=.ref a/\hW X.K H a x o/\Q (.bl (!o.isSome)) H,?_,?_];{intro O s σ H x y v u Q I rx ry h;exists a,o,rfl,g,q,h;cases(show u=Value.ref a from ry);exact aPA B I g rx λS D=>#[.bl (!o.isSome),H,D,rfl,q]};intro F H m x n y v u k d Q s rx ry e w;unfold eV at e;split at e;{rename_i r kvs l E;cases e;exists p,U,rfl,G,rk,g,qF s ry E rx l;exact#[p,_,rfl,g,by rw[rk.hasK r];exact w _ F H (.refl s) (cI _) (by nofun)]};cases e
def aPG{op:CmpOp}(ho:op=if neg then .NotIn else .In)(d:X.A.units+64<cLine)(ha:PV C X a ga)(m:PV C X b gb)(l:behindInMarks op b=false):PV C X (.Compare a [op] [b] pos) (λY=>op2 (eV neg) (ga Y) (gb Y)):=by cases neg with|false=>subst ho;exact lF (aBB d) ha m l|true=>subst ho;exact lF (aBC d) ha m l
def uG(H:Hp)(a:Addr):Prop:=∃kvs,Rd H a (.dN kvs)
def qG{a:Addr}(I:L2.Inv X O σ H s)(d:uG H a):s.TypeIs (.ref a) "dict" /\ ∀b,Value.ref a=.ref b->∃ob,s.heap.get? b=some ob/\ob.dict=none:=by exists kvs,e,d;exists _,_,U,_,ob,es,ep,m,l,_,(show bL X.prog X.w H s.heap a (.dN kvs)from e.ok I.hok);exact#[#[ob,m,l.1],λb q=>by cases q;exact#[ob,m,l.2.1]]
def aBD(K:Fg)(td ty tx:TE):TE:=λσ H Q=>td σ H λx H1=>∃a,x=.ref a/\uG H1 a/\ty σ H1 λy l=>tx σ l λz d=>∃o,hW K d a y o/\Q (o.getD z) d
def aPH{ty tx:TE}(L:X.A.units+64<cLine)(ho:PE X o td)(N:PE X e ty)(hf:PE X f tx)(m:M2 X o "get" apos e f cpos):PE X (.Call (.Attribute o "get" apos) [e,f] [] cpos) (aBD X.K td ty tx):=by
 intro O s σ H Q I h;refine a1L m.base m.few m.line PySem.F.plainAttrs_dict PySem.F.slot_dict_get PySem.F.type_dict_get (thn (ho O s σ H _ I h) λu B ⟨x,H1,l,E,a,ex,d,q1⟩=>?_);subst ex;obtain rfl:u=Value.ref a:=E;refine#[(qG l d).1,(qG l d).2,?_];rw[m.trees];refine aZT rfl (aZU (aYQ (thn (N O B σ H1 _ l q1) λiv S ⟨y,H2,W,D,J⟩ =>
  aYQ (thn (hf O S σ H2 _ W J) λfv s3 ⟨z,Z,V,rz,ov,g,G⟩=>aYP ?_))))
 exact aPB L V g D rz λw' s4 T r=>#[_,Z,T,r,G]
def aPI(hu:X.A.units+64<cLine)(ho:PV C X o go)(he:PV C X e ge)(hf:PV C X f gf)(m:M2 X o "get" apos e f cpos):PV C X (.Call (.Attribute o "get" apos) [e,f] [] cpos) (λY=>lX (go Y) (ge Y) (gf Y)):=by
 refine PE.imp (aPH hu ho he (eB hf) m) λσ H Q q=>?_;unfold aBD;rw[aU]at q ⊢;exists Y,F,R,w,q;refine#[Y,F,R,?_];unfold lX at w;cases ea:go Y with
 |stuck|exc c=>rw[ea]at w;exact w|ok ma da=>rw[ea,Res.thn_ok]at w;intro v F1 H1 s1 r1 _;have l:=aX.step s1 w;cases en:asN da with|none=>rw[en]at l;exact l.elim|some kvs=>rw[en]at l;dsimp only at l;exists a,U,rfl,hh,rk,Rp.asN s1.sub r1 en;refine#[a,rfl,#[U,hh],?_];rw[aU];refine#[Y,F1,R.step s1,?_];cases L:ge Y with|stuck|exc c=>rw[L]at l;exact l|ok mk dk=>rw[L,Res.thn_ok]at l;intro y F2 H2 D r2 _;have B:=aX.step D l;rw[aU];refine#[Y,F2,(R.step s1).step D,?_];cases J:aI (gf Y)with|stuck|exc c=>rw[J]at B;exact B|ok md d=>rw[J,Res.thn_ok]at B;intro z V T S r3 _;have W:=aX.step S B;have hm:md=.fz:=pT J;subst hm;cases E:cD dk with|none=>rw[E]at W;exact W.elim|some k=>rw[E]at W;dsimp only at W;exists a',Z,K,aa,G,g,qF S.sub ((r1.step D).step S) en (r2.step S) E;cases K;refine#[_,g,?_];have r:=aS.val k G;cases N:bE kvs k with|none=>rw[N]at r W;dsimp only at r;rw[r];exact W z V T (.refl S.sub) r3 (by nofun)|some d'=>rw[N]at r W;exists v',ev,rv,r;rw[ev];exact W v' V T (.refl S.sub) rv (by nofun)
def uH(K:Fg)(td ty tv:TE):TS:=λD σ H=>tv σ H λv H1=>td σ H1 λx l=>ty σ l λy d=>∃a H4,x=.ref a/\NPut K d a y v H4/\D.nx σ H4
def aBE{i:Expr}{ty:TE}(J:X.A.units+64<cLine)(ho:PE X o td)(hi:PE X i ty)(G:PE X value tv)(hs:swapsWith value (some (.Subscript o i pos')) pos.line X.env=pure false):PS X (.Assign [.Subscript o i pos'] value pos) (uH X.K td ty tv):=by intro O s σ H D I h;refine wpAny_Assign_Subscript (thn (G O s σ H _ I h) λr d ⟨v,H1,V,B,q1⟩=>thn (ho O d σ H1 _ V q1) λu S ⟨x,Z,T,m,F⟩=>thn (hi O S σ Z _ T F) λiv s3 ⟨y,H3,N,l,a,W,ex,g,E⟩=>?_) hs;subst ex;obtain rfl:u=Value.ref a:=m;exact aPC J N g l B λs4 L=>#[σ,W,L,E]
end
section
variable{gk:Rho->Res}
def aPJ(i:Nat)(V:X.A.units+64<cLine)(T:PE X (.Name x p) (fR i))(hk:PV C X ke gk)(he:PV C X e g)(D:swapsWith e (some (.Subscript (.Name x p) ke sp)) pos.line X.env=pure false):PSv C X (.Assign [.Subscript (.Name x p) ke sp] e pos) (λY=>eW Y i (gk Y) (g Y)):=by
 refine PS.imp (aBE V T hk (eB he) D) λE σ H q=>?_;exists Y,F,R,w,q;dsimp only at w;unfold uH;unfold eW at w;split at w
 . rename_i kvs K;exists v0,f,B,Z,R.slot i true _ K;exists a,ea,aa,U,hh,rk,B;subst ea;refine iM R w λm d v F' H' l s R' L fr=>?_;cases m with
   |fr|bo=>exact(show False from l).elim|fz =>
   dsimp only at l;refine#[.ref a,f,?_];refine iM R' l λm2 N u F2 H2 W S R2 o _=>?_;cases J:cD N with|none=>rw[J]at W;exact W.elim|some k=>rw[J]at W;dsimp only at W;split at W;{rename_i hl;have G:H2 a=some (.dN U):=S.same _ _ (s.same _ _ hh);exists b,rfl,hn,hd,qC J o;have r:=rk.mono (s.fsame.trans S.fsame) _ _;refine#[a,_,rfl,#[U,k,b,G,r.keys.mono S.sub,rfl,#[NAt.mono S.sub _ _ hn,hd],by rw[rk.len];exact hl,rfl],?_];exact W σ F2 _ (aD.refl _) (R2.mut K f #[_,aY,aS.put #[hn,hd] (aB.mono S.fsame _ _ L) r])};exact W.elim
 . exact w.elim
end
open PySem.W
structure WkO(lt:Nat->Nat->Bool):Prop where
 ntr:∀{i j k},lt i j=false->lt j k=false->lt i k=false
 asy:∀{i j},lt i j=true->lt j i=false
def WkO.irr{lt:Nat->Nat->Bool}(O:WkO lt)(i:Nat):lt i i=false:=by cases e:lt i i with|false=>rfl|true=>have:=O.asy e;rw[e]at this;cases this
structure PW(n:Nat)(p:Array Nat):Prop where
 size:p.size=n
 below:∀k,p.getD k 0<n
def PW.perm{p q:Array Nat}(h:PW n p)(e:q.Perm p):PW n q:=by refine#[by rw[e.size_eq,h.size],λk=>?_];simp only[a1U];cases z:q[k]? with|none=>have:=h.below p.size;simp only[a1U,Array.getElem?_size]at this;exact this|some v=>have d:v∈p.toList:=(a1V.mp e).mem_iff.mp (by rw[aYJ];exact Array.mem_of_getElem? z);exists i,a,List.getElem?_of_mem d;have:=h.below i;rw[a1W]at a;simp only[a1U,a]at this;exact this
section
variable{lt:Nat->Nat->Bool}{cmp:Nat->Nat->(Bool->a3I->Prop)->a3I->Prop}{J:a3I->Prop}
def Wup(lt:Nat->Nat->Bool)(p:Array Nat)(b:Nat):Prop:=∀i j,i<j->j<b->lt (p.getD j 0) (p.getD i 0)=false
def Wdn(lt:Nat->Nat->Bool)(p:Array Nat)(b:Nat):Prop:=∀i j,i<j->j<b->lt (p.getD i 0) (p.getD j 0)=false
def Weq(lt:Nat->Nat->Bool)(p:Array Nat)(a b:Nat):Prop:=∀i j,a<=i->i<b->a<=j->j<b->lt (p.getD i 0) (p.getD j 0)=false
theorem Wup.more(O:WkO lt){p:Array Nat}{m:Nat}(h:Wup lt p m)(l:1<=m)(e:lt (p.getD m 0) (p.getD (m-1) 0)=false):Wup lt p (m+1):=λi j d o=>by by_cases a:j<m;{exact h i j d a};(have:j=m:=by lia);subst this;by_cases f:i=j-1;{rw[f];exact e};exact O.ntr e (h i (j-1) (by lia) (by lia))
theorem Wdn.more(O:WkO lt){p:Array Nat}{m:Nat}(h:Wdn lt p m)(l:1<=m)(e:lt (p.getD (m-1) 0) (p.getD m 0)=false):Wdn lt p (m+1):=λi j d o=>by by_cases a:j<m;{exact h i j d a};(have:j=m:=by lia);subst this;by_cases f:i=j-1;{rw[f];exact e};exact O.ntr (h i (j-1) (by lia) (by lia)) e
def jC{p:Array Nat}(a b:Nat)(d:b<=p.size)(k:Nat):(kas_rev p a b).getD k 0=if a<=k/\k<b then p.getD (a+b-1-k) 0 else p.getD k 0:=by simp only[a1U];unfold kas_rev;rw[getElem?_mirror_all d];split <;> rfl
def qH{p:Array Nat}(f:PW n p)(a b:Nat):PW n (kas_rev p a b)/\(kas_rev p a b).Perm p:=by have d:(kas_rev p a b).Perm p:=mirror_perm _ _ _ _;exact#[f.perm d,d]
theorem uI(O:WkO lt)(A:iP n lt cmp J){p:Array Nat}(o:PW n p):∀(f m:Nat) (s:a3I) (Q:Nat->a3I->Prop),m+f=n->1<=m->Wup lt p m->J s->(∀m' s',m<=m'->m'<=n->Wup lt p m'->(m'<n->lt (p.getD m' 0) (p.getD (m'-1) 0)=true)->J s'->Q m' s')->(kas_asc p f m).kasWp cmp Q s|0,m,s,Q,e,B,u,r,q=>q m s (aYC _) (by lia) u (λz=>by lia) r|f+1,m,s,Q,e,B,u,r,q=>by refine A _ _ s _ (o.below m) (o.below (m-1)) r λs' l=>?_;cases E:lt (p.getD m 0) (p.getD (m-1) 0)with|true=>exact q m s' (aYC _) (by lia) u (λ_=>E) l|false=>exact uI O A o f (m+1) s' Q (by lia) (by lia) (u.more O B E) l λm' S a b c d e=>q m' S (by lia) b c d e
theorem Wdn.turn{p:Array Nat}{a m:Nat}(hp:m<=p.size)(d:Wdn lt p m)(e:Weq lt p a m):Wdn lt (kas_rev p a m) m:=λi j o l=>by rw[jC a m hp,jC a m hp];by_cases r:a<=i;{rw[al #[r,by lia],al #[by lia,l]];exact e _ _ (by lia) (by lia) (by lia) (by lia)};rw[aK (by lia)];by_cases f:a<=j;{rw[al #[f,l]];exact d _ _ (by lia) (by lia)};rw[aK (by lia)];exact d i j o l
theorem qI(O:WkO lt)(E:iP n lt cmp J)(B:Array Nat):∀(f m q:Nat) (p:Array Nat) (s:a3I) (Q:Array Nat×Nat×Nat->a3I->Prop),PW n p->p.Perm B->m+f=n->q+1<=m->Wdn lt p m->Weq lt p (m-(q+1)) m->J s->(∀D m' q' s',PW n D->D.Perm B->q'+1<=m'->1<=m'->m'<=n->Wdn lt D m'->Weq lt D (m'-(q'+1)) m'->J s'->Q (D,m',q') s')->(kas_desc f p m q).kasWp cmp Q s|0,m,q,p,s,Q,l,A,e,S,u,W,N,k=>k p m q s l A S (by lia) (by lia) u W N|f+1,m,q,p,s,Q,l,A,e,S,u,W,N,k=>by unfold kas_desc;refine E _ _ s _ (l.below m) (l.below (m-1)) N λs' o=>?_;have sz:=l.size;cases ec:lt (p.getD m 0) (p.getD (m-1) 0)with|true=>(have e1:=O.asy ec;have one:∀(r:Array Nat),Weq lt r (m+1-(0+1)) (m+1):=λr i j a b c d=>by(have:i=j:=by lia);subst this;exact O.irr _);dsimp only;rw[al rfl];by_cases V:q > 0;{rw[al V];exists G,K,qH l (m-(q+1)) m;refine qI O E B f (m+1) 0 _ s' Q G (K.trans A) (by lia) (by lia) ?_ (one _) o k;refine(u.turn (by lia) W).more O (by lia) ?_;rw[jC _ _ (by lia),jC _ _ (by lia),al #[by lia,by lia],aK (by lia)];exact O.ntr (W _ (m-1) (by lia) (by lia) (by lia) (by lia)) e1};rw[aK V];exact qI O E B f (m+1) 0 p s' Q l A (by lia) (by lia) (u.more O (by lia) e1) (one _) o k|false=>dsimp only;rw[aK aX8];refine E _ _ s' _ (l.below (m-1)) (l.below m) o λT F=>?_;cases ed:lt (p.getD (m-1) 0) (p.getD m 0)with|true=>dsimp only;rw[al rfl];exact k p m q T l A S (by lia) (by lia) u W F|false=>dsimp only;rw[aK aX8];refine qI O E B f (m+1) (q+1) p T Q l A (by lia) (by lia) (u.more O (by lia) ed) (λi j a b c d=>?_) F k;by_cases Z:i<m;{by_cases L:j<m;{exact W i j (by lia) Z (by lia) L};(have:j=m:=by lia);subst this;exact O.ntr (W i (j-1) (by lia) Z (by lia) (by lia)) ed};(have:i=m:=by lia);subst this;by_cases L:j<i;{exact O.ntr ec (W (i-1) j (by lia) (by lia) (by lia) L)};(have:j=i:=by lia);subst this;exact O.irr _
theorem aBF(O:WkO lt)(E:iP n lt cmp J){p:Array Nat}(r:PW n p){m:Nat}(G:1<=m)(L:m<=n)(d:Wdn lt p m){Q:Nat×Array Nat->a3I->Prop}(F:J s)(q:∀m' f s',1<=m'->m'<=n->PW n f->f.Perm p->Wup lt f m'->J s'->Q (m',f) s'):(kas_tail3 m n p).kasWp cmp Q s:=by unfold kas_tail3;rw[KasT.kasWp_bind];exists a,l,qH r 0 m;have sz:=r.size;refine uI O E a (n-m) m s _ (by lia) G (λi j D N=>?_) F λB S T K A _ o=>q B _ S (by lia) K a l A o;rw[jC _ _ (by lia),jC _ _ (by lia),al #[by lia,by lia],al #[by lia,by lia]];exact d _ _ (by lia) (by lia)
theorem aBG(O:WkO lt)(T:iP n lt cmp J){p:Array Nat}(pp:PW n p){m:Nat}(hm:m<n)(d:Wdn lt p (m+1)){Q:Nat×Array Nat->a3I->Prop}(hJ:J s)(q:∀m' o s',1<=m'->m'<=n->PW n o->o.Perm p->Wup lt o m'->J s'->Q (m',o) s'):(kas_descPart m n p).kasWp cmp Q s:=by unfold kas_descPart;rw[KasT.kasWp_bind];refine qI O T p (n-(m+1)) (m+1) 0 p s _ pp (a1X _) (by lia) (by lia) d (λi j a b c d=>?_) hJ λo m' q' s' f l h1 Z W d' e' r=>?_;{(have:i=j:=by lia);subst this;exact O.irr _};dsimp only;have sz:=f.size;by_cases V:q' > 0;{rw[al V];exists K,L,qH f (m'-(q'+1)) m';exact aBF O T K Z W (d'.turn (by lia) e') r λN p2 S G F E D B A=>q N p2 S G F E ((D.trans L).trans l) B A};rw[aK V];exact aBF O T f Z W d' r λN p2 S G F E D B A=>q N p2 S G F E (D.trans l) B A
theorem aPK(O:WkO lt)(D:iP n lt cmp J)(hn:2<=n){p:Array Nat}(f:PW n p){Q:Nat×Array Nat->a3I->Prop}(hJ:J s)(q:∀m' r s',1<=m'->m'<=n->PW n r->r.Perm p->Wup lt r m'->J s'->Q (m',r) s'):(kas_count n p).kasWp cmp Q s:=by
 unfold kas_count;rw[KasT.kasWp_bind];have sz:=f.size;refine uI O D f (n-1) 1 s _ (by lia) (aYC _) (λi j K h2=>by lia) hJ λm S a b u d l=>?_
 by_cases L:m=n
 . rw[al (by simpa using L)];exact q m p S a b f (a1X _) u l
 . rw[aK (by simpa using L)]
   have N:=O.asy (d (by lia))
   by_cases K:m > 1
   . rw[al K];refine D _ _ S _ (f.below 0) (f.below (m-1)) l λs2 o=>?_;cases ec:lt (p.getD 0 0) (p.getD (m-1) 0)with|true=>dsimp only;rw[al rfl];exact q m p s2 a b f (a1X _) u o|false=>(dsimp only;rw[aK aX8];exists E,F,qH f 0 m;have ge:∀i,i<m->lt (p.getD i 0) (p.getD 0 0)=false:=λi B=>by by_cases h0:i=0;{rw[h0];exact O.irr _};exact u 0 i (by lia) B);(have le:∀i,i<m->lt (p.getD (m-1) 0) (p.getD i 0)=false:=λi B=>by by_cases h0:i=m-1;{rw[h0];exact O.irr _};exact u i (m-1) (by lia) (by lia));have all:Weq lt p 0 m:=λi j _ B _ A=>O.ntr (O.ntr (ge i B) ec) (le j A);refine aBG O D E (by lia) (Wdn.more O (Wdn.turn (by lia) (λi j G A=>all i j (by lia) (by lia) (by lia) A) all) (by lia) ?_) o λm2 p2 s3 x1 x2 Z W V T=>q m2 p2 s3 x1 x2 Z (W.trans F) V T;rw[jC _ _ (by lia),jC _ _ (by lia),al #[by lia,by lia],aK (by lia)];exact O.ntr (all _ (m-1) (by lia) (by lia) (by lia) (by lia)) N
   . rw[aK K];have e1:m=1:=by lia
     subst e1
     exact aBG O D f (by lia) (λi j G A=>by
      have:i=0/\j=1:=by lia
      rw[this.1,this.2];exact N) l q
theorem uJ(O:WkO lt)(B:iP n lt cmp J){p:Array Nat}(o:PW n p){k:Nat}(hk:k<n)(u:Wup lt p k):∀(f l r:Nat) (s:a3I) (Q:Nat->a3I->Prop),l<=r->r<=k->r-l<=f->J s->(∀i,i<l->lt (p.getD k 0) (p.getD i 0)=false)->(∀i,r<=i->i<k->lt (p.getD i 0) (p.getD k 0)=false)->(∀l' s',l'<=k->(∀i,i<l'->lt (p.getD k 0) (p.getD i 0)=false)->(∀i,l'<=i->i<k->lt (p.getD i 0) (p.getD k 0)=false)->J s'->Q l' s')->(kas_place p k f l r).kasWp cmp Q s|0,l,r,s,Q,N,D,L,A,a,b,q=>q l s (by lia) a (λi F=>b i (by lia)) A|f+1,l,r,s,Q,N,D,L,A,a,b,q=>by unfold kas_place;by_cases d:l ≥ r;{rw[al d];exact q l s (by lia) a (λi F=>b i (by lia)) A};rw[aK d];refine B _ _ s _ (o.below k) (o.below ((l+r) / 2)) A λs' m=>?_;cases E:lt (p.getD k 0) (p.getD ((l+r) / 2) 0)with|true=>refine uJ O B o hk u f l ((l+r) / 2) s' Q (by lia) (by lia) (by lia) m a (λi K G=>?_) q;by_cases e:i=(l+r) / 2;{rw[e];exact O.asy E};exact O.ntr (u _ i (by lia) G) (O.asy E)|false=>refine uJ O B o hk u f ((l+r) / 2+1) r s' Q (by lia) D (by lia) m (λi K=>?_) b q;by_cases e:i=(l+r) / 2;{rw[e];exact E};exact O.ntr E (u i _ (by lia) (by lia))
theorem aBH(O:WkO lt)(E:iP n lt cmp J):∀(f k:Nat) (p:Array Nat) (s:a3I) (Q:Array Nat->a3I->Prop),k+f=n->PW n p->Wup lt p k->J s->(∀d s',PW n d->d.Perm p->Wup lt d n->J s'->Q d s')->(kas_bin f p k).kasWp cmp Q s|0,k,p,s,Q,e,o,u,B,q=>by(have:k=n:=by lia);subst this;exact q p s o (a1X _) u B|f+1,k,p,s,Q,e,o,u,B,q=>by unfold kas_bin;rw[KasT.kasWp_bind];refine uJ O E o (by lia) u k 0 k s _ (aYO _) (aYC _) (by lia) B (λi h=>by lia) (λi F m=>by lia) λl K N a b A=>?_;have D:(bubble p k (k-l)).Perm p:=bubble_perm _ _ _;have g:=getElem?_bubble (xs:=p) (src:=k) (by rw[o.size];lia) (k-l) (by lia);refine aBH O E f (k+1) _ K Q (by lia) (o.perm D) (λi j r T=>?_) A λd S x y z w=>q d S x (y.trans D) z w;(have L:k-(k-l)=l:=by lia);(rw[L]at g;have G:∀i,(bubble p k (k-l)).getD i 0=if i=l then p.getD k 0 else if l<i/\i<=k then p.getD (i-1) 0 else p.getD i 0:=λi=>by simp only[a1U];rw[g i];split;{rfl};split <;> rfl);rw[G i,G j];by_cases F:i<l;{rw[aK (show ¬ i=l by lia),aK (show ¬ (l<i/\i<=k) by lia)];by_cases m:j=l;{rw[al m];exact a i F};rw[aK m];split;{exact u i (j-1) (by lia) (by lia)};exact u i j r (by lia)};by_cases m:i=l;{rw[al m,aK (show ¬ j=l by lia),al (show l<j/\j<=k by lia)];exact b (j-1) (by lia) (by lia)};rw[aK m,al (show l<i/\i<=k by lia),aK (show ¬ j=l by lia),al (show l<j/\j<=k by lia)];exact u (i-1) (j-1) (by lia) (by lia)
theorem aPL(O:WkO lt)(o:iP n lt cmp J)(hn:2<=n){Q:Array Nat->a3I->Prop}(D:J s)(q:∀p s',PW n p->p.Perm (List.toArray (List.range n))->Wup lt p n->J s'->Q p s'):(kas_sort n).kasWp cmp Q s:=by(unfold kas_sort;rw[KasT.kasWp_bind];have A:PW n (List.toArray (List.range n)):=by refine#[by simp,λk=>?_];simp only[a1U,List.getElem?_toArray,a0Q];by_cases hk:k<n;{simp[hk]};simp[hk];lia);refine aPK O o hn A D λm p S a b d l u f=>?_;by_cases h:m<n;{rw[al h];(have E:max m 1=m:=by lia);rw[E];exact aBH O o (n-m) m p S Q (by lia) d u f λB r x y z w=>q B r x (y.trans l) z w};rw[aK h];(have E:m=n:=by lia);subst E;exact q p S d l u f
end
def eE:Nat:=64
def kE:eE<=1000000:=by decide
def uK:64<=eE:=aYC _
section
variable{A:a3J}{E:VSP}{κ:SortKind}{ks:List a3H}{lt:Nat->Nat->Bool}
def aBI(O:WkO lt)(o:ks.length=vs.length)(m:2<=vs.length)(J:vs.length<eE)(ask:∀i j (C:Bool->a3I->Prop),i<vs.length->j<vs.length->C (lt i j) s->wpAny (model prog w) A (keyLt' κ (ks.getD i .none) (ks.getD j .none)) C (λ_ _=>False) s){Q:SortSt->a3I->Prop}(q:∀p S,PW vs.length p->p.Perm (List.toArray (List.range vs.length))->Wup lt p vs.length->arrOf S=p.map (kas_item (ks.toArray.zip vs.toArray))->failedOf S=none->Q S s):wpAny (model prog w) A ((sortRuns').run (SortSt.mk' κ (ks.toArray.zip vs.toArray) #[] 7 none)) (λr s'=>Q r.2 s') E s:=by
 have a:iP vs.length lt (kas_ask prog w A κ ks) (λd=>d=s):=λi j d C F D K q=>by subst K;unfold kas_ask;exact ask i j _ F D (q _ rfl)
 exact kat_run (G:=λp d=>d=s/\PW vs.length p/\p.Perm (List.toArray (List.range vs.length))/\Wup lt p vs.length) o m J (λp S d W V T N=>by
  exists rfl,l,f,B,N;exact q p S l f B V T) (aPL O a m rfl λp d l f B L=>#[L,l,f,B])
end
mutual
def ltN:N->N->Bool|.i n,.i m=>decide (n<m)|.i _,.s _|.i _,.t _=>true|.s _,.i _=>false|.s x,.s y=>lts x y|.s _,.t _=>true|.t _,.i _|.t _,.s _=>false|.t U,.t ys=>bF U ys
def bF:List N->List N->Bool|[],[]=>false|[],_::_=>true|_::_,[]=>false|x::U,y::ys=>if x=y then bF U ys else ltN x y
end
mutual
def okN:N->N->Bool|.i _,.i _|.s _,.s _=>true|.t U,.t ys=>cJ U ys|.i _,.s _|.i _,.t _|.s _,.i _|.s _,.t _|.t _,.i _|.t _,.s _=>false
def cJ:List N->List N->Bool|[],_|_::_,[]=>true|x::U,y::ys=>if x=y then cJ U ys else okN x y
end
theorem aBJ:∀(U:List N),bF U U=false|[]=>by rw[bF]|x::U=>by rw[bF,al rfl,aBJ U]
def kG(k:N):ltN k k=false:=by cases k with|i n=>rw[ltN];simp|s x=>rw[ltN];exact pW x|t U=>rw[ltN];exact aBJ U
theorem aBK:∀{U ys:List N},(∀x∈U,∀y,ltN x y=false->ltN y x=false->x=y)->bF U ys=false->bF ys U=false->U=ys|[],[],_,_,_=>rfl|[],_::_,_,h,_|_::_,[],_,_,h=>by rw[bF]at h;cases h|x::U,y::ys,k,d,a=>by rw[bF]at d a;by_cases e:x=y;{subst e;rw[al rfl]at d a;rw[aBK (λz f=>k z (mcm f)) d a]};rw[aK e]at d;rw[aK (λz=>e z.symm)]at a;exact absurd (k x mcs y d a) e
theorem qJ(k:N):∀y,ltN k y=false->ltN y k=false->k=y:=by
 induction k using N.ind with
 |hi n=>intro y d a;cases y with|i m=>(rw[ltN]at d a;have:n=m:=by have l:=a1Y d;have A:=a1Y a;lia);rw[this]|s x|t U=>rw[ltN]at d;cases d
 |hs x=>intro y d a;cases y with|i m=>rw[ltN]at a;cases a|s z=>rw[ltN]at d a;rw[uC d a]|t U=>rw[ltN]at d;cases d
 |ht U f=>intro y d a;cases y with|i m|s z=>rw[ltN]at a;cases a|t ys=>rw[ltN]at d a;rw[aBK f d a]
theorem aBL:∀{U ys zs:List N},(∀x∈U,∀y z,ltN x y=true->ltN y z=true->ltN x z=true)->bF U ys=true->bF ys zs=true->bF U zs=true|[],[],_,_,h,_|[],_::_,[],_,_,h=>by rw[bF]at h;cases h|[],_::_,_::_,_,_,_=>by rw[bF]|_::_,[],_,_,h,_|_::_,_::_,[],_,_,h=>by rw[bF]at h;cases h|x::U,y::ys,z::zs,k,d,a=>by rw[bF]at d a ⊢;by_cases f:x=y;{subst f;rw[al rfl]at d;by_cases E:x=z;{rw[al E]at a ⊢;exact aBL (λz m=>k z (mcm m)) d a};rw[aK E]at a ⊢;exact a};rw[aK f]at d;by_cases E:y=z;{subst E;rw[aK f];exact d};rw[aK E]at a;have o:=k x mcs y z d a;by_cases l:x=z;{rw[<- l]at a;have:=k x mcs y x d a;rw[kG]at this;cases this};rw[aK l];exact o
theorem uL(k:N):∀y z,ltN k y=true->ltN y z=true->ltN k z=true:=by
 induction k using N.ind with
 |hi n=>intro y z d a;cases z with|i l=>(cases y with|i m=>rw[ltN]at d a ⊢;have B:=a0M d;have A:=a0M a;exact aZ8 (by lia)|s x|t U=>rw[ltN]at a;cases a)|s x|t U=>rw[ltN]
 |hs x=>intro y z d a;cases y with|i m=>rw[ltN]at d;cases d|s o=>(cases z with|i l=>rw[ltN]at a;cases a|s f=>rw[ltN]at d a ⊢;exact uB d a|t U=>rw[ltN])|t U=>cases z with|i l|s f=>rw[ltN]at a;cases a|t U=>rw[ltN]
 |ht U r=>intro y z d a;cases y with|i m|s o=>rw[ltN]at d;cases d|t ys=>cases z with|i l|s f=>rw[ltN]at a;cases a|t zs=>rw[ltN]at d a ⊢;exact aBL r d a
def nS{a b:N}(h:ltN a b=true):ltN b a=false:=by cases e:ltN b a with|false=>rfl|true=>have:=uL a b a h e;rw[kG]at this;cases this
def nU{a b c:N}(f:ltN a b=false)(d:ltN b c=false):ltN a c=false:=by cases e:ltN a c with|false=>rfl|true=>cases E:ltN b a with|true=>have:=uL b a c E e;rw[d]at this;cases this|false=>have:=qJ a b f E;subst this;rw[e]at d;cases d
def gP(l:List N):Prop:=l.Pairwise λx y=>ltN y x=false
def lY(x:N):List N->List N|[]=>[x]|y::l=>if ltN y x=true then y::lY x l else x::y::l
def dH(l:List N):List N:=l.foldr lY []
theorem uM(x:N):∀(l:List N),(lY x l).Perm (x::l)|[]=>a1Z _|y::l=>by unfold lY;split;{exact((uM x l).cons y).trans (List.Perm.swap x y l)};exact a1Z _
theorem jD:∀(l:List N),(dH l).Perm l|[]=>a1Z _|x::l=>(uM x (dH l)).trans ((jD l).cons x)
theorem aBM{x:N}:∀{l:List N},gP l->gP (lY x l)|[],_=>a10 _ _|y::l,h=>by unfold lY;split;{rename_i e;refine a11.mpr #[λz a=>?_,aBM (a11.mp h).2];rcases aXV.mp ((uM x l).mem_iff.mp a)with rfl|a;{exact nS e};exact(a11.mp h).1 z a};rename_i e;(have e:ltN y x=false:=by simpa using e);refine a11.mpr #[λz a=>?_,h];rcases aXV.mp a with rfl|a;{exact e};exact nU ((a11.mp h).1 z a) e
theorem lZ:∀(l:List N),gP (dH l)|[]=>List.Pairwise.nil|x::l=>aBM (lZ l)
theorem uN:∀{l l':List N},gP l->gP l'->l.Perm l'->l=l'|[],l',_,_,p=>p.symm.eq_nil.symm|x::l,[],_,_,p=>p.eq_nil|x::l,y::l',h,h',p=>by(have f:=a11.mp h;have d:=a11.mp h';have E:x=y:=by(have a:ltN y x=false:=by rcases aXV.mp (p.mem_iff.mpr mcs)with e|e;{rw[e];exact kG _};exact f.1 y e);(have b:ltN x y=false:=by rcases aXV.mp (p.mem_iff.mp mcs)with e|e;{rw[e];exact kG _};exact d.1 x e);exact qJ x y b a);subst E;rw[uN f.2 d.2 p.cons_inv]
def uO{l l':List N}(h:gP l')(p:l'.Perm l):l'=dH l:=uN h (lZ l) (p.trans (jD l).symm)
theorem aPM{A:a3J}{x y:N}{v:a3H}(l:A.units+x.dp<cLine)(hx:IsN s.heap x u)(d:IsN s.heap y v):SeqAt.EqAt A s u v (decide (x=y)):=by obtain⟨⟨as,a⟩,ca⟩:=IsN.reads x u hx;obtain⟨⟨bs,r⟩,f⟩:=IsN.reads y v d;have:=a0F x.py y.py A s u v as bs a r ca f (by rw[N.py_depth];have:=a0G x.dp y.py.depth;lia);rw[N.py_eqv]at this;exact this
theorem uP{A:a3J}:∀{U ys:List N}{us vs:List a3H},(∀x∈U,∀(y:N) (u v:a3H),IsN s.heap x u->IsN s.heap y v->okN x y=true->∀(prog:a3L) (W:a3K) (E:VSP) (Q:VSP),Q (.bool (ltN x y)) s->wpAny (model prog W) A (compareOp .Lt u v) Q E s)->A.units+N.dpL U<cLine->aW s.heap U us->aW s.heap ys vs->cJ U ys=true->LtI A s us vs (bF U ys)|[],[],us,vs,_,_,d,a,_=>by rw[aW]at d a;subst d;subst a;rw[bF];exact .nn|[],y::ys,us,vs,_,_,d,a,_=>by rw[aW]at d;rw[aW]at a;subst d;exists v,ws,rfl,_,a;rw[bF];exact .nc|x::U,[],us,vs,_,_,d,a,_=>by rw[aW]at d;rw[aW]at a;subst a;exists v,ws,rfl,_,d;rw[bF];exact .cn|x::U,y::ys,us,vs,k,o,d,a,ok=>by rw[aW]at d a;exists u,us,rfl,p1,p2,d;exists v,vs,rfl,q1,l,a;rw[N.dpL]at o;rw[cJ]at ok;have e:=aPM (A:=A) (by lia) p1 q1;rw[bF];by_cases f:x=y;{rw[aZ8 f]at e;rw[al f]at ok ⊢;exact .eq e (uP (λz m=>k z (mcm m)) (by lia) p2 l ok)};rw[aXH f]at e;rw[aK f]at ok ⊢;exact .ne e λprog W E Q q=>k x mcs y u v p1 q1 ok prog W E Q q
theorem n_lt(k:N):∀{A:a3J}{E:VSP}{y:N}{u v:a3H}{Q:VSP}{prog:a3L}{w:a3K},A.units+k.dp+1<cLine->IsN s.heap k u->IsN s.heap y v->okN k y=true->Q (.bool (ltN k y)) s->wpAny (model prog w) A (compareOp .Lt u v) Q E s:=by
 induction k using N.ind with
 |hi n=>intro A E y u v Q prog w hu h1 h2 ok q;cases y with|i m=>rw[IsN]at h1 h2;exists t,rfl,h1;exists t',rfl,h2;rw[ltN]at q;exact lt_int q|s x|t U=>rw[okN]at ok;cases ok
 |hs x=>intro A E y u v Q prog w hu h1 h2 ok q;cases y with|s z=>rw[IsN]at h1 h2;obtain⟨⟨t,rfl⟩,_⟩:=h1;obtain⟨⟨t',rfl⟩,_⟩:=h2;rw[ltN]at q;unfold lts at q;rw[ltCps_eq]at q;exact lt_str q|i m|t U=>rw[okN]at ok;cases ok
 |ht U B=>intro A E y u v Q prog w hu h1 h2 ok q;cases y with|i m|s x=>rw[okN]at ok;cases ok|t ys=>rw[IsN]at h1 h2;exists a,o,its,n,rfl,D,c1,J,r,h1;exists b,f,d,l,rfl,G,K,F,L,h2;rw[ltN]at q;rw[okN]at ok;rw[N.dp]at hu;exact aNY #[o,D,c1,n,J] #[f,G,K,l,F] (uP (A:=A.in1) (λx hx y u v p1 p2 ok prog W E Q q=>B x hx (by have:=N.dp_mem hx;show A.units+1+_+1<_;lia) p1 p2 ok q) (by show A.units+1+_<_;lia) r L ok) (by lia) q
def fX(h:Heap)(vs:List a3H)(ks:List N):Prop:=vs.length=ks.length/\∀i,i<ks.length->IsN h (ks.getD i (.i 0)) (vs.getD i .none)
def eF:N->Bool|.t (.t _::_)=>true|_=>false
structure kH(ks:List N)(p:List Nat):Prop where
 perm:p.Perm (List.range ks.length)
 up:gP (p.map λi=>ks.getD i (.i 0))
def kH.eq{p:List Nat}(h:kH ks p):(p.map λi=>ks.getD i (.i 0))=dH ks:=by refine uO h.up ?_;have:=h.perm.map λi=>ks.getD i (.i 0);rw[pX]at this;exact this
def IsN.kept(k:N):∀{v:a3H},IsN h k v->(∀a o,h.get? a=some o->o.cls=.type "tuple"->h'.get? a=some o)->IsN h' k v:=by induction k using N.ind with|hi n|hs x=>intro v q _;rw[IsN]at q ⊢;exact q|ht U f=>intro v q kp;rw[IsN]at q ⊢;exists a,o,its,n,e,ha,d,hd,hi,q;exact#[a,o,its,n,e,kp a o ha d,d,hd,hi.map λx hx v q=>f x hx q kp]
def aBN(ks:List N):Prop:=∀x∈ks,∀y∈ks,okN x y=true
section
variable{A:a3J}{E:VSP}
theorem aBO{F:Bool}{Q:Bool->a3I->Prop}:∀{U ys:List N}{us vs:List a3H}{i:Nat},A.units+N.dpL U+1<cLine->aW s.heap U us->aW s.heap ys vs->cJ U ys=true->F=decide (us.length<vs.length)->Q (bF U ys) s->KatLex prog w A false F Q (us.zip vs) i s|[],[],us,vs,i,_,d,a,_,e,q=>by rw[aW]at d a;subst d;subst a;subst e;rw[bF]at q;exact q|[],y::ys,us,vs,i,_,d,a,_,e,q=>by rw[aW]at d;rw[aW]at a;subst d;exists v,zs,rfl,_,a;subst e;rw[bF]at q;exact q|x::U,[],us,vs,i,_,d,a,_,e,q=>by rw[aW]at d;rw[aW]at a;subst a;exists v,zs,rfl,_,d;subst e;rw[bF]at q;exact q|x::U,y::ys,us,vs,i,m,d,a,ok,e,q=>by rw[aW]at d a;exists u,us,rfl,p1,p2,d;exists v,vs,rfl,q1,l,a;rw[N.dpL]at m;rw[cJ]at ok;rw[bF]at q;rw[a09];refine kat_cons (n_eq (by lia) p1 q1 (kat_go (λh=>?_) λh=>?_));{have f:=a0M h;rw[al f]at ok q;exact kat_yes (aBO (by lia) p2 l ok (by subst e;simp) q)};have f:=a1Y h;rw[aK f]at ok q;exact kat_no (kat_one _ _ (n_lt x (by lia) p1 q1 ok q))
theorem aPN{x y:N}{v:a3H}{Q:Bool->a3I->Prop}(m:A.units+x.dp<cLine)(B:eF x=true)(F:eF y=true)(hx:IsN s.heap x u)(f:IsN s.heap y v)(ok:okN x y=true)(q:Q (ltN x y) s):wpAny (model prog w) A (keyLt' (tuples' false) u v) Q E s:=by cases x with|i n|s z=>cases B|t U=>cases y with|i n|s z=>cases F|t ys=>rw[IsN]at hx f;exists a,o,its,n,rfl,r,c1,J,L,hx;exists b,K,d,S,rfl,G,T,D,l,f;rw[okN]at ok;rw[ltN]at q;rw[N.dp]at m;exact kat_lt r J G D (aBO (by lia) L l ok (by simp) q)
theorem aBP:∀{vs:List a3H}{ks:List N},fX s.heap vs ks->(∀k∈ks,eF k=true)->∃fs:List a3H,KatTups s.heap vs fs/\fs.length=ks.length/\∀f∈fs,Looks (model prog w) s.heap (typeOf f) (.type "tuple")
 |[],[],_,_=>#[[],trivial,rfl,λf hf=>nomatch hf]|[],_::_,h,_|_::_,[],h,_=>by have:=h.1;simp at this|v::vs,k::ks,h,m=>by
  have h0:=h.2 0 (by simp)
  have h0:IsN s.heap k v:=by simpa using h0
  have tail:fX s.heap vs ks:=#[by simpa using h.1,λi J=>by
   have:=h.2 (i+1) (by simpa using J)
   simpa using this]
  exists fs,D,B,K,aBP tail λt G=>m t (mcm G);have F:=m k mcs;unfold eF at F;split at F
  . rename_i ys zs;rw[IsN]at h0;exists a,o,its,n,rfl,T,c1,W,l,h0;rw[aW]at l;exists f,us,V,p1,_,l;rw[IsN]at p1;exists b,r,d,n2,rfl,S,Z,d2,_,p1;have f0:its[0]? = some (.ref b):=by
      have:its.toList[0]? = some (.ref b):=by rw[V];rfl
      simpa using this
    refine#[.ref b::fs,#[#[a,o,its,n,rfl,T,c1,W,f0],D],by simp[B],λf hf=>?_]
    rcases aXV.mp hf with rfl|hf
    . have L:Looks (model prog w) s.heap (typeOf (.ref b)) r.cls:=(Looks.ld S).andThen .now;rw[Z]at L;exact L
    . exact K f hf
  . cases F
theorem kindN{Q:SortKind->a3I->Prop}(h:fX s.heap vs ks)(f:∀k∈ks,eF k=true)(l:0<ks.length)(q:Q (tuples' false) s):wpAny (model prog w) A (keyKind' vs.toArray) Q E s:=by exists fs,a,d,K,aBP (prog:=prog) (w:=w) h f;exact kat_kind (T:=.type "tuple") a (by lia) K rfl q
def wkO_N(ks:List N):WkO λi j=>ltN (ks.getD i (.i 0)) (ks.getD j (.i 0)):=#[λa b=>nU a b,λa=>nS a]
def aPO{p:Array Nat}(l:PW ks.length p)(m:p.Perm (List.toArray (List.range ks.length)))(u:Wup (λi j=>ltN (ks.getD i (.i 0)) (ks.getD j (.i 0))) p ks.length):kH ks p.toList:=by refine#[by simpa using a1V.mp m,?_];unfold gP;rw[a1M];refine List.pairwise_iff_getElem.mpr λi j f a d=>?_;rw[aX5]at f a;have:=u i j d (by rw[<- l.size];exact a);simpa[Array.getD,f,a]using this
theorem fX.kept(q:fX h vs ks)(kp:∀a o,h.get? a=some o->o.cls=.type "tuple"->h'.get? a=some o):fX h' vs ks:=#[q.1,λi d=>IsN.kept _ (q.2 i d) kp]
theorem aPP{a:Addr}{P:PySem.Fin->a3I->Prop}(hu:A.units+13<cLine)(ho:s.heap.get? a=some (seqObj "list" vs.toArray n))(L:fX s.heap vs ks)(d8:∀k∈ks,k.dp<=12)(ok:aBN ks)(F:ks.length<=1\/∀k∈ks,eF k=true)(r:ks.length<eE)(h:∀p,kH ks p->P (.done (.ret .none)) {s with heap:=sortedHeap s.heap a vs (p.map λi=>vs.getD i .none).toArray}):wpAny (model prog w) A (Builtin.«list.sort» #[[.ref a],[]]) P E s:=by
 have V:ks.length<1000000:=aXM r kE;have l:=L.1;have la:a<s.heap.objs.size:=aXL ho;rw[list_sort_plain];refine aYB (a12 ho rfl (aYB (a13 ho rfl ?_ (by rw[aYI,aYH];lia) (aYO _))))
 obtain⟨Z,m⟩:∃c,(s.heap.update a (Obj.mapSeq λ_=>(#[]:Array a3H))).get? a=some (seqObj "list" #[] c):=#[_,a14 ho λ_=>#[]];refine aYB (a15 m rfl (aYB (wpAny_newTuple (aYB (a16 (aZG ?_) (aYO _))) (by show vs.length<=_;rw[aYH];lia))))
 have d:(((s.heap.update a (Obj.mapSeq λ_=>(#[]:Array Value))).push (seqObj "tuple" vs.toArray 0)).push (seqObj "list" #[] 0)).get? a=some (seqObj "list" #[] Z):=hps (hps m);have f:fX (((s.heap.update a (Obj.mapSeq λ_=>(#[]:Array Value))).push (seqObj "tuple" vs.toArray 0)).push (seqObj "list" #[] 0)) vs ks:=L.kept λb o e c=>by(have T:b≠a:=λz=>by rw[z,ho]at e;cases e;have c:Value.type "list"=.type "tuple":=c;injection c with c;exact absurd c (by decide));exact hps (hps ((a17 _ _ _ _ T).trans e))
 have B:=h;show wpAny (model prog w) A _ P E { s with heap:=((s.heap.update a (Obj.mapSeq λ_=>(#[]:Array a3H))).push (seqObj "tuple" vs.toArray 0)).push (seqObj "list" #[] 0) }
 dsimp only;by_cases hs:vs.toArray.size<2
 . rw[al hs,al hs];rw[aYI]at hs;refine aYB (aYA ?_);rw[StateT.run_pure];refine aYB (aYA ?_);have N:kH ks (List.range ks.length):=#[a1Z _,by
     rw[pX]
     match ks,l with|[],_=>exact List.Pairwise.nil|[t],_=>exact a10 _ _|_::_::_,l=>simp at l;lia]
   have ev:((List.range ks.length).map λi=>vs.getD i Value.none).toArray=(arrOf (SortSt.mk' general' (vs.toArray.zip vs.toArray) #[] 7 none)).map (·.2):=by rw[<- l,pX];show vs.toArray=(vs.toArray.zip vs.toArray).map (·.2);apply Array.ext;{simp};intro i h1 h2;simp
   have W:=B _ N;rw[ev]at W;refine aYB (a15 d rfl (aYB (a13 d rfl ?_ (aYO _) (by rw[<- ev,aYI,aY4,a18,aYH];lia))))
   simp only[a19,a0I,aZC];exact aYA W
 . rw[aK hs,aK hs];rw[aYI]at hs;have F:∀k∈ks,eF k=true:=F.resolve_left (by lia)
   refine aYB (kindN (s:={ s with heap:=((s.heap.update a (Obj.mapSeq λ_=>(#[]:Array a3H))).push (seqObj "tuple" vs.toArray 0)).push (seqObj "list" #[] 0) }) f F (by lia) ?_)
   refine aYB (aX3 (aBI (ks := vs) (vs := vs) (κ := tuples' false) (wkO_N ks) rfl (by lia) (by lia) (fun i j C J G q => by
       have J:i<ks.length:=by lia
       have G:j<ks.length:=by lia
       have D:ks.getD i (.i 0)∈ks:=by simp[J]
       have K:ks.getD j (.i 0)∈ks:=by simp[G]
       exact aPN (by have:=d8 _ D;lia) (F _ D) (F _ K) (f.2 i J) (f.2 j G) (ok _ D _ K) q)
    (Q:=λS s'=>s'=_/\∃p:Array Nat,PW ks.length p/\p.Perm (List.toArray (List.range ks.length))/\Wup (λi j=>ltN (ks.getD i (.i 0)) (ks.getD j (.i 0))) p ks.length/\arrOf S=p.map (kas_item (vs.toArray.zip vs.toArray))/\failedOf S=none)
    λp S a1 a2 a3 a4 a5=>#[rfl,p,by rw[<- l];exact a1,by rw[<- l];exact a2,by rw[<- l];exact a3,a4,a5]) ?_ λ_ _ e=>e)
   rintro⟨⟨⟩,S⟩ s' ⟨rfl,p,pp,pe,u,ea,ef⟩;have W:=B _ (aPO pp pe u);have ev:=kat_snds (vs:=vs) rfl ea;rw[<- ev]at W;refine aYB (a15 d rfl (aYB (a13 d rfl ?_ (aYO _) (by rw[ev,aYI,aY4,aX5,pp.size,aYH];lia))))
   rw[ef];simp only[a19,a0I,aZC];exact aYA W
theorem uQ{l:Addr}{Q:List a3H->a3I->Prop}(d:IsTup s.heap l vs.toArray)(hz:vs.length<=sizeLine)(h:Q vs { s with heap:=(s.heap.push (seqObj "list" #[] 0)).update s.heap.objs.size (Obj.mapSeq (·++vs.toArray)) }):wpAny (model prog w) A (collect (.ref l)) Q E s:=by exists o,ho,f,n,hd,id d;have a:=Heap.get?_push_of_some (seqObj "list" #[] 0) ho;have G:(s.heap.push (seqObj "list" #[] 0)).get? s.heap.objs.size=some (seqObj "list" #[] 0):=aXK _ rfl;unfold collect;refine aYB (wpAny_runValue (a2A entry_proto_collect' ?_));show wpAny _ _ (do let l' <- newList [];again (.builtin "list.__iadd__" #[[l',.ref l],[]])) _ _ s;refine aYB (a16 (aYA #[Code.quiet_builtin _ (by decide +kernel),a2A entry_list_iadd' ?_]));show wpAny (model prog w) _ (Builtin.List.listExtendWith (.ref s.heap.objs.size) (.ref l) (.ref s.heap.objs.size)) _ _ _;unfold Builtin.List.listExtendWith;refine aYB (aZK (T:="tuple") (s:={ s with heap:=s.heap.push (seqObj "list" #[] 0) }) #[o,a,f] ?_);rw[al (by rw[show(Value.type "tuple" == Value.type "tuple")=true from rfl,Bool.or_true])];refine aYB (a12 (s:={ s with heap:=s.heap.push (seqObj "list" #[] 0) }) a hd (aYB (a12 (xs:=#[]) (n:=0) G rfl ?_)));rw[aK (by simp)];refine aYB (a13 (xs:=#[]) (n:=0) G rfl (aYA ?_) (aYO _) (by show(#[]++vs.toArray).size<=sizeLine+1;simp only[Array.size_append,aYI,aZY];lia));(show wpAny (model prog w) A (do match(<- load s.heap.objs.size).data with|.seq U _=>pure U.toList|_=>unsupported "internal:collect") Q E _);refine aYB (wpAny_load (a14 G _) ?_);show wpAny _ A (pure ((#[]:Array a3H)++vs.toArray).toList) Q E _;rw[show((#[]:Array a3H)++vs.toArray).toList=vs by simp];exact aYA h
theorem aPQ{l:Addr}(N:A.units+64<cLine)(d:s.heap.IsList l vs.toArray\/IsTup s.heap l vs.toArray)(B:fX s.heap vs ks)(K:∀k∈ks,k.dp<=12)(ok:aBN ks)(J:ks.length<=1\/∀k∈ks,eF k=true)(a:ks.length<eE)(h:∀p,kH ks p->Q (.ref (s.heap.objs.size+1)) {s with heap:=sortedAll s.heap vs (p.map λi=>vs.getD i .none).toArray}):wpAny (model prog w) A (call (.builtin "sorted") [.ref l]) Q E s:=by
 have F:ks.length<1000000:=aXM a kE;have L:=B.1;refine Calls.call_function_entry kind_sorted plain_sorted entry_sorted (args_sorted1 (.ref l)) ?_;unfold Builtin.«sorted»;have col:∀{R:List a3H->a3I->Prop}{D:VSP},R vs { s with heap:=(s.heap.push (seqObj "list" #[] 0)).update s.heap.objs.size (Obj.mapSeq (·++vs.toArray)) }->wpAny (model prog w) A.in1 (collect (.ref l)) R D s:=λ{R D} r=>by rcases d with d|d;{exact collect_list d r (by rw[aYH];lia)};exact uQ d (by rw[aYH];lia) r
 refine aYB (m:=checkCount "sorted" 1 1 [Value.ref l].length) (aYA (aYB (col (aYB (a16 ?_ (by rw[aYH];lia))))))
 have Z:((s.heap.push (seqObj "list" #[] 0)).update s.heap.objs.size (Obj.mapSeq (·++vs.toArray))).objs.size=s.heap.objs.size+1:=(a2B ..).trans (size_push' ..);have G:(((s.heap.push (seqObj "list" #[] 0)).update s.heap.objs.size (Obj.mapSeq (·++vs.toArray))).push (seqObj "list" vs.toArray 0)).get? (s.heap.objs.size+1)=some (seqObj "list" vs.toArray 0):=Z ▸ aXK _ rfl;have f:fX (((s.heap.push (seqObj "list" #[] 0)).update s.heap.objs.size (Obj.mapSeq (·++vs.toArray))).push (seqObj "list" vs.toArray 0)) vs ks:=B.kept λb o e _=>
  hps ((a17 _ _ _ _ (aXO (aXL e))).trans (hps e))
 show wpAny _ _ _ _ _ { s with heap:=((s.heap.push (seqObj "list" #[] 0)).update s.heap.objs.size (Obj.mapSeq (·++vs.toArray))).push (seqObj "list" vs.toArray 0) }
 rw[Z];exact aYB (aZG (aZJ slot_list_sort #[_,G,rfl] entry_list_sort (aPP (A:=A.in1.in1) (by show A.units+1+1+13<_;lia) (s:={ s with heap:=((s.heap.push (seqObj "list" #[] 0)).update s.heap.objs.size (Obj.mapSeq (·++vs.toArray))).push (seqObj "list" vs.toArray 0) }) G f K ok J a λp W=>#[_,rfl,aYA #[_,rfl,h p W]]) (args_list_sort _)))
end
theorem aBQ:∀{h:Heap}{ks:List N}{us:List a3H},aW h ks us->fX h us ks|h,[],us,q=>by rw[aW]at q;subst q;exact#[rfl,λi a=>by simp at a]|h,k::ks,us,q=>by rw[aW]at q;exists u,us,rfl,q1,d,q;exists l,r,aBQ d;refine#[by simp[l],λi a=>?_];cases i with|zero=>simpa using q1|succ i=>have:=r i (by simpa using a);simpa using this
theorem bH.nth{K:Fg}{F:Hp}:∀{ks:List N}{vs:List V},bH K F ks vs->vs.length=ks.length/\∀i,i<ks.length->NAt K F (ks.getD i (.i 0)) (vs.getD i .non)|[],vs,q=>by rw[bH]at q;subst q;exact#[rfl,λi a=>by simp at a]|k::ks,vs,q=>by rw[bH]at q;exists u,us,rfl,q1,d,q;exists l,r,bH.nth d;refine#[by simp[l],λi a=>?_];cases i with|zero=>simpa using q1|succ i=>have:=r i (by simpa using a);simpa using this
theorem fH:∀(ks:List N),nDL ks=ks.map nD|[]=>by rw[nDL];rfl|k::ks=>by rw[nDL,fH ks];rfl
def okS(ks:List N):Bool:=ks.all (λk=>decide (k.dp<=12))&&(decide (ks.length<=1)||ks.all eF)&&ks.all (λx=>ks.all λy=>okN x y)&&decide (ks.length<eE)
def kI(l:List Str):Prop:=l.Pairwise λx y=>lts y x=false
def l5(x:Str):List Str->List Str|[]=>[x]|y::l=>if lts y x=true then y::l5 x l else x::y::l
def eX(l:List Str):List Str:=l.foldr l5 []
def aPR{y:Str}(h:lts x y=true):lts y x=false:=by cases e:lts y x with|false=>rfl|true=>have:=uB h e;rw[pW]at this;cases this
def aPS{a b c:Str}(f:lts a b=false)(d:lts b c=false):lts a c=false:=by have:=nU (a:=.s a) (b:=.s b) (c:=.s c) (by rw[ltN];exact f) (by rw[ltN];exact d);rw[ltN]at this;exact this
theorem uR(x:Str):∀(l:List Str),(l5 x l).Perm (x::l)|[]=>a1Z _|y::l=>by unfold l5;split;{exact((uR x l).cons y).trans (List.Perm.swap x y l)};exact a1Z _
theorem uS:∀(l:List Str),(eX l).Perm l|[]=>a1Z _|x::l=>(uR x (eX l)).trans ((uS l).cons x)
theorem aBR{x:Str}:∀{l:List Str},kI l->kI (l5 x l)|[],_=>a10 _ _|y::l,h=>by unfold l5;split;{rename_i e;refine a11.mpr #[λz a=>?_,aBR (a11.mp h).2];rcases aXV.mp ((uR x l).mem_iff.mp a)with rfl|a;{exact aPR e};exact(a11.mp h).1 z a};rename_i e;(have e:lts y x=false:=by simpa using e);refine a11.mpr #[λz a=>?_,h];rcases aXV.mp a with rfl|a;{exact e};exact aPS ((a11.mp h).1 z a) e
theorem aBS:∀(l:List Str),kI (eX l)|[]=>List.Pairwise.nil|x::l=>aBR (aBS l)
theorem aBT:∀{l l':List Str},kI l->kI l'->l.Perm l'->l=l'|[],l',_,_,p=>p.symm.eq_nil.symm|x::l,[],_,_,p=>p.eq_nil|x::l,y::l',h,h',p=>by(have f:=a11.mp h;have d:=a11.mp h';have E:x=y:=by(have a:lts y x=false:=by rcases aXV.mp (p.mem_iff.mpr mcs)with e|e;{rw[e];exact pW _};exact f.1 y e);(have b:lts x y=false:=by rcases aXV.mp (p.mem_iff.mp mcs)with e|e;{rw[e];exact pW _};exact d.1 x e);exact uC b a);subst E;rw[aBT f.2 d.2 p.cons_inv]
def aPT{l l':List Str}(h:kI l')(p:l'.Perm l):l'=eX l:=aBT h (aBS l) (p.trans (uS l).symm)
theorem aBU:∀{l:List Str},sortedS l=true->kI l|[],_=>.nil|x::l,h=>by refine a11.mpr #[λy a=>aAX (show risingS x l=true from h) y a,aBU ?_];cases l with|nil=>rfl|cons y l=>have h:(!lts y x&&risingS y l)=true:=h;rw[aZL]at h;exact h.2
section
variable{A:a3J}{E:VSP}
theorem aPU{l:Addr}{ns:List Str}(a:s.heap.IsList l vs.toArray\/IsTup s.heap l vs.toArray)(sa:StrsAre vs ns)(d:vs.length<64)(h:∀(out:Array a3H) ys,StrsAre out.toList ys->ys.Perm ns->sortedS ys=true->Q (.ref (s.heap.objs.size+1)) {s with heap:=sortedAll s.heap vs out}):wpAny (model prog w) A (call (.builtin "sorted") [.ref l]) Q E s:=by(refine Calls.call_function_entry kind_sorted plain_sorted entry_sorted (args_sorted1 (.ref l)) ?_;unfold Builtin.«sorted»;have col:∀{R:List a3H->a3I->Prop}{f:VSP},R vs { s with heap:=(s.heap.push (seqObj "list" #[] 0)).update s.heap.objs.size (Obj.mapSeq (·++vs.toArray)) }->wpAny (model prog w) A.in1 (collect (.ref l)) R f s:=λ{R f} r=>by rcases a with a|a;{exact collect_list a r (by rw[aYH];lia)};exact uQ a (by rw[aYH];lia) r);refine aYB (m:=checkCount "sorted" 1 1 [Value.ref l].length) (aYA (aYB (col (aYB (a16 ?_ (by rw[aYH];lia))))));have Z:((s.heap.push (seqObj "list" #[] 0)).update s.heap.objs.size (Obj.mapSeq (·++vs.toArray))).objs.size=s.heap.objs.size+1:=(a2B ..).trans (size_push' ..);have G:(((s.heap.push (seqObj "list" #[] 0)).update s.heap.objs.size (Obj.mapSeq (·++vs.toArray))).push (seqObj "list" vs.toArray 0)).get? (s.heap.objs.size+1)=some (seqObj "list" vs.toArray 0):=Z ▸ aXK _ rfl;show wpAny _ _ _ _ _ { s with heap:=((s.heap.push (seqObj "list" #[] 0)).update s.heap.objs.size (Obj.mapSeq (·++vs.toArray))).push (seqObj "list" vs.toArray 0) };rw[Z];refine aYB (aZG (aZJ slot_list_sort #[_,G,rfl] entry_list_sort (list_sort_treeK strKind_oneLt (s:={ s with heap:=((s.heap.push (seqObj "list" #[] 0)).update s.heap.objs.size (Obj.mapSeq (·++vs.toArray))).push (seqObj "list" vs.toArray 0) }) G sa.keysOf (λv1 v2 r e=>keyKind_strs (by rw[<- e];exact sa)) d λS p1 p2=>#[_,rfl,?_]) (args_list_sort _)));exists zs,D,B,o,sorted_out_str sa p1 p2;exact aYA #[_,rfl,h _ zs D B o]
end
def rSrtN(K:Fg):List V->Hp->VK->Prop:=λU H Q=>∃(p:Addr) (vs:List V) (ks:List N),U=[.ref p]/\(SqL K H p vs\/SqT K H p vs)/\bH K H ks vs/\okS ks=true/\∀l q,H l=none->kH ks q->Q (.ref l) (upd H l (.lst (q.map λi=>vs.getD i .non)))
def uT{p:Addr}{vs:List V}(I:L2.Inv X O σ H s)(h:SqL X.K H p vs\/SqT X.K H p vs):∃its:List a3H,aM vs its/\(s.heap.IsList p its.toArray\/IsTup s.heap p its.toArray):=by rcases h with h|h;{exists its,r,pl,_,I.list h;exact#[its,r,.inl pl.isList]};exists its,r,pl,_,SqT.plain I h;exact#[its,r,.inr pl.isTup]
theorem aPV(D:X.A.units+64<cLine):fA X (.builtin "sorted") (rSrtN X.K):=by
 intro O s σ H U us Q I r h;exists p,vs,ks,rfl,hp,hn,ok,q,h;exists u,rfl,B,jT r;cases B;exists its,l,pl,uT I hp;unfold okS at ok;simp only[aZL,a0N,a0L,a2C]at ok;obtain⟨⟨⟨L,J⟩,N⟩,d⟩:=ok;have G:_<1000000:=aXM d kE;have S:its.length=vs.length:=l.length.symm;have T:=hn.nth.1;have ta:fX s.heap its ks:=aBQ (bH.is (λx _ v u a b=>NAt.is I x v u a b) hn l);refine aPQ D pl ta L N J d λw W=>?_;exists e,F,sortedAll_at s.heap its (w.map λi=>its.getD i .none).toArray;have m:w.length=ks.length:=by rw[W.perm.length_eq,a18]
 have le:(w.map λi=>vs.getD i V.non).length<=sizeLine:=by rw[aY4,m,aYH];lia
 have f:aM (w.map λi=>vs.getD i V.non) (w.map λi=>its.getD i Value.none):=aA2 λi E=>aA3 l (by
  have:=W.perm.mem_iff.mp E;rw[aXQ]at this;lia)
 exact#[.ref (s.heap.objs.size+1),_,I.laid (t':=s.toks) (λb o e=>sortedAll_old e) (a03 _) (show bL X.prog X.w _ _ _ (.lst (w.map λi=>vs.getD i V.non))from#[le,_,e,f,F]),rfl,q _ w (I.hok.fresh (a03 _)) W]
def rSrtS(K:Fg):List V->Hp->VK->Prop:=λU H Q=>∃(p:Addr) (ns:List Str),U=[.ref p]/\(SqL K H p (ns.map V.str)\/SqT K H p (ns.map V.str))/\ns.length<64/\∀l,H l=none->Q (.ref l) (upd H l (.lst ((eX ns).map V.str)))
theorem aPW:fA X (.builtin "sorted") (rSrtS X.K):=by intro O s σ H U us Q I r h;exists p,ns,rfl,hp,m,q,h;exists u,rfl,a,jT r;cases a;exists its,d,pl,uT I hp;have sa:=zW d;have l:its.length=ns.length:=sa.length;refine aPU pl sa (by rw[l];exact m) λout ys f py so=>?_;(exists e,A,sortedAll_at s.heap its out;have E:ys=eX ns:=aPT (aBU so) py;have le:((eX ns).map V.str).length<=sizeLine:=by rw[aY4,<- E,py.length_eq,aYH];lia);exact#[.ref (s.heap.objs.size+1),_,I.laid (t':=s.toks) (λb o e=>sortedAll_old e) (a03 _) (show bL X.prog X.w _ _ _ (.lst ((eX ns).map V.str))from#[le,out.toList,e,by rw[<- E];exact aAY f,by simpa using A]),rfl,q _ (I.hok.fresh (a03 _))]
def fA.or{f:a3H}{d a:List V->Hp->VK->Prop}(m:fA X f d)(l:fA X f a):fA X f (λU H Q=>d U H Q\/a U H Q):=λO s σ H U us Q I r h=>by rcases h with h|h;{exact m O s σ H U us Q I r h};exact l O s σ H U us Q I r h
def seqD:D->Option (List D)|.lst ds|.tup ds=>some ds|_=>none
def fY:List (Md×D)->Option (Md×D)
 |[(_,d)]=>match seqD d with|some ds=>(match txD ds with|some ns=>if ns.length<64 then some (.fr,.lst ((eX ns).map .str))else none|none=>match cS ds with|some ks=>if okS ks=true then some (.fr,.lst (nDL (dH ks)))else none|none=>none)|none=>none
 |_=>none
theorem Rp.seqD{K:Fg}{F:Hp}{m:Md}{d:D}(s:aD F H)(e:D3.seqD d=some ds)(r:Rp K F H m d v):∃a U,v=.ref a/\(SqL K H a U\/SqT K H a U)/\aC K F ds U:=by cases d with|lst es=>cases e;exists a,U,rfl,q,f,r.seqL s;exact#[a,U,rfl,.inl q,f]|tup es=>cases e;exists a,U,rfl,q,f,r.seqT s;exact#[a,U,rfl,.inr q,f]|_=>cases e
def aPX(E:X.A.units+64<cLine):gY X (.builtin "sorted") fY:=by refine#[_,fA.or aPW (aPV E),λF H U vs k d Q s D e w=>?_];unfold fY at e;split at e;{rename_i m L;exists v,rfl,r,D.one;split at e;{rename_i ds J;exists a,U,rfl,q,B,Rp.seqD s J r;split at e;{rename_i ns en;split at e;{rename_i o;cases e;exists rfl,K,aA0 en B;exact .inl #[a,ns,rfl,q,o,λl f=>w (.ref l) F _ (aJ.fresh _ s f) #[l,rfl,s.free f,_,aY,aA1 λx hx=>K x ((uS ns).mem_iff.mp hx)] λ_ a ea=>by cases ea;exact f]};cases e};split at e;{rename_i ks en;split at e;{rename_i o;cases e;have hn:=nR en B;refine .inr #[a,U,ks,rfl,q,hn.map (λx _ v z=>NAt.mono s x v z),o,λl p f W=>w (.ref l) F _ (aJ.fresh _ s f) #[l,rfl,s.free f,_,aY,?_] λ_ a ea=>by cases ea;exact f];rw[<- W.eq,fH,a2D];refine uD λi G=>?_;have:=W.perm.mem_iff.mp G;rw[aXQ]at this;exact uF _ _ (hn.nth.2 i this)};cases e};cases e};cases e};cases e
section
variable{A:a3J}{E:VSP}{d:Addr}{o:Obj}{es:Array DictEntry}
def aBV(f:(d==sysModules)=false)(ho:s.heap.get? d=some o)(l:o.ExactDict)(hd:o.data=.dict es ep)(q:Q (.ref s.heap.objs.size) { s with heap:=s.heap.push { cls:=.type "dict_keyiterator",data:=.fields (List.toArray [.ref d,.int 0 0,.int es.size 0,.int ep 0]) } }):wpAny (model prog w) A (pyIter (.ref d)) Q E s:=by have a:s.TypeIs (.ref d) "dict":=#[o,ho,l.1];refine wpAny_pyIter_slot a F.slot_dict_iter (aZJ F.slot_dict_iter a F.entry_dict_iter ?_ (F.args_dict_iter_1 (.ref d)));unfold Builtin.«dict.__iter__» Builtin.Dict.dictSlotNone;refine aYB (aYB (wpAny_notOrdered_dict a (aYA ?_)));show wpAny (model prog w) _ (Builtin.Dict.showsAll d>>=_) _ _ s;unfold Builtin.Dict.showsAll;rw[aK (λz=>by rw[f]at z;cases z)];refine aYB (aYA (aYB (a2E ho hd (aYB (a2F ho hd ?_)))));refine aYB (aZM (aYA #[.ref s.heap.objs.size,rfl,"dict_keyiterator",_,#[_,aXK _ rfl,rfl],F.slot_dict_keyiterator_next.lookup,?_]));simpa[rawInt]using q
theorem aBW{e:DictEntry}{Q:Option a3H->a3I->Prop}(hit:s.heap.IsKeyIter it d i es.size ep)(ho:s.heap.get? d=some o)(hd:o.data=.dict es ep)(B:es[i]? = some e)(q:∀h',h'.IsKeyIter it d (i+1) es.size ep->Heap.SameBut it s.heap h'->Q (some e.key) {s with heap:=h'}):wpAny (model prog w) A (pyNext (.ref it)) Q E s:=by
 exists D,f,r,a,id hit;exists m,rfl,aXR.mp B;unfold pyNext;refine aYB (a1I (aZH (name:=Str.ofString "__next__") hit.typeIs a2G (aZJ a2G hit.typeIs a2H ?_ (a2I (.ref it)))));refine aYB (aYA (aYB (aYB ?_)))
 first|refine aYB (a2J hit.typeIs (aYA (aYB (a2K f a ?_))))|refine aYB (a2L hit.typeIs (aYA (aYB (a2K f a ?_))))
 simp only[show Builtin.Dict_items.ownsTuple "dict_keyiterator"=false by decide,a0I,aZC]
 show wpAny _ _ (if(Value.ref d==Value.none)=true then _ else _) _ _ s;rw[aK (λ(z:(Value.ref d==Value.none)=true)=>aX8 z)];refine aYB (aYA (aYB (a2E ho hd ?_)));rw[aK (by simp)]
 refine aYB (aYA (aYB (a2F ho hd ?_)));rw[aK (by simp)]
 refine aYA ?_;simp only[show ¬ ((i:Int)<0)from by lia,aZC,aZB,a2M m]
 refine aYB ?_
 first|refine aYB (a2J hit.typeIs (aYA (aYB (a2N hit.typeIs ?_))))|refine aYB (a2L hit.typeIs (aYA (aYB (a2N hit.typeIs ?_))))
 show wpAny _ _ (setField (.ref it) 1 (rawInt ((i:Int)+1))>>=_) _ _ s;refine aYB (a1D f a (by simp) ?_)
 have l:(s.heap.update it (Obj.mapFields (·.setIfInBounds 1 (rawInt ((i:Int)+1))))).IsKeyIter it d (i+1) es.size ep :=
  #[_,aZN _ f (Obj.isFreed_of_fields (a1E a _)),(Obj.cls_mapFields ..).trans r,by rw[a1E a];simp[rawInt]]
 refine aYB (aZG (aYB (a2N (s:={s with heap:=s.heap.update it (Obj.mapFields (·.setIfInBounds 1 (rawInt ((i:Int)+1))))}) l.typeIs ?_)))
 show wpAny _ _ (pure es[i].key) _ _ _;exact aYA (aYA #[_,rfl,aYA (q _ l (a1F ..))])
end
theorem aBX{A:a3J}{E:VSP}{d:Addr}{o:Obj}{es:Array DictEntry}{Q:Option a3H->a3I->Prop}(B:A.handled=none)(hit:s.heap.IsKeyIter it d i es.size ep)(ho:s.heap.get? d=some o)(hd:o.data=.dict es ep)(hi:es.size<=i)(q:∀h',Heap.ExtBut it s.heap h'->Q none {s with heap:=h'}):wpAny (model prog w) A (pyNext (.ref it)) Q E s:=by exists D,f,r,l,id hit;unfold pyNext;refine aYB (a1I (aZH (name:=Str.ofString "__next__") hit.typeIs a2G (aZJ a2G hit.typeIs a2H ?_ (a2I (.ref it)))));refine aYB (aYA (aYB (aYB ?_)));(first|refine aYB (a2J hit.typeIs (aYA (aYB (a2K f l ?_))))|refine aYB (a2L hit.typeIs (aYA (aYB (a2K f l ?_)))));simp only[show Builtin.Dict_items.ownsTuple "dict_keyiterator"=false by decide,a0I,aZC];show wpAny _ _ (if(Value.ref d==Value.none)=true then _ else _) _ _ s;rw[aK (λ(z:(Value.ref d==Value.none)=true)=>aX8 z)];refine aYB (aYA (aYB (a2E ho hd ?_)));rw[aK (by simp)];refine aYB (aYA (aYB (a2F ho hd ?_)));rw[aK (by simp)];refine aYA ?_;simp only[show ¬ ((i:Int)<0)from by lia,aZC,aZB,Array.getElem?_eq_none hi];refine aYB ?_;(first|refine aYB (a2J hit.typeIs (aYA ?_))|refine aYB (a2L hit.typeIs (aYA ?_)));show wpAny (model prog w) _ (setField (.ref it) 0 .none>>=_) _ _ s;refine aYB (a1D f l (by simp) ?_);show wpAny (model prog w) _ (newExc (.type "StopIteration") []>>=_) _ _ _;refine aYB ?_;simp only[newExc,newTuple];refine aYB (aZM (aYB (m:=firstArgMember _ _) (wpAny_of_eq (a:=Value.none) (by first|rfl|(simp only[firstArgMember];rfl)) (aZM ?_ (by size_fits)))) (by size_fits));simp only[raiseNew];refine aYB (wpAny_handled ?_);rw[show A.in1.handled=none from B];refine aYB (aYA (wpAny_throw ?_));refine aYB (a0H (b:=true) (T:="StopIteration") #[_,aXK _ rfl,rfl] isSubtype_stop ?_);exact aYA (q _ (((a1F ..).extBut.push _).push _))
def Itn(d:Addr)(o:Obj)(U:List (N×Addr×V)):It :=
 #[λi H=>H d=some (.frz o (.dN U))/\i<U.length,λi H x H'=>H'=H/\∃p,U[i]? = some p/\x=.ref p.2.1,λi H=>H d=some (.frz o (.dN U))/\U.length<=i]
def KN.nth{U:List (N×Addr×a3H)}(r:KN kvs U):U.length=kvs.length/\∀(i:Nat) (p:N×Addr×V),kvs[i]? = some p->∃u,U[i]? = some (p.1,p.2.1,u):=by induction r with|nil=>exact#[rfl,λi p h=>by simp at h]| @cons a b as bs h t d=>refine#[by simp[d.1],λi p hp=>?_];cases i with|zero=>(have hp:a=p:=by simpa using hp);subst hp;refine#[b.2.2,?_];rw[h.1,h.2.1];rfl|succ i=>have:=d.2 i p (by simpa using hp);simpa using this
def qK{d:Addr}{o:Obj}{U:List (N×Addr×V)}(ok:HOk P w H h)(hd:H d=some (.frz o (.dN U))):(d==sysModules)=false/\∃es,h.get? d=some o/\o.ExactDict/\o.data=.dict es (epO o)/\es.size=U.length/\∀(i:Nat) (p:N×Addr×V),U[i]? = some p->∃e,es[i]? = some e/\e.key=.ref p.2.1:=by exists g,z,y,vs,r,D,es,ep,f,B,A,a,E,ok d _ hd;rw[g]at f;cases f;exists l,n,KN.nth r;refine#[y,es,g,B,by unfold epO;rw[A],by rw[<- aX5,a,aY4,l],λi p hp=>?_];exists u,m,n i p hp;refine#[xT w (p.1,p.2.1,u),?_,rfl];rw[<- a1W,a,aY1,m];rfl
theorem aPY{K:Fg}(d it:Addr)(o:Obj)(U:List (N×Addr×V)):gU P w K tg (Itn d o U) [it] it (λi h=>h.IsKeyIter it d i U.length (epO o)) where
 mem:=by simp
 obj:=λi h st b f=>by(have e:b=it:=by simpa using f);subst e;exists o,e,c,d,st;exact#[o,e,λv z=>by rw[d]at z;cases z]
 keep:=λi h h' st k=>st.at λo e=>k it (by simp) o e
 item:=by intro X A l B J i O s σ H E I hf st hg;subst A l B;exists hd,r,hg;exists ns,es,g,hx,G,sz,n,qK I.hok hd;exists f0,f1,f2,f3,D,F,hf it (by simp);exists e,L,ke,n i U[i] (by simp[r]);rw[<- sz]at st;refine aBW st g G L λh' a m=>?_;have Z:L2.Inv X O σ H {s with heap:=h'}:=I.turned (t':=s.toks) (λb o f e=>m.extBut b o f e) f0 f1 f3 D F;rw[sz]at a;exists o1,T,c1,W,id a;refine#[e.key,rfl,k7 (s:={s with heap:=h'}) T c1 W (by decide) #[.ref U[i].2.1,H,Z,ke,#[rfl,U[i],by simp[r],rfl],a,λb f=>(hf b f).1]]
 done:=by intro X A l B J i O s σ H E I hf st hg;subst A l B;exists hd,r,hg;exists ns,es,g,hx,G,sz,n,qK I.hok hd;exists f0,f1,f2,f3,D,F,hf it (by simp);exact aBX (I.ok.hd J) (by rw[sz];exact st) g G (by lia) λh' S=>#[rfl,I.turned (t':=s.toks) (λb o f e=>S b o f e) f0 f1 f3 D F]
 self:=λ_ _ _ _ _ st h=>a1Q st h
def iDn(tl:TE):TI:=λσ H R=>tl σ H λx H1=>∃d o U,x=.ref d/\H1 d=some (.frz o (.dN U))/\R (Itn d o U) H1
def pi_dn{l:Expr}(f:PE X l tl):PI X tg l (iDn tl):=by intro O s σ H R I h;refine thn (f O s σ H _ I h) λv S ⟨x,H1,a,r,q1⟩=>?_;exists d,o,U,e,hd,q,q1;subst e;cases r;exists ns,es,g,hx,D,sz,n,qK a.hok hd;refine aBV ns g hx D ?_;rw[sz];have A:L2.Inv X O σ H1 { S with heap:=S.heap.push { cls:=.type "dict_keyiterator",data:=.fields (List.toArray [.ref d,.int 0 0,.int U.length 0,.int (epO o) 0]) } }:=a.kept (t':=S.toks) λb o e=>hps e;(refine#[S.heap.objs.size,[S.heap.objs.size],_,_,_,rfl,A,aPY d _ o U,#[_,aXK _ rfl,rfl,rfl],λb m=>?_,q];have e:b=S.heap.objs.size:=by simpa using m);subst e;exact a.fpOk (aYC _) (a.hok.fresh (aYC _))
theorem aS.nth{K:Fg}{F:Hp}:∀{kvs:List (N×D)}{U:List (N×Addr×V)},aS K F kvs U->∀(i:Nat) (p:N×Addr×V),U[i]? = some p->∃d,kvs[i]? = some (p.1,d)/\NAt K F p.1 (.ref p.2.1)|[],U,h,i,p,e=>by simp only[aS]at h;subst h;simp at e|(k,d)::kvs,U,h,i,p,e=>by simp only[aS]at h;exists b,y,ys,rfl,q,r,t,h;cases i with|zero=>(have e:(k,b,y)=p:=by simpa using e);subst e;exact#[d,rfl,q.1]|succ i=>have:=t.nth i p (by simpa using e);simpa using this
def aPZ{K:Fg}{F:Hp}{a:Addr}{o:Obj}{kvs:List (N×D)}{U:List (N×Addr×V)}(hf:F a=some (.frz o (.dN U)))(r:aS K F kvs U):j5 K F (Itn a o U) (kvs.map λkv=>nD kv.1) where
 go:=λi H s f=>#[s _ _ hf,by rw[r.len];simpa using f]
 stop:=λi H s f=>#[s _ _ hf,by rw[r.len];simpa using f]
 yld:=λi Fc H x H' l S f y=>by exists rfl,p,hp,rfl,y;exists d,hd,hn,r.nth i p hp;exact#[Fc,nD p.1,by rw[aY1,hd];rfl,.refl S,uF _ _ (NAt.mono l _ _ hn)]
def qL(r:Res):Res:=r.thn λ_ d=>match d with|.dtf kvs=>.ok .fz (.lst (kvs.map λkv=>nD kv.1))|_=>.stuck
def aP0(h:PV C X e g):PIv C X tg e (λY=>qL (g Y)):=by refine PI.imp (pi_dn h) λσ H R q=>?_;exists Y,F,l,w,q;dsimp only at w;unfold iDn;rw[aU];refine#[Y,F,l,?_];unfold qL at w;cases E:g Y with|stuck=>rw[E]at w;exact w.elim|exc c=>rw[E]at w;exact w|ok m d=>rw[E,Res.thn_ok]at w;intro v F' H' st f _;cases d with|dtf kvs=>(cases m with|fz=>have f:aB X.K F' (.dtf kvs) v:=f;simp only[aB]at f;exists a,o,U,rfl,hf,r,f;exact#[a,o,U,rfl,st.sub _ _ hf,w _ F' H' st (aPZ hf r)]|fr|bo=>exists a,_,_,q,f;exact q.elim)|_=>exact w.elim
def nV(Y:Rho)(i:Nat):aH:=match Y[i]? with|some (some (true,.dtn kvs))=>.nx (Y.set i (some (false,.dtf kvs)))|some (some (true,.dct kvs))=>.nx (Y.set i (some (false,.dcf kvs)))|_=>.stuck
def aR.nfrz{K:Fg}{F:Hp}{d0 d1:D}{a:Addr}{v:HO}(R:aR K F0 H0 F H σ Y)(e:Y[i]? = some (some (true,d0)))(ev:σ[i]? = some (some (.ref a)))(V:F a=none)(h0:H0 a=none)(r:aD F (upd F a v)->aB K (upd F a v) d1 (.ref a)):aD F (upd F a v)/\aR K F0 H0 (upd F a v) (upd H a v) σ (Y.set i (some (false,d1))):=by(have sm:aD F (upd F a v):=λb u q=>by rw[aN (bT q V)];exact q);(have N:i<Y.length:=(aXY.mp e).1;have own:∀{j:Nat}{l:D},(Y.set i (some (false,d1)))[j]? = some (some (true,l))->j≠i/\Y[j]? = some (some (true,l)):=λ{j l} z=>by by_cases f:j=i;{subst f;rw[aX0 N]at z;cases z};rw[aX1 (λy=>f y.symm)]at z;exact#[f,z]);refine#[sm,#[λb u q=>?_,λb u q=>?_,λb u q=>?_,λb q1 G=>?_],λj m l A=>?_,λj k d1 d2 b L e1 e2 q1 G=>R.apart j k d1 d2 b L (own e1).2 (own e2).2 q1 G,by rw[aZP];exact R.len];{rw[aN (bT q h0)];exact R.st.same b u q};{rw[aN (bT (R.st.fsame b u q) V)];exact R.st.fsame b u q};{by_cases T:b=a;{subst T;rw[aY]at q ⊢;exact q};rw[aN T]at q ⊢;exact R.sub b u q};{have:b≠a:=λz=>G (iL (by rw[z];exact h0));rw[aN this];exact R.st.new b q1 G};by_cases f:j=i;{subst f;rw[aX0 N]at A;cases A;exact#[.ref a,ev,r sm,by nofun]};rw[aX1 (λz=>f z.symm)]at A;exists W,E,o,J,R.slot j m l A;refine#[W,E,?_,J];cases m with|false=>exact aB.mono sm _ _ o|true=>(exists b,rfl,Z,t',o;have B:b≠a:=λz=>by subst z;exact R.apart j i l _ b f A e E ev);refine#[b,rfl,by rw[aN B];exact Z,?_];cases l with|lst ds|dct ds=>exists ys,q,d,t';exact#[ys,by rw[aN B];exact q,d.mono sm _ _]|ins c fs=>exists C,dx,gs,n,q,d,t';exact#[C,dx,gs,n,by rw[aN B];exact q,d.mono sm _ _]|set ks=>exists S,q,d,t';exact#[S,by rw[aN B];exact q,d]|dtn ds=>exists ys,q,d,t';exact#[ys,by rw[aN B];exact q,d.mono sm _ _]|_=>exact t'.elim
def aP1{g:Rho->aH}(h:PBv C X sts g):PBv C X sts (λY=>(nV Y i).thn g):=by intro O s σ H E I q;exists Y,F,R,w,q;dsimp only at w;unfold nV at w;split at w;{rename_i kvs e;exists v,ev,f,hn,R.slot i true _ e;exists a,rfl,l,U,d,r,f;have ok:=I.hok a _ d;exists _,_,_,_,o,_,_,G,_,id ok;have m:=I.write (x:=a) (e:=a) (o:=.frz o (.dN U)) (t':=s.toks) (h':=s.heap) (by rw[d];exact trivial) (.inl rfl) (λ_ _ _ q=>q) #[_,G] #[G,ok.stay (λ_ _ _ q=>q) (λc q=>by rw[aN (λz=>by rw[z,d]at q;cases q)];exact q) λc ys q=>by rw[aN (λz=>by rw[z,d]at q;cases ys <;> cases q)];exact q];(exists sm,R2,aR.nfrz (v:=.frz o (.dN U)) (d1:=.dtf kvs) R e ev l (hn rfl a rfl) λsm=>by simp only[aB];exact#[a,o,U,rfl,aY,r.mono sm _ _]);exact h O s σ _ E m #[_,_,R2,bU.mono sm w]};{rename_i kvs e;exists v,ev,f,hn,R.slot i true _ e;exists a,rfl,l,U,d,r,f;have ok:=I.hok a _ d;exists _,_,_,_,o,_,_,G,_,id ok;have m:=I.write (x:=a) (e:=a) (o:=.frz o (.dK U)) (t':=s.toks) (h':=s.heap) (by rw[d];exact trivial) (.inl rfl) (λ_ _ _ q=>q) #[_,G] #[G,ok.stay (λ_ _ _ q=>q) (λc q=>by rw[aN (λz=>by rw[z,d]at q;cases q)];exact q) λc ys q=>by rw[aN (λz=>by rw[z,d]at q;cases ys <;> cases q)];exact q];(exists sm,R2,aR.nfrz (v:=.frz o (.dK U)) (d1:=.dcf kvs) R e ev l (hn rfl a rfl) λsm=>by simp only[aB];exact#[a,o,U,rfl,aY,r.mono sm _ _]);exact h O s σ _ E m #[_,_,R2,bU.mono sm w]};exact w.elim
def uU(w:a3K)(p:N×Addr):Int×a3H:=(fQ w p.1,.ref p.2)
def SetN(w:a3K)(h:Heap)(a:Addr)(ps:List (N×Addr)):Prop:=∃o es ep t,h.get? a=some o/\o.ExactSet/\o.data=.set es ep t/\es.toList=ps.map (uU w)/\ps.length<=4/\t.fits es.size=true/\t.led = !kB w/\PlOk t
def Set1(w:a3K)(h:Heap)(a:Addr)(p:N×Addr):Prop:=∃o ep t,h.get? a=some o/\o.ExactSet/\o.data=.set (List.toArray [uU w p]) ep t/\t.mask=7/\t.dummies = #[]/\t.place = (List.toArray [SetTable.bits (fQ w p.1) % 8])/\t.led = !kB w
theorem uV{α d:Type}{f:α->d}:∀{l:List d}{ps:List α},l.Perm (ps.map f)->∃a:List α,a.Perm ps/\l=a.map f|[],ps,h=>by(have:=h.symm.eq_nil;have e:ps=[]:=by simpa using this);subst e;exact#[[],.refl _,rfl]|x::l,ps,h=>by exists p,hp,rfl,a2O.mp (h.mem_iff.mp mcs);exists s,t,rfl,List.append_of_mem hp;have m:(s++p::t).Perm (p::(s++t)):=List.perm_middle;exists a,q1,o,uV ((h.trans (m.map f)).cons_inv);exact#[p::a,(q1.cons p).trans m.symm,by rw[o];rfl]
open PySem.W
def sn(w:a3K)(l:Addr)(ps:List (N×Addr)):HO:=.ext λh=>SetN w h l ps
def pat(t:SetTable)(h:Int):Nat->SetTable.Probe|0=>t.probeStart h|n+1=>t.advance (pat t h n)
def Rch(t:SetTable)(h:Int)(j:Nat):Prop:=∃n,(pat t h n).j=j/\∀m<n,(pat t h m).j∈t.place.toList
structure SlN(w:a3K)(t:SetTable)(es:Array (Int×a3H))(qs:List (Nat×N×Addr)):Prop where
 mask:t.mask=7
 dum:t.dummies = #[]
 rise:Rise t.place
 place:t.place.toList=qs.map (·.1)
 ents:es.toList=qs.map λq=>uU w q.2
 few:qs.length<=4
 led:t.led = !kB w
 rch:∀q∈qs,Rch t (fQ w q.2.1) q.1
def SetG(w:a3K)(h:Heap)(a:Addr)(d:List (Nat×N×Addr)):Prop:=∃o es ep t,h.get? a=some o/\o.ExactSet/\o.data=.set es ep t/\SlN w t es d
open PySem.W
end D3
namespace L2
def aP2{K:Fg}{f c:Addr}{args:Arguments}{body:Expr}{D ct:a3H}{A:a3J}{Q:VK}{E:XK}{t:TE}(S:jU [x] [x] scope)(Z:bindArgs (W.kla_fn "<lambda>" qual args body scope [] D (.ref c) ct) #[[u],[]]=pure [(x,u)])(hd:A.handled=none)(m:A.depth<recursionLimit)(d:iH P w K mg base A outer s H)(hf:H f=some (gX f (W.kla_obj "<lambda>" qual args body scope [] D c ct)))(T:H c=some (.crec qual))(r:aG v u)(a:PE (cH CX P w K mg base [x] qual scope f (.ref c) A outer s H E) body t)(L:t (start [x] [v]) H Q):codeAny (model P w) A (.call (.ref f) #[[u],[]]) (CR CX outer P w H s Q E) s:=by(have l:s.heap.NoLimit:=d.mod.nolimit.keeps λb o e=>(d.bs b o e).1;have cP:∀y∈[x].zip [u],scope.names.lookup y.1=some .local\/(scope.names.lookup y.1=some .cell/\((cellsFrom (s.heap.objs.size+1) scope.names []).lookup y.1).isSome=true):=λ⟨n,v⟩ G=>by rcases S.par n (aYU G).1 with q|q;{exact .inl q};exact .inr #[q,aYV _ _ _ (.inl q)]);refine W.kla_callFunE m (aK0 d.hok hf) rfl S.co S.gen rfl (aK1 d.hok T) ?_;rw[Z];refine aYA (wpAny_newFunctionEnv_cells S.kind cP λenv N B y=>?_);subst N;refine#[l.keeps y.toInCall.keep,W.kla_codeExpr ?_];have I:Inv (cH CX P w K mg base [x] qual scope f (.ref c) A outer s H E) [] (start [x] [v]) H B:=yN S hd d rfl (.cons r .nil) y;refine aX3 (a [] B (start [x] [v]) H _ I L) (λu' s' hs=>?_) λe s' hs=>hs;exists V,H',J,F,q,hs;exact#[V,H',J.os,J.bare,J.base,J.hok,F,q]
end L2
namespace D3
section
open PySem.SeqAt
open PySem.AutoSeq1 (wpAny_loadPart')
open PySem.MeetsSeq PySem.MeetsSeq2 PySem.MeetsSeq3
theorem aP3(l b:Addr)(items a:Array a3H)(n n2:Nat)(dd T:Option Addr)(V S:Array (Option a3H))(r:Bool):∀(us vs:List a3H) (i:Nat),items.toList.drop i=us->a.toList.drop i=vs->i<=items.size->i<=a.size->Meets (Builtin.«list.__eq__.loop» #[[.ref l,.ref b,rawInt i,rawInt 0],[]]) (λA R s=>s.heap.get? l=some { cls:=.type "list",dict:=dd,data:=.seq items n,slots:=V }/\s.heap.get? b=some { cls:=.type "list",dict:=T,data:=.seq a n2,slots:=S }/\LtI A.in1 s us vs r/\R (.ok (.ret (.bool r))) s):=by
 intro us
 induction us with
 |nil=>(intro vs i h1 h2 l1 l2 prog w A R s h;exists hp,g,d,tk,os,s;exists B,D,o,h,h;have z1:items.size=i:=by have:=congrArg List.length h1;simp at this;lia);wp_walk using wpAny_loadPart' B,wpAny_loadPart' D;(have f:items[((i:Nat):Int).toNat]? = none:=by simp;lia);(rw[f];have F:r=decide (items.size<a.size):=by cases o with|nn=>have:=congrArg List.length h2;simp at this;exact(aXH (by lia)).symm|nc=>have:=congrArg List.length h2;simp at this;exact(aZ8 (by lia)).symm);rw[F]at h;wp_walk using wpAny_loadPart' B,wpAny_loadPart' D;exact h
 |cons u us W =>
  intro vs i h1 h2 l1 l2 prog w A R s h;exists hp,g,d,tk,os,s;exists B,D,o,h,h;have E:i<items.size:=by have:=congrArg List.length h1;simp at this;lia
  have f:items[((i:Nat):Int).toNat]? = some u:=by(have:items.toList[i]? = some u:=by have:=congrArg (λl=>l[0]?) h1;simpa using this);simpa using this
  have N:items.toList.drop (i+1)=us:=by have:=congrArg List.tail h1;simpa using this
  wp_walk using wpAny_loadPart' B,wpAny_loadPart' D
  cases vs with
  |nil=>((have z2:a.size=i:=by have:=congrArg List.length h2;simp at this;lia);(have m:a[((i:Nat):Int).toNat]? = none:=by simp;lia);(rw[f,m];have F:r=decide (items.size<a.size):=by cases o with|cn=>exact(aXH (by lia)).symm);rw[F]at h;wp_walk using wpAny_loadPart' B,wpAny_loadPart' D;exact h)|cons v vs =>
   have L:i<a.size:=by have:=congrArg List.length h2;simp at this;lia
   have m:a[((i:Nat):Int).toNat]? = some v:=by(have:a.toList[i]? = some v:=by have:=congrArg (λl=>l[0]?) h2;simpa using this);simpa using this
   have K:a.toList.drop (i+1)=vs:=by have:=congrArg List.tail h2;simpa using this
   have Z:((i:Int)+1)=((i+1:Nat):Int):=by push_cast;rfl
   rw[f,m];cases o with
   |eq o J =>
    refine aYB (o prog w _ _ ?_)
    wp_walk
    rw[Z];exact#[plainId_quiet plain_eq_loop _,a2A entry_eq_loop (by
     rw[a2P plain_eq_loop _];exact W vs (i+1) N K E L prog w A R _ #[B,D,J,h])]
   |ne o J=>refine aYB (o prog w _ _ ?_);have G:=J prog w;wp_walk using wpAny_loadPart' B,wpAny_loadPart' D;rw[f,m];wp_walk using G;exact h
def aP4(l b:Addr)(items a:Array a3H)(n n2:Nat)(B D:Option Addr)(f S:Array (Option a3H))(r:Bool):Meets (Builtin.«list.__lt__» #[[.ref l,.ref b],[]]) (λA R s=>s.heap.get? l=some { cls:=.type "list",dict:=B,data:=.seq items n,slots:=f }/\s.heap.get? b=some { cls:=.type "list",dict:=D,data:=.seq a n2,slots:=S }/\LtI A.in1 s items.toList a.toList r/\R (.ok (.ret (.bool r))) s):=by
 intro prog w A R s h;exists hp,g,d,tk,os,s;exists m,o,E,h,h;have f3:=AutoSeq1.sub_list_list
 wp_walk using wpAny_loadPart' m,wpAny_loadPart' o
 exact#[plainId_quiet plain_eq_loop _,a2A entry_eq_loop (by
  rw[a2P plain_eq_loop _];exact aP3 l b items a n n2 B D f S r _ _ 0 rfl rfl (aYO _) (aYO _) prog w A R _ #[m,o,by simpa using E,h])]
end
section
variable{A:a3J}{E:VSP}
theorem aP5{a:Addr}{U ys:List N}{its its':Array a3H}{Q:Bool->a3I->Prop}(K:A.units+N.dpL U+4<cLine)(ha:s.heap.IsList a its)(G:s.heap.IsList b its')(hx:aW s.heap U its.toList)(r:aW s.heap ys its'.toList)(ok:cJ U ys=true)(q:Q (bF U ys) s):wpAny (model prog w) A (keyLt' oneType' (.ref a) (.ref b)) Q E s:=by obtain⟨⟨cls,J,data,o⟩,ga,l,n,hd⟩:=ha;obtain⟨⟨m,D,data2,S⟩,gb,f,n2,d⟩:=G;simp only at l hd f d;subst l hd f d;rw[keyLt'_oneType,oneLt'_eq];simp only[aZE];refine aYB (wpAny_cRoomFor (by lia) ?_);refine aYB (wpAny_callSpecialIfBound?_slot #[_,ga,rfl] PySem.F.slot_list_lt ?_);have B:LtI A.in1 s its.toList its'.toList (bF U ys):=uP (A:=A.in1) (λx hx y u v p1 p2 ok prog W E Q q=>n_lt x (by have:=N.dp_mem hx;show A.units+1+_+1<_;lia) p1 p2 ok q) (by show A.units+1+_<_;lia) hx r ok;refine call_meets PySem.F.slot_list_lt #[_,ga,rfl] PySem.F.entry_list_lt (PySem.F.args_list_lt_2 _ _) (aP4 a b its its' n n2 J D o S (bF U ys)) #[ga,gb,B,?_];exact aX4 q
end
open PySem.W
structure uW(prog:a3L)(w:a3K)(A:a3J)(n:Nat)(lt:Nat->Nat->Bool)(ks:List a3H)(s:a3I):Prop where
 ex:2<=n->∃κ,(∀(Q:SortKind->a3I->Prop) (E:VSP),Q κ s->wpAny (model prog w) A (keyKind' ks.toArray) Q E s) /\
  ∀i j (Q:Bool->a3I->Prop),i<n->j<n->Q (lt i j) s->wpAny (model prog w) A (keyLt' κ (ks.getD i .none) (ks.getD j .none)) Q (λ_ _=>False) s
section
variable{E:VSP}
def qM{a:Addr}{o:Obj}(I:Inv X O σ H s)(hf:cX X O H a)(e:s.heap.get? a=some o)(hd:∀v,o.data ≠ .cell v):Inv X ((a,o)::O) σ H s:=by refine I.pins_of λp hp=>?_;rcases aXV.mp hp with rfl|hp;{exact#[e,hf.1,hf.2.1,hf.2.2.1,hd]};exact I.pin p (aYG _ hp)
def jE{p:Addr×Obj}(I:Inv X (p::O) σ H s):Inv X O σ H s:=I.pins_of λq a=>I.pin q (aYG _ (mcm a))
def qN{p:Addr×Obj}(I:Inv X (p::O) σ H s):H p.1=none:=(I.pin p (aYG _ mcs)).2.1
def qO{p:Addr×Obj}(I:Inv X (p::O) σ H s):s.heap.get? p.1=some p.2:=(I.pin p (aYG _ mcs)).1
def qP{a:Addr}(hf:cX X O H a)(hn:H' a=none):cX X O H' a:=#[hn,hf.2]
def Inv.track{a:Addr}{o:HO}(I:Inv X O σ H s)(hf:cX X O H a)(new:bL X.prog X.w (upd H a o) s.heap a o):Inv X O σ (upd H a o) s:=by(exists f0,f1,f2,f3,F,f,hf;have up:∀{b:Addr}{u:HO},H b=some u->upd H a o b=some u:=λ{b u} e=>by rw[aN (bT e f0)];exact e);(refine I.call (g':=s.gens) (d':=s.drawn) (t':=s.toks) (ch:=[a]) #[λb o e _ _ _=>e,λb o e _ _ _=>#[o.slots,e],λb o e n d=>by rw[aN (by simpa using d)];exact n,λb o e _=>#[o,e],λb U e=>up e,λb o u e=>up e,λb ps e=>#[#[],by rw[up e];simp]] (λb u e=>?_) I.bare λb d=>by(obtain rfl:b=a:=by simpa using d);exact#[f3,f1,F,f]);by_cases d:b=a;{subst d;rw[aY]at e;cases e;exact new};rw[aN d]at e;exact(I.hok b u e).stay (λ_ _ _ q=>q) (λc q=>up q) λc v q=>up q
theorem aP6{f:a3H}{a K:Addr}{Z:Nat}{lt:Nat->Nat->Bool}{A:a3J}{P:Nat->List V->Hp->Prop}{R:PySem.Fin->a3I->Prop}(d:WkO lt)(hv:aM U vs)(ae:U.length<eE)(ne:a≠K)(fa:cX X O H a)(fk:cX X O H K)(I:Inv X ((K,seqObj "list" #[] 0)::(a,seqObj "list" #[] Z)::O) σ H s)(P0:P 0 [] H)(cl:∀i v u kvs H' pins' s',U[i]? = some v->aG v u->Inv X pins' σ H' s'->P i kvs H'->wpAny (model X.prog X.w) A (call f [u]) (λm af=>∃kv H'',Inv X pins' σ H'' af/\aG kv m/\P (i+1) (kvs++[kv]) H'') (λ_ _=>False) s')(kd:∀kvs ks H' pins' s',Inv X pins' σ H' s'->P U.length kvs H'->aM kvs ks->ks.length=U.length->uW X.prog X.w A U.length lt ks s')(ak:∀(p:List Nat) H' s' kvs,p.Perm (List.range U.length)->(p.Pairwise λi j=>lt j i=false)->P U.length kvs H'->H' a=none->Inv X O σ (upd H' a (.lst (p.map λi=>U.getD i .non))) s'->R (.done (.ret .none)) s'):wpAny (model X.prog X.w) A (ksk_rest a f false vs.toArray Z (.ref K)) R E s:=by
 have aq:U.length<1000000:=aXM ae kE;have lv:U.length=vs.length:=hv.length;unfold ksk_rest;refine aYB (a0E ?_);rw[List.forIn_toArray]
 let J:Nat->a3I->Prop:=λi s'=>∃ks kvs e H',Inv X ((K,seqObj "list" (List.toArray ks) e)::(a,seqObj "list" #[] Z)::O) σ H' s'/\P i kvs H'/\aM kvs ks/\ks.length=i
 refine aYB (ksk_fold J vs 0 s #[[],[],0,H,I,P0,.nil,rfl] (λj x s' hx hJ=>?_) λs' hJ=>?_)
 . rw[a06]at hJ ⊢;exists ks,kvs,e,H',L,p,r,hl,hJ;have am:j<vs.length:=(aXY.mp hx).1;obtain⟨v,ev⟩:∃v,U[j]? = some v:=#[_,a0T (by lia)]
   exists u,eu,rv,hv.get ev;rw[hx]at eu;cases eu;refine aYB (a1I (aX3 (cl j v x kvs H' _ s' ev rv L p) (λm D hk=>?_) λ_ _ hF=>hF.elim));exists kv,H2,I2,rk,p2,hk;have gk:=qO I2;dsimp only at gk ⊢;have sm:=a1F D.heap K (Obj.mapSeq (·.push m));have ea:(List.toArray ks).push m=List.toArray (ks++[m]):=by simp
   obtain⟨c2,N⟩:∃c2,(D.heap.update K (Obj.mapSeq (·.push m))).get? K=some (seqObj "list" (List.toArray (ks++[m])) c2):=#[_,by rw[<- ea];exact a14 gk (·.push m)]
   refine aYB (a13 gk rfl ?_ (by rw[aYI,aYH];lia) (aXS (aYM (Array.size_push ..)) (by rw[aYI,aYH];lia)))
   have ga:=qO (jE I2);have F:=qP fk (qN I2);have l:=qP fa (qN (jE I2))
   have I3:=pP (t':=D.toks) (its:=[K]) (jE (jE I2)) (h':=D.heap.update K (Obj.mapSeq (·.push m))) (λb o B q=>(sm.2 b (by simpa using B)).trans q) (λb B=>by
    obtain rfl:b=K:=by simpa using B
    exact F)
   have I4:=qM I3 l ((sm.2 a ne).trans ga) (by intro v z;cases z)
   have I5:=qM I4 #[F.1,F.2.1,F.2.2.1,F.2.2.2.1,F.2.2.2.2.1,λp hp=>by
    rcases aXW.mp hp with hp|hp
    . exact F.2.2.2.2.2 p (aXX _ hp)
    . rcases aXV.mp hp with rfl|hp
      . exact ne
      . exact F.2.2.2.2.2 p (aYG _ hp)] N (by intro v z;cases z)
   exact aYA #[rfl,ks++[m],kvs++[kv],c2,H2,I5,p2,aM.append r (.cons rk .nil),by simp[hl]]
 . rw[a06]at hJ;exists ks,kvs,e,H',L,p,r,hl,hJ;have gk:=qO L;dsimp only at gk ⊢;refine aYB (a12 gk rfl ?_);rw[<- lv]at p hl;have KO:=kd kvs ks H' _ s' L p r hl;have tail:∀(st:SortSt) (q:List Nat),q.Perm (List.range U.length)->(q.Pairwise λi j=>lt j i=false)->(arrOf st).map (·.2)=(q.map λi=>vs.getD i Value.none).toArray->failedOf st=none->wpAny (model X.prog X.w) A (ksk_tail a false Z (.ref K) st) R E s':=by
     intro st q qp qs hout hf;have ql:q.length=U.length:=by rw[qp.length_eq,a18]
     unfold ksk_tail;dsimp only;rw[hout,aK aX8];have s1:=a1F s'.heap K (Obj.mapSeq λ_=>(#[]:Array a3H));refine aYB (a13 gk rfl ?_ (by rw[aYI,aYH];lia) (aYO _))
     refine aYB (wpAny_letGo ?_);have ga:=qO (jE L);dsimp only at ga;have W:(s'.heap.update K (Obj.mapSeq λ_=>(#[]:Array a3H))).get? a=some (seqObj "list" #[] Z):=(s1.2 a ne).trans ga;refine aYB (a15 W rfl ?_);have ag:((q.map λi=>vs.getD i Value.none).toArray).size=U.length:=by rw[aYI,aY4,ql]
     refine aYB (a13 W rfl ?_ (aYO _) (aXS (aYM ag) (by rw[aYH];lia)))
     rw[hf];simp only[a19,a0I,aZC];have D:=a1F (s'.heap.update K (Obj.mapSeq λ_=>(#[]:Array a3H))) a (Obj.mapSeq λ_=>(q.map λi=>vs.getD i Value.none).toArray);obtain⟨c2,N⟩:∃c2,((s'.heap.update K (Obj.mapSeq λ_=>(#[]:Array a3H))).update a (Obj.mapSeq λ_=>(q.map λi=>vs.getD i Value.none).toArray)).get? a=some (seqObj "list" ((q.map λi=>vs.getD i Value.none).toArray) c2):=#[_,a14 W λ_=>(q.map λi=>vs.getD i Value.none).toArray];have F:=qP fk (qN L);have l:=qP fa (qN (jE L));have I3:=pP (t':=s'.toks) (its:=[K,a]) (jE (jE L)) (h':=(s'.heap.update K (Obj.mapSeq λ_=>(#[]:Array a3H))).update a (Obj.mapSeq λ_=>(q.map λi=>vs.getD i Value.none).toArray))
      (λb o B z=>by
       simp only[aXV,a2Q,a1H,not_or]at B;exact(D.2 b B.2).trans ((s1.2 b B.1).trans z)) (λb B=>by
       simp only[aXV,a2Q,a1H]at B;rcases B with rfl|rfl
       . exact F
       . exact l)
     have n0:H' a=none:=l.1;have vo:aM (q.map λi=>U.getD i .non) (q.map λi=>vs.getD i Value.none):=by(have:∀q:List Nat,(∀i∈q,i<U.length)->aM (q.map λi=>U.getD i .non) (q.map λi=>vs.getD i Value.none):=by intro q;induction q with|nil=>intro _;exact .nil|cons i q ih=>(intro hq;have G:=hq i mcs;exists u,eu,ru,hv.get (a0T G);refine .cons ?_ (ih λj hj=>hq j (mcm hj));have Z:U.getD i .non=U[i]:=by simp[G]);(have e2:vs.getD i Value.none=u:=by simp[eu]);show aG (U.getD i .non) (vs.getD i Value.none);rw[Z,e2];exact ru);exact this q λi G=>by simpa using qp.mem_iff.mp G
     have I4:=Inv.track I3 (o:=.lst (q.map λi=>U.getD i .non)) l #[by rw[aY4,ql,aYH];lia,_,c2,vo,N]
     exact aYA (ak q H' _ kvs qp qs p n0 I4)
   unfold ksk_end;dsimp only;rw[aK aX8];simp only[a0I,aZC];by_cases T:vs.toArray.size<2
   . rw[al T,al T];rw[aYI]at T;refine aYB (aYA ?_);rw[StateT.run_pure];refine aYB (aYA ?_);refine tail _ (List.range U.length) (a1Z _) ?_ ?_ rfl;{(have hx:U.length=0\/U.length=1:=by lia);rcases hx with hx|hx <;> rw[hx] <;> simp[a2R]};rw[lv,pX];show(((List.toArray ks).zip vs.toArray).map (·.2))=vs.toArray;apply Array.ext;{simp;lia};intro i h1 T;simp
   . rw[aK T,aK T];rw[aYI]at T;exists κ,ai,ah,KO.ex (by lia)
     refine aYB (ai _ _ ?_);have aa:ks.length=vs.length:=by lia
     refine aYB (aX3 (aBI (ks:=ks) (vs:=vs) (κ:=κ) d aa (by lia) (by lia) (λi j C G hj hq=>ah i j C (by lia) (by lia) hq)
      (Q:=λS D=>D=s'/\∃p:Array Nat,PW vs.length p/\p.Perm (List.toArray (List.range vs.length))/\Wup lt p vs.length/\arrOf S=p.map (kas_item ((List.toArray ks).zip vs.toArray))/\failedOf S=none)
      λp S a1 a2 a3 a4 a5=>#[rfl,p,a1,a2,a3,a4,a5]) ?_ λ_ _ e=>e)
     rintro⟨⟨⟩,S⟩ D ⟨rfl,p,pp,pe,u,ea,ef⟩;dsimp only;refine tail S p.toList (by rw[lv];simpa using a1V.mp pe) ?_ (kat_snds aa ea) ef
     refine List.pairwise_iff_getElem.mpr λi j G hj aj=>?_;rw[aX5]at G hj;have:=u i j aj (by rw[<- pp.size];exact hj)
     simpa[Array.getD,G,hj]using this
end
def iR(κ:α->Int)(x:α):List α->List α|[]=>[x]|y::l=>if κ y<κ x then y::iR κ x l else x::y::l
section
variable{A:a3J}{E:VSP}
def aP7{d:Addr}{P:Nat->a3H->Prop}{a:Heap->Prop}{R:List a3H->a3I->Prop}(K:W.KdlSrc prog w "dict" d d n P a)(m:A.handled=none)(hok:a s.heap)(hn:n<=sizeLine)(h:∀h' tk vs,(∀b o,s.heap.get? b=some o->h'.get? b=some o)->s.heap.objs.size<h'.objs.size->ItemsOf P vs n->R vs.toList {s with heap:=h',toks:=tk}):wpAny (model prog w) A (collect (.ref d)) R E s:=by
 have L:=(K.there _ hok).1;unfold collect;refine aYB (wpAny_runValue (a2A PySem.F.entry_proto_collect ?_));rw[a2P PySem.F.plain_proto_collect _];show wpAny (model prog w) A.in1 (newList []>>=λl=>again (.builtin "list.__iadd__" #[[l,.ref d],[]])) _ _ s;refine aYB (aZM (aYA #[plainId_quiet PySem.F.plain_list_iadd _,a2A PySem.F.entry_list_iadd ?_]));rw[a2P PySem.F.plain_list_iadd _];have r:(s.heap.push { cls:=.type "list",data:=.seq ([]:List Value).toArray }).get? s.heap.objs.size=some { cls:=.type "list",data:=.seq #[] }:=aXK _ rfl;show wpAny (model prog w) A.in1 (Builtin.List.listExtendWith (.ref s.heap.objs.size) (.ref d) (.ref s.heap.objs.size)) _ _ _;have key:=W.kdl_extend (A:=A) (prog:=prog) (s:={ s with heap:=s.heap.push { cls:=.type "list",data:=.seq ([]:List Value).toArray } })
  (R:=λq s'=>∃h' tk vs c,q=.ok (.ret (.ref s.heap.objs.size))/\s'={s with heap:=h',toks:=tk}/\(∀b o,s.heap.get? b=some o->h'.get? b=some o)/\h'.get? s.heap.objs.size=some { cls:=.type "list",dict:=none,data:=.seq vs c,slots:=#[] }/\ItemsOf P vs n)
  K m (K.keep _ _ hok λb _ o e=>hps e) s.heap.objs.size (aX9 L) (aX9 L) (.ref s.heap.objs.size) 0 r
  (λh' tk vs c kp G it=>#[h',tk,vs,c,rfl,rfl,λb o e=>kp b o (aXO (aXL e)) (hps e),G,it]) hn
 refine aX3 key (λf s' x=>?_) λe s' x=>?_
 . cases f with|done f=>exists h',tk,vs,c,e,rfl,kp,G,it,x;cases e;show wpAny _ A (load s.heap.objs.size>>=_) _ _ _;exact aYB (wpAny_load G (aYA (h h' tk vs kp (aXL G) it)))|again c1=>refine#[x.1,aZ9 x.2 λq S y=>?_];exists h',tk,vs,c,rfl,rfl,kp,G,it,y;show wpAny _ A (load s.heap.objs.size>>=_) _ _ _;exact aYB (wpAny_load G (aYA (h h' tk vs kp (aXL G) it)))
 . exists _,_,_,_,B,_,x;cases B
end
def aP8{d:Addr}{o:Obj}{es:Array DictEntry}(G:(d==sysModules)=false)(D:o.ExactDict)(hd:o.data=.dict es ep):W.KdlSrc P w "dict" d d es.size (λi v=>∃e,es[i]? = some e/\e.key=v) (λh=>h.get? d=some o) where
 type:=λ_ e=>#[o,e,D.1]
 there:=λ_ e=>#[aXL e,aXL e]
 keep:=λ_ _ e hk=>hk d (.inl rfl) o e
 notList:=by decide
 notTuple:=by decide
 hint:=λ_ _ _ _ e r=>W.kdl_hint_dict #[o,e,D.1] r
 iter:=λA s K e=>#[_,λi h=>h.IsKeyIter s.heap.objs.size d i es.size ep/\h.get? d=some o,(λ_ _ r=>aBV G e D hd r),
  { sub:=λb a=>by simp at a;simp[a]
    frame:=λ_ _ _ st hk=>#[st.1.at λo e=>hk _ (by simp) o e,hk d (by simp) o st.2]
    item:=λi S Q E J st m=>by have F:es[i]? = some es[i]:=a2M J;refine aBW st.1 st.2 hd F λh' l f=>m _ h' S.toks #[_,F,rfl] #[l,f.extBut d o (aXO (aXL e)) st.2] λb o a e=>f.extBut b o (λh=>a (by simp[h])) e
    done:=λS Q E st m=>aBX K st.1 st.2 hd (aYC _) λh' B=>m h' S.toks λb o a e=>B b o (λh=>a (by simp[h])) e
    self:=λ_ _ _ _ st m=>a1Q st.1 m },#[_,aXK _ rfl,rfl,rfl],hps e]
theorem aBY:∀{U:List (N×Addr×V)}{us:List a3H},us.length=U.length->(∀(j:Nat) v,us[j]? = some v->∃p:N×Addr×V,U[j]? = some p/\v=.ref p.2.1)->aM (U.map λp=>V.ref p.2.1) us|[],[],_,_=>.nil|[],_::_,h,_|_::_,[],h,_=>by simp at h|x::U,u::us,h,q=>by exists p,d,E,q 0 u rfl;cases d;exact .cons E (aBY (by simpa using h) λj v a=>q (j+1) v a)
theorem aBZ{K:Fg}{F:Hp}:∀{kvs:List (N×D)}{U:List (N×Addr×V)},aS K F kvs U->aC K F (kvs.map λkv=>nD kv.1) (U.map λp=>V.ref p.2.1)|[],U,h=>by simp only[aS]at h;subst h;simp[aC]|(k,d)::kvs,U,h=>by simp only[aS]at h;exists b,y,ys,rfl,q,_,t,h;simp only[aZZ,aC];exact#[_,_,rfl,uF _ _ q.1,aBZ t]
open PySem.W
section
variable{E:VSP}
theorem aP9{f:a3H}{l q:Addr}{lt:Nat->Nat->Bool}{P:Nat->List V->Hp->Prop}{Q:VK}(hf:f=.ref q)(d:WkO lt)(B:U.length<eE)(I:Inv X O σ H s)(rv:aM U vs)(col:∀{R:List a3H->a3I->Prop}{E':VSP},(∀h' tk,(∀b o,s.heap.get? b=some o->h'.get? b=some o)->s.heap.objs.size<=h'.objs.size->R vs {s with heap:=h',toks:=tk})->wpAny (model X.prog X.w) X.A.in1 (collect (.ref l)) R E' s)(P0:P 0 [] H)(cl:∀i v u kvs H' pins' s',U[i]? = some v->aG v u->Inv X pins' σ H' s'->P i kvs H'->wpAny (model X.prog X.w) X.A.in1.in1 (call f [u]) (λku S=>∃kv H'',Inv X pins' σ H'' S/\aG kv ku/\P (i+1) (kvs++[kv]) H'') (λ_ _=>False) s')(kd:∀kvs ks H' pins' s',Inv X pins' σ H' s'->P U.length kvs H'->aM kvs ks->ks.length=U.length->uW X.prog X.w X.A.in1.in1 U.length lt ks s')(aa:∀(p:List Nat) H' kvs l',p.Perm (List.range U.length)->(p.Pairwise λi j=>lt j i=false)->P U.length kvs H'->H' l'=none->H l'=none->Q (.ref l') (upd H' l' (.lst (p.map λi=>U.getD i .non)))):wpAny (model X.prog X.w) X.A (call (.builtin "sorted") [.ref l] [(Str.ofString "key",f)]) (EP X O σ Q) E s:=by
 subst hf;have ae:U.length<1000000:=aXM B kE;have lv:U.length=vs.length:=rv.length;refine call_function_entry_kw kind_sorted plain_sorted entry_sorted (ksk_s1 _ _) ?_;unfold Builtin.«sorted»;refine aYB (m:=checkCount "sorted" 1 1 [Value.ref l].length) (aYA (aYB (col λr tk kc zc=>aYB (a16 ?_ (by rw[aYH];lia)))))
 have K:∀b o,s.heap.get? b=some o->(r.push (seqObj "list" vs.toArray 0)).get? b=some o:=λb o e=>hps (kc b o e);have J:(r.push (seqObj "list" vs.toArray 0)).get? r.objs.size=some (seqObj "list" vs.toArray 0):=aXK _ rfl;show wpAny _ _ _ _ _ { s with heap:=r.push (seqObj "list" vs.toArray 0),toks:=tk }
 have Z:(r.push (seqObj "list" vs.toArray 0)).objs.size=r.objs.size+1:=size_push' ..;generalize r.push (seqObj "list" vs.toArray 0)=h1 at K J Z;have I1:Inv X O σ H {s with heap:=h1,toks:=tk}:=I.kept (t':=tk) K
 have G:s.heap.objs.size<=r.objs.size:=zc;show wpAny _ _ (_>>=_) _ _ _;generalize hA:r.objs.size=a at J G Z;have fa:cX X O H a:=I.fpOk G (I.hok.fresh G);refine aYB (aZG (wpAny_call_entry_kw slot_list_sort #[_,J,rfl] entry_list_sort ?body (ksk_l1 _ _)));show wpAny (model X.prog X.w) X.A.in1.in1 (Builtin.«list.sort» #[[.ref a],[(Str.ofString "key",.ref q)]]) _ _ _;rw[ksk_t1];unfold ksk_tree;refine aYB (a12 J rfl (aYB (a13 J rfl ?_ (by rw[aYI,aYH];lia) (aYO _))))
 have s1:=a1F h1 a (Obj.mapSeq λ_=>(#[]:Array a3H));obtain⟨e1,L⟩:∃c,(h1.update a (Obj.mapSeq λ_=>(#[]:Array a3H))).get? a=some (seqObj "list" #[] c):=#[_,a14 J λ_=>#[]];refine aYB (a15 L rfl (aYB (wpAny_newTuple (aYB (a16 (aZG ?_) (aYO _))) (by show vs.length<=_;rw[aYH];lia))))
 have D:∀b o,b∉[a]->h1.get? b=some o->(((h1.update a (Obj.mapSeq λ_=>(#[]:Array a3H))).push (seqObj "tuple" vs.toArray 0)).push (seqObj "list" #[] 0)).get? b=some o:=λb o W e=>
  hps (hps ((s1.2 b (by simpa using W)).trans e))
 have T:(((h1.update a (Obj.mapSeq λ_=>(#[]:Array Value))).push (seqObj "tuple" vs.toArray 0)).push (seqObj "list" #[] 0)).get? a=some (seqObj "list" #[] e1):=hps (hps L);have gk:(((h1.update a (Obj.mapSeq λ_=>(#[]:Array Value))).push (seqObj "tuple" vs.toArray 0)).push (seqObj "list" #[] 0)).get? ((h1.update a (Obj.mapSeq λ_=>(#[]:Array Value))).push (seqObj "tuple" vs.toArray 0)).objs.size=some (seqObj "list" #[] 0):=aXK _ rfl;have z3:((h1.update a (Obj.mapSeq λ_=>(#[]:Array Value))).push (seqObj "tuple" vs.toArray 0)).objs.size=a+2:=by rw[size_push',a2B,Z]
 rw[z3]at gk;rw[z3];show wpAny (model X.prog X.w) X.A.in1.in1 (ksk_rest a (.ref q) false vs.toArray e1 (.ref (a+2))) _ _ { s with heap:=((h1.update a (Obj.mapSeq λ_=>(#[]:Array a3H))).push (seqObj "tuple" vs.toArray 0)).push (seqObj "list" #[] 0),toks:=tk }
 have I2:Inv X O σ H { s with heap:=((h1.update a (Obj.mapSeq λ_=>(#[]:Array a3H))).push (seqObj "tuple" vs.toArray 0)).push (seqObj "list" #[] 0),toks:=tk }:=pP (s:={s with heap:=h1,toks:=tk}) (t':=tk) (its:=[a]) I1 D λb W=>by(obtain rfl:b=a:=by simpa using W);exact fa
 have N:s.heap.objs.size<=a+2:=by lia
 have F:cX X O H (a+2):=I.fpOk N (I.hok.fresh N);have ne:a≠a+2:=by lia
 have I3:=qM I2 fa T (by intro v z;cases z)
 have I4 := qM I3 #[F.1, F.2.1, F.2.2.1, F.2.2.2.1, F.2.2.2.2.1, fun p hp => by
     rcases aXW.mp hp with hp|hp
     . exact F.2.2.2.2.2 p (aXX _ hp)
     . rcases aXV.mp hp with rfl|hp
       . exact ne
       . exact F.2.2.2.2.2 p (aYG _ hp)] gk (by intro v z;cases z)
 refine aP6 d rv B ne fa F I4 P0 cl kd λp H' s' kvs pp ps hP hn I5=>?_;exact#[_,rfl,aYA #[_,rfl,.ref a,_,I5,rfl,aa p H' kvs a pp ps hP hn fa.1]]
theorem aQA{l:Addr}(m:U.length<eE)(I:Inv X O σ H s)(a:SqL X.K H l U\/SqT X.K H l U):∃vs,aM U vs/\∀{R:List a3H->a3I->Prop}{f:VSP},(∀h' tk,(∀b o,s.heap.get? b=some o->h'.get? b=some o)->s.heap.objs.size<=h'.objs.size->R vs {s with heap:=h',toks:=tk})->wpAny (model X.prog X.w) X.A.in1 (collect (.ref l)) R f s:=by have B:U.length<1000000:=aXM m kE;exists vs,d,pl,uT I a;have L:U.length=vs.length:=d.length;refine#[vs,d,λ{R f} r=>?_];have r:=r ((s.heap.push (seqObj "list" #[] 0)).update s.heap.objs.size (Obj.mapSeq (·++vs.toArray))) s.toks (λb o e=>(a17 _ _ _ _ (aXO (aXL e))).trans (hps e)) (by rw[a2B,size_push'];lia);rcases pl with a|a;{exact collect_list a r (by rw[aYH];lia)};exact uQ a (by rw[aYH];lia) r
end
def eG:D->Option (Bool×N)|.int i=>some (true,.i i)|.lst ds=>(cS ds).map λks=>(false,.t ks)|_=>none
noncomputable def fZ(b:Bool):List D->Option (List N)|[]=>some []|d::ds=>match eG d,fZ b ds with|some (c,k),some ks=>if c=b then some (k::ks)else none|_,_=>none
def okK(ks:List N):Bool:=ks.all (λk=>decide (k.dp<=8))&&ks.all (λx=>ks.all λy=>okN x y)&&decide ks.Nodup
def iS(x:N×D):List (N×D)->List (N×D)|[]=>[x]|y::l=>if ltN y.1 x.1=true then y::iS x l else x::y::l
def f8(l:List (N×D)):List (N×D):=l.foldr iS []
def kJ(l:List (N×D)):Prop:=l.Pairwise λx y=>ltN y.1 x.1=false
theorem uX(x:N×D):∀(l:List (N×D)),(iS x l).Perm (x::l)|[]=>a1Z _|y::l=>by unfold iS;split;{exact((uX x l).cons y).trans (List.Perm.swap x y l)};exact a1Z _
theorem qQ:∀(l:List (N×D)),(f8 l).Perm l|[]=>a1Z _|x::l=>(uX x (f8 l)).trans ((qQ l).cons x)
theorem aB0{x:N×D}:∀{l:List (N×D)},kJ l->kJ (iS x l)|[],_=>a10 _ _|y::l,h=>by unfold iS;split;{rename_i e;refine a11.mpr #[λz a=>?_,aB0 (a11.mp h).2];rcases aXV.mp ((uX x l).mem_iff.mp a)with rfl|a;{exact nS e};exact(a11.mp h).1 z a};rename_i e;(have e:ltN y.1 x.1=false:=by simpa using e);refine a11.mpr #[λz a=>?_,h];rcases aXV.mp a with rfl|a;{exact e};exact nU ((a11.mp h).1 z a) e
theorem uY:∀(l:List (N×D)),kJ (f8 l)|[]=>List.Pairwise.nil|x::l=>aB0 (uY l)
theorem key_inj:∀{l:List (N×D)},(l.map (·.1)).Nodup->∀{x y:N×D},x∈l->y∈l->x.1=y.1->x=y|z::l,nd,x,y,hx,a,e=>by rw[aZZ,aYT]at nd;rcases aXV.mp hx with ex|mx;{rcases aXV.mp a with E|m;{rw[ex,E]};exact absurd (a2O.mpr #[y,m,by rw[<- e,ex]]) nd.1};rcases aXV.mp a with E|m;{exact absurd (a2O.mpr #[x,mx,by rw[e,E]]) nd.1};exact key_inj nd.2 mx m e
theorem aB1:∀{l l':List (N×D)},kJ l->kJ l'->l.Perm l'->(l.map (·.1)).Nodup->l=l'|[],l',_,_,p,_=>p.symm.eq_nil.symm|x::l,[],_,_,p,_=>p.eq_nil|x::l,y::l',h,h',p,nd=>by(have f:=a11.mp h;have d:=a11.mp h';have m:y∈x::l:=p.mem_iff.mpr mcs;have o:x∈y::l':=p.mem_iff.mp mcs;have E:x.1=y.1:=by(have a:ltN y.1 x.1=false:=by rcases aXV.mp m with e|e;{rw[e];exact kG _};exact f.1 y e);(have b:ltN x.1 y.1=false:=by rcases aXV.mp o with e|e;{rw[e];exact kG _};exact d.1 x e);exact qJ x.1 y.1 b a);have E:x=y:=key_inj nd mcs m E;subst E;rw[aZZ,aYT]at nd;rw[aB1 f.2 d.2 p.cons_inv nd.2]
def aB2{l l':List (N×D)}(h:kJ l')(p:l'.Perm l)(nd:(l.map (·.1)).Nodup):l'=f8 l:=(aB1 (uY l) h ((qQ l).trans p.symm) (((qQ l).map _).nodup_iff.mpr nd)).symm
theorem aQB{p:List Nat}(d:ks.length=ds.length)(nd:ks.Nodup)(a:p.Perm (List.range ds.length))(ps:p.Pairwise λi j=>ltN (ks.getD j (.i 0)) (ks.getD i (.i 0))=false):(p.map λi=>ds.getD i .non)=(f8 (ks.zip ds)).map (·.2):=by
 have E:((List.range ds.length).map λi=>(ks.getD i (.i 0),ds.getD i .non))=ks.zip ds:=by apply a1P;{simp[d]};intro i h1 h2;simp at h1 h2 ⊢;(have f:i<ks.length:=by lia);simp[h1,f]
 have key:=aB2 (l:=ks.zip ds) (l':=p.map λi=>(ks.getD i (.i 0),ds.getD i .non)) (by unfold kJ;rw[a1M];exact ps) (by rw[<- E];exact a.map _) (by
  rw[List.map_fst_zip (by lia)];exact nd)
 rw[<- key,a2D];rfl
section
variable{A:a3J}{E:VSP}
theorem aB3:∀(vs:List a3H) {Q:List (Option a3H)->a3I->Prop},(∀v∈vs,Looks (model prog w) s.heap (typeOf v) (.type "list"))->Q (vs.map λ_=>none) s->wpAny (model prog w) A (vs.mapM firstOfTuple') Q E s|[],_,_,h=>by rw[List.mapM_nil];exact aYA h|v::vs,Q,t,h=>by rw[List.mapM_cons];refine aYB ?_;rw[kas_first_eq];refine aYB (Looks.here (t v mcs) ?_);rw[al (by first|decide|simp)];refine aYA ?_;exact aYB (aB3 vs (Q:=λbs s'=>wpAny (model prog w) A (pure (none::bs)) Q E s') (λv a=>t v (mcm a)) (aYA h))
def aQC{Q:SortKind->a3I->Prop}(t:∀v∈vs,Looks (model prog w) s.heap (typeOf v) (.type "list"))(d:2<=vs.length)(h:Q oneType' s):wpAny (model prog w) A (keyKind' vs.toArray) Q E s:=by
 obtain⟨f,fr,rfl⟩:∃f fr,vs=f::fr:=by match vs,d with|f::fr,_=>exact#[f,fr,rfl]
 rw[kat_kind_eq,List.mapM_toArray,map_eq_pure_bind];refine aYB (aYB (aB3 _ t (aYA ?_)));rw[aK (by simp),aK (by simp)]
 rw[oneTypeOnly'_eq,List.mapM_toArray,map_eq_pure_bind];refine aYB (aYB (aYB (kas_mapM (r:=Value.type "list") _ (λv l o m=>(t v l).here m) (aYA ?_))));have a:((List.map (λ_=>Value.type "list") (f::fr)).toArray.all λx=>x==Value.type "list")=true:=by simp only[List.all_toArray,List.all_map,a2C];intro _ _;rfl
 have h0:(List.map (λ_=>Value.type "list") (f::fr)).toArray[0]? = some (Value.type "list"):=by simp
 rw[h0];simp only[a,aZE];exact aYA (aYA h)
end
def jF(K:List D):Option (List N):=match fZ true K with|some ks=>some ks|none=>fZ false K
theorem uZ{b:Bool}:∀{K:List D}{ks:List N},fZ b K=some ks->ks.length=K.length/\∀(i:Nat) d,K[i]? = some d->∃k,ks[i]? = some k/\eG d=some (b,k)|[],ks,e=>by cases e;exact#[rfl,λi d h=>by simp at h]|d::ds,ks,e=>by unfold fZ at e;split at e;{rename_i c k ks' h1 h2;split at e;{rename_i a;cases e;subst a;exists l,r,uZ h2;refine#[by simp[l],λi f h=>?_];cases i with|zero=>simp at h;subst h;exact#[k,rfl,h1]|succ i=>exact r i f (by simpa using h)};cases e};cases e
def wkO_K(ks:List N):WkO λi j=>ltN (ks.getD i (.i 0)) (ks.getD j (.i 0)):=#[λa b=>nU a b,λa=>nS a]
section
variable{F:Hp}
theorem aQD{A:a3J}{b:Bool}{f:List D}{kvs:List V}(hu:A.units+40<cLine)(e:fZ b f=some ks)(ok:okK ks=true)(I:Inv X O σ H s)(sF:aD F H)(rl:aC X.K F f kvs)(rv:aM kvs us):uW X.prog X.w A f.length (λi j=>ltN (ks.getD i (.i 0)) (ks.getD j (.i 0))) us s:=by(exists kl,kg,uZ e;unfold okK at ok;simp only[aZL,a2C,a0L]at ok;obtain⟨⟨d8,ao⟩,nd⟩:=ok;have lk:kvs.length=f.length:=rl.length;have lu:us.length=f.length:=by rw[<- rv.length,lk]);(have at_:∀i,i<f.length->∃d k v u,f[i]? = some d/\ks.getD i (.i 0)=k/\k∈ks/\eG d=some (b,k)/\aB X.K F d v/\aG v u/\us.getD i .none=u:=λi G=>by exists k,B,hk,kg i _ (a0T G);exists v,ev,rd,rl.get' (a0T G);exists u,eu,ru,rv.get ev;exact#[_,k,v,u,a0T G,by simp[B],aY2 B,hk,rd,ru,by simp[eu]]);refine#[λh2=>#[oneType',λQ E q=>?_,λi j Q G hj q=>?_]];{cases b with|true=>((have ia:∃ns,IntsAre us ns:=by(have:∀{f:List D}{kvs:List V}{us:List a3H},(∀(i:Nat) d,f[i]? = some d->∃k,eG d=some (true,k))->aC X.K F f kvs->aM kvs us->∃ns,IntsAre us ns:=by intro f;induction f with|nil=>intro kvs us _ r v;simp only[aC]at r;subst r;cases v;exact#[[],.nil]|cons d ds ih=>intro kvs us hk r v;simp only[aC]at r;exists y,ys,rfl,q1,q2,r;cases v with|cons r1 r2=>exists ns,hn,ih (λi d h=>hk (i+1) d (by simpa using h)) q2 r2;exists k,B,hk 0 d rfl;cases d with|int n=>simp only[aB]at q1;subst q1;exists t,rfl,r1;exact#[n::ns,.cons n t hn]|lst es=>(unfold eG at B;dsimp only at B;cases z:cS es with|none|some zs=>rw[z]at B;cases B)|_=>cases B);exact this (λi d h=>let⟨k,_,z⟩:=kg i d h;#[k,z]) rl rv);exists ns,hn,ia;match us,lu with|v1::v2::vs,_=>rw[keyKind_ints hn];exact aYA q|[],z|[_],z=>simp at z;lia)|false=>refine aQC (λu hu=>?_) (by lia) q;exists i,G,rfl,List.mem_iff_getElem.mp hu;exists d,k,v,u,e1,e2,e3,l,J,e6,W,at_ i (by lia);(have W:us[i]=u:=by rw[<- W];simp[G]);rw[W];cases d with|int n=>cases l|lst es=>simp only[aB]at J;exists a,U,rfl,hq,r,J;cases e6;exists its,_,pl,_,I.list (sF.seq hq);exists o,ho,hc,_,pl.isList;have L:Looks (model X.prog X.w) s.heap (typeOf (.ref a)) o.cls:=(Looks.ld ho).andThen .now;rw[hc]at L;exact L|_=>cases l};exists d,k,v,u,e1,e2,e3,l,J,e6,W,at_ i G;exists d',k',v',u',f1,f2,f3,m,Z,f6,f7,at_ j hj;rw[W,f7];rw[e2,f2]at q;have T:=ao k e3 k' f3;cases b with|true=>(cases d with|int n=>(cases d' with|int n'=>cases l;cases m;simp only[aB]at J Z;subst J;subst Z;exists t,rfl,e6;exists t',rfl,f6;rw[ltN]at q;exact kat_lt_int q|lst es=>(unfold eG at m;dsimp only at m;cases z:cS es with|none|some zs=>rw[z]at m;cases m)|_=>cases m)|lst es=>(unfold eG at l;dsimp only at l;cases z:cS es with|none|some zs=>rw[z]at l;cases l)|_=>cases l)|false=>cases d with|int n=>cases l|lst es=>(cases d' with|int n=>cases m|lst ai=>(unfold eG at l m;dsimp only at l m;cases z:cS es with|none=>rw[z]at l;cases l|some zs=>rw[z]at l;cases l;cases z':cS ai with|none=>rw[z']at m;cases m|some aa=>rw[z']at m;cases m;simp only[aB]at J Z;exists a,U,rfl,hq,r,J;exists a',ae,rfl,ah,r',Z;cases e6;cases f6;exists its,af,pl,_,I.list (sF.seq hq);exists aj,S,ag,_,I.list (sF.seq ah);have n1:bH X.K H zs U:=(nR z r).map λx _ v y=>NAt.mono sF x v y;have n2:bH X.K H aa ae:=(nR z' r').map λx _ v y=>NAt.mono sF x v y;rw[okN]at T;rw[ltN]at q;have dd:=d8 _ e3;rw[N.dp]at dd;exact aP5 (by lia) pl.isList ag.isList (by simpa using bH.is (λx _ v u a b=>NAt.is I x v u a b) n1 af) (by simpa using bH.is (λx _ v u a b=>NAt.is I x v u a b) n2 S) T q)|_=>cases m)|_=>cases l
end
def iT(Φ:D->Res):List D->Option (List D)|[]=>some []|d::ds=>match aI (Φ d),iT Φ ds with|.ok .fz a,some K=>some (a::K)|_,_=>none
def jG:Md->D->Option (List D)|.fz,.dtf kvs=>some (kvs.map λkv=>nD kv.1)|_,d=>seqD d
def cU(Φ:D->Res)(r:Res):Res:=r.thn λm d=>match jG m d with
 |some ds=>(match iT Φ ds with|some K=>((match jF K with|some ks=>if(okK ks&&decide (ds.length<eE))=true then .ok .fr (.lst ((f8 (ks.zip ds)).map (·.2)))else .stuck|none=>.stuck))|none=>.stuck)
 |none=>.stuck
theorem aB4{Φ:D->Res}:∀{ds K:List D},iT Φ ds=some K->K.length=ds.length/\∀(i:Nat) d,ds[i]? = some d->∃kd,K[i]? = some kd/\aI (Φ d)=.ok .fz kd|[],K,e=>by cases e;exact#[rfl,λi d h=>by simp at h]|d::ds,K,e=>by unfold iT at e;split at e;{rename_i kd a m f;cases e;exists l,r,aB4 f;refine#[by simp[l],λi o h=>?_];cases i with|zero=>simp at h;subst h;exact#[kd,rfl,m]|succ i=>exact r i o (by simpa using h)};cases e
def aQE{K:List D}(h:jF K=some ks):∃b,fZ b K=some ks:=by unfold jF at h;split at h;{rename_i z;cases h;exact#[true,z]};exact#[false,h]
section
variable{F:Hp}
theorem aQF(hc:X.calm=true)(I:Inv X O σ H s)(sF:aD F H){m:Md}{d:D}(e:jG m d=some ds)(E:Rp X.K F H m d v)(N:ds.length<eE):∃l U,v=.ref l/\aC X.K F ds U/\∃vs,aM U vs/\∀{R:List a3H->a3I->Prop}{J:VSP},(∀h' tk,(∀b o,s.heap.get? b=some o->h'.get? b=some o)->s.heap.objs.size<=h'.objs.size->R vs {s with heap:=h',toks:=tk})->wpAny (model X.prog X.w) X.A.in1 (collect (.ref l)) R J s:=by
 have W:seqD d=some ds->∃l U,v=.ref l/\aC X.K F ds U/\∃vs,aM U vs/\∀{R:List a3H->a3I->Prop}{J:VSP},(∀h' tk,(∀b o,s.heap.get? b=some o->h'.get? b=some o)->s.heap.objs.size<=h'.objs.size->R vs {s with heap:=h',toks:=tk})->wpAny (model X.prog X.w) X.A.in1 (collect (.ref l)) R J s:=λe1=>by exists l,U,rfl,hq,L,Rp.seqD sF e1 E;exists vs,Z,col,aQA (by rw[L.length];exact N) I hq;exact#[l,U,rfl,L,vs,Z,col]
 unfold jG at e;split at e
 . rename_i kvs;cases e;have E:aB X.K F (.dtf kvs) v:=E;simp only[aB]at E;exists a,o,U,rfl,hf,r,E;have hd:=sF _ _ hf;exists ns,es,g,hx,dt,sz,n,qK I.hok hd;have T:aM (U.map λp=>V.ref p.2.1) (es.toList.map (·.key)):=aBY (by rw[aY4,aX5,sz]) λj v f=>by
     rw[aY1,a1W]at f;cases B:es[j]? with|none=>rw[B]at f;cases f|some e=>(rw[B]at f;cases f;have S:j<U.length:=by rw[<- sz];exact(aXR.mp B).1);exists e',G,ke,n j U[j] (by simp[S]);rw[B]at G;cases G;exact#[U[j],by simp[S],ke]
   refine#[a,_,rfl,aBZ r,_,T,λ{R J} q=>?_];refine aP7 (A:=X.A.in1) (aP8 ns hx dt) (I.ok.hd hc) g (by rw[sz,r.len,aYH];rw[aY4]at N;have:=kE;lia) λh' tk vs kp zs it=>?_
   have:vs.toList=es.toList.map (·.key):=by refine a1P (by rw[aX5,it.1,aY4,aX5]) λi h1 h2=>?_;exists e,B,f,it.2 i _ (by rw[<- a1W];exact a0T h1);(rw[<- f,List.getElem_map];have h3:i<es.size:=by simpa using h2);rw[a2M h3]at B;cases B;simp
   rw[this];exact q h' tk kp (aXT zs)
 . exact W e
end
section
variable{F:Hp}{E:VSP}
theorem aQG{Φ:D->Res}{f:Addr}{m:Md}{d:D}{Q:VK}(W:X.calm=true)(hu:X.A.units+64<cLine)(I:Inv X O σ H s)(sF:aD F H)(rp:Rp X.K F H m d v)(N:aG v u)(cl:∀pins' H' F' s' v u d B,Inv X pins' σ H' s'->aJ F H F' H'->aB X.K F' d v->aG v u->aI (Φ d)=.ok .fz B->wpAny (model X.prog X.w) X.A.in1.in1 (call (.ref f) [u]) (λku r=>∃kv F'' H'',Inv X pins' σ H'' r/\aG kv ku/\aJ F' H' F'' H''/\aB X.K F'' B kv) (λ_ _=>False) s')(w:aX (C.at X) F H σ (cU Φ (.ok m d)) Q):wpAny (model X.prog X.w) X.A (call (.builtin "sorted") [u] [(Str.ofString "key",.ref f)]) (EP X O σ Q) E s:=by(have w:aX (C.at X) F H σ (match jG m d with|some ds=>((match iT Φ ds with|some o=>((match jF o with|some ks=>if(okK ks&&decide (ds.length<eE))=true then .ok .fr (.lst ((f8 (ks.zip ds)).map (·.2)))else .stuck|none=>.stuck))|none=>.stuck))|none=>.stuck) Q:=w);cases e1:jG m d with|none=>rw[e1]at w;exact w.elim|some ds=>rw[e1]at w;dsimp only at w;cases e2:iT Φ ds with|none=>rw[e2]at w;exact w.elim|some o=>rw[e2]at w;dsimp only at w;cases e3:jF o with|none=>rw[e3]at w;exact w.elim|some ks=>rw[e3]at w;dsimp only at w;split at w;{rename_i hc;rw[aZL,a0L]at hc;exists ok,Z,hc;exists b,eb,aQE e3;exists l,U,rfl,T,aa,L,col,aQF W I sF e1 rp Z;cases N;have lx:U.length=ds.length:=T.length;exists kl,kg,aB4 e2;have ae:=(uZ eb).1;refine aP9 rfl (wkO_K ks) (by lia) I L col (P:=λi kvs H'=>∃F',aJ F H F' H'/\aC X.K F' (o.take i) kvs) #[F,.refl sF,aC.nil] ?_ ?_ ?_;{rintro i v u kvs H' pins' s' ex N I' ⟨F',st,rk⟩;exists d',ed,rd,T.get ex;exists B,ek,er,kg i d' ed;refine aX3 (cl pins' H' F' s' v u d' B I' st (rd.mono st.fsame _ _) N er) (λku r hk=>?_) λ_ _ x=>x;exists kv,F2,H2,I2,r2,S,J,hk;refine#[kv,H2,I2,r2,F2,st.trans S,?_];(have:o.take (i+1)=o.take i++[B]:=by rw[List.take_succ,ek];rfl);rw[this];exact aC.append (rk.mono S.fsame _ _) (aC.cons J aC.nil)};{rintro kvs us H' pins' s' I' ⟨F',st,rk⟩ rv hl;rw[a05 (by lia)]at rk;have:=aQD (A:=X.A.in1.in1) (by show X.A.units+1+1+40<_;lia) eb ok I' st.sub rk rv;rw[kl,<- lx]at this;exact this};rintro p H' kvs l' V ps ⟨F',st,_⟩ hn hn0;(have nd:ks.Nodup:=by unfold okK at ok;simp only[aZL,a0L]at ok;exact ok.2);(rw[lx]at V;have hz:ks.length=ds.length:=by lia);(refine w (.ref l') F' _ (st.trans (aJ.fresh _ st.sub hn)) #[l',rfl,st.sub.free hn,_,aY,?_] λ_ a ea=>by cases ea;exact hn0);rw[<- aQB hz nd V ps];exact uD λi hi=>by(have G:i<ds.length:=by simpa using V.mem_iff.mp hi);(exists x,ex,rx,T.get' (a0T G);have a1:ds.getD i .non=ds[i]:=by simp[G]);(have a2:U.getD i .non=x:=by simp[ex]);rw[a1,a2];exact rx.mono st.fsame _ _};exact w.elim
end
theorem aB5:∀{ps:List Str}{us:List a3H},ps.Nodup->us.length=ps.length->ps.filterMap (λn=>((ps.zip us).lookup n).map (n,·))=ps.zip us/\∀n∈ps,((ps.zip us).lookup n).isNone=false
 |[],us,_,_=>#[rfl,λ_ h=>by cases h]|p::ps,[],_,h=>by cases h|p::ps,u::us,nd,h=>by
  exists o,m,aYT.mp nd;exists i1,f,aB5 (us:=us) m (Nat.succ.inj h);have e:∀n∈ps,((p,u)::ps.zip us).lookup n=(ps.zip us).lookup n:=λn hn=>by rw[a0K];have:(n==p)=false:=aXI.mpr λz=>o (z ▸ hn);rw[this]
  refine#[?_,λn hn=>?_]
  . rw[a09,aXU,a0K,a0Y];dsimp only[Option.map];refine congrArg _ (Eq.trans ?_ i1);have c:∀l:List Str,(∀n∈l,n∈ps)->l.filterMap (λn=>(((p,u)::ps.zip us).lookup n).map (n,·))=l.filterMap (λn=>((ps.zip us).lookup n).map (n,·)):=by
      intro l hl
      induction l with|nil=>rfl|cons a l d=>rw[aXU,aXU,e a (hl a mcs),d λn hn=>hl n (mcm hn)]
    exact c ps λ_ h=>h
  . rw[a09];rcases aXV.mp hn with rfl|hn;{rw[a0K,a0Y];rfl};rw[e n hn];exact f n hn
def aB6(B:fd.params.posonlyargs=[])(A:fd.params.args.map (·.arg)=ps)(r:fd.params.vararg=none)(o:fd.params.kwonlyargs=[])(m:fd.params.kwarg=none)(hd:fd.defaults=.none)(l:ps.Nodup)(us:List a3H)(a:us.length=ps.length):bindArgs fd #[us,[]]=pure (ps.zip us):=by(exists f,d,aB5 l a;have Z:(ps.take (ps.length-0)).filter (λn=>((ps.zip us).lookup n).isNone)=[]:=by rw[Nat.sub_zero,a1K,List.filter_eq_nil_iff];intro n hn;rw[d n hn];decide);unfold bindArgs;simp only[B,A,r,o,m,hd,aZ0,a0J,aYR,a0V,a0X,a,aXN,seqItems?];have q:(do notAStandIn Value.none;pure none:Sem (Option (Array a3H)))=pure none:=rfl;rw[q];simp only[a0X,aZQ,aZY,Nat.zero_sub,a04,Z,decide_false,Bool.false_and,a0I,aZC,List.isEmpty_nil,Bool.not_true,List.zip_nil_right,a0V,f,Array.toList_empty,List.drop_nil]
section
variable{q kp:Pos}{Φ:D->Res}
def aB7(T:Addr->Hp->Prop)(N:X.calm=true)(hu:X.A.units+64<cLine)(hg:Gl X "sorted")(hm:X.mg "sorted"=none)(he:PV C X e g)(hs:bI e=true)(hk:PE X ke (λσ H Q=>∀f H',aD H H'->T f H'->Q (.ref f) H'))(cl:∀f pins' σ H F H' F' s' v u d r,T f H->Inv X pins' σ H' s'->aJ F H F' H'->aB X.K F' d v->aG v u->aI (Φ d)=.ok .fz r->wpAny (model X.prog X.w) X.A.in1.in1 (call (.ref f) [u]) (λku D=>∃kv F'' H'',Inv X pins' σ H'' D/\aG kv ku/\aJ F' H' F'' H''/\aB X.K F'' r kv) (λ_ _=>False) s'):PV C X (.Call (.Name "sorted" p) [e] [#[some "key",ke,kp]] pos) (λY=>cU Φ (g Y)):=by intro O s σ H Q I h;rw[aU]at h;exists Y,F,R,w,h;have st:starEach [e] X.env=[(false,eval e X.env)]:=bQ hs;refine aY5 (jS I hg hm aAZ ?_ (by decide) (by decide));refine callWith_kw (e:=e) (rest:=[]) ?_ (by rw[st];rfl) (by rw[st];rfl) rfl rfl;have W:PA X [e] (iG (tG (C.at X) g) oX):=m9 he m8 st;refine thn (W pos O s σ H (λvs H1=>∃v,vs=[v]/\∃F1,aJ F H F1 H1/\∃m d,g Y=.ok m d/\Rp X.K F1 H1 m d v) I ?_) λus B hz=>?_;{show tG (C.at X) g σ H _;rw[aU];refine#[Y,F,R,?_];cases E:g Y with|stuck=>rw[show cU Φ (g Y)=.stuck by rw[E];rfl]at w;exact w|exc c=>rw[show cU Φ (g Y)=.exc c by rw[E];rfl]at w;exact w|ok m d=>exact λv F1 H1 B J _=>#[v,rfl,F1,B,m,d,rfl,J]};exists vs,H1,I1,rv,v,rfl,F1,l,m,d,E,J,hz;exists u,rfl,ru,jT rv;have V:PK X [#[some "key",ke,kp]] (iG (λσ H Q=>∀f H',aD H H'->T f H'->Q (.ref f) H') oX):=aJQ hk aJP;refine thn (V pos O B σ H1 (λws o=>∃f,ws=[.ref f]/\aD H1 o/\T f o) I1 (λf H' sm t=>#[f,rfl,sm,t])) λws s2 L=>?_;exists zs,o,I2,rz,f,rfl,sm,t,L;exists wv,rfl,G,jT rz;cases(show wv=Value.ref f from G);have S:aJ F1 H1 F1 o:=#[sm,aD.refl _,l.sub.trans sm,λ_ h _=>h];have Z:=aX.step (l.trans S) w;rw[show cU Φ (g Y)=cU Φ (.ok m d) by rw[E]]at Z;exact aQG (C:=C) N hu I2 S.sub (J.step S) ru (λpins' H' F' s' v u d r a b c d' e'=>cl f pins' σ o F1 H' F' s' v u d r t a b c d' e') Z
def aB8{F:Hp}{K:Frag}{m:Md}{d kd:D}(E:aI (.ok m d)=.ok .fz kd)(st:aJ F H F' H')(l:Rp K F' H' m d v)(fr:m=.fr->∀a,v=.ref a->H a=none):∃f,aJ F H f H'/\aB K f kd v:=by cases m with|fz=>cases E;exact#[F',st,l]|bo=>cases E|fr=>cases E;exists x,rfl,n,t,l;exists o,ho,r,t.freeze n;exact#[upd F' x o,st.freeze (fr rfl x rfl) n ho,r]
def cl_fn{n:Nat}{Ψ:List D->Res}(FV:FnV X.prog X.w X.K X.mg X.base (CX1 X.prog X.w) k x 1 Ψ)(hr:bB k X.A.in1.in1){f:Addr}(hf:X.mg x=some (.ref f)){d kd:D}(I:Inv X pins' σ H' s')(sF:aD F' H')(Z:aB X.K F' d v)(V:aG v u)(E:aI (Ψ [d])=.ok .fz kd):wpAny (model X.prog X.w) X.A.in1.in1 (call (.ref f) [u]) (λku o=>∃kv F a,Inv X pins' σ a o/\aG kv ku/\aJ F' H' F a/\aB X.K F kd kv) (λ_ _=>False) s':=by
 exists f',fd,ps,N,J,hk,hb,FV.ex;rw[hf]at J;cases J;have sp:spV X.K X.mg 1 Ψ [v] H' (λkv a=>∃F,aJ F' H' F a/\aB X.K F kd kv) (λ_ _ _=>False):=by refine#[rfl,F',[d],sF,aC.cons Z aC.nil,?_];cases ep:Ψ [d]with|stuck|exc c=>rw[ep]at E;cases E|ok m d'=>rw[ep]at E;exact#[(by intro z;rw[z]at E;cases E),λv T L st W fr=>aB8 E st W fr]
 have hl:([u]++[]).length=ps.length:=by rw[<- N.len _ _ _ _ sp];rfl
 have l:=hb s' [u] I.kIn hl;rw[aYR]at l;refine a01 (aZ9 (N.run X.A.in1.in1 X.stack s' H' #[[u],[]] [u] [v] _ _ hr I.env0.in1.in1 l (.cons V .nil) sp) λr s2 G=>?_);cases r with|error e=>exists _,_,_,_,_,_,_,_,_,_,z,G;exact z|ok fl=>cases fl with|ret w=>exists kv,L,I2,rk,T,S,B,I.after G;exact#[kv,T,L,I2,rk,S,B]|next|brk|cont=>exact False.elim G
theorem bB.in2{A:a3J}(r:bB (k+1) A):bB k A.in1.in1 :=
 #[r.hd,by have:=r.dp;show A.depth+3 * k+5<_;lia,by have:=r.un;show A.units+1+1+16 * k+200<_;lia]
def aQH{Ψ:List D->Res}(o:X.calm=true)(E:X.A.units+64<cLine)(L:Gl X "sorted")(J:X.mg "sorted"=none)(N:PV C X e g)(hs:bI e=true)(l:Gl X x)(m:(x==("__debug__":Str))=false)(B:FnV X.prog X.w X.K X.mg X.base (CX1 X.prog X.w) k x 1 Ψ)(G:bB (k+1) X.A):PV C X (.Call (.Name "sorted" p) [e] [#[some "key",.Name x q,kp]] pos) (λY=>cU (λd=>Ψ [d]) (g Y)):=by exists f,fd,ps,T,a,hk,S,id B.ex;refine aB7 (λr _=>r=f) o E L J N hs (PE.imp (sO l a (v:=.ref f) rfl m) λσ H Q h=>h f H (aD.refl _) rfl) ?_;intro r pins' σ H F H' F' s' v u d kd t I st rd ru er;subst t;exact cl_fn (n:=1) B (bB.in2 G) a I st.sub rd ru er
end
section
variable{K:Type}[DecidableEq K]{knd:HeapKind prog w K}{A:a3J}{E:VSP}
theorem aQI{d a:Addr}{U:List (K×Addr×a3H)}{k:K}{v:a3H}(J:knd.room A)(f:knd.is s.heap k a)(L:s.heap.DictOfH knd d U)(l:∀p,atKey U k=some p->Q p.2 {s with toks:=s.toks+knd.draws k})(B:atKey U k=none->∀h',h'.DictOfH knd d (U++[(k,a,v)])->Heap.SameBut d s.heap h'->Q v {s with heap:=h',toks:=s.toks+knd.draws k})(hsz:U.length<=sizeLine):wpAny (model prog w) A (dictSetDefault d (.ref a) v) Q E s:=by
 exists o,es,ep,ho,N,hd,F,D,hn,L;unfold dictSetDefault
 try with_reducible refine aZG ?_
 refine aYB (knd.pyHash J f (aYB (wpAny_dictFind_heap (s:={s with toks:=s.toks+knd.draws k}) J f ho hd F D hn ?_ ?_)))
 . intro r;have m:k∉U.map (·.1):=not_mem_keys_of_get r;refine aYB (a0E (aYB (wpAny_updateDictKeys (hz:=by have e:=size_of_entries F;lia) (s:={s with toks:=s.toks+knd.draws k}) ho hd (aYA (B (atKey_none_of_get r) _ #[_,_,ep+1,aZN _ ho (Obj.isFreed_of_dict (Obj.data_mapDictKeys hd _)),
     N.mapDictKeys _,Obj.data_mapDictKeys hd _,?_,?_,?_] (a1F ..))))))
   . simp[F,entryOfKey]
   . intro x hx;rcases aXW.mp hx with hx|hx;{exact knd.keeps (D x hx) ho hd (a1F ..)};simp only[a07]at hx;subst hx;exact knd.keeps f ho hd (a1F ..)
   . rw[a1R,a2S];refine#[hn,by simp,λx hx y G=>?_];simp only[aZZ,aZ0,a07]at G;subst G;intro z;subst z;exact m hx
 . intro j p hj;have h:=l p (atKey_of_get hn hj);refine aYB (a2E (s:={s with toks:=s.toks+knd.draws k}) ho hd ?_);rw[entry_at F j,hj];exact aYB (a0E (aYA h))
end
section
variable{a:Addr}{A:a3J}{E:VSP}
def aQJ{k:N}{z:V}{r:a3H}(B:A.units+64<cLine)(I:L2.Inv X O σ H s)(e:H a=some (.dN kvs))(hk:hU X.K H kvs)(kb:NAt X.K H k (.ref b)/\k.dp<=8)(G:kvs.length<sizeLine)(rz:aG z r)(L:∀v W s',bW kvs k=some v->L2.Inv X O σ H s'->aG v W->Q W s')(J:∀s',bW kvs k=none->L2.Inv X O σ (upd H a (.dN (kvs++[(k,b,z)]))) s'->Q r s'):wpAny (model X.prog X.w) A (call (.builtin "dict.setdefault") [.ref a,.ref b,r]) Q E s:=by(exists Z,hd,U,f,l,kD I (.inl e) hk;have o:U.length<=sizeLine:=by rw[<- aXJ f];exact Z);refine aZJ a2T l.typeIs PySem.F.entry_dict_setdefault ?_ (PySem.F.args_dict_setdefault_3 _ _ _);unfold Builtin.«dict.setdefault»;refine aYB ?_;unfold Builtin.Dict.keyAndDefault;refine aYB (wpAny_notOrdered_dict l.typeIs ?_);show wpAny _ _ (pure (a,Value.ref b,some r)) _ _ s;refine aYA ?_;show wpAny _ _ (if(a==sysModules)=true then _ else(dictSetDefault a (.ref b) r>>=_)) _ _ s;rw[aK (by rw[hd];exact aX8)];refine aYB (aQI (knd:=nH X.prog X.w) (lW B) (k:=k) #[NAt.is I _ _ _ kb.1 rfl,kb.2] l (λp hp=>?_) (λhn h' D hs=>?_) o);{have d:=f.val k;rw[hp]at d;cases ev:bW kvs k with|none=>rw[ev]at d;exact d.elim|some v=>rw[ev]at d;exact aYA #[_,rfl,L v p.2 _ ev (I.tok _) d]};have d:=f.val k;rw[hn]at d;cases ev:bW kvs k with|some v=>rw[ev]at d;exact d.elim|none=>exists q,es,ep,m,c2,c3,T,_,S,D;refine aYA #[_,rfl,J _ ev (o7 I (by rw[e];exact True.intro) hs #[q,m] #[?_,hd,_,Paired.snoc f #[rfl,rfl,rz],q,es,ep,m,c2,c3,T,S])];rw[aY3];exact G
end
section
variable{o f:Expr}
def aB9(K:Fg)(td ty tx:TE):TE:=λσ H Q=>td σ H λx H1=>∃a,x=.ref a/\uG H1 a/\ty σ H1 λy l=>tx σ l λz d=>∃kvs k b,y=.ref b/\d a=some (.dN kvs)/\hU K d kvs/\(NAt K d k (.ref b)/\k.dp<=8)/\kvs.length<sizeLine /\
 (∀v,bW kvs k=some v->Q v d)/\(bW kvs k=none->Q z (upd d a (.dN (kvs++[(k,b,z)]))))
def aQK{ty tx:TE}(T:X.A.units+64<cLine)(ho:PE X o td)(W:PE X e ty)(hf:PE X f tx)(m:M2 X o "setdefault" apos e f cpos):PE X (.Call (.Attribute o "setdefault" apos) [e,f] [] cpos) (aB9 X.K td ty tx):=by
 intro O s σ H Q I h;refine a1L m.base m.few m.line PySem.F.plainAttrs_dict a2T PySem.F.type_dict_setdefault (thn (ho O s σ H _ I h) λu B ⟨x,H1,l,E,a,ex,d,q1⟩=>?_);subst ex;obtain rfl:u=Value.ref a:=E;refine#[(qG l d).1,(qG l d).2,?_];rw[m.trees];refine aZT rfl (aZU (aYQ (thn (W O B σ H1 _ l q1) λiv S ⟨y,H2,I2,D,N⟩ =>
  aYQ (thn (hf O S σ H2 _ I2 N) λfv s3 ⟨z,H3,I3,rz,kvs,k,b,ey,Z,hk,kb,V,L,J⟩=>aYP ?_))))
 subst ey;cases D;exact aQJ T I3 Z hk kb V rz (λv w' s' ev r G=>#[v,H3,r,G,L v ev]) λs' ev r=>#[z,_,r,rz,J ev]
end
abbrev GX:=N×Addr×Addr×List V
abbrev GD:=List (N×List D)
def cV(x:GX):N×Addr×V:=(x.1,x.2.1,.ref x.2.2.1)
def cF(K:Fg)(F:Hp):GD->List GX->Prop|[],U=>U=[]|(k,ds)::r,U=>∃x ys,U=x::ys/\x.1=k/\aC K F ds x.2.2.2/\cF K F r ys
structure GIn(K:Fg)(F H H0:Hp)(a:Addr)(kvs:GD)(U:List GX):Prop where
 at_:H a=some (.dN (U.map cV))
 fa:F a=none
 ha:H0 a=none
 nd:(U.map λx=>x.2.2.1).Nodup
 kn:(U.map λx=>x.1).Nodup
 each:∀x∈U,H x.2.2.1=some (.lst x.2.2.2)/\F x.2.2.1=none/\H0 x.2.2.1=none/\x.2.2.1≠a/\NAt K F x.1 (.ref x.2.1)/\x.1.dp<=8
 rep:cF K F kvs U
theorem cF.mono{K:Fg}{F:Hp}(s:aD F F'):∀{kvs:GD}{U:List GX},cF K F kvs U->cF K F' kvs U|[],_,h=>h|(k,ds)::r,_,h=>by exists x,ys,rfl,e,q,t,h;exact#[x,ys,rfl,e,q.mono s _ _,t.mono s]
theorem cF.len{K:Fg}{F:Hp}:∀{kvs:GD}{U:List GX},cF K F kvs U->U.length=kvs.length|[],_,h=>by have h:_=[]:=h;subst h;rfl|(k,ds)::r,_,h=>by exists x,ys,rfl,e,q,t,h;rw[aZX,aZX,t.len]
def GIn.step{K:Fg}{F:Hp}{a:Addr}{kvs:GD}{U:List GX}(g:GIn K F H H0 a kvs U)(st:aJ F H F' H'):GIn K F' H' H0 a kvs U :=
 #[st.same _ _ g.at_,st.new _ g.fa (by rw[g.at_];exact λz=>nomatch z),g.ha,g.nd,g.kn,λx hx=>by
  exists E,o,m,l,f,d,g.each x hx
  exact#[st.same _ _ E,st.new _ o (by rw[E];exact λz=>nomatch z),m,l,NAt.mono st.fsame _ _ f,d],g.rep.mono st.fsame]
def GIn.keys{K:Fg}{F:Hp}{a:Addr}{kvs:GD}{U:List GX}(g:GIn K F H H0 a kvs U)(s:aD F H):hU K H (U.map cV):=λp hp=>by exists x,hx,rfl,a2O.mp hp;exists _,_,_,_,d,E,g.each x hx;exact#[NAt.mono s _ _ d,E]
def aZ(kvs:GD)(k:N):Option (List D):=(kvs.find? λkv=>decide (kv.1=k)).map (·.2)
def iU(kvs:GD)(k:N)(ds:List D):GD:=kvs.map λkv=>if kv.1=k then(kv.1,ds)else kv
def dR(kvs:GD)(k:N)(d:D):GD:=match aZ kvs k with|some ds=>iU kvs k (ds++[d])|none=>kvs++[(k,[d])]
theorem cF.find {K : W.Frag} {F : Hp} {k : N} : ∀ {kvs : GD} {U : List GX}, cF K F kvs U → match aZ kvs k with|some ds=>∃x,x∈U/\x.1=k/\aC K F ds x.2.2.2/\bW (U.map cV) k=some (.ref x.2.2.1)|none=>bW (U.map cV) k=none
 |[],_,h=>by have h:_=[]:=h;subst h;rfl|(f,ds)::r,_,h=>by exists x,ys,rfl,e,q,t,h;by_cases hk:f=k;{(have:aZ ((f,ds)::r) k=some ds:=by simp[aZ,aZW,hk]);rw[this];exact#[x,mcs,e.trans hk,q,by rw[aZZ,pY (p:=cV x) (e.trans hk)];rfl]};(have:aZ ((f,ds)::r) k=aZ r k:=by simp[aZ,aZW,hk]);(rw[this];have d:=cF.find (k:=k) t;have l:bW ((x::ys).map cV) k=bW (ys.map cV) k:=by rw[aZZ,pZ (p:=cV x) (λz=>hk (e.symm.trans z))]);cases E:aZ r k with|some es=>rw[E]at d;exists y,m,a,b,c,d;exact#[y,mcm m,a,b,by rw[l];exact c]|none=>rw[E]at d;show bW ((x::ys).map cV) k=none;rw[l];exact d
theorem cF.snoc{K:Fg}{F:Hp}{x:GX}{ds:List D}(r:aC K F ds x.2.2.2):∀{kvs:GD}{U:List GX},cF K F kvs U->cF K F (kvs++[(x.1,ds)]) (U++[x])|[],_,h=>by have h:_=[]:=h;subst h;exact#[x,[],rfl,rfl,r,rfl]|(k,es)::t,_,h=>by exists y,ys,rfl,e,q,s,h;exact#[y,ys++[x],rfl,e,q,cF.snoc r s]
def eI(c:Addr)(ys:List V)(x:GX):GX:=if x.2.2.1=c then(x.1,x.2.1,c,ys)else x
theorem aCA(c:Addr)(ys:List V):∀U:List GX,(U.map (eI c ys)).map cV=U.map cV|[]=>rfl|x::U=>by rw[aZZ,aZZ,aZZ,aCA c ys U];unfold eI;split;{rename_i h;unfold cV;rw[h]};rfl
theorem aCB(c:Addr)(ys:List V):∀U:List GX,(U.map (eI c ys)).map (λx=>x.2.2.1)=U.map λx=>x.2.2.1|[]=>rfl|x::U=>by rw[aZZ,aZZ,aZZ,aCB c ys U];unfold eI;split;{rename_i h;rw[h]};rfl
theorem cF.put{K:Fg}{F:Hp}{k:N}{c:Addr}{ds:List D}{ys:List V}(r:aC K F ds ys):∀{kvs:GD}{U:List GX},(∀x∈U,x.1=k↔x.2.2.1=c)->cF K F kvs U->cF K F (iU kvs k ds) (U.map (eI c ys))|[],_,_,h=>by have h:_=[]:=h;subst h;rfl|(d,es)::t,_,hk,h=>by exists y,zs,rfl,e,q,s,h;have f:=cF.put r (λx hx=>hk x (mcm hx)) s;have l:=hk y mcs;show cF K F ((if d=k then(d,ds)else(d,es))::iU t k ds) (eI c ys y::zs.map (eI c ys));by_cases z:d=k;{rw[al z];have a:y.2.2.1=c:=l.mp (e.trans z);refine#[_,_,rfl,?_,?_,f];{unfold eI;rw[al a];exact e};unfold eI;rw[al a];exact r};rw[aK z];have a:y.2.2.1≠c:=λw=>z (e.symm.trans (l.mpr w));refine#[_,_,rfl,?_,?_,f];{unfold eI;rw[aK a];exact e};unfold eI;rw[aK a];exact q
theorem aCC:∀{U:List GX},(U.map λx=>x.2.2.1).Nodup->∀{x y:GX},x∈U->y∈U->x.2.2.1=y.2.2.1->x=y|z::l,nd,x,y,hx,a,e=>by rw[aZZ,aYT]at nd;rcases aXV.mp hx with ex|mx;{rcases aXV.mp a with E|m;{rw[ex,E]};exact absurd (a2O.mpr #[y,m,by rw[<- e,ex]]) nd.1};rcases aXV.mp a with E|m;{exact absurd (a2O.mpr #[x,mx,by rw[e,E]]) nd.1};exact aCC nd.2 mx m e
def GIn.key_inj{K:Fg}{F:Hp}{a:Addr}{kvs:GD}{U:List GX}(g:GIn K F H H0 a kvs U):∀{x y:GX},x∈U->y∈U->x.1=y.1->x=y:=by(have key:∀{U:List GX},(U.map λx=>x.1).Nodup->∀{x y:GX},x∈U->y∈U->x.1=y.1->x=y:=by intro U;induction U with|nil=>intro _ x y hx;cases hx|cons z l d=>intro nd x y hx hy e;rw[aZZ,aYT]at nd;rcases aXV.mp hx with ex|mx;{rcases aXV.mp hy with E|m;{rw[ex,E]};exact absurd (a2O.mpr #[y,m,by rw[<- e,ex]]) nd.1};rcases aXV.mp hy with E|m;{exact absurd (a2O.mpr #[x,mx,by rw[e,E]]) nd.1};exact d nd.2 mx m e);intro x y hx hy e;exact key g.kn hx hy e
theorem aCD{k:N}:∀{U:List GX},bW (U.map cV) k=none->∀x∈U,x.1≠k|[],_,x,hx=>by cases hx|y::ys,h,x,hx=>by by_cases e:y.1=k;{rw[aZZ,pY (p:=cV y) e]at h;cases h};rw[aZZ,pZ (p:=cV y) e]at h;rcases aXV.mp hx with rfl|hx;{exact e};exact aCD h x hx
theorem aCE(c:Addr)(ys:List V):∀U:List GX,(U.map (eI c ys)).map (λx=>x.1)=U.map λx=>x.1|[]=>rfl|x::U=>by rw[aZZ,aZZ,aZZ,aCE c ys U];unfold eI;split <;> rfl
def hX(Y:Rho):Prop:=∀(j:Nat) d,Y[j]?≠some (some (true,d))
def jH(Y:Rho):Bool:=Y.all λx=>match x with|some (true,_)=>false|_=>true
def aCF(h:jH Y=true):hX Y:=λj d e=>by have:=a2C.mp h _ (aY2 e);cases this
def aR.other{K:Fg}{F:Hp}{o:HO}(R:aR K F0 H0 F H σ Y)(n:hX Y)(hf:F b=none)(h0:H0 b=none):aR K F0 H0 F (upd H b o) σ Y:=by refine#[#[λc u q=>by rw[aN (bT q h0)];exact R.st.same c u q,R.st.fsame,λc u q=>by rw[aN (bT q hf)];exact R.st.sub c u q,R.st.new],λj m d e=>?_,λi j d D a _ E _ _ _=>(n i d E).elim,R.len];exists v,E,r,f,R.slot j m d e;cases m with|true=>exact(n j d e).elim|false=>exact#[v,E,r,f]
abbrev GM:=Rho->GD->Option (Rho×GD)
def PGb(C:Cw)(X:Cx)(st:Stmt)(i:Nat)(g:GM):Prop:=∀a:Addr,PS X st λE σ H=>∃Y F kvs U,aR X.K C.F0 C.H0 F H σ Y/\hX Y/\σ[i]? = some (some (.ref a))/\GIn X.K F H C.H0 a kvs U/\∃ρ' d,g Y kvs=some (ρ',d) /\
 ∀f F' H' l,aD F F'->aR X.K C.F0 C.H0 F' H' f ρ'->hX ρ'->f[i]? = some (some (.ref a))->GIn X.K F' H' C.H0 a d l->E.nx f H'
def jI(i:Nat)(gk G:Rho->Res):GM:=λY kvs=>match aI (gk Y)with
 |.ok .fz K=>(match cD K with|some k=>((match aI (G Y)with|.ok .fz d=>if(decide (kvs.length<sizeLine)&&kvs.all λkv=>decide (kv.2.length<sizeLine))=true then some (Y,dR kvs k d)else none|_=>none))|none=>none)
 |_=>none
section
variable{D:Expr}{gk B:Rho->Res}{l m r A J:Pos}
def aQL(i:Nat)(hu:X.A.units+64<cLine)(hv:PE X (.Name x p) (fR i))(hk:PV C X ke gk)(he:PV C X D B)(hs:bI ke=true)(ah:bI D=true)(l1:l.endLine=m.line)(l2:r.endLine=A.line):PGb C X (.Expr (.Call (.Attribute (.Call (.Attribute (.Name x p) "setdefault" l) [ke,.List [] J] [] m) "append" r) [D] [] A) pos) i (jI i gk B):=by
 intro a; have ag := aQK (X := X) (o := .Name x p) (e := ke) (f := .List [] J) (apos := l) (cpos := m) hu hv (eB hk) (yH m8) #[lN rfl, by
     rw[j6 _ _ (λz N=>by
      simp only[aXV,a1G,a1H]at N;rcases N with rfl|rfl
      . exact hs
      . rfl)];rfl,aYK.mpr l1,by rw[bQ hs];rfl]
 have h1:=yW (X:=X) (o:=.Call (.Attribute (.Name x p) "setdefault" l) [ke,.List [] J] [] m) (e:=D) (es:=[]) (apos:=r) (cpos:=A) PySem.F.plainAttrs_list PySem.F.slot_list_append PySem.F.type_list_append tI ag (m9 (eB he) m8 (bQ ah)) (lN rfl) (by
     rw[j6 _ _ (λy hy=>by simp only[aXV,a1G,a1H]at hy;subst hy;exact ah)];rfl) (aYK.mpr l2) (bQ ah) rfl
 refine PS.imp (oS h1) λE σ H q=>?_;exists Y,F,kvs,U,R,no,ei,G,ρ',aq,L,w,q;unfold jI at L;cases ek:aI (gk Y)with
 |stuck|exc c=>rw[ek]at L;cases L|ok mk kd =>
 have:=pT ek;subst this;rw[ek]at L;dsimp only at L;cases e8:cD kd with
 |none=>rw[e8]at L;cases L|some k =>
 rw[e8]at L;dsimp only at L;cases ev:aI (B Y)with
 |stuck|exc c=>rw[ev]at L;cases L|ok mv d =>
 have:=pT ev;subst this;rw[ev]at L;dsimp only at L;have hc:(decide (kvs.length<sizeLine)&&kvs.all λkv=>decide (kv.2.length<sizeLine))=true:=by cases z:(decide (kvs.length<sizeLine)&&kvs.all λkv=>decide (kv.2.length<sizeLine))with|true=>rfl|false=>rw[z]at L;cases L
 rw[al hc]at L;rw[aZL,a0L,a2C]at hc;cases L;unfold sS tBM aB9;refine#[.ref a,ei,a,rfl,#[_,.inl G.at_],?_];rw[aU];refine#[Y,F,R,?_];show aX (C.at X) F H σ (aI (gk Y)) _;rw[ek];intro kv F1 H1 st1 rk _;exists b,rfl,nb,dp,qC e8 rk;have G1:=G.step st1;have R1:=R.step st1;refine#[aYO _,λc T=>?_];have S:aJ F1 H1 F1 (upd H1 c (.lst [])):=aJ.fresh _ st1.sub T;have W:=G1.step S;have R2:=R1.step S;have cf:F1 c=none:=st1.sub.free T;have c0:C.H0 c=none:=R1.st.same.free T;have ca:c≠a:=λz=>by rw[z,G1.at_]at T;cases T
 have cx:∀x∈U,x.2.2.1≠c:=λx hx z=>by have:=(G1.each x hx).1;rw[z,T]at this;cases this
 have lx:=G.rep.len;refine#[U.map cV,k,b,rfl,W.at_,W.keys S.sub,#[NAt.mono S.sub _ _ nb,dp],by rw[aY4,lx];exact hc.1,λv af=>?_,λen=>?_]
 . -- it is there
   have fd:=G.rep.find (k:=k);cases L:aZ kvs k with
   |none=>rw[L]at fd;rw[show bW (U.map cV) k=none from fd]at af;cases af|some ds =>
    rw[L]at fd;exists y,hy,ey,rl,vy,fd;rw[vy]at af;cases af;exists q1,q2,q3,q4,q5,q6,W.each y hy;refine#[.inl #[rfl,_,SqL.of q1],?_];unfold iG;rw[aU];refine#[Y,F1,R2,?_];show aX (C.at X) F1 _ σ (aI (B Y)) _;rw[ev];intro vv F3 H3 ae rv _;have Z:=W.step ae;have R3:=R2.step ae;exists p1,p2,p3,p4,p5,p6,Z.each y hy;have aj:aC X.K F3 ds y.2.2.2:=rl.mono ((st1.fsame.trans S.fsame).trans ae.fsame) _ _;have ly:ds.length<sizeLine:=by(have hm:∃kv∈kvs,kv.2=ds:=by unfold aZ at L;exists kv,h1,h2,aZ1.mp L;exact#[kv,a2U h1,h2]);exists kv,am,rfl,hm;simpa using hc.2 kv am
    refine#[y.2.2.1,y.2.2.2,vv,rfl,rfl,p1,by rw[aj.length];exact ly,?_]
    have kc:∀x∈U,x.1=k↔x.2.2.1=y.2.2.1:=λx hx=>#[λz=>by
     have:=G.key_inj hx hy (z.trans ey.symm);rw[this],λz=>by rw[aCC G.nd hx hy z];exact ey]
    refine w σ F3 _ (U.map (eI y.2.2.1 (y.2.2.2++[vv]))) ((st1.fsame.trans S.fsame).trans ae.fsame) (R3.other no p2 p3) no ei ?_;refine#[by rw[aN (λz=>p4 z.symm),aCA];exact Z.at_,Z.fa,Z.ha,by rw[aCB];exact Z.nd,by rw[aCE];exact Z.kn,λz N=>?_,?_]
    . exists u,V,rfl,a2O.mp N;exists t1,t2,t3,t4,t5,t6,Z.each u V;unfold eI;by_cases ai:u.2.2.1=y.2.2.1;{rw[al ai];exact#[aY,p2,p3,p4,t5,t6]};rw[aK ai];exact#[by rw[aN ai];exact t1,t2,t3,t4,t5,t6]
    . unfold dR;rw[L];exact cF.put (aC.append aj (aC.cons rv aC.nil)) kc Z.rep
 . -- it is new
   have fd:=G.rep.find (k:=k);cases L:aZ kvs k with|some ds=>rw[L]at fd;exists y,hy,ey,rl,vy,fd;rw[vy]at en;cases en|none=>let H3:Hp:=upd (upd H1 c (.lst [])) a (.dN (U.map cV++[(k,b,.ref c)]));(have R3:aR X.K C.F0 C.H0 F1 H3 σ Y:=R2.other no W.fa W.ha;have ak:H3 c=some (.lst []):=by show upd (upd H1 c (.lst [])) a _ c=_;rw[aN ca,aY]);let nx:GX:=(k,b,c,[]);(have Z:GIn X.K F1 H3 C.H0 a (kvs++[(k,[])]) (U++[nx]):=by refine#[?_,W.fa,W.ha,?_,?_,λz N=>?_,cF.snoc (x:=nx) aC.nil W.rep];{show upd _ a _ a=_;rw[aY,a1R];rfl};{rw[a1R,a2S];refine#[G.nd,by simp,λp hp q hq=>?_];simp only[aZZ,aZ0,a07]at hq;subst hq;exists u,V,rfl,a2O.mp hp;exact cx u V};{rw[a1R,a2S];refine#[G.kn,by simp,λp hp q hq=>?_];simp only[aZZ,aZ0,a07]at hq;subst hq;exists u,V,rfl,a2O.mp hp;exact aCD en u V};rcases aXW.mp N with N|N;{exists t1,t2,t3,t4,t5,t6,W.each z N;exact#[by show upd _ a _ _=_;rw[aN t4];exact t1,t2,t3,t4,t5,t6]};(obtain rfl:z=nx:=by simpa using N);exact#[ak,cf,c0,ca,nb,dp]);refine#[.inl #[rfl,_,SqL.of ak],?_];unfold iG;rw[aU];refine#[Y,F1,R3,?_];show aX (C.at X) F1 _ σ (aI (B Y)) _;rw[ev];intro vv F4 H4 aa rv _;have G4:=Z.step aa;have R4:=R3.step aa;have hn:nx∈U++[nx]:=aYG _ mcs;exists p1,p2,p3,p4,p5,p6,G4.each nx hn;refine#[c,[],vv,rfl,rfl,p1,by rw[aYH];decide,?_];refine w σ F4 _ (U++[(k,b,c,[vv])]) ((st1.fsame.trans S.fsame).trans aa.fsame) (R4.other no p2 p3) no ei ?_;refine#[?_,G4.fa,G4.ha,?_,?_,λz N=>?_,?_];{rw[aN (λz=>p4 z.symm),G4.at_];rw[a1R,a1R];rfl};{have:=G4.nd;rw[a1R]at this ⊢;exact this};{have:=G4.kn;rw[a1R]at this ⊢;exact this};{rcases aXW.mp N with N|N;{exists t1,t2,t3,t4,t5,t6,G4.each z (aXX _ N);exact#[by rw[aN (cx z N)];exact t1,t2,t3,t4,t5,t6]};(obtain rfl:z=(k,b,c,[vv]):=by simpa using N);exact#[aY,p2,p3,p4,p5,p6]};unfold dR;rw[L];exact cF.snoc (x:=(k,b,c,[vv])) (aC.cons rv aC.nil) (W.rep.mono aa.fsame)
end
def kK(t:Tg)(g:GM):List D->GM|[],Y,kvs=>some (Y,kvs)|d::ds,Y,kvs=>match aO t d Y with|some a=>(if jH a=true then(match g a kvs with|some (f,K)=>kK t g ds f K|none=>none)else none)|none=>none
def l6(t:Tg)(gi:Rho->Res)(g:GM):GM:=λY kvs=>match gi Y with|.ok _ (.lst ds)=>kK t g ds Y kvs|_=>none
section
variable{g:GM}
theorem aQM(hp:PassesOwn (model X.prog X.w) X.A X.env X.xe)(hc:X.calm=true)(hi:PIv C X tg e gi)(hg:PGw X tg t)(hit:i∉dP t)(hb:PGb C X st i g)(hs:∀x,foldedSetIterable e X.env x=pure x):PGb C X (.For tg e [st] [] pos) i (l6 t gi g):=by
 intro a;refine PS.imp (yE hp hc hi hg (sR (hb a)) hs) λE σ H q=>?_;exists Y,F,kvs,U,R,no,ei,G,W,L,T,w,q;unfold sV;refine#[Y,F,R,?_];unfold l6 at T;cases er:gi Y with
 |stuck|exc c=>rw[er]at T;cases T|ok m d =>
  rw[er]at T;cases d with
  |lst ds =>
   dsimp only at T;intro J F1 H1 s1 hJ;refine#[λj m B H'=>m=ds.length-j/\j<=ds.length/\∃ρ' F' o D,aD F1 F'/\aR X.K C.F0 C.H0 F' H' B ρ'/\hX ρ'/\B[i]? = some (some (.ref a))/\GIn X.K F' H' C.H0 a o D/\kK t g (ds.drop j) ρ' o=some (W,L),
    #[ds.length,by simp,aYO _,Y,F1,kvs,U,aD.refl _,R.step s1,no,ei,G.step s1,by simpa using T],?_]
   rintro j m B H' ⟨rfl,hj,ρ',F',o,D,sF,R',no',ei',G',eg'⟩;by_cases r:j<ds.length
   . refine .inr #[hJ.go j H' (sF.trans R'.sub) r,λN Z=>∃f V l ae,aD F1 V/\aR X.K C.F0 C.H0 V Z N f/\hX f/\N[i]? = some (some (.ref a))/\GIn X.K V Z C.H0 a l ae/\kK t g (ds.drop (j+1)) f l=some (W,L),
       λN Z ⟨f,V,k2,x2,a1,a2,a3,a4,a5,a6⟩=>#[ds.length-(j+1),by lia,rfl,r,f,V,k2,x2,a1,a2,a3,a4,a5,a6],λx Z y=>?_]
     exists V,d,ed,s2,rd,hJ.yld j F' H' x Z sF R'.sub r y;have hd:ds.drop j=d::ds.drop (j+1):=by rw[a0S r];rw[a0T r]at ed;cases ed;rfl
     rw[hd]at eg';unfold kK at eg';cases es:aO t d ρ' with|none=>rw[es]at eg';cases eg'|some S=>rw[es]at eg';dsimp only at eg';cases en:jH S with|false=>rw[en]at eg';cases eg'|true=>rw[en,al rfl]at eg';cases eb:g S o with|none=>rw[eb]at eg';cases eg'|some q=>exists f,l,q;rw[eb]at eg';dsimp only at eg';refine lQ t (R'.step s2) rd es λag R3 l3 k3=>?_;refine#[S,V,o,D,R3,aCF en,by rw[k3 i hit];exact ei',G'.step s2,f,l,eb,?_];exact λaf F4 H4 aa z4 R4 n4 e4 G4=>#[f,F4,l,aa,(sF.trans s2.fsame).trans z4,R4,n4,e4,G4,eg']
   . (have ej:j=ds.length:=by lia);subst ej;refine .inl #[hJ.stop _ H' (sF.trans R'.sub) (aYC _),?_];rw[a0U]at eg';cases eg';exact w B F' H' D (s1.fsame.trans sF) R' no' ei' G'
  |_=>cases T
end
def l7(i:Nat)(g:GM)(Y:Rho):aH:=if(decide (i<Y.length)&&jH (Y.set i none))=true then(match g (Y.set i none) []with|some (ρ',kvs)=>.nx (ρ'.set i (some (true,.dtn (kvs.map λkv=>(kv.1,.lst kv.2)))))|none=>.stuck)else .stuck
def aR.hide{K:Fg}{F:Hp}(i:Nat)(v:V)(R:aR K F0 H0 F H σ Y)(n:hX (Y.set i none)):aR K F0 H0 F H (σ.set i (some v)) (Y.set i none):=by refine#[R.st,λj m d e=>?_,λj k d D a _ E _ _ _=>(n j d E).elim,by rw[aZP,aZP];exact R.len];by_cases f:j=i;{subst f;rw[a0P]at e;split at e;{split at e <;> cases e};rename_i z;exact absurd rfl z};rw[aX1 (λz=>f z.symm)]at e ⊢;exact R.slot j m d e
theorem aCG{K:Fg}{F H:Hp}:∀{kvs:GD}{U:List GX},cF K F kvs U->(∀x∈U,F x.2.2.1=some (.lst x.2.2.2)/\NAt K F x.1 (.ref x.2.1)/\x.1.dp<=8)->aS K F (kvs.map λkv=>(kv.1,.lst kv.2)) (U.map cV)|[],_,h,_=>by have h:_=[]:=h;subst h;simp only[aZ0,aS]|(k,ds)::r,_,h,each=>by exists x,ys,rfl,e,q,t,h;exists l,f,E,each x mcs;have a:=aCG (H:=H) t λy d=>each y (mcm d);rw[aZZ,aZZ];simp only[aS];refine#[x.2.1,.ref x.2.2.1,ys.map cV,by rw[<- e];rfl,#[by rw[<- e];exact f,by rw[<- e];exact E],?_,a];simp only[aB];exact#[x.2.2.1,x.2.2.2,rfl,SqL.of l,q]
def aQN{K:Fg}{F:Hp}{a:Addr}{kvs:GD}{U:List GX}(R:aR K F0 H0 F H σ Y)(n:hX Y)(W:σ[i]? = some (some (.ref a)))(G:GIn K F H H0 a kvs U):∃F',aD F F'/\aR K F0 H0 F' H σ (Y.set i (some (true,.dtn (kvs.map λkv=>(kv.1,.lst kv.2))))):=by(let F':Hp:=λb=>if b∈U.map (λx=>x.2.2.1)then H b else F b);(have l:∀{b:Addr},b∈U.map (λx=>x.2.2.1)->F' b=H b:=λf=>al f;have out:∀{b:Addr},b∉U.map (λx=>x.2.2.1)->F' b=F b:=λf=>aK f;have sF:aD F F':=λb o e=>by by_cases f:b∈U.map (λx=>x.2.2.1);{exists x,hx,rfl,a2O.mp f;have:=(G.each x hx).2.1;rw[e]at this;cases this};rw[out f];exact e);(have sub:aD F' H:=λb o e=>by by_cases f:b∈U.map (λx=>x.2.2.1);{rw[l f]at e;exact e};rw[out f]at e;exact R.sub b o e);(have S:a∉U.map (λx=>x.2.2.1):=λf=>by exists x,hx,e,a2O.mp f;exact(G.each x hx).2.2.2.1 e);refine#[F',sF,#[R.st.same,R.st.fsame.trans sF,sub,λb V D=>?_],λj m d e=>?_,λj k d d' b B E J q1 q2=>?_,by rw[aZP];exact R.len];{by_cases f:b∈U.map (λx=>x.2.2.1);{exists x,hx,rfl,a2O.mp f;exact absurd (iL (G.each x hx).2.2.1) D};rw[out f];exact R.st.new b V D};{by_cases A:j=i;{subst A;rw[a0P]at e;rw[al rfl]at e;split at e;{cases e;refine#[.ref a,W,#[a,rfl,by rw[out S];exact G.fa,_,G.at_,?_],λ_ b Z=>by cases Z;exact G.ha];exact aCG (H:=H) (G.rep.mono sF) λx hx=>by exists N,_,_,_,L,T,G.each x hx;exact#[by rw[l (a2O.mpr #[x,hx,rfl])];exact N,NAt.mono sF _ _ L,T]};cases e};rw[aX1 (λz=>A z.symm)]at e;exists v,E,r,e3,R.slot j m d e;cases m with|true=>exact(n j d e).elim|false=>exact#[v,E,aB.mono sF _ _ r,e3]};by_cases A:j=i;{by_cases hk:k=i;{exact B (A.trans hk.symm)};rw[aX1 (λz=>hk z.symm)]at J;exact n k d' J};rw[aX1 (λz=>A z.symm)]at E;exact n j d E
section
variable{g:GM}{rest:List Stmt}{h:Rho->aH}
def aQO(hN:X.N.Nodup)(hi:X.N[i]? = some x)(hx:Loc X.env.scope x)(hf:X.fn x=true\/X.env.scope.names.lookup x=some .local)(J:PGb C X st i g)(G:PBv C X rest h)(hs:swapsWith (.Dict [] [] p2) (some (.Name x p1)) sp.line X.env=pure false):PBv C X (.Assign [.Name x p1] (.Dict [] [] p2) sp::st::rest) (λY=>(l7 i g Y).thn h):=by
 have T : PS X st (fun E σ H => ∃ a : Addr, ∃ Y F kvs U, aR X.K C.F0 C.H0 F H σ Y ∧ hX Y ∧ σ[i]? = some (some (.ref a)) ∧ GIn X.K F H C.H0 a kvs U ∧ ∃ ρ' d, g Y kvs = some (ρ', d) ∧
     ∀f F' H' m,aD F F'->aR X.K C.F0 C.H0 F' H' f ρ'->hX ρ'->f[i]? = some (some (.ref a))->GIn X.K F' H' C.H0 a d m->E.nx f H'):=λO s σ H D I ⟨a,q⟩=>J a O s σ H D I q
 refine PSs.imp (sQ (yC hN hi hx aBA hs hf) (sQ T G)) λE σ H q=>?_;exists Y,F,R,w,q;dsimp only at w;unfold l7 at w;cases l:(decide (i<Y.length)&&jH (Y.set i none))with|false=>rw[l]at w;exact w.elim|true=>rw[l,al rfl]at w;rw[aZL,a0L]at l;exists o,en,l;cases r:g (Y.set i none) []with|none=>rw[r]at w;exact w.elim|some q=>exists ρ',d,q;rw[r]at w;dsimp only at w;rw[aH.thn_nx]at w;have no:=aCF en;intro a ha;have S:aJ F H F (upd H a (.dN [])):=aJ.fresh _ R.sub ha;have R1:aR X.K C.F0 C.H0 F (upd H a (.dN [])) (σ.set i (some (.ref a))) (Y.set i none):=(R.step S).hide i (.ref a) no;refine#[a,Y.set i none,F,[],[],R1,no,?_,#[aY,R.sub.free ha,R.st.same.free ha,a1T,a1T,λx hx=>(nomatch hx),rfl],ρ',d,r,?_];{rw[aX0 (by rw[R.len];exact o)]};intro f F' H' m z V B L W;exists Z,A,R2,aQN V B L W;exact#[_,Z,R2,bU.mono (z.trans A) w]
end
abbrev JD:=List (Key×List D)
abbrev HM:=Rho->JD->Option (Rho×JD)
abbrev FZ:=List D×List Str
abbrev FMz(Z:Type):=Rho->Z->Option (Rho×Z)
abbrev FM:=FMz FZ
abbrev KD:=List (Key×D)
def TxK(kvs:KD):Prop:=∀kv∈kvs,∀x,kv.1=.inr x->x.length<=sizeLine/\PyData.strOk x=true
def l8(H:Hp)(a:Addr):Hp:=λc=>if c=a then none else H c
def nW{a c:Addr}(h:c≠a):l8 H a c=H c:=aK h
def aCH{a:Addr}:l8 H a a=none:=al rfl
def spM(K:Fg)(Ψ:D->KD->Option KD)(vs:List V)(H:Hp)(Q:VK):Prop:=∃F d v a kvs U kvs',vs=[v,.ref a]/\aD F H/\aB K F d v/\H a=some (.dK U)/\F a=none/\aF K F kvs U/\TxK kvs/\Ψ d kvs=some kvs' /\
 ∀F' H' f,aJ F (l8 H a) F' H'->F' a=none->H' a=some (.dK f)->aF K F' kvs' f->TxK kvs'->Q (.ref a) H'
def qR(K:Fg)(Ψ:D->KD->Option KD):Sp:=λvs H Q _=>spM K Ψ vs H Q
section
variable{f:Str}{r:Pos}
def run_S{f:Addr}{Q:VK}{vs:List V}{E:XK}{sp:Sp}(F:bM X.prog X.w X.K X.mg X.base CX k f fd ps sp)(l:bB k X.A)(o:cR X.K fd ps [])(hx:∀e s',CX X.stack H s E e s'->X.xe e s')(I:Inv X O σ H s)(r:aM vs us)(h:sp vs H Q E):wpAny (model X.prog X.w) X.A (call (.ref f) us) (EP X O σ Q) X.xe s:=by(have m:(us++[]).length=ps.length:=by rw[aYR,<- r.length];exact F.len _ _ _ _ h);have a:=o s us I.kIn m;rw[aYR]at a;refine a01 (aZ9 (F.run X.A X.stack s H #[us,[]] us vs Q E l I.env0 a r h) λr s' d=>?_);cases r with|error e=>exact hx e s' d|ok fl=>cases fl with|ret u=>exact I.after d|next|brk|cont=>exact False.elim d
structure FnM(P:a3L)(w:a3K)(K:Fg)(mg:SOV)(base:Heap)(CX:CXT)(k:Nat)(x:Str)(Ψ:D->KD->Option KD):Prop where
 ex:∃f fd ps,bM P w K mg base CX k f fd ps (qR K Ψ)/\mg x=some (.ref f)/\W.keepIn K (.ref f)=true/\cR K fd ps []
end
end D3
namespace L2
end L2
namespace D3
def spC(K:Fg)(f0 a b:Str):Sp:=λvs H Q _=>∃F kd v1 p0 U kvs,vs=[v1,.ref p0]/\aD F H/\aB K F kd v1/\Rd H p0 (.dK U)/\aF K F kvs U/\∀F' H' v,aJ F H F' H'->aB K F' (.clo f0 "" [(a,kd),(b,.dct kvs)]) v->Q v H'
mutual
def plD:D->Bool|.tup U|.lst U=>plL U|.dct kvs=>plK kvs|.ins _ fs=>plF fs|.exn _=>false|.clo _ _ _=>false|.dtn _=>false|.dtf _=>false|.dcf _=>false|_=>true
def plL:List D->Bool|[]=>true|d::ds=>plD d&&plL ds
def plK:List (Key×D)->Bool|[]=>true|(_,d)::ds=>plD d&&plK ds
def plF:List (Str×D)->Bool|[]=>true|(_,d)::ds=>plD d&&plF ds
end
def But(H H':Hp):Prop:=∀b o,H b=some o->(∀p,o ≠ .ext p)->H' b=some o
structure FnC(P:a3L)(w:a3K)(K:Fg)(mg:SOV)(base:Heap)(CX:CXT)(k:Nat)(x a b:Str):Prop where
 ex:∃f fd ps,bM P w K mg base CX k f fd ps (spC K x a b)/\mg x=some (.ref f)/\W.keepIn K (.ref f)=true/\cR K fd ps []
structure CloG(K:Fg)(f kn pn g:Str):Prop where
 ex:∃q rn vn params scope p1 p2 p3 p4 p5 p6 pos,CloK K f "" q (.FunctionDef vn params [.Return (some (.Call (.Name g p1) [.Name kn p2,.Name pn p3,.Name rn p4] [] p5)) p6] [] none [] scope none vn pos) /\
  scope.kind=.function/\scope.isCoroutine=false/\scope.isGenerator=false/\[kn,pn,rn].Nodup/\(∀y∈scope.names,y.2 ≠ .cell)/\(∀y∈scope.names,y.2=.free->y.1=kn\/y.1=pn) /\
  scope.names.lookup kn=some .free/\scope.names.lookup pn=some .free/\scope.names.lookup rn=some .local/\scope.names.lookup g=some .globalImplicit/\(∀y∈[kn,pn,rn,g],(y==("__debug__":Str))=false/\(y==("__classdict__":Str))=false) /\
  ∀name q body cl doc pm c ct u,bindArgs (W.fnX name q params body scope cl .none .none doc pm none (.ref c) ct) #[[u],[]]=pure [(rn,u)]
def qS(P:a3L)(w:a3K)(K:Fg)(mg:SOV)(base:Heap)(k:Nat)(f0 n:Str)(l:List (Str×D)->D->Res):Prop :=
 ∀(A:a3J) (outer:List Env) (s:a3I) (F H:Hp) (u:a3H) (v:V) (fs:List (Str×D)) (a d:D) (fa:Addr) (Q:VK),bB k A->iH P w K mg base A outer s H->aD F H->aB K F (.clo f0 n fs) (.ref fa)->aG v u->aB K F a v->plD a=true->l fs a=.ok .fz d ->
  (∀f F' H',aJ F H F' H'->aB K F' d f->Q f H')->codeAny (model P w) A (.call (.ref fa) #[[u],[]]) (CR CX0 outer P w H s Q λ_ _ _=>False) s
inductive WRet where|nm (i:Nat)|ix (j:Nat)
structure fJ where
 ps:List Str
 ws:List (Str×List Str)
 r:WRet
def fJ.pick(I:fJ)(ds:List D):Option Nat:=match I.r with|.nm i=>some i|.ix j=>match ds[j]? with|some (.int z)=>L2.ixN I.ws.length z|_=>none
def dPar(ps:List Str)(ds:List D)(x:Str):Option D:=(ps.zip ds).lookup x
def fJ.dat(I:fJ)(f0:Str)(ps:List Str)(ds:List D)(x:Str):D:=match dPar ps ds x with|some d=>d|none=>match I.ws.lookup x with|some aE=>.clo f0 x (aE.map λz=>(z,(dPar ps ds z).getD .non))|none=>.non
def fJ.out(I:fJ)(f0:Str)(ps:List Str)(ds:List D):Option D:=(I.pick ds).bind λi=>(I.ws[i]?).map λz=>.clo f0 z.1 (z.2.map λx=>(x,I.dat f0 ps ds x))
def spW(K:Fg)(f0:Str)(ps:List Str)(I:fJ):Sp:=λvs H Q _=>vs.length=ps.length/\∃F ds d,aD F H/\aC K F ds vs/\I.out f0 ps ds=some d/\∀F' H' v,aJ F H F' H'->aB K F' d v->Q v H'
def u0{K:Fg}{f0 n:Str}:qS P w K mg base k f0 n λ_ _=>.stuck:=λ_ _ _ _ _ _ _ _ _ _ _ _ _ _ _ _ _ _ _ h=>by cases h
structure FnW(P:a3L)(w:a3K)(K:Fg)(mg:SOV)(base:Heap)(CX:CXT)(k:Nat)(x:Str)(I:fJ):Prop where
 ex:∃f fd,bM P w K mg base CX k f fd I.ps (spW K x I.ps I)/\mg x=some (.ref f)/\W.keepIn K (.ref f)=true/\cR K fd I.ps []
open PySem.W
def l9(r:Res):Res:=r.thn λ_ d=>match d with|.dcf kvs=>if(kvs.all λkv=>fW kv.1)=true then .ok .fz (.lst (kvs.map λkv=>pV kv.1))else .stuck|_=>.stuck
def iDk(tl:TE):TI:=λσ H R=>tl σ H λx H1=>∃d o U,x=.ref d/\H1 d=some (.frz o (.dK U))/\R (Itd d o U) H1
def pi_dk{l:Expr}(A:PE X l tl):PI X tg l (iDk tl):=by intro O s σ H R I h;refine thn (A O s σ H _ I h) λv S ⟨x,H1,a,f,q1⟩=>?_;exists d,o,U,e,hd,q,q1;subst e;cases f;exists m,vs,r,D,uE a.hok hd;have L:vs.length=U.length:=r.length.symm;refine wpAny_pyIter_dict m D ?_;rw[L];have E:L2.Inv X O σ H1 { S with heap:=S.heap.push { cls:=.type "dict_keyiterator",data:=.fields (List.toArray [.ref d,.int 0 0,.int U.length 0,.int (epO o) 0]) } }:=a.kept (t':=S.toks) λb o e=>hps e;(refine#[S.heap.objs.size,[S.heap.objs.size],_,_,_,rfl,E,aOT d _ o U,#[_,aXK _ rfl,rfl,rfl],λb B=>?_,q];have e:b=S.heap.objs.size:=by simpa using B);subst e;exact a.fpOk (aYC _) (a.hok.fresh (aYC _))
def aQP{K:Fg}{F:Hp}{a:Addr}{o:Obj}{kvs:List (Key×D)}{U:List (Key×V)}(hf:F a=some (.frz o (.dK U)))(r:aF K F kvs U)(ha:(kvs.all λkv=>fW kv.1)=true):j5 K F (Itd a o U) (kvs.map λkv=>pV kv.1) where
 go:=λi H s f=>#[s _ _ hf,by rw[r.len];simpa using f]
 stop:=λi H s f=>#[s _ _ hf,by rw[r.len];simpa using f]
 yld:=λi Fc H x H' l S f y=>by exists rfl,p,hp,rfl,y;exists d,hd,hn,(aAW r ha).get (i:=i) (x:=kV p.1) (by rw[aY1,hp];rfl);exact#[Fc,d,hd,.refl S,aB.mono l _ _ hn]
def aQQ(h:PV C X e g):PIv C X tg e (λY=>l9 (g Y)):=by refine PI.imp (pi_dk h) λσ H R q=>?_;exists Y,F,l,w,q;dsimp only at w;unfold iDk;rw[aU];refine#[Y,F,l,?_];unfold l9 at w;cases E:g Y with|stuck=>rw[E]at w;exact w.elim|exc c=>rw[E]at w;exact w|ok m d=>rw[E,Res.thn_ok]at w;intro v F' H' st f _;cases d with|dcf kvs=>(dsimp only at w;split at w;{rename_i ha;cases m with|fz=>have f:aB X.K F' (.dcf kvs) v:=f;simp only[aB]at f;exists a,o,U,rfl,hf,r,f;exact#[a,o,U,rfl,st.sub _ _ hf,w _ F' H' st (aQP hf r ha)]|fr|bo=>exists a,_,_,q,f;exact q.elim};exact w.elim)|_=>exact w.elim
def aQR{ns:List Int}(h:IntsAre us ns):aM (ns.map V.int) us:=by induction h with|nil=>exact .nil|cons n t h a=>exact .cons #[t,rfl] a
end D3
namespace L2
open D3
theorem d_put{σ:St}{a:Addr}{kvs:List (Key×V)}{k:Key}{r:a3H}{A:a3J}{E:VSP}{Q:Unit->a3I->Prop}(I:Inv X O σ H s)(e:H a=some (.dK kvs))(l:kvs.length<sizeLine)(f:aG (kV k) u)(m:aG v r)(h:∀s',Inv X O σ (upd H a (.dK (cZ kvs k v))) s'->Q () s'):wpAny (model X.prog X.w) A (dictSet a u r) Q E s:=by(exists z,hd,vs,d,J,tL I.hok e;have o:vs.length<=sizeLine:=by rw[<- d.length];exact z);(have F:(cZ kvs k v).length<=sizeLine:=by have:=yX kvs k v;lia);refine wpAny_dictSet_pairs (hsz:=o) (jV f) J λh' D hs=>h _ ?_;have G:∃q,h'.get? a=some q:=let⟨q,_,_,B,_⟩:=D;#[q,B];exact o7 I (by rw[e];exact True.intro) hs G (tM F hd (d.put k m) D)
def u4(aE:List Nat)(k:Nat)(wi:TI)(gt:TG)(tt:TT)(tk tv:TE):TE:=λσ H Q=>wi σ H λJ H1=>∀D,H1 D=none ->
 ∃W:Nat->Nat->List (Key×V)->Hp->Prop,(∃m,W 0 m [] (upd H1 D (.dK [])))/\∀i m ys H,W i m ys H->H D=some (.dK ys) /\
  ((J.stop i H/\Q (.ref D) H)\/(J.go i H/\ys.length<sizeLine/\∀x H',J.yld i H x H'->gt x (c8 aE σ++List.replicate k none) H' λa o=>tQ (c8 aE σ++List.replicate k none) a/\tt a o λb f =>
   if b=true then tk a f λK l=>∃q,K=kV q/\tv a l λy d=>d D=some (.dK ys)/\∃m',m'<m/\W (i+1) m' (cZ ys q y) (upd d D (.dK (cZ ys q y)))else ∃m',m'<m/\W (i+1) m' ys f))
def ckD {X : Cx} {a V tg iter : Expr} {ifs : List Expr} {scope : Scope} {pos : Pos} {N : List Str} {tk tv : TE} (hk : ∀ cl C fp s3 H3, PE (a7 X scope N cl C fp s3 H3) a tk) (A : ∀ cl C fp s3 H3, PE (a7 X scope N cl C fp s3 H3) V tv) :
    CK X (.DictComp a V [#[tg,iter,ifs,0]] scope pos) tg iter ifs scope N .dK newDict (λD env=>do let kv <- eval a env;let vv <- holding [kv] (eval V env);standAt {a.pos with endLine:=V.pos.endLine,endCol:=V.pos.endCol};holding [kv,vv] (dictSet D kv vv)) (λσ H D ys K=>tk σ H λf l=>∃q,f=kV q/\tv σ l λy d=>d D=some (.dK ys)/\K (cZ ys q y) (upd d D (.dK (cZ ys q y)))) where
 cl:=rfl
 tn _ _ _ _ _ _:=#[rfl,rfl]
 st:=codeAny_compStart_dict
 nw I h:=aZM (h _ (aYL _ _) (λb o e=>hps e) (I.laid (t':=_) (λb u e=>hps e) (aYC _) (tM (aYO _) (by rw[aXI];exact aX9 I.big) .nil (Heap.DictOf.new _))))
 ac {cl C fp s3 H3 _ σ _ _ D ys _ _} I hlen h w:=aYB (thn (hk cl C fp s3 H3 _ _ σ _ _ I h) λkv Z ⟨f,l,L,rk,k,F,E⟩=>aYB (aZG (thn (A cl C fp s3 H3 _ _ σ _ _ L E) λy W ⟨S,d,J,r,B,m⟩=>aYB (aYS (aZG (d_put (X:=a7 X scope N cl C fp s3 H3) J B hlen (F ▸ rk) r λT G=>w _ _ _ G m))))))
def aQS{K V:Expr}{tk:TE}(o:X.calm=true)(hi:PI X tg iter wi)(L:∀y∈scope.names,y.2 ≠ .cell)(J:scope.kind=.function)(B:∀y∈scope.names,y.2=.local->scope.names.lookup y.1=some .local)(G:∀y∈scope.names,y.2=.free->X.env.kindOf y.1=some .cell\/X.env.kindOf y.1=some .free)(F:aL.map some=aE.map λi=>X.N[i]?)(E:∀y∈aL,(y,NameKind.free)∈scope.names)(A:∀y∈aL,(relabel scope X.env).names.lookup y=some .cell\/(relabel scope X.env).names.lookup y=some .free)(l:∀cl C fp s3 H3,PG (a7 X scope (aL++tgN) cl C fp s3 H3) tg gt)(hf:∀cl C fp s3 H3,dY (a7 X scope (aL++tgN) cl C fp s3 H3) ifs tt)(hk:∀cl C fp s3 H3,PE (a7 X scope (aL++tgN) cl C fp s3 H3) K tk)(f:∀cl C fp s3 H3,PE (a7 X scope (aL++tgN) cl C fp s3 H3) V tv)(hs:∀x,foldedSetIterable iter X.env x=pure x):PE X (.DictComp K V [#[tg,iter,ifs,0]] scope pos) (u4 aE tgN.length wi gt tt tk tv):=by intro O s σ H Q I h;rw[arm_eval_DictComp];exact tR (use:=none) o hi L J B G F E A l hf (ckD hk f) hs I h λD Z T S a r _ _ _ _ _ q=>by exists m,a,a;exact#[m,a,λd hs=>#[.ref D,S,r d hs,rfl,q]]
end L2
namespace D3
def dcL(k:D->Rho->Option Rho)(gk ge:Rho->Res)(f:Rho):List D->List (Key×D)->Option (List (Key×D))|[],z=>some z|d::ds,z=>match k d f with|none=>none|some a=>match gk a,aI (ge a)with|.ok _ K,.ok _ y=>((match gK K with|some q=>if z.length<sizeLine then dcL k gk ge f ds (fV z q y)else none|none=>none))|_,_=>none
def nX(src:Res)(Y:Rho)(aE:List Nat)(n:Nat)(k:D->Rho->Option Rho)(gk ge:Rho->Res):Res:=src.thn λ_ d=>match d with
 |.lst ds=>(match dcL k gk ge (bZ aE Y++List.replicate n none) ds []with|some z=>.ok .fr (.dct z)|none=>.stuck)
 |_=>.stuck
theorem aQT{gk:Rho->Res}(V:∀j∈dP t,aE.length<=j){Q:VK}(q:tG (C.at X) (λY=>nX (gi Y) Y aE tgN.length (aO t) gk ge) σ H Q):u4 aE tgN.length (tIv (C.at X) gi) (gOf X.K t) (λ_ H Q=>Q true H) (tG (C.nox.at X) gk) (tG (C.nox.at X) λY=>aI (ge Y)) σ H Q:=by
 rw[aU]at q;exists Y,F,RS,w,q;unfold u4;refine#[Y,F,RS,?_];cases er:gi Y with
 |stuck|exc c=>rw[er]at w;exact w|ok m d =>
  rw[er]at w;cases d with
  |lst ds =>
   unfold nX at w;rw[Res.thn_ok]at w;dsimp only at w;intro J F1 H1 s1 hJ Da hDa;cases et:dcL (aO t) gk ge (bZ aE Y++List.replicate tgN.length none) ds []with
   |none=>rw[et]at w;exact w.elim|some T =>
    rw[et]at w;have r:H Da=none:=s1.same.free hDa;have D:F1 Da=none:=s1.sub.free hDa;have R0:=zS aE tgN.length RS;refine#[λi m ys H'=>m=ds.length-i/\i<=ds.length/\H' Da=some (.dK ys)/\∃F' zs,aJ F H F' H'/\aD F1 F'/\F' Da=none/\aF X.K F' zs ys /\
     dcL (aO t) gk ge (bZ aE Y++List.replicate tgN.length none) (ds.drop i) zs=some T,
     #[ds.length,by simp,aYO _,aY,F1,[],s1.upd r D,aD.refl _,D,by simp only[aF],by simpa using et],?_]
    rintro i m ys H' ⟨rfl,hile,hD,F',zs,st,sF,hFD,rz,ec⟩;refine#[hD,?_];by_cases f:i<ds.length
    . have hd:∃d,ds.drop i=d::ds.drop (i+1)/\ds[i]? = some d:=#[ds[i],a0S f,a0T f];exists d0,hd,ae,hd;rw[hd]at ec;unfold dcL at ec;cases eg:aO t d0 (bZ aE Y++List.replicate tgN.length none)with
      |none=>rw[eg]at ec;cases ec|some N =>
      rw[eg]at ec;dsimp only at ec;split at ec;rotate_left
      . cases ec
      rename_i mk kd my y ek ev;cases eq:gK kd with
      |none=>rw[eq]at ec;cases ec|some k =>
      rw[eq]at ec;dsimp only at ec;by_cases Z:zs.length<sizeLine
      . rw[al Z]at ec;refine .inr #[hJ.go i H' (sF.trans st.sub) f,by rw[rz.len];exact Z,λv H2 yl=>?_]
        exists F2,d,ed,S,rd,hJ.yld i F' H' v H2 sF st.sub f yl;rw[ae]at ed;cases ed;have o:H2 Da=some (.dK ys):=S.same _ _ hD;have af:F2 Da=none:=S.new _ hFD (by rw[hD];exact λz=>nomatch z)
        have R2:=(R0.step st).step S;refine lQ t R2 rd eg λG R1 L l=>?_;refine#[#[L.symm,λj u E=>?_],?_]
        . by_cases hj:j∈dP t;{have:=V j hj;rw[aYY (by simpa[c8]using this),aYZ]at E;split at E <;> cases E};rw[l j hj];exact E
        show tG (C.nox.at X) gk G H2 _;rw[aU];refine#[_,F2,R1,?_];dsimp only;rw[ek];intro kv F3 H3 s3 rk _;have aa:kv=kV k:=nK eq rk;refine#[k,aa,?_];rw[aU];refine#[_,F3,R1.step s3,?_];rw[ev];intro u F4 H4 A ru _;have W:my=.fz:=by cases h:ge N with|ok m' d'=>rw[h]at ev;cases m' <;> cases ev <;> rfl|exc c|stuck=>rw[h]at ev;cases ev
        subst W;have ag:H4 Da=some (.dK ys):=A.same _ _ (s3.same _ _ o);have B:F4 Da=none:=A.new _ (s3.new _ af (by rw[o];exact λz=>nomatch z)) (by rw[s3.same _ _ o];exact λz=>nomatch z)
        exact#[ag,ds.length-(i+1),by lia,rfl,f,aY,F4,fV zs k y,(((st.trans S).trans s3).trans A).upd r B,((sF.trans S.fsame).trans s3.fsame).trans A.fsame,B,
         aF.put (rz.mono ((S.fsame.trans s3.fsame).trans A.fsame) _ _) ru,ec]
      . rw[aK Z]at ec;cases ec
    . (have ei:i=ds.length:=by lia);subst ei;rw[a0U]at ec;cases ec;exact .inl #[hJ.stop _ H' (sF.trans st.sub) (aYC _),w (.ref Da) F' H' st #[Da,rfl,hFD,ys,hD,rz] λ_ a ea=>by cases ea;exact r]
  |_=>exact w.elim
def aQU{f V:Expr}{gk:Rho->Res}(o:X.calm=true)(hi:PIv C X tg iter gi)(J:∀y∈scope.names,y.2 ≠ .cell)(G:scope.kind=.function)(B:∀y∈scope.names,y.2=.local->scope.names.lookup y.1=some .local)(F:∀y∈scope.names,y.2=.free->X.env.kindOf y.1=some .cell\/X.env.kindOf y.1=some .free)(D:aL.map some=aE.map λi=>X.N[i]?)(E:∀y∈aL,(y,NameKind.free)∈scope.names)(r:∀y∈aL,(relabel scope X.env).names.lookup y=some .cell\/(relabel scope X.env).names.lookup y=some .free)(d:∀j∈dP t,aE.length<=j)(l:∀cl A fp S a,PGw (a7 X scope (aL++tgN) cl A fp S a) tg t)(hk:∀cl A fp S a,PV C.nox (a7 X scope (aL++tgN) cl A fp S a) f gk)(m:∀cl A fp S a,PV C.nox (a7 X scope (aL++tgN) cl A fp S a) V ge)(hs:∀x,foldedSetIterable iter X.env x=pure x):PV C X (.DictComp f V [#[tg,iter,[],0]] scope pos) (λY=>nX (gi Y) Y aE tgN.length (aO t) gk ge) :=
 PE.imp (aQS (aL:=aL) (tgN:=tgN) (gt:=gOf X.K t) (tk:=tG (C.nox.at X) gk) (tv:=tG (C.nox.at X) λY=>aI (ge Y)) o hi J G B F D E r l (λcl A fp S a=>zP) (λcl A fp S a=>hk cl A fp S a) (λcl A fp S a=>eB (m cl A fp S a)) hs) λσ H Q q=>aQT d q
def spU(K:Fg)(n:Nat)(Ψ:D->List D->Option D)(vs:List V)(H:Hp)(Q:VK):Prop:=∃F d ds d' a us,vs=.ref a::us/\vs.length=n/\aD F H/\F a=none/\Top K F H a d/\aC K F ds us/\Ψ d ds=some d' /\
 ∀F' H',aJ F (l8 H a) F' H'->F' a=none->Top K F' H' a d'->Q .non H'
def nY(K:Fg)(n:Nat)(Ψ:D->List D->Option D):Sp:=λvs H Q _=>spU K n Ψ vs H Q
structure FnU(P:a3L)(w:a3K)(K:Fg)(mg:SOV)(base:Heap)(CX:CXT)(k:Nat)(x:Str)(n:Nat)(Ψ:D->List D->Option D):Prop where
 ex:∃f fd ps,bM P w K mg base CX k f fd ps (nY K n Ψ)/\mg x=some (.ref f)/\W.keepIn K (.ref f)=true/\cR K fd ps []
def jJ(Ψ:D->List D->Option D)(i:Nat)(Y:Rho)(n:Nat)(rs:bC):aH:=match Y[i]?,rs with
 |some (some (true,d)),.ok U=>(match c7 U with|some ds=>(if ds.length+1=n then(match Ψ d ds with|some a=>.nx (Y.set i (some (true,a)))|none=>.stuck)else .stuck)|none=>.stuck)
 |_,_=>.stuck
def aR.callU{K:Fg}{F:Hp}{d d':D}{a:Addr}(R:aR K F0 H0 F H σ Y)(e:Y[i]? = some (some (true,d)))(ev:σ[i]? = some (some (.ref a)))(st:aJ F (l8 H a) F' H')(fa:F' a=none)(t:Top K F' H' a d'):aR K F0 H0 F' H' σ (Y.set i (some (true,d'))):=by
 exists v,B,rp,hn,R.slot i true d e;rw[ev]at B;cases B;have h0:H0 a=none:=hn rfl a rfl;have hl:i<Y.length:=(aXY.mp e).1;refine#[#[λc u q=>?_,R.st.fsame.trans st.fsame,st.sub,λc h1 J=>?_],λj m N E=>?_,λj l T N b L e1 E q1 Z=>?_,by rw[aZP];exact R.len]
 . (have:c≠a:=λz=>by rw[z,h0]at q;cases q);exact st.same c u (by rw[nW this];exact R.st.same c u q)
 . have hc:=R.st.new c h1 J;have:c≠a:=λz=>J (iL (by rw[z];exact h0));refine st.new c hc ?_;rw[nW this];cases e:H0 c with|none=>exact absurd (iL e) J|some o=>rw[R.st.same c o e,<- e];exact J
 . by_cases A:j=i;{subst A;rw[aX0 hl]at E;cases E;exact#[_,ev,#[a,rfl,fa,t],λ_ b eb=>by cases eb;exact h0]};rw[aX1 (Ne.symm A)]at E;exists v,V,r,e4,R.slot j m N E;refine#[v,V,?_,e4];cases m with|false=>exact aB.mono st.fsame _ _ r|true=>(exists b,rfl,fb,tb,r;have W:b≠a:=λz=>by subst z;exact R.apart j i _ _ b A E e V ev);have keep:∀o,H b=some o->H' b=some o:=λo q=>st.same b o (by rw[nW W];exact q);have f:¬ jW (H b)->F' b=none:=λh=>st.new b fb (by rw[nW W];exact h);cases N with|lst ds|dct ds=>exists U,q,r,tb;exact#[b,rfl,f (by rw[q];exact λz=>nomatch z),U,keep _ q,r.mono st.fsame _ _]|ins c fs=>exists C,dx,gs,n,q,r,tb;exact#[b,rfl,f (by rw[q];exact λz=>nomatch z),C,dx,gs,n,keep _ q,r.mono st.fsame _ _]|set ks=>exists S,q,r,tb;exact#[b,rfl,f (by rw[q];exact λz=>nomatch z),S,keep _ q,r]|dtn ds=>exists U,q,r,tb;exact#[b,rfl,f (by rw[q];exact λz=>nomatch z),U,keep _ q,r.mono st.fsame _ _]|_=>exact tb.elim
 . have G:∀{j:Nat}{T:D},(Y.set i (some (true,d')))[j]? = some (some (true,T))->∃d0,Y[j]? = some (some (true,d0)):=λ{j T} h=>by
     by_cases A:j=i
     . subst A;exact#[_,e]
     . rw[aX1 (Ne.symm A)]at h;exact#[_,h]
   exists _,a1,G e1;exists _,a2,G E;exact R.apart j l _ _ b L a1 a2 q1 Z
section
variable{f:Str}{q:Pos}{es:List Expr}{Ψ:D->List D->Option D}
def aQV(F:FnU X.prog X.w X.K X.mg X.base CX k f n Ψ)(W:bB k X.A)(hx:XOk CX (C.at X) X)(hg:Gl X f)(o:(f==("__debug__":Str))=false)(i:Nat)(V:PE X (.Name x p) (fR i))(ha:PAv C X es gs)(J:starEach (.Name x p::es) X.env=(false,eval (.Name x p) X.env)::starEach es X.env)(m:(backTo cp (starEach es X.env)).any (·.1)=false):PSv C X (.Expr (.Call (.Name f q) (.Name x p::es) [] cp) pos) (λY=>jJ Ψ i Y n (gs Y)):=by(exists fa,fd,ps,FF,Z,hk,hb,F.ex;have h1:PE X (.Call (.Name f q) (.Name x p::es) [] cp) (tCB (spU X.K n Ψ) (iG (fR i) (tAv (C.at X) gs))):=by intro O s σ H Q I h;refine aY5 (mX I hg Z ?_ o);exact a02 (h₀:=X.base) I.ok.mod.kin hk (thn (m9 V ha J cp O s σ H (λvs H1=>spU X.K n Ψ vs H1 Q) I h) λus L ⟨vs,H1,B,r,q⟩=>#[B.kIn,run_S FF W hb (λe s' hc=>hx O σ H1 L e s' B hc) B r q]) J m);refine PS.imp (oS h1 rfl) λE σ H N=>?_;exists Y,F0,R,w,N;dsimp only at w;unfold jJ at w;split at w;{rename_i d U e0 eg;split at w;{rename_i ds ef;split at w;{rename_i hn;split at w;{rename_i d' ep;exists v,ev,D,hh,R.slot i true d e0;exists a,rfl,aa,t0,id D;refine#[.ref a,ev,Y,F0,R,?_];rw[eg];intro us F1 H1 st rl;have l:=Rp.step st D;exists a',ea,f1,T,l;cases ea;have G:=rl.fz ef;refine#[F1,d,ds,d',a,us,rfl,by rw[aZX,G.length];exact hn,st.sub,f1,T,G,ep,λF2 H2 S f2 t2=>?_];exact w σ F2 H2 (st.fsame.trans S.fsame) ((R.step st).callU e0 ev S f2 t2)};exact w.elim};exact w.elim};exact w.elim};exact w.elim
def tS(C:Cw)(g:Rho->aH):TS:=λE σ H=>∃Y F,aR C.K C.F0 C.H0 F H σ Y/\match g Y with|.nx ρ'=>∀F' H',aD F F'->aR C.K C.F0 C.H0 F' H' σ ρ'->E.nx σ H'|_=>False
def PUv(C:Cw)(X:Cx)(st:List Stmt)(g:Rho->aH):Prop:=PSs X st (tS (C.at X) g)
def aQW{gk:Rho->Res}(i:Nat)(Z:X.A.units+64<cLine)(W:PE X (.Name x p) (fR i))(hk:PV C X ke gk)(he:PV C X e g)(J:swapsWith e (some (.Subscript (.Name x p) ke sp)) pos.line X.env=pure false):PUv C X [.Assign [.Subscript (.Name x p) ke sp] e pos] (λY=>eW Y i (gk Y) (g Y)):=by refine PSs.imp (sR (aBE Z W hk (eB he) J)) λE σ H q=>?_;exists Y,F,R,w,q;dsimp only at w;unfold uH;unfold eW at w;split at w;rotate_left;{exact w.elim};rename_i ρ' l;split at l;rotate_left;{cases l};rename_i kvs V;exists v0,o,G,aa,R.slot i true _ V;exists a,ea,ae,U,hh,rk,G;subst ea;rw[aU];refine#[Y,F,R,?_];cases T:aI (g Y)with|stuck|exc c=>rw[T]at l;cases l|ok m d=>rw[T]at l;cases m with|fr|bo=>cases l|fz=>(have l:((gk Y).thS Y λ_ K=>(match cD K with|some k=>if kvs.length<sizeLine then aH.nx (Y.set i (some (true,.dtn (d5 kvs k d))))else .stuck|none=>.stuck))=.nx ρ':=l);intro v F1 H1 s1 rp _;refine#[.ref a,o,?_];show tG (C.at X) gk σ H1 _;rw[aU];refine#[Y,F1,R.step s1,?_];cases B:gk Y with|stuck|exc c=>rw[B]at l;cases l|ok m2 K=>(rw[B]at l;have l:(match cD K with|some k=>if kvs.length<sizeLine then aH.nx (Y.set i (some (true,.dtn (d5 kvs k d))))else .stuck|none=>.stuck)=.nx ρ':=l);intro u F2 H2 S D _;cases N:cD K with|none=>rw[N]at l;cases l|some k=>rw[N]at l;dsimp only at l;split at l;{rename_i hl;cases l;have L:H2 a=some (.dN U):=S.same _ _ (s1.same _ _ hh);exists b,rfl,hn,hd,qC N D;have r:=rk.mono (s1.fsame.trans S.fsame) _ _;refine#[a,_,rfl,#[U,k,b,L,r.keys.mono S.sub,rfl,#[NAt.mono S.sub _ _ hn,hd],by rw[rk.len];exact hl,rfl],?_];exact w F2 _ (s1.fsame.trans S.fsame) (((R.step s1).step S).mut V o #[_,aY,aS.put #[hn,hd] (aB.mono S.fsame _ _ rp) r])};cases l
def aQX{s1 S:List Stmt}{l a:Rho->aH}(A:PTv C X c gc)(ha:PUv C X s1 l)(B:PUv C X S a):PUv C X [.If c s1 S pos] (λY=>ifS (gc Y) Y (l Y) (a Y)):=by refine PSs.imp (sR (yA A ha B)) λE σ H q=>?_;exists Y,F,R,w,q;dsimp only at w;refine#[Y,F,R,?_];cases o:gc Y with|stuck=>rw[o]at w;exact w|exc c=>rw[o]at w;exact w.elim|ok m d=>rw[o]at w;cases d with|bl k=>((intro F' H' s;have key:∀g:Rho->aH,(match g Y with|.nx ρ'=>∀F' H',aD F F'->aR X.K C.F0 C.H0 F' H' σ ρ'->E.nx σ H'|_=>False)->tS (C.at X) g E σ H':=λg w=>by refine#[Y,F',R.step s,?_];cases r:g Y with|nx ρ'=>rw[r]at w;exact λG D S R2=>w G D (s.fsame.trans S) R2|_=>rw[r]at w;exact w.elim);cases k with|true=>(rw[al rfl];exact key l (show(match l Y with|.nx ρ'=>∀F' H',aD F F'->aR X.K C.F0 C.H0 F' H' σ ρ'->E.nx σ H'|_=>False)from w))|false=>rw[aK aX8];exact key a (show(match a Y with|.nx ρ'=>∀F' H',aD F F'->aR X.K C.F0 C.H0 F' H' σ ρ'->E.nx σ H'|_=>False)from w))|_=>exact w.elim
end
def mD(N:Nat)(d:D)(ds:List D):Rho:=some (true,d)::eT (N-1) ds
def jK(n N:Nat)(g:Rho->aH)(d:D)(ds:List D):Option D:=if ds.length+1=n then(match g (mD N d ds)with
 |.nx ρ'=>(match ρ'[0]? with|some (some (true,a))=>some a|_=>none)
 |_=>none)else none
theorem aQY{K:Fg}{f:Addr}{N:List Str}{g:Rho->aH}(F:Fun K x qual st f fd)(S:jU N ps (dL st))(h1:0<N.length)(l:∀(C:Cw) (cdv:a3H),W.codeIn K cdv qual=true->∀(A:a3J) (outer:List Env) (s:a3I) (H:Hp) (E:XK),C.EE=g9 mg E->bB k (A.deeper (envOfC qual (dL st) s.heap.objs.size f cdv))->PUv C (cH (CX1 P w) P w K mg base N qual (dL st) f cdv A outer s H E) (gW st) g):bM P w K mg base (CX1 P w) (k+1) f fd ps (nY K ps.length (jK ps.length N.length g)):=by
 exists oc,od,kV,af,pm,an,cdv,ct,ae,rfl,lk,B,F.ex;refine yO lk B S (λvs H Q E h=>?_) λA outer s H vs Q E hr h=>?_
 . exists _,_,_,_,_,_,_,h,_,h;exact h
 exists F0,d,ds,d',a,us,rfl,hn,sF,fa,t,J,e,w,h
 let C:Cw:=#[K,F0,l8 H a,g9 mg E]
 refine#[_,l C cdv B A outer s H E rfl hr,?_];unfold jK at e;split at e;rotate_left
 . cases e
 split at e;rotate_left
 . cases e
 rename_i ρ' eg;split at e;rotate_left
 . cases e
 rename_i d2 Z;cases e;obtain⟨m,hm⟩:∃m,N.length=m+1:=#[N.length-1,by lia]
 have es:L2.start N (.ref a::us)=some (.ref a)::(us.map some++List.replicate (N.length-1-us.length) none):=by unfold L2.start;rw[aZZ,a0B,aZX];congr 3;lia
 have L:∀(i:Nat) (m:Bool) (d:D),(eT (N.length-1) ds)[i]? = some (some (m,d))->m=false/\∃v,(us.map some++List.replicate (N.length-1-us.length) none)[i]? = some (some v)/\aB K F0 d v:=λi m d e=>by unfold eT at e;by_cases o:i<ds.length;{rw[aY0 (by simpa using o),aY1,a0T o]at e;cases e;exists v,ev,rv,J.get' (a0T o);exact#[rfl,v,by rw[aY0 (by simpa[J.length]using o),aY1,ev];rfl,rv]};rw[aYY (by simpa using o),aYZ]at e;split at e <;> cases e
 refine#[mD N.length d ds,F0,#[#[λc u q=>?_,aD.refl _,sF,λc h1 _=>h1],λj m d' ej=>?_,λi j G d2 b T e1 Z _ _=>?_,by rw[es];simp[mD,eT,J.length]],?_]
 . by_cases hc:c=a;{subst hc;rw[show C.H0 c=none from aCH]at q;cases q};exact(nW hc).symm.trans q
 . rw[es];cases j with|zero=>cases ej;exact#[_,rfl,#[a,rfl,fa,t],λ_ b eb=>by cases eb;exact aCH]|succ j=>exists rfl,v,e1,r,L j m d' ej;exact#[v,e1,r,by nofun]
 . have z:∀{i:Nat}{G:D},(mD N.length d ds)[i]? = some (some (true,G))->i=0:=λ{i G} h=>by
     cases i with|zero=>rfl|succ i=>have:=(L i true G h).1;cases this
   exact T ((z e1).trans (z Z).symm)
 . rw[eg];intro F' H' aa R';exists v,ev,rp,hh,R'.slot 0 true d' Z;rw[es]at ev;cases ev;exists a',ea,V,t',rp;cases ea;exact w F' H' R'.st V t'
def eqC:Md->D->Md->D->Option (Md×D):=λ_ x _ y=>match x,y with|.dcf K,.dct kb=>(fG kb K).map λr=>(.fz,.bl (K.length==kb.length&&r))|_,_=>none
def aQZ:IsB eqC:=λm x n y k d e=>by unfold eqC at e;split at e;{rename_i K kb;cases E:fG kb K with|none=>rw[E]at e;cases e|some r=>rw[E]at e;cases e;exact#[_,rfl,rfl]};cases e
theorem aCI(Z:X.A.units+64<cLine):OpD C X (compareOp .Eq) eqC:=by refine#[λx y H Q=>∃F n f kb r a o U,aD F H/\x=.ref a/\F a=some (.frz o (.dK U))/\aF X.K F f U/\Rp X.K F H n (.dct kb) y/\fG kb f=some r/\Q (.bl (f.length==kb.length&&r)) H,?_,?_];{intro O s σ H x y v u Q I l ry h;exists F,n,f,kb,r,a,o,U,sF,rfl,hf,J,he,E,hQ,h;exists b,ys,rfl,hb,G,he.dict sF;cases l;cases ry;exists _,sa,L,D,da,lC I.hok (.inr #[o,sF _ _ hf]);exists _,S,V,B,db,tL I.hok hb;(have T:L.length=f.length:=by rw[<- J.len];exact(aXJ D).symm);(have N:V.length=kb.length:=by rw[<- G.len];exact(aXJ B).symm);refine W.keq_eq sa S da db (by lia) (λ_=>aAV Z I sF G B J D E) #[.bl _,H,I,rfl,?_];rw[T,N];exact hQ};intro F H m x n y v u k d Q s l ry e w;unfold eqC at e;split at e;{rename_i f kb;cases E:fG kb f with|none=>rw[E]at e;cases e|some r=>rw[E]at e;cases e;cases m with|fz=>have l:aB X.K F (.dcf f) v:=l;simp only[aB]at l;exists a,o,U,rfl,hf,rk,l;exact#[F,n,f,kb,r,a,o,U,s,rfl,hf,rk,ry,E,w _ F H (.refl s) (cI _) (by nofun)]|fr|bo=>exists a,_,_,q,l;exact q.elim};cases e
def FnU.no{K:Fg}(F:FnV P w K mg base CX k x n Φ):FnU P w K mg base CX k x n (λ_ _=>none):=by exists f,fd,ps,_,h,F.ex;exact#[f,fd,ps,#[λvs H Q E h=>(by exists _,_,_,_,_,_,_,_,_,_,_,_,e,_,h;cases e),λA outer s H args us vs Q E _ _ _ _ h=>(by exists _,_,_,_,_,_,_,_,_,_,_,_,e,_,h;cases e)],h]
def u5{K:Fg}{f:Addr}:bM P w K mg base CX k f fd ps (nY K n λ_ _=>none) :=
 #[λvs H Q E h=>(by exists _,_,_,_,_,_,_,_,_,_,_,_,e,_,h;cases e),λA outer s H args us vs Q E _ _ _ _ h=>(by exists _,_,_,_,_,_,_,_,_,_,_,_,e,_,h;cases e)]
open PySem.W
open Builtin Builtin.Str
abbrev Stk:=List (List D)
inductive TRes where|nx (Y:Rho) (z:Stk)|exc (c:Str)|stuck
end D3
set_option genSizeOfSpec false
set_option genInjectivity false
namespace D3
inductive KC where|s (y:Str)|i (n:Int)|t (tb:List (Str×Str))
 deriving DecidableEq
def KC.d:KC->D|.s y=>.str y|.i n=>.int n|.t _=>.non
inductive GV where|con (c:KC)|fn (n:Nat)|no|cls
 deriving DecidableEq
inductive Bn where|len|isinstance
 deriving DecidableEq
noncomputable def Bn.name:Bn->Str|.len=>"len" |.isinstance=>"isinstance"
def Bn.f:Bn->List (Md×D)->Option (Md×D)|.len=>gM|.isinstance=>i5
def Bn.id:Bn->String|.len=>"len" |.isinstance=>"isinstance"
inductive Ty where|int|bool|str|tuple|list|dict
 deriving DecidableEq
def Ty.f:Ty->List (Md×D)->Option (Md×D)|.tuple=>j7|.list=>lP|_=>λ_=>none
def Ty.id:Ty->String|.int=>"int" |.bool=>"bool" |.str=>"str" |.tuple=>"tuple" |.list=>"list" |.dict=>"dict"
structure WD where
 Φ:Str->List D->Res
 Ψ:Str->List D->Res
 I:Str->Option (List D->Res)
 cl:List CI
 xt:List ((Str×Str)×Bool)
 xi:List ((Str×Str)×Bool)
 dp:Bool
 Ms:Str->D->KD->Option KD
 Cl:Str->Str->List (Str×D)->D->Res
 Wy:Str->Option fJ
 Mu:Str->D->List D->Option D
noncomputable def WD.pred(W:WD):WD:=#[W.Ψ,λ_ _=>.stuck,λ_=>none,[],W.xt,W.xi,false,λ_ _ _=>none,λ_ _ _ _=>.stuck,λ_=>none,λ_ _ _=>none]
def WD.xf(W:WD):Str->Str->Option Bool:=λc x=>W.xt.lookup (c,x)
def WD.xg(W:WD):Str->Str->Option Bool:=λc x=>W.xi.lookup (c,x)
inductive E where
 |var (i:Nat)|non|bl (b:Bool)|int (i:Int)|str (x:Str)
 |glob (x:Str) (c:KC)|ty (t:Ty)
 |bin (op:Operator) (a b:E)|cmp (op:CmpOp) (a b:E)
 |andL (es:List E)|orL (es:List E)|not (a:E)|neg (a:E)|tru (a:E)|frz (a:E)
 |ix (a b:E)|slice (a:E) (lo hi:Option E)
 |tup (es:List E)|lst (es:List E)
 |call (f:Str) (n:Nat) (es:List E)|bcall (b:Bn) (es:List E)
 |items (a:E)|rng1 (a:E)|enum1 (a:E)
 |comp (elt it:E) (ts:List E) (aE:List Nat) (t:Tg) (n:Nat)
 |tcall (t:Ty) (es:List E)
 |deed (x:Str) (tb:Tbl) (a:E)|callv (i:Nat) (fs:Fns) (n:Nat) (es:List E)
 |dix (a b:E)|din (neg:Bool) (a b:E)|tidx (a b:E)
 |meth (o:E) (m:Str) (es:List E)|mk0 (c:Str)
 |rng3 (a b c:E)|disp (ks vs:List E)|never
 |nnew|nix (a b:E)|nin (neg:Bool) (a b:E)|nget (a k d:E)|nkeys (a:E)|srtw (a:E)|srtf (f:Str) (a:E)|srtl (a b:E)|kkeys (a:E)
 |deqC (a b:E)|dcomp (kx vx it:E) (aE:List Nat) (t:Tg) (n:Nat)
def noF:Md->D->Md->D->Option (Md×D):=λ_ _ _ _=>none
def a8:Operator->Md->D->Md->D->Option (Md×D)|.Add=>orO fAdd pI|.Sub=>fSub|.Mult=>orO fMul noK|.Mod=>fMod|.FloorDiv=>fDiv|.Pow=>fPow|_=>noF
def a9:CmpOp->Md->D->Md->D->Option (Md×D)|.Lt=>orO fLt noK|.LtE=>fLe|.Gt=>fGt|.GtE=>fGe|.Eq=>fEq|.NotEq=>fNe|.In=>orO fIn (lO false)|.NotIn=>orO aMW (lO true)|.Is=>fIs false|.IsNot=>fIs true
mutual
def evE(W:WD):E->Rho->Res|.var i,Y=>dG Y i|.non,_=>.ok .fz .non|.bl b,_=>.ok .fz (.bl b)|.int i,_=>.ok .fz (.int i)|.str x,_=>.ok .fz (.str x)|.glob _ c,_=>.ok .fz c.d|.ty t,_=>.ok .fz (.ty t.id)|.bin l a b,Y=>op2 (a8 l) (evE W a Y) (evE W b Y)|.cmp l a b,Y=>op2 (a9 l) (evE W a Y) (evE W b Y)|.andL es,Y=>evA W es Y|.orL es,Y=>d9 W es Y|.not a,Y=>iZ (evE W a Y)|.neg a,Y=>pC (evE W a Y)|.tru a,Y=>fT (evE W a Y)|.frz a,Y=>aI (evE W a Y)|.ix a b,Y=>op2 ixD (evE W a Y) (evE W b Y)|.slice a lo r,Y=>slP (evE W a Y) (evO W lo) (evO W r) Y|.tup es,Y=>dO (bS W es Y)|.lst es,Y=>j4 (bS W es Y)|.call f n es,Y=>aV n (W.Φ f) (bS W es Y)|.bcall b es,Y=>eQ b.f (bS W es Y)|.items a,Y=>iN (aI (evE W a Y))|.rng1 a,Y=>gN (aQ (evE W a Y) (.ok []))|.rng3 a b c,Y=>kC (aQ (evE W a Y) (aQ (evE W b Y) (aQ (evE W c Y) (.ok []))))|.enum1 a,Y=>pR (aQ (aI (evE W a Y)) (.ok []))|.comp elt it ts aE t n,Y=>bO (evE W it Y) Y aE n (aO t) (λY=>evF W ts Y) (λY=>evE W elt Y)|.disp ks vs,Y=>hO Y ((evL W ks).zip (evL W vs)) []|.tcall t es,Y=>eQ t.f (bS W es Y)|.deed _ tb a,Y=>kA tb (evE W a Y)|.callv i fs n es,Y=>pU W.Φ fs n (dG Y i) (bS W es Y)|.dix a b,Y=>op2 ixK (evE W a Y) (evE W b Y)|.deqC a b,Y=>op2 eqC (evE W a Y) (evE W b Y)|.dcomp K V it aE t n,Y=>nX (evE W it Y) Y aE n (aO t) (λY=>evE W K Y) (λY=>evE W V Y)|.tidx a b,Y=>lT (evE W a Y) (evE W b Y)|.din neg a b,Y=>op2 (inK neg) (evE W a Y) (evE W b Y)|.meth o m es,Y=>fD W.cl W.Φ m (evE W o Y) (bS W es Y)|.mk0 c,_=>.ok .fr (.ins c [])|.never,_=>.stuck|.nnew,_=>.ok .fr (.dtn [])|.nix a b,Y=>op2 eD (evE W a Y) (evE W b Y)|.nin neg a b,Y=>op2 (eV neg) (evE W a Y) (evE W b Y)|.nget a k d,Y=>lX (evE W a Y) (evE W k Y) (evE W d Y)|.nkeys a,Y=>qL (evE W a Y)|.srtw a,Y=>eQ fY (aQ (evE W a Y) (.ok []))|.kkeys a,Y=>l9 (evE W a Y)|.srtf f a,Y=>if W.dp=true then cU (λd=>W.Ψ f [d]) (evE W a Y)else .stuck|.srtl a b,Y=>if W.dp=true then cU (λd=>evE W.pred b [some (false,d)]) (evE W a Y)else .stuck
def bS(W:WD):List E->Rho->bC|[],_=>.ok []|e::es,Y=>aQ (evE W e Y) (bS W es Y)
def evA(W:WD):List E->Rho->Res|[],_=>.stuck|[e],Y=>evE W e Y|e::es,Y=>eP (evE W e Y) (evA W es Y)
def d9(W:WD):List E->Rho->Res|[],_=>.stuck|[e],Y=>evE W e Y|e::es,Y=>orR (evE W e Y) (d9 W es Y)
def evF(W:WD):List E->Rho->Res|[],_=>.ok .fz (.bl true)|e::es,Y=>eP (evE W e Y) (evF W es Y)
def evL(W:WD):List E->List (Rho->Res)|[]=>[]|e::es=>evE W e::evL W es
def evO(W:WD):Option E->Option (Rho->Res)|none=>none|some e=>some (evE W e)
end
structure MG where
 G:List (Str×GV)
 mk0:List Str
 mki:List (Str×Str×Nat)
 iso:List Str
 xcs:List Str
 xns:List Str
 sn:List Str
 cl:List (Str×Str×Str×Str)
structure MC where
 N:List Str
 sc:Scope
 g:MG
 fn:Bool
 calm:Bool
 rz:Bool
 q:Str
noncomputable def MC.kind(m:MC)(x:Str):Option NameKind:=m.sc.names.lookup x
end D3
variable{m:D3.MC}
namespace D3
def MC.vis(m:MC)(x:Str):Bool:=(m.kind x==some .local||m.kind x==some .cell||m.kind x==some .free)&&x != "__debug__" && x != "__classdict__"
def MC.glob(m:MC)(x:Str)(v:GV):Bool:=m.kind x==some .globalImplicit&&m.g.G.lookup x==some v&&x != "__debug__" && x != "__name__"
def MC.gk(m:MC)(x:Str):Bool:=m.kind x==some .globalImplicit&&x != "__debug__"
def strK(x:Str):Bool:=decide (x.length<=sizeLine)&&PyData.strOk x
def mH:Expr->Bool|.Slice ..=>false|_=>true
def aQ0:Expr->Bool|.Tuple ..=>true|_=>false
def eJ:Expr->Bool|.Set ..=>false|_=>true
def aCJ:Expr->Bool|.UnaryOp .Not _ _=>false|.BoolOp ..=>false|.IfExp ..=>false|.Compare ..=>false|_=>true
def MC.sub(m:MC)(scope:Scope)(aL tgN:List Str):MC:={ m with N:=aL++tgN,sc:={scope with names:=lL scope m.sc},fn:=false,rz:=false,q:="" }
def MC.lam(m:MC)(x:Str)(scope:Scope):MC:=#[[x],scope,{m.g with mk0:=[],mki:=[],iso:=[],xcs:=[],xns:=[],sn:=[],cl:=[]},true,true,false,""]
def MC.loc(m:MC)(i:Nat)(x:Str):Bool:=m.N[i]?==some x&&(m.kind x==some .local||(m.fn&&m.kind x==some .cell))
mutual
def mG(m:MC):Tg->Expr->Bool
 |.nm i,e=>match e with|.Name x _=>m.loc i x|_=>false
 |.tp ts,e=>match e with|.Tuple es _ _=>m.calm&&es.all i8&&mGs m ts es|_=>false
def mGs(m:MC):List Tg->List Expr->Bool|[],es=>es.isEmpty|t::ts,l=>match l with|e::es=>mG m t e&&mGs m ts es|_=>false
end
def c9:Nat->Expr->List Str|_,.Name x _=>[x]|n+1,.Tuple es _ _=>es.flatMap (c9 n)|_,_=>[]
def kL(scope sc:Scope)(N:List Str)(aE:List Nat)(aL tgN:List Str):Bool :=
 scope.names.all (λy=>y.2 != .cell)&&scope.kind == .function&&scope.names.all (λy=>y.2 != .local||scope.names.lookup y.1==some .local) &&
 scope.names.all (λy=>y.2 != .free||sc.names.lookup y.1==some .cell||sc.names.lookup y.1==some .free)&&(aL.map some==aE.map λi=>N[i]?)&&aL.all (λy=>scope.names.contains (y,.free)) &&
 aL.all (λy=>(lL scope sc).lookup y==some .cell||(lL scope sc).lookup y==some .free)&&decide (aL++tgN).Nodup
def strK':KC->Bool|.s y=>strK y|.i _=>true|.t _=>false
structure SX(k:Nat)(W:WD)(m:MC)(C:Cw)(X:Cx):Prop where
 hN:X.N=m.N
 hs:X.env.scope=m.sc
 cm:m.calm=true->X.calm=true
 rm:m.calm=true->bB k X.A
 un:X.A.units+64<cLine
 xo:m.calm=true->XOk (CX1 X.prog X.w) (C.at X) X
 xt:t8 X.K X.mg W.xf
 xi:t9 X.K X.mg W.xg
 xc:∀c,c∈m.g.xcs->∃Cc,X.mg c=some (.ref Cc)/\aAN X.K Cc
 xn:∀n,n∈m.g.xns->∃cv,pS X.mg n cv
 con:∀x c,m.g.G.lookup x=some (.con c)->match c with|.s y=>∃t,X.mg x=some (.str y t)|.i n=>∃t,X.mg x=some (.int n t)|.t tb=>i9 X.w X.K X.mg x tb
 no:∀x,m.g.G.lookup x=some .no->X.mg x=none
 mk0:∀c,c∈m.g.mk0->tV X.K X.mg c
 mki:∀c key n,(c,key,n)∈m.g.mki->∀Φ,W.I key=some Φ->∃j,j+1<=k/\InV X.prog X.w X.K X.mg X.base (CX1 X.prog X.w) j c n Φ
 iso:∀c,c∈m.g.iso->IsV X.K X.mg W.cl c
 fl:∀i f,i∈W.cl->f∈i.flds->FlV X.K i.name f
 mt:∀c m key n,CI.meth W.cl c m=some (key,n)->MtV X.prog X.w X.K X.mg X.base (CX1 X.prog X.w) k c m n (W.Φ key)
 fn:∀x n,m.g.G.lookup x=some (.fn n)->FnV X.prog X.w X.K X.mg X.base (CX1 X.prog X.w) k x n (W.Φ x)
 fnn:m.fn=true->∀x,X.fn x=true
 fp:W.dp=true->∃j,j+1=k/\∀x n,m.g.G.lookup x=some (.fn n)->FnV X.prog X.w X.K X.mg X.base (CX1 X.prog X.w) j x n (W.Ψ x)
 sm:∀x,x∈m.g.sn->FnM X.prog X.w X.K X.mg X.base (CX1 X.prog X.w) k x (W.Ms x)
 sc:W.dp=true->∀f a b g,(f,a,b,g)∈m.g.cl->FnC X.prog X.w X.K X.mg X.base (CX1 X.prog X.w) k f a b/\CloG X.K f a b g
 cv:∀f n,qS X.prog X.w X.K X.mg X.base k f n (W.Cl f n)
 sw:W.dp=true->∀f I,W.Wy f=some I->FnW X.prog X.w X.K X.mg X.base (CX1 X.prog X.w) k f I
 su:∀x n,m.g.G.lookup x=some (.fn n)->FnU X.prog X.w X.K X.mg X.base (CX1 X.prog X.w) k x n (W.Mu x)
 cd:m.q="" \/ (PySem.W.codeIn X.K X.env.code m.q=true/\X.env.qual=m.q++".<locals>.")
section
variable{W:WD}{x y:Expr}
def SX.gl(S:SX k W m C X){v:GV}(h:m.glob z v=true):Gl X z/\m.g.G.lookup z=some v/\(z==("__debug__":Str))=false/\z ≠ "__name__":=by unfold MC.glob MC.kind at h;simp only[aZL,aYK,a2V]at h;obtain⟨⟨⟨l,f⟩,d⟩,a⟩:=h;refine#[?_,f,by simpa using d,a];show X.env.scope.names.lookup z=_;rw[S.hs];exact l
theorem SX.vis(S:SX k W m C X)(h:m.vis z=true):Vis X.env.scope z/\(z==("__debug__":Str))=false/\(z==("__classdict__":Str))=false:=by unfold MC.vis MC.kind at h;simp only[aZL,a0N,aYK,a2V]at h;obtain⟨⟨a,f⟩,d⟩:=h;refine#[?_,by simpa using f,by simpa using d];unfold Vis;rw[S.hs];rcases a with(a|a)|a;{exact .inl a};{exact .inr (.inl a)};exact .inr (.inr a)
def aQ1(b:Bn):bootBuiltins b.name=some (.builtin b.id):=by cases b;{exact aMX};exact aMY
def aQ2(b:Bn){c:Bool}(a:c=true->X.calm=true)(h:(c||b == .len||b == .isinstance)=true):gY X (.builtin b.id) b.f:=by(have a:(b == .len||b == .isinstance)=false->X.calm=true:=λz=>a (by cases c with|true=>rfl|false=>rw[Bool.false_or]at h;rw[h]at z;cases z));cases b;{exact aL2};exact aL4
def qT{f:a3H}:gY X f (λ_=>none):=#[λ_ _ _=>False,λ_ _ _ _ _ _ _ _ _ h=>h.elim,λ_ _ _ _ _ _ _ _ _ e _=>by cases e]
def aQ3(t:Ty):gY X (.type t.id) t.f:=by cases t;{exact qT};{exact qT};{exact qT};{exact aNF};{exact aNG};exact qT
def aCK(t:Ty):bootBuiltins (t.id:Str)=some (.type t.id):=by cases t;{exact aMZ};{exact aM0};{exact aM1};{exact aM2};{exact aM3};exact aM4
def aQ4(op:Operator):(∃a,a8 op=a/\OpD C X (binaryOp op) a)\/a8 op=noF:=by
 cases op
 case Add=>exact .inl #[_,rfl,o_add.or aNE]
 case Sub=>exact .inl #[_,rfl,aLA]
 case Mult=>exact .inl #[_,rfl,o_mul.or nO]
 case Mod=>exact .inl #[_,rfl,aLD]
 case FloorDiv=>exact .inl #[_,rfl,aLF]
 case Pow=>exact .inl #[_,rfl,aLG]
 all_goals exact .inr rfl
def aCL:IsB (inK neg):=λm x n y k d e=>by unfold inK at e;split at e;{cases e;exact#[_,rfl,rfl]};cases e
def aCM:IsB (eV neg):=λm x n y k d e=>by unfold eV at e;split at e;{cases e;exact#[_,rfl,rfl]};cases e
def u6:IsB noK:=λ_ _ _ _ _ _ z=>by cases z
def aQ5(op:CmpOp)(a:X.A.units+64<cLine):(OpD C X (compareOp op) (a9 op)/\IsB (a9 op))\/a9 op=noF:=by
 cases op
 case Lt=>exact .inl #[aLH.or nO,nN pH u6]
 case LtE=>exact .inl #[aLI,pH]
 case Gt=>exact .inl #[aLJ,pH]
 case GtE=>exact .inl #[aLK,pH]
 case Eq=>exact .inl #[o_eq a,nN aAA u6]
 case NotEq=>exact .inl #[o_ne a,nN aAA u6]
 case In=>exact .inl #[aLN.or (aAE aKF),nN zZ aAF]
 case NotIn=>exact .inl #[aLO.or (aAE aKG),nN zZ aAF]
 case Is=>exact .inl #[aNA,aAC]
 case IsNot=>exact .inl #[aNB,aAC]
def aCN{f:a3H->a3H->Sem a3H}:OpD C X f noF:=#[λ_ _ _ _=>False,λ_ _ _ _ _ _ _ _ _ _ _ _ h=>h.elim,λ_ _ _ _ _ _ _ _ _ _ _ _ _ _ e _=>by cases e]
def aQ6(op:Operator):OpD C X (binaryOp op) (a8 op):=by rcases aQ4 (C:=C) (X:=X) op with⟨a,e,h⟩|e;{rw[e];exact h};rw[e];exact aCN
def u7(op:CmpOp)(a:X.A.units+64<cLine):OpD C X (compareOp op) (a9 op)/\IsB (a9 op):=by rcases aQ5 (C:=C) op a with h|e;{exact h};rw[e];exact#[aCN,λ_ _ _ _ _ _ z=>by cases z]
def hZ(op:CmpOp)(h:eJ e=true):behindInMarks op e=false:=by cases e <;> first|rfl|cases h
def nZ(h:eJ e=true):∀v,foldedSetIterable e env v=pure v:=by intro v;cases e <;> first|rfl|cases h
def u8(h:mH e=true):nE e:=by intro o i;cases e <;> first|rfl|cases h
def noSl(h:mH e=true):tN e:=by intro o i;cases e <;> first|rfl|cases h
def aQ7(h:aCJ e=true):∀dA,isTrue e env dA=(do let v <- dA;standAt e.pos;holding [v] (truthy v)):=by intro dA;cases e;(case UnaryOp op _ _=>cases op <;> first|rfl|cases h);all_goals first|rfl|cases h
theorem SX.sub(S:SX k W m C X)(cl:List (Str×Addr))(A:Addr)(fp:List Addr)(s3:a3I)(a:Hp):SX k W (m.sub scope aL tgN) C.nox (a7 X scope (aL++tgN) cl A fp s3 a):=by refine#[rfl,?_,S.cm,S.rm,S.un,λ_ O σ H s e s' I h=>?_,S.xt,S.xi,S.xc,S.xn,S.con,S.no,S.mk0,S.mki,S.iso,S.fl,S.mt,S.fn,(λz=>by cases z),S.fp,S.sm,S.sc,S.cv,S.sw,S.su,.inl rfl];rotate_left;{exists _,_,_,_,_,_,_,_,_,_,_,_,z,h;exact z.elim};show(compEnvC scope cl A X.env).scope=_;unfold MC.sub;rw[<- S.hs];rfl
theorem SX.loc(S:SX k W m C X)(h:m.loc i z=true):X.N[i]? = some z/\L2.Loc X.env.scope z/\(X.fn z=true\/X.env.scope.names.lookup z=some .local):=by unfold MC.loc MC.kind at h;simp only[aZL,a0N,aYK]at h;refine#[by rw[S.hN];exact h.1,?_,?_];{unfold L2.Loc;rw[S.hs];rcases h.2 with q|q;{exact .inl q};exact .inr q.2};rw[S.hs];rcases h.2 with q|q;{exact .inr q};exact .inl (S.fnn q.1 z)
theorem SX.lam(S:SX k W m C X)(hd:W.dp=true){x:Str}{f:Addr}{A:a3J}{F:Hp}{E:XK}(o:j+1=k)(a:bB j (A.deeper (envOfC qual scope s.heap.objs.size f cdv))):SX j W.pred (m.lam x scope) #[X.K,F,H,g9 X.mg E] (cH (CX1 X.prog X.w) X.prog X.w X.K X.mg X.base [x] qual scope f cdv A outer s H E):=by(exists J,d,fp,S.fp hd;obtain rfl:J=j:=by lia);exact#[rfl,rfl,λ_=>rfl,λ_=>a,a.units,λ_=>t7 rfl,S.xt,S.xi,(λc h=>by cases h),(λc h=>by cases h),S.con,S.no,(λc h=>by cases h),(λc key n h=>by cases h),(λc h=>by cases h),(λi r h=>by cases h),(λc m' key n e=>by cases e),fp,λ_ _=>rfl,(λz=>by cases z),(λx h=>by cases h),(λ_ _ _ _ _ h=>by cases h),(λ_ _=>u0),(λz=>by cases z),(λy n l=>FnU.no (fp y n l)),.inl rfl]
def aQ8{body:Expr}{a cv ct:a3H}:bindArgs (PySem.W.kla_fn "<lambda>" qual #[[],[#[z,none,ap]],none,[],[],none,[]] body scope [] a cv ct) #[[u],[]]=pure [(z,u)]:=
 aB6 (ps:=[z]) rfl rfl rfl rfl rfl rfl (aYT.mpr #[a2Q,a1T]) [u] rfl
def aCO:PV C X e (λ_=>.stuck):=λO s σ H Q I h=>by rw[aU]at h;exists _,_,_,w,h;exact w.elim
theorem aQ9(S:SX k W m C X)(hc:m.calm=true)(hd:W.dp=true)(B:m.q ≠ "")(hg:Gl X "sorted")(hm:X.mg "sorted"=none){body:Expr}{a b:E}{lp kp:Pos}(Z:oR (m.q++".<locals>.") lp.line="<lambda>")(he:PV C X e (evE W a))(hs:bI e=true)(sc:jU [z] [z] scope)(rb:∀{k:Nat}{W:WD}{C:Cw}{X:Cx},SX k W (m.lam z scope) C X->PV C X body (evE W b)):PV C X (.Call (.Name "sorted" p) [e] [#[some "key",.Lambda #[[],[#[z,none,ap]],none,[],[],none,[]] body scope lp,kp]] pos) (λY=>cU (λd=>evE W.pred b [some (false,d)]) (evE W a Y)):=by
 exists ae,V,S.cd.resolve_left B;exists j,hj,_,id (S.fp hd);have o:bB (j+1) X.A:=by rw[hj];exact S.rm hc
 refine aB7 (λf H=>∃c G ct,H c=some (.crec (X.env.qual++"<lambda>"))/\H f=some (gX f (PySem.W.kla_obj "<lambda>" (X.env.qual++"<lambda>") #[[],[#[z,none,ap]],none,[],[],none,[]] body scope [] G c ct))) (S.cm hc) S.un hg hm he hs ?_ ?_
 . intro O s σ H Q I h;exact aK3 I ae V Z sc.nofree λf c G ct s' H' I' sm f0 af aa=>#[.ref f,H',I',rfl,h f H' sm #[c,G,ct,af,aa]]
 . rintro f pins' σ H F H' F' s' v u d kd ⟨c,G,ct,hcr,hf⟩ I st rd ru er;have T:bB j (X.A.in1.in1.deeper (envOfC (X.env.qual++"<lambda>") scope s'.heap.objs.size f (.ref c))):=
     #[o.hd,by have:=o.dp;show X.A.depth+1+3 * j+5<_;lia,by have:=o.un;show X.A.units+1+1+3+16 * j+200<_;lia]
   have body:=rb (S.lam hd hj (F:=F') (H:=H') (outer:=X.stack) (E:=λ_ _ _=>False) (x:=z) T);have l:tG ((#[X.K,F',H',g9 X.mg (λ_ _ _=>False)]:Cw).at (cH (CX1 X.prog X.w) X.prog X.w X.K X.mg X.base [z] (X.env.qual++"<lambda>") scope f (.ref c) X.A.in1.in1 X.stack s' H' (λ_ _ _=>False))) (evE W.pred b) (L2.start [z] [v]) H' (λkv ag=>∃D,aJ F' H' D ag/\aB X.K D kd kv):=by rw[aU];refine#[[some (false,d)],F',zX (N:=[z]) (ds:=[d]) st.sub (aC.cons rd aC.nil),?_];cases ep:evE W.pred b [some (false,d)]with|stuck|exc c=>rw[ep]at er;cases er|ok m' d'=>rw[ep]at er;exact λv F2 H2 st rp fr=>aB8 er st rp fr
   refine a01 (aZ9 (aP2 sc aQ8 o.hd (by have:=o.dp;show X.A.depth<_;lia) I.env0.in1.in1 (st.same _ _ hf) (st.same _ _ hcr) ru body l) λr s2 B=>?_)
   cases r with|error e=>exists _,_,_,_,_,_,_,_,_,_,z,B;exact z.elim|ok fl=>cases fl with|ret w=>exists kv,H2,I2,rk,F2,J,L,I.after B;exact#[kv,F2,H2,I2,rk,J,L]|next|brk|cont=>exact False.elim B
mutual
theorem sG(S:SX k W m C X)(hN:m.N.Nodup):∀(t:Tg) {e:Expr},mG m t e=true->PGw X e t|.nm i,e,h=>by simp only[mG]at h;split at h;{exists a,b,c,S.loc h;exact aNN (by rw[S.hN];exact hN) a b c};cases h|.tp ts,e,h=>by simp only[mG]at h;split at h;{rw[aZL,aZL,a2C]at h;exists p,l,sGs S hN ts h.2 h.1.2;exact aNR (S.cm h.1.1) p h.1.2 l};cases h
theorem sGs(S:SX k W m C X)(hN:m.N.Nodup):∀(ts:List Tg) {es:List Expr},mGs m ts es=true->(∀e∈es,i8 e=true)->j8 X es ts/\es.length=ts.length|[],[],h,_=>#[aNO,rfl]|[],_::_,h,_|t::ts,[],h,_=>by simp[mGs]at h|t::ts,e::es,h,hs=>by simp only[mGs,aZL]at h;exists p,l,sGs S hN ts h.2 λx hx=>hs x (mcm hx);exact#[aNP (sG S hN t h.1) p (hs e mcs),by rw[aZX,aZX,l]]
end
end
def aRA:PV C X e (λ_=>.stuck):=λO s σ H Q I q=>by rw[aU]at q;exists Y,F,R,w,q;exact w.elim
def aRB{W:WD}(S:SX k W m C X)(ho:kL scope m.sc m.N aE aL tgN=true):(∀y∈scope.names,y.2 ≠ .cell)/\scope.kind=.function/\(∀y∈scope.names,y.2=.local->scope.names.lookup y.1=some .local)/\(∀y∈scope.names,y.2=.free->X.env.kindOf y.1=some .cell\/X.env.kindOf y.1=some .free)/\(aL.map some=aE.map λi=>X.N[i]?)/\(∀y∈aL,(y,NameKind.free)∈scope.names)/\(∀y∈aL,(relabel scope X.env).names.lookup y=some .cell\/(relabel scope X.env).names.lookup y=some .free)/\(aL++tgN).Nodup:=by(unfold kL at ho;simp only[aZL,a2C,a0N,a2V,aYK,a0L,a2W]at ho;obtain⟨⟨⟨⟨⟨⟨⟨B,A⟩,r⟩,o⟩,l⟩,f⟩,d⟩,G⟩:=ho;have E:(relabel scope X.env).names=lL scope m.sc:=by rw[<- S.hs];rfl);refine#[B,A,λy a e=>(r y a).resolve_left λz=>z e,λy a e=>?_,by rw[S.hN];exact l,f,λy a=>by rw[E];exact d y a,G];have:=o y a;show X.env.scope.names.lookup y.1=_\/X.env.scope.names.lookup y.1=_;rw[S.hs];rcases this with(z|z)|z;{exact absurd e z};{exact .inl z};exact .inr z
abbrev PE(m:MC)(f:E)(e:Expr):Prop:=∀{k:Nat}{W:WD}{C:Cw}{X:Cx},SX k W m C X->PV C X e (evE W f)
abbrev PTE(m:MC)(f:E)(e:Expr):Prop:=∀{k:Nat}{W:WD}{C:Cw}{X:Cx},SX k W m C X->PTv C X e (evE W f)
abbrev PIE(m:MC)(tg:Expr)(f:E)(e:Expr):Prop:=∀{k:Nat}{W:WD}{C:Cw}{X:Cx},SX k W m C X->PIv C X tg e (evE W f)
inductive eA(m:MC):List E->List Expr->Prop
 |nil:eA m [] []
 |cons {f fs x U:_}:bI x=true->PE m f x->eA m fs U->eA m (f::fs) (x::U)
inductive f9(m:MC):List E->List Expr->Prop
 |nil:f9 m [] []
 |cons {f fs x U:_}:PTE m f x->f9 m fs U->f9 m (f::fs) (x::U)
abbrev CkE(m:MC)(f:E)(e:Expr):Type:=Option (PLift (PE m f e))
abbrev CkT(m:MC)(f:E)(e:Expr):Type:=Option (PLift (PTE m f e))
abbrev CkI(m:MC)(tg:Expr)(f:E)(e:Expr):Type:=Option (PLift (PIE m tg f e))
abbrev eK(m:MC)(f:List E)(e:List Expr):Type:=Option (PLift (eA m f e))
abbrev CkF(m:MC)(f:List E)(e:List Expr):Type:=Option (PLift (f9 m f e))
abbrev CkO(m:MC)(f:Option E)(e:Option Expr):Type:=Option (PLift (∀{k:Nat}{W:WD}{C:Cw}{X:Cx},SX k W m C X->POv C X e (evO W f)))
def got{P:Prop}:∀{o:Option (PLift P)},o.isSome=true->P|some p,_=>p.down|none,h=>nomatch h
section
variable{W:WD}
theorem eA.star:∀{fs:List E}{es:List Expr},eA m fs es->∀x∈es,bI x=true|_,_,.nil=>λx hx=>by cases hx|_,_,.cons s _ q=>λx hx=>by rcases aXV.mp hx with rfl|hx;{exact s};exact q.star x hx
theorem eA.es(S:SX k W m C X):∀{fs:List E}{es:List Expr},eA m fs es->PAv C X es (bS W fs)|_,_,.nil=>by simp only[bS];exact nJ|_,_,.cons s p q=>by simp only[bS];exact jZ (p S) (q.es S) (bQ s)
theorem eA.l(S:SX k W m C X):∀{fs:List E}{es:List Expr},eA m fs es->PVL C X es (evL W fs)|_,_,.nil=>by simp only[evL];exact .nil|_,_,.cons s p q=>by simp only[evL];exact .cons (p S) (q.l S)
theorem eA.a{pos:Pos}(S:SX k W m C X):∀{fs:List E}{es:List Expr},eA m fs es->PV C X (.BoolOp .And es pos) (evA W fs)|_,_,.nil=>λO s σ H Q I q=>by rw[aU]at q;exists Y,F,R,w,q;exact w.elim|_,_,.cons s p .nil=>by simp only[evA];exact zK (p S)|_,_,.cons s p (.cons s' d q)=>by simp only[evA];exact aLU (p S) (eA.a S (.cons s' d q))
theorem eA.o{pos:Pos}(S:SX k W m C X):∀{fs:List E}{es:List Expr},eA m fs es->PV C X (.BoolOp .Or es pos) (d9 W fs)|_,_,.nil=>λO s σ H Q I q=>by rw[aU]at q;exists Y,F,R,w,q;exact w.elim|_,_,.cons s p .nil=>by simp only[d9];exact zK (p S)|_,_,.cons s p (.cons s' a q)=>by simp only[d9];exact aLV (p S) (eA.o S (.cons s' a q))
theorem f9.a{pos:Pos}(S:SX k W m C X):∀{fs:List E}{es:List Expr},f9 m fs es->PWv C X (.BoolOp .And es pos) (evA W fs)|_,_,.nil=>λdA O s σ H Q I q=>by exists Y,F,R,w,q;exact w.elim|_,_,.cons p .nil=>by simp only[evA];exact zI (p S)|_,_,.cons p (.cons d q)=>by simp only[evA];exact aLS (p S) (f9.a S (.cons d q))
theorem f9.o{pos:Pos}(S:SX k W m C X):∀{fs:List E}{es:List Expr},f9 m fs es->PWv C X (.BoolOp .Or es pos) (d9 W fs)|_,_,.nil=>λdA O s σ H Q I q=>by exists Y,F,R,w,q;exact w.elim|_,_,.cons p .nil=>by simp only[d9];exact zI (p S)|_,_,.cons p (.cons a q)=>by simp only[d9];exact aLT (p S) (f9.o S (.cons a q))
theorem f9.f(S:SX k W m C X):∀{fs:List E}{es:List Expr},f9 m fs es->dY X es (tT (C.at X) (evF W fs))|_,_,.nil=>by(have:evF W []=λ_=>.ok .fz (.bl true):=by funext Y;simp only[evF]);rw[this];exact aMR|f::fs,_,.cons p q=>by(have:evF W (f::fs)=λY=>eP (evE W f Y) (evF W fs Y):=by funext Y;simp only[evF]);rw[this];exact aMS (p S) (q.f S)
section
variable{fs:List E}{es:List Expr}{r:eK m fs es}{t:CkF m fs es}
def gSt(h:r.isSome=true):∀x∈es,bI x=true:=(got h).star
def gEs(h:r.isSome=true)(S:SX k W m C X):PAv C X es (bS W fs):=(got h).es S
def gL(h:r.isSome=true)(S:SX k W m C X):PVL C X es (evL W fs):=(got h).l S
def gA(h:r.isSome=true)(S:SX k W m C X):PV C X (.BoolOp .And es pos) (evA W fs):=(got h).a S
def gOr(h:r.isSome=true)(S:SX k W m C X):PV C X (.BoolOp .Or es pos) (d9 W fs):=(got h).o S
def gWA(h:t.isSome=true)(S:SX k W m C X):PWv C X (.BoolOp .And es pos) (evA W fs):=(got h).a S
def gWO(h:t.isSome=true)(S:SX k W m C X):PWv C X (.BoolOp .Or es pos) (d9 W fs):=(got h).o S
def gF(h:t.isSome=true)(S:SX k W m C X):dY X es (tT (C.at X) (evF W fs)):=(got h).f S
end
end
def aRC:PTv C X e (λ_=>.stuck):=by intro O s σ H Q I q;exists Y,F,R,w,q;exact w.elim
def aRD:PIv C X tg e (λ_=>.stuck):=by intro O s σ H R I q;exists Y,F,r,w,q;exact w.elim
noncomputable def aRE{a e:_}(r:CkE m a e):CkE m (.frz a) e:=if h:r.isSome=true then some #[λS=>eB (got h S)]else none
noncomputable def aRF{a e:_}(r:CkE m a e):CkT m (.tru a) e:=if h:(aCJ e&&r.isSome)=true then some #[λS=>by
 simp only[aZL]at h;exact aLQ (got h.2 S) (aQ7 h.1)]else none
noncomputable def aRG{tg a e:_}(r:CkE m a e):CkI m tg (.items a) e:=if h:r.isSome=true then some #[λS=>aMG (got h S)]else none
noncomputable def aRH{tg a e:_}(r:CkE m a e):CkI m tg (.nkeys a) e:=if h:r.isSome=true then some #[λS=>aP0 (got h S)]else none
noncomputable def aRI{tg a e:_}(r:CkE m a e):CkI m tg (.kkeys a) e:=if h:r.isSome=true then some #[λS=>aQQ (got h S)]else none
noncomputable def aRJ{i:_}{x:_}{p1:_}:CkE m (.var i) (.Name x p1):=if h:(m.N[i]?==some x&&m.vis x)=true then some #[λS=>by
 simp only[aZL,aYK]at h;exists f,d,a,S.vis h.2
 exact aK5 i (iF (by rw[S.hN];exact h.1) f d a)]else none
noncomputable def aRK{y:_}{c:_}{x:_}{p1:_}:CkE m (.glob y c) (.Name x p1):=if h:(x==y&&m.glob x (.con c)&&strK' c)=true then some #[λS=>by
 simp only[aZL,aYK]at h;obtain⟨⟨rfl,f⟩,d⟩:=h;exists g,l,hd,hn,S.gl f;have:=S.con _ _ l;cases c with|s y=>exists t,a,this;exact aL5 g a d hd|i n=>exists t,a,this;exact aL6 g a hd|t tb=>cases d]else none
noncomputable def kE_ty{t:_}{x:_}{p1:_}:CkE m (.ty t) (.Name x p1):=if h:(x==(t.id:Str)&&m.glob x .no)=true then some #[λS=>by
 simp only[aZL,aYK]at h;exists rfl,a,h;exists g,l,hd,hn,S.gl a;exact pv_ty g (S.no _ l) (aCK t) hn hd]else none
noncomputable def aRL{p0}{p1:_}:CkE m (.non) (.Constant .none p0 p1):=if h:(true)=true then some #[λS=>by
 exact aK7]else none
noncomputable def kE_bl{c:_}{b:_}{p1:_}{p2:_}:CkE m (.bl c) (.Constant (.bool b) p1 p2):=if h:(b==c)=true then some #[λS=>by
 simp only[aYK]at h;subst h;exact pv_bl]else none
noncomputable def aRM{c:_}{b:_}{p1:_}{p2:_}:CkE m (.int c) (.Constant (.int b) p1 p2):=if h:(b==c)=true then some #[λS=>by
 simp only[aYK]at h;subst h;exact aK6]else none
noncomputable def aRN{c:_}{b:_}{p1:_}{p2:_}:CkE m (.str c) (.Constant (.str b) p1 p2):=if h:(b==c&&strK b)=true then some #[λS=>by
 simp only[aZL,aYK]at h;exists rfl,h,h;exact aK8 h]else none
noncomputable def aRO{op}{a}{b:_}{x:_}{o}{y:_}{p3}(d:CkE m a x)(r:CkE m b y):CkE m (.bin op a b) (.BinOp x o y p3):=if h:(o==op&&(d.isSome&&r.isSome))=true then some #[λS=>by
 simp only[aZL,aYK]at h;exists rfl,l,f,h;exact pv_op (aQ6 _) (got l S) (got f S)]else none
noncomputable def aRP{op}{a}{b:_}{x:_}{o}{y:_}{p3}(d:CkE m a x)(r:CkE m b y):CkE m (.cmp op a b) (.Compare x [o] [y] p3):=if h:(o==op&&eJ y&&(d.isSome&&r.isSome))=true then some #[λS=>by
 simp only[aZL,aYK]at h;obtain⟨⟨rfl,hs⟩,l,f⟩:=h;exact lF (u7 _ S.un).1 (got l S) (got f S) (hZ _ hs)]else none
noncomputable def aRQ{es}{U:_}{p1:_}(r:eK m es U):CkE m (.andL es) (.BoolOp .And U p1):=if h:(r.isSome)=true then some #[λS=>by
 exact gA h S]else none
noncomputable def aRR{es}{U:_}{p1:_}(r:eK m es U):CkE m (.orL es) (.BoolOp .Or U p1):=if h:(r.isSome)=true then some #[λS=>by
 exact gOr h S]else none
noncomputable def aRS{a}{x:_}{p1:_}(r:CkE m a x):CkE m (.not a) (.UnaryOp .Not x p1):=if h:(r.isSome)=true then some #[λS=>by
 exact aLW (got h S)]else none
noncomputable def aRT{a}{x:_}{p1:_}(r:CkE m a x):CkE m (.neg a) (.UnaryOp .USub x p1):=if h:(r.isSome)=true then some #[λS=>by
 exact aLX (got h S)]else none
noncomputable def aRU{a}{l}{u:_}{x:_}{lo}{hi}{p3}{p4}(f:CkE m a x)(d:CkO m l lo)(r:CkO m u hi):CkE m (.slice a l u) (.Subscript x (.Slice lo hi none p3) p4):=if h:(f.isSome&&(d.isSome&&r.isSome))=true then some #[λS=>by
 simp only[aZL]at h;exists h0,A,o,h;exact aOG (got h0 S) (got A S) (got o S)]else none
noncomputable def kE_ix{a}{b:_}{x:_}{y:_}{p2:_}(d:CkE m a x)(r:CkE m b y):CkE m (.ix a b) (.Subscript x y p2):=if h:(mH y&&(d.isSome&&r.isSome))=true then some #[λS=>by
 simp only[aZL]at h;exists h0,l,f,h;exact pv_ix (got l S) (got f S) (u8 h0)]else none
noncomputable def aRV{es}{es0}{p1:_}{p2:_}(r:eK m es es0):CkE m (.tup es) (.Tuple es0 p1 p2):=if h:(r.isSome)=true then some #[λS=>by
 exact aL0 (gEs h S)]else none
noncomputable def aRW{es}{es0}{p1:_}(r:eK m es es0):CkE m (.lst es) (.List es0 p1):=if h:(r.isSome)=true then some #[λS=>by
 exact aL1 (gEs h S)]else none
noncomputable def aRX{g:_}{n:_}{es}{f}{p:_}{x:_}{U:_}{cp:_}(r:eK m es (x::U)):CkE m (.call g n es) (.Call (.Name f p) (x::U) [] cp):=if h:(m.calm&&f==g&&m.glob f (.fn n)&&r.isSome)=true then some #[λS=>by
 simp only[aZL,aYK]at h;obtain⟨⟨⟨a,rfl⟩,A⟩,d⟩:=h;exists gl,l,hd,hn,S.gl A;have st:=gSt d;exact aMV (S.fn _ _ l) (S.rm a) (S.xo a) gl (gEs d S) hd (bQ (st x mcs)) (i6 _ _ λy o=>st y (mcm o))]else none
noncomputable def aRY{b:_}{es}{f}{p:_}{x:_}{U:_}{cp:_}(r:eK m es (x::U)):CkE m (.bcall b es) (.Call (.Name f p) (x::U) [] cp):=if h:((m.calm||b == .len||b == .isinstance)&&f==b.name&&m.glob f .no&&r.isSome)=true then some #[λS=>by
 rw[aZL,aZL,aZL]at h;obtain⟨⟨⟨A,d⟩,B⟩,a⟩:=h;cases(aYK.mp d);exists gl,l,hd,hn,S.gl B;have st:=gSt a;exact zO (aQ2 b S.cm A) gl (S.no _ l) (aQ1 b) (gEs a S) hn hd (bQ (st x mcs)) (i6 _ _ λy o=>st y (mcm o))]else none
noncomputable def aRZ{t:_}{es}{f}{p1:_}{x:_}{U:_}{p4}(r:eK m es (x::U)):CkE m (.tcall t es) (.Call (.Name f p1) (x::U) [] p4):=if h:(f==(t.id:Str)&&m.glob f .no&&r.isSome)=true then some #[λS=>by
 simp only[aZL,aYK]at h;obtain⟨⟨rfl,d⟩,a⟩:=h;exists gl,l,hd,hn,S.gl d;exact aNH (aQ3 t) gl (S.no _ l) (aCK t) (gEs a S) hn hd (gSt a)]else none
noncomputable def aR0{a}{f}{es}{o}{g:_}{ap:_}{U:_}{cp:_}(A:CkE m a o)(r:eK m es U):CkE m (.meth a f es) (.Call (.Attribute o g ap) U [] cp):=if h:(m.calm&&g==f&&ap.endLine==cp.line&&decide (U.length<30)&&lM o&&(A.isSome&&r.isSome))=true then some #[λS=>by
 simp only[aZL,aYK,a0L]at h;obtain⟨⟨⟨⟨⟨l,rfl⟩,F⟩,E⟩,D⟩,B,d⟩:=h;exact aM6 S.mt (S.rm l) (S.xo l) (got B S) (gEs d S) D (gSt d) E F λG=>by
  subst G;cases es with|nil=>funext Y;simp only[bS]|cons _ _=>cases got d]else none
noncomputable def aR1{c:_}{f}{p1:_}{p2:_}:CkE m (.mk0 c) (.Call (.Name f p1) [] [] p2):=if h:(f==c&&m.glob f .cls&&m.g.mk0.contains f)=true then some #[λS=>by
 simp only[aZL,aYK,a2W]at h;obtain⟨⟨rfl,d⟩,a⟩:=h;exists gl,l,hd,hn,S.gl d;exact aM9 (S.mk0 _ a) gl hd]else none
noncomputable def aR2{y:_}{tb}{a}{x:_}{p1:_}{b:_}{p3}(r:CkE m a b):CkE m (.deed y tb a) (.Subscript (.Name x p1) b p3):=if h:(x==y&&m.glob x (.con (.t tb))&&mH b&&r.isSome)=true then some #[λS=>by
 simp only[aZL,aYK]at h;obtain⟨⟨⟨rfl,o⟩,f⟩,d⟩:=h;exists gl,l,hd,hn,S.gl o;exact aOP (S.con _ _ l) gl (got d S) (noSl f) hd]else none
noncomputable def aR3{i:_}{fs}{n:_}{es}{f}{p:_}{x:_}{U:_}{cp:_}(r:eK m es (x::U)):CkE m (.callv i fs n es) (.Call (.Name f p) (x::U) [] cp):=if h:(m.calm&&m.N[i]?==some f&&m.vis f&&fs.all (λg=>m.g.G.lookup g==some (.fn n))&&r.isSome)=true then some #[λS=>by
 simp only[aZL,aYK,a2C]at h;obtain⟨⟨⟨⟨a,D⟩,B⟩,A⟩,d⟩:=h;exists v1,v2,v3,S.vis B;have st:=gSt d
 exact aOQ (λg o=>S.fn g n (A g (a2W.mp o))) (S.rm a) (S.xo a) (iF (by rw[S.hN];exact D) v1 v2 v3) (gEs d S) (bQ (st x mcs)) (i6 _ _ λy l=>st y (mcm l))]else none
noncomputable def aR4{a}{b:_}{x:_}{o}{y:_}{p3}(d:CkE m a x)(r:CkE m b y):CkE m (.deqC a b) (.Compare x [o] [y] p3):=if h:(o == .Eq&&eJ y&&(d.isSome&&r.isSome))=true then some #[λS=>by
 simp only[aZL,aYK]at h;obtain⟨⟨rfl,hs⟩,l,f⟩:=h;exact lF (aCI S.un) (got l S) (got f S) (hZ _ hs)]else none
noncomputable def aR5{F f it:_}{aE:_}{t:_}{n:_}{kx vx}{tg:_}{iter:_}{scope:_}{cp:_}(o:CkI m tg it iter)(l:CkE (m.sub scope (aE.filterMap λi=>m.N[i]?) (c9 4 tg)) F kx)(r:CkE (m.sub scope (aE.filterMap λi=>m.N[i]?) (c9 4 tg)) f vx):CkE m (.dcomp F f it aE t n) (.DictComp kx vx [#[tg,iter,[],0]] scope cp):=if h:(m.calm&&kL scope m.sc m.N aE (aE.filterMap λi=>m.N[i]?) (c9 4 tg)&&eJ iter&&decide ((c9 4 tg).length=n)&&(dP t).all (λj=>decide (aE.length<=j))&&mG (m.sub scope (aE.filterMap λi=>m.N[i]?) (c9 4 tg)) t tg&&(o.isSome&&(l.isSome&&r.isSome)))=true then some #[λS=>by
 simp only[aZL,a0L,a2C]at h;obtain⟨⟨⟨⟨⟨⟨B,ho⟩,hn⟩,D⟩,hs⟩,G⟩,L,K,J⟩:=h;exists g1,g2,g3,g4,Z,W,V,T,aRB S ho;have:=aQU (pos:=cp) (tgN:=c9 4 tg) (t:=t) (S.cm B) (got L S) g1 g2 g3 g4 Z W V (λj E=>hs j E) (λcl A fp a d=>sG (S.sub cl A fp a d) T t G)
  (λcl A fp a d=>got K (S.sub cl A fp a d)) (λcl A fp a d=>got J (S.sub cl A fp a d)) (nZ hn)
 rw[D]at this;exact this]else none
noncomputable def aR6{a}{b:_}{o}{f}{ap:_}{x:_}{cp:_}(l:CkE m a o)(r:CkE m b x):CkE m (.tidx a b) (.Call (.Attribute o f ap) [x] [] cp):=if h:(f == "index" && ap.endLine==cp.line&&lM o&&bI x&&(l.isSome&&r.isSome))=true then some #[λS=>by
 simp only[aZL,aYK]at h;obtain⟨⟨⟨⟨rfl,A⟩,B⟩,hs⟩,E,D⟩:=h;exact aOO (got E S) (got D S) #[lN B,by rw[j6 _ _ (λy d=>by simp only[aXV,a1G,a1H]at d;subst d;exact hs)];rfl,aYK.mpr A,by rw[bQ hs];rfl]]else none
noncomputable def aR7{a}{b:_}{x:_}{y:_}{p2:_}(d:CkE m a x)(r:CkE m b y):CkE m (.dix a b) (.Subscript x y p2):=if h:(mH y&&(d.isSome&&r.isSome))=true then some #[λS=>by
 simp only[aZL]at h;exists h0,l,f,h
 exact aOJ (a2X (a2Y (by decide:1<=64) _) S.un) (got l S) (got f S) (u8 h0)]else none
noncomputable def aR8{neg:_}{a}{b:_}{x:_}{o}{y:_}{p3}(d:CkE m a x)(r:CkE m b y):CkE m (.din neg a b) (.Compare x [o] [y] p3):=if h:(o==(if neg then .NotIn else .In)&&eJ y&&(d.isSome&&r.isSome))=true then some #[λS=>by
 simp only[aZL,aYK]at h;obtain⟨⟨ho,hs⟩,l,f⟩:=h
 exact aOK ho (a2X (a2Y (by decide:1<=64) _) S.un) (got l S) (got f S) (hZ _ hs)]else none
noncomputable def aR9{el}{it:_}{ts}{aE:_}{t:_}{n:_}{elt:_}{tg:_}{iter:_}{ifs:_}{scope:_}{cp:_}(o:CkI m tg it iter)(l:CkE (m.sub scope (aE.filterMap λi=>m.N[i]?) (c9 4 tg)) el elt)(r:CkF (m.sub scope (aE.filterMap λi=>m.N[i]?) (c9 4 tg)) ts ifs):CkE m (.comp el it ts aE t n) (.ListComp elt [#[tg,iter,ifs,0]] scope cp):=if h:(m.calm&&kL scope m.sc m.N aE (aE.filterMap λi=>m.N[i]?) (c9 4 tg)&&eJ iter&&decide ((c9 4 tg).length=n)&&(dP t).all (λj=>decide (aE.length<=j))&&mG (m.sub scope (aE.filterMap λi=>m.N[i]?) (c9 4 tg)) t tg&&(o.isSome&&(l.isSome&&r.isSome)))=true then some #[λ{k}{W}{C}{X} S=>by
 simp only[aZL,a0L,a2C]at h;obtain⟨⟨⟨⟨⟨⟨B,ho⟩,hn⟩,D⟩,hs⟩,F⟩,K,J,G⟩:=h;unfold kL at ho;simp only[aZL,a2C,a0N,a2V,aYK,a0L,a2W]at ho;obtain⟨⟨⟨⟨⟨⟨⟨g1,g2⟩,g3⟩,g4⟩,Z⟩,V⟩,T⟩,L⟩:=ho;have er:(relabel scope X.env).names=lL scope m.sc:=by rw[<- S.hs];rfl
 have := aNV (pos := cp) (tgN := c9 4 tg) (t := t) (S.cm B) (got K S) g1 g2 (fun y d e => (g3 y d).resolve_left fun z => z e) (fun y d e => by
     have:=g4 y d;show X.env.scope.names.lookup y.1=_\/X.env.scope.names.lookup y.1=_;rw[S.hs];rcases this with(z|z)|z
     . exact absurd e z
     . exact .inl z
     . exact .inr z) (by rw[S.hN];exact Z) V (λy d=>by rw[er];exact T y d) (λj E=>hs j E) (λcl A fp a f=>sG (S.sub cl A fp a f) L t F)
     (λcl A fp a f=>gF G (S.sub cl A fp a f)) (λcl A fp a f=>got J (S.sub cl A fp a f)) (nZ hn)
 rw[D]at this;exact this]else none
noncomputable def aSA{p0}:CkE m (.nnew) (.Dict [] [] p0):=if h:(true)=true then some #[λS=>by
 exact aPE]else none
noncomputable def aSB{a}{b:_}{x:_}{y:_}{p2:_}(d:CkE m a x)(r:CkE m b y):CkE m (.nix a b) (.Subscript x y p2):=if h:(mH y&&(d.isSome&&r.isSome))=true then some #[λS=>by
 simp only[aZL]at h;exists h0,l,f,h;exact aPF S.un (got l S) (got f S) (u8 h0)]else none
noncomputable def aSC{neg:_}{a}{b:_}{x:_}{o}{y:_}{p3}(d:CkE m a x)(r:CkE m b y):CkE m (.nin neg a b) (.Compare x [o] [y] p3):=if h:(o==(if neg then .NotIn else .In)&&eJ y&&(d.isSome&&r.isSome))=true then some #[λS=>by
 simp only[aZL,aYK]at h;obtain⟨⟨ho,hs⟩,l,f⟩:=h;exact aPG ho S.un (got l S) (got f S) (hZ _ hs)]else none
noncomputable def aSD{a}{b:_}{d}{o}{f}{ap:_}{x:_}{y:_}{cp:_}(D:CkE m a o)(B:CkE m b x)(A:CkE m d y):CkE m (.nget a b d) (.Call (.Attribute o f ap) [x,y] [] cp):=if h:(f == "get" && ap.endLine==cp.line&&lM o&&bI x&&bI y&&(D.isSome&&(B.isSome&&A.isSome)))=true then some #[λS=>by
 simp only[aZL,aYK]at h;obtain⟨⟨⟨⟨⟨rfl,E⟩,F⟩,hs⟩,l⟩,K,J,G⟩:=h;exact aPI S.un (got K S) (got J S) (got G S) #[lN F,by
  rw[j6 _ _ (λz r=>by
   simp only[aXV,a1G,a1H]at r;rcases r with rfl|rfl
   . exact hs
   . exact l)];rfl,aYK.mpr E,by rw[bQ hs,bQ l];rfl]]else none
noncomputable def aSE{a}{f}{p1:_}{x:_}{p3}(r:CkE m a x):CkE m (.srtw a) (.Call (.Name f p1) [x] [] p3):=if h:(f == "sorted" && m.glob f .no&&bI x&&r.isSome)=true then some #[λS=>by
 simp only[aZL,aYK]at h;obtain⟨⟨⟨rfl,o⟩,hs⟩,d⟩:=h;exists gl,l,hd,hn,S.gl o;exact zO (aPX S.un) gl (S.no _ l) aAZ (jZ (got d S) nJ (bQ hs)) hn hd (bQ hs) rfl]else none
noncomputable def qU(N ps:List Str)(sc:Scope):Bool:=sc.kind == .function&&!sc.isCoroutine&&!sc.isGenerator&&decide N.Nodup&&(N.take ps.length==ps)&&ps.all (λx=>sc.names.lookup x==some .local||sc.names.lookup x==some .cell)&&sc.names.all (λy=>y.2 != .free)
def u9{N:List Str}(h:qU N ps sc=true):jU N ps sc:=by unfold qU at h;simp only[aZL,a2C,a0N,a2V,aYK,a0L,a1O]at h;obtain⟨⟨⟨⟨⟨⟨A,r⟩,o⟩,l⟩,f⟩,d⟩,a⟩:=h;exact#[A,r,o,l,f,d,a]
noncomputable def aSF{g:_}{a}{f}{p1:_}{x:_}{kw}{y:_}{q:_}{kp}{p3}(A:CkE m a x):CkE m (.srtf g a) (.Call (.Name f p1) [x] [#[some kw,.Name y q,kp]] p3):=if h:(m.calm&&f == "sorted" && m.glob f .no&&kw == "key" && bI x&&y==g&&m.glob g (.fn 1)&&A.isSome)=true then some #[λ{k}{W}{C}{X} S=>by
 simp only[aZL,aYK]at h;obtain⟨⟨⟨⟨⟨⟨⟨r,rfl⟩,J⟩,rfl⟩,F⟩,rfl⟩,D⟩,E⟩:=h;exists gl,l,_,_,S.gl J;exists G,L,o,_,S.gl D;cases hd:W.dp with
 |false=>rw[show evE W (.srtf y a)=λ_=>.stuck by funext Y;show(if W.dp=true then _ else _)=_;rw[hd];rfl];exact aCO|true =>
  exists j,B,fp,S.fp hd;rw[show evE W (.srtf y a)=λY=>cU (λd=>W.Ψ y [d]) (evE W a Y) by funext Y;show(if W.dp=true then _ else _)=_;rw[hd];rfl]
  exact aQH (S.cm r) S.un gl (S.no _ l) (got E S) F G o (fp y 1 L) (by rw[B];exact S.rm r)]else none
noncomputable def aSG{a}{b:_}{f}{p1:_}{x:_}{kw}{z:_}{ap:_}{body:_}{scope:_}{lp}{kp}{p3}(B:CkE m a x)(A:CkE (m.lam z scope) b body):CkE m (.srtl a b) (.Call (.Name f p1) [x] [#[some kw,.Lambda #[[],[#[z,none,ap]],none,[],[],none,[]] body scope lp,kp]] p3):=if h:(m.calm&&f == "sorted" && m.glob f .no&&kw == "key" && bI x&&m.q != "" && oR (m.q++".<locals>.") lp.line == "<lambda>" && qU [z] [z] scope&&(B.isSome&&A.isSome))=true then some #[λ{k}{W}{C}{X} S=>by
 simp only[aZL,aYK,a2V]at h;obtain⟨⟨⟨⟨⟨⟨⟨⟨E,rfl⟩,K⟩,rfl⟩,J⟩,D⟩,r⟩,o⟩,G,F⟩:=h;exists gl,l,_,_,S.gl K;cases hd:W.dp with
 |false=>rw[show evE W (.srtl a b)=λ_=>.stuck by funext Y;show(if W.dp=true then _ else _)=_;rw[hd];rfl];exact aCO|true =>
  rw[show evE W (.srtl a b)=λY=>cU (λd=>evE W.pred b [some (false,d)]) (evE W a Y) by funext Y;show(if W.dp=true then _ else _)=_;rw[hd];rfl]
  exact aQ9 S E hd D gl (S.no _ l) r (got G S) J (u9 o) (λL=>got F L)]else none
noncomputable def aSH{ks vs:_}{keys:List (Option Expr)}{p3}(d:eK m ks (keys.filterMap id))(r:eK m vs values):CkE m (.disp ks vs) (.Dict keys values p3):=if h:(keys.all (·.isSome)&&decide (keys.length=values.length)&&!keys.isEmpty&&decide (keys.length<=15)&&(d.isSome&&r.isSome))=true then some #[λS=>by
 simp only[aZL,a0L]at h;obtain⟨⟨⟨⟨B,A⟩,a⟩,o⟩,l,f⟩:=h;exact aO7 (gL l S) (gL f S) B A (λz=>by rw[z]at a;cases a) o]else none
noncomputable def aSI{a}{b:_}{x:_}{o}{y:_}{p3}(d:CkE m a x)(r:CkE m b y):CkT m (.deqC a b) (.Compare x [o] [y] p3):=if h:(o == .Eq&&eJ y&&(d.isSome&&r.isSome))=true then some #[λS=>by
 simp only[aZL,aYK]at h;obtain⟨⟨rfl,hs⟩,l,f⟩:=h;exact lI (aCI S.un) aQZ (got l S) (got f S) (hZ _ hs)]else none
noncomputable def aSJ{neg:_}{a}{b:_}{x:_}{o}{y:_}{p3}(B:CkE m a x)(r:CkE m b y):CkT m (.din neg a b) (.Compare x [o] [y] p3):=if h:(o==(if neg then .NotIn else .In)&&eJ y&&(B.isSome&&r.isSome))=true then some #[λ{k}{W}{C}{X} S=>by
 simp only[aZL,aYK]at h;obtain⟨⟨ho,hs⟩,l,f⟩:=h;have d:X.A.units+1<cLine:=a2X (a2Y (by decide:1<=64) _) S.un
 cases neg with|false=>cases(show _=CmpOp.In from ho);exact lI (aAQ d) aCL (got l S) (got f S) (hZ _ hs)|true=>cases(show _=CmpOp.NotIn from ho);exact lI (aAR d) aCL (got l S) (got f S) (hZ _ hs)]else none
noncomputable def aSK{neg:_}{a}{b:_}{x:_}{o}{y:_}{p3}(l:CkE m a x)(r:CkE m b y):CkT m (.nin neg a b) (.Compare x [o] [y] p3):=if h:(o==(if neg then .NotIn else .In)&&eJ y&&(l.isSome&&r.isSome))=true then some #[λS=>by
 simp only[aZL,aYK]at h;obtain⟨⟨ho,hs⟩,f,d⟩:=h;cases neg with|false=>cases(show _=CmpOp.In from ho);exact lI (aBB S.un) aCM (got f S) (got d S) (hZ _ hs)|true=>cases(show _=CmpOp.NotIn from ho);exact lI (aBC S.un) aCM (got f S) (got d S) (hZ _ hs)]else none
noncomputable def aSL{op}{a}{b:_}{x:_}{o}{y:_}{p3}(d:CkE m a x)(r:CkE m b y):CkT m (.cmp op a b) (.Compare x [o] [y] p3):=if h:(o==op&&eJ y&&(d.isSome&&r.isSome))=true then some #[λ{k}{W}{C}{X} S=>by
 simp only[aZL,aYK]at h;obtain⟨⟨rfl,hs⟩,l,f⟩:=h;exact lI (u7 _ S.un).1 (u7 (C:=C) _ S.un).2 (got l S) (got f S) (hZ _ hs)]else none
noncomputable def aSM{es}{U:_}{p1:_}(r:CkF m es U):CkT m (.andL es) (.BoolOp .And U p1):=if h:(r.isSome)=true then some #[λS=>by
 exact pt_w (gWA h S)]else none
noncomputable def aSN{es}{U:_}{p1:_}(r:CkF m es U):CkT m (.orL es) (.BoolOp .Or U p1):=if h:(r.isSome)=true then some #[λS=>by
 exact pt_w (gWO h S)]else none
noncomputable def aSO{a}{x:_}{p1:_}(r:CkT m a x):CkT m (.not a) (.UnaryOp .Not x p1):=if h:(r.isSome)=true then some #[λS=>by
 exact aLR (got h S)]else none
noncomputable def aSP{tg0}{a}{f}{p1:_}{x:_}{p3}(r:CkE m a x):CkI m tg0 (.rng1 a) (.Call (.Name f p1) [x] [] p3):=if h:(f == "range" && m.glob f .no&&bI x&&r.isSome)=true then some #[λS=>by
 simp only[aZL,aYK]at h;obtain⟨⟨⟨rfl,A⟩,d⟩,o⟩:=h;exists gl,l,hd,hn,S.gl A;exact aMI gl (S.no _ l) (jZ (got o S) nJ (bQ d)) (bQ d)]else none
noncomputable def aSQ{tg0}{a}{b:_}{c:_}{f}{p1:_}{x:_}{y:_}{z:_}{p4}(E:CkE m a x)(D:CkE m b y)(B:CkE m c z):CkI m tg0 (.rng3 a b c) (.Call (.Name f p1) [x,y,z] [] p4):=if h:(f == "range" && m.glob f .no&&bI x&&bI y&&bI z&&(E.isSome&&(D.isSome&&B.isSome)))=true then some #[λS=>by
 simp only[aZL,aYK]at h;obtain⟨⟨⟨⟨⟨rfl,K⟩,A⟩,o⟩,d⟩,J,G,F⟩:=h;exists gl,l,hd,hn,S.gl K;exact aO5 gl (S.no _ l) (jZ (got J S) (jZ (got G S) (jZ (got F S) nJ (bQ d)) (bQ o)) (bQ A)) (bQ A) (i6 _ _ λw r=>by
  simp only[aXV,a1G,a1H]at r;rcases r with rfl|rfl
  . exact o
  . exact d)]else none
noncomputable def aSR{tg0}{a}{f}{p1:_}{x:_}{p3}(r:CkE m a x):CkI m tg0 (.enum1 a) (.Call (.Name f p1) [x] [] p3):=if h:(f == "enumerate" && aQ0 tg0&&m.glob f .no&&bI x&&r.isSome)=true then some #[λS=>by
 simp only[aZL,aYK]at h;obtain⟨⟨⟨⟨rfl,o⟩,B⟩,d⟩,A⟩:=h;exists gl,l,hd,hn,S.gl B;cases tg0 <;> first
  |(cases o;done)
  |exact aN8 gl (S.no _ l) (jZ (eB (got A S)) nJ (bQ d)) (bQ d)]else none
noncomputable def kEs{f fs x U:_}(r:CkE m f x)(a:eK m fs U):eK m (f::fs) (x::U):=if h:(bI x&&r.isSome&&a.isSome)=true then some #[by
 simp only[aZL]at h;exact .cons h.1.1 (@got _ r h.1.2) (got h.2)]else none
noncomputable def kO{f x:_}(r:CkE m f x):CkO m (some f) (some x):=if h:r.isSome=true then some #[λS=>by simp only[evO];exact got h S]else none
noncomputable def kF{f fs x U:_}(r:CkT m f x)(a:CkF m fs U):CkF m (f::fs) (x::U):=if h:(r.isSome&&a.isSome)=true then some #[by
 simp only[aZL]at h;exact .cons (@got _ r h.1) (got h.2)]else none
set_option maxHeartbeats 4000000 in
mutual
noncomputable def ckE:(m:MC)->(f:E)->(e:Expr)->CkE m f e
 |m,.frz a,e=>aRE (ckE m a e)|m,.never,e=>some #[λ_=>aRA]|m,.var i,e=>match e with|.Name x p1=>aRJ|_=>none
 |m,.glob y c,e=>match e with|.Name x p1=>aRK|_=>none
 |m,.ty t,e=>match e with|.Name x p1=>kE_ty|_=>none
 |m,.non,e=>match e with|.Constant .none D p1=>aRL|_=>none
 |m,.bl c,e=>match e with|.Constant (.bool b) p1 p2=>kE_bl|_=>none
 |m,.int c,e=>match e with|.Constant (.int b) p1 p2=>aRM|_=>none
 |m,.str c,e=>match e with|.Constant (.str b) p1 p2=>aRN|_=>none
 |m,.bin F a b,e=>match e with|.BinOp x o y r=>aRO (ckE m a x) (ckE m b y)|_=>none
 |m,.cmp F a b,e=>match e with|.Compare x [o] [y] r=>aRP (ckE m a x) (ckE m b y)|_=>none
 |m,.andL es,e=>match e with|.BoolOp .And U p1=>aRQ (fK m es U)|_=>none
 |m,.orL es,e=>match e with|.BoolOp .Or U p1=>aRR (fK m es U)|_=>none
 |m,.not a,e=>match e with|.UnaryOp .Not x p1=>aRS (ckE m a x)|_=>none
 |m,.neg a,e=>match e with|.UnaryOp .USub x p1=>aRT (ckE m a x)|_=>none
 |m,.slice a l u,e=>match e with|.Subscript x (.Slice lo J none r) B=>aRU (ckE m a x) (ckO m l lo) (ckO m u J)|_=>none
 |m,.ix a b,e=>match e with|.Subscript x y p2=>kE_ix (ckE m a x) (ckE m b y)|_=>none
 |m,.tup es,e=>match e with|.Tuple A p1 p2=>aRV (fK m es A)|_=>none
 |m,.lst es,e=>match e with|.List A p1=>aRW (fK m es A)|_=>none
 |m,.call g n es,e=>match e with|.Call (.Name f p) (x::U) [] cp=>aRX (fK m es (x::U))|_=>none
 |m,.bcall b es,e=>match e with|.Call (.Name f p) (x::U) [] cp=>aRY (fK m es (x::U))|_=>none
 |m,.tcall t es,e=>match e with|.Call (.Name f p1) (x::U) [] B=>aRZ (fK m es (x::U))|_=>none
 |m,.meth a f es,e=>match e with|.Call (.Attribute o g ap) U [] cp=>aR0 (ckE m a o) (fK m es U)|_=>none
 |m,.mk0 c,e=>match e with|.Call (.Name f p1) [] [] p2=>aR1|_=>none
 |m,.nnew,e=>match e with|.Dict [] [] D=>aSA|_=>none
 |m,.srtw a,e=>match e with|.Call (.Name f p1) [x] [] r=>aSE (ckE m a x)|_=>none
 |m,.srtf g a,e=>match e with|.Call (.Name f p1) [x] [⟨some G,.Name y q,kp⟩] r=>aSF (ckE m a x)|_=>none
 |m,.srtl a b,e=>match e with|.Call (.Name f p1) [x] [⟨some G,.Lambda ⟨[],[⟨z,none,ap⟩],none,[],[],none,[]⟩ body scope W,kp⟩] r=>aSG (ckE m a x) (ckE (m.lam z scope) b body)|_=>none
 |m,.deed y tb a,e=>match e with|.Subscript (.Name x p1) b r=>aR2 (ckE m a b)|_=>none
 |m,.callv i fs n es,e=>match e with|.Call (.Name f p) (x::U) [] cp=>aR3 (fK m es (x::U))|_=>none
 |m,.tidx a b,e=>match e with|.Call (.Attribute o f ap) [x] [] cp=>aR6 (ckE m a o) (ckE m b x)|_=>none
 |m,.dix a b,e=>match e with|.Subscript x y p2=>aR7 (ckE m a x) (ckE m b y)|_=>none
 |m,.nix a b,e=>match e with|.Subscript x y p2=>aSB (ckE m a x) (ckE m b y)|_=>none
 |m,.din neg a b,e=>match e with|.Compare x [o] [y] r=>aR8 (ckE m a x) (ckE m b y)|_=>none
 |m,.nin neg a b,e=>match e with|.Compare x [o] [y] r=>aSC (ckE m a x) (ckE m b y)|_=>none
 |m,.deqC a b,e=>match e with|.Compare x [o] [y] r=>aR4 (ckE m a x) (ckE m b y)|_=>none
 |m,.dcomp S L it aE t n,e=>match e with|.DictComp K V [⟨tg,iter,[],0⟩] scope cp=>aR5 (ckI m tg it iter) (ckE (m.sub scope (aE.filterMap λi=>m.N[i]?) (c9 4 tg)) S K) (ckE (m.sub scope (aE.filterMap λi=>m.N[i]?) (c9 4 tg)) L V)|_=>none
 |m,.comp T it ts aE t n,e=>match e with|.ListComp elt [⟨tg,iter,ifs,0⟩] scope cp=>aR9 (ckI m tg it iter) (ckE (m.sub scope (aE.filterMap λi=>m.N[i]?) (c9 4 tg)) T elt) (ckF (m.sub scope (aE.filterMap λi=>m.N[i]?) (c9 4 tg)) ts ifs)|_=>none
 |m,.nget a b d,e=>match e with|.Call (.Attribute o f ap) [x,y] [] cp=>aSD (ckE m a o) (ckE m b x) (ckE m d y)|_=>none
 |m,.disp ks vs,e=>match e with|.Dict keys values r=>aSH (fK m ks (keys.filterMap id)) (fK m vs values)|_=>none
 |_,.tru _,_|_,.items _,_|_,.nkeys _,_|_,.kkeys _,_|_,.rng1 _,_|_,.rng3 _ _ _,_|_,.enum1 _,_=>none
noncomputable def ckT:(m:MC)->(f:E)->(e:Expr)->CkT m f e
 |m,.tru a,e=>aRF (ckE m a e)|m,.never,e=>some #[λ_=>aRC]|m,.deqC a b,e=>match e with|.Compare x [o] [y] d=>aSI (ckE m a x) (ckE m b y)|_=>none
 |m,.din neg a b,e=>match e with|.Compare x [o] [y] d=>aSJ (ckE m a x) (ckE m b y)|_=>none
 |m,.nin neg a b,e=>match e with|.Compare x [o] [y] d=>aSK (ckE m a x) (ckE m b y)|_=>none
 |m,.cmp l a b,e=>match e with|.Compare x [o] [y] d=>aSL (ckE m a x) (ckE m b y)|_=>none
 |m,.andL es,e=>match e with|.BoolOp .And U p1=>aSM (ckF m es U)|_=>none
 |m,.orL es,e=>match e with|.BoolOp .Or U p1=>aSN (ckF m es U)|_=>none
 |m,.not a,e=>match e with|.UnaryOp .Not x p1=>aSO (ckT m a x)|_=>none
 |_,_,_=>none
noncomputable def ckI:(m:MC)->(tg:Expr)->(f:E)->(e:Expr)->CkI m tg f e
 |m,tg,.items a,e=>aRG (ckE m a e)|m,tg,.nkeys a,e=>aRH (ckE m a e)|m,tg,.kkeys a,e=>aRI (ckE m a e)|m,tg,.never,e=>some #[λ_=>aRD]|m,T,.rng1 a,e=>match e with|.Call (.Name f p1) [x] [] d=>aSP (ckE m a x)|_=>none
 |m,T,.rng3 a b c,e=>match e with|.Call (.Name f p1) [x,y,z] [] l=>aSQ (ckE m a x) (ckE m b y) (ckE m c z)|_=>none
 |m,T,.enum1 a,e=>match e with|.Call (.Name f p1) [x] [] d=>aSR (ckE m a x)|_=>none
 |_,_,_,_=>none
noncomputable def fK:(m:MC)->(fs:List E)->(es:List Expr)->eK m fs es
 |m,[],es=>match es with|[]=>some #[.nil]|_=>none
 |m,f::fs,l=>match l with|x::U=>kEs (ckE m f x) (fK m fs U)|_=>none
noncomputable def ckO:(m:MC)->(f:Option E)->(e:Option Expr)->CkO m f e
 |m,none,e=>match e with|none=>some #[λ_=>True.intro]|_=>none
 |m,some f,l=>match l with|some x=>kO (ckE m f x)|_=>none
noncomputable def ckF:(m:MC)->(fs:List E)->(es:List Expr)->CkF m fs es
 |m,[],es=>match es with|[]=>some #[.nil]|_=>none
 |m,f::fs,l=>match l with|x::U=>kF (ckT m f x) (ckF m fs U)|_=>none
end
noncomputable def mE(m:MC)(f:E)(e:Expr):Bool:=(ckE m f e).isSome
noncomputable def mT(m:MC)(f:E)(e:Expr):Bool:=(ckT m f e).isSome
noncomputable def mI(m:MC)(tg:Expr)(f:E)(e:Expr):Bool:=(ckI m tg f e).isSome
noncomputable def mEs(m:MC)(f:List E)(e:List Expr):Bool:=(fK m f e).isSome
noncomputable def mF(m:MC)(f:List E)(e:List Expr):Bool:=(ckF m f e).isSome
section
variable{W:WD}
def sE(f:E)(S:SX k W m C X)(h:mE m f e=true):PV C X e (evE W f):=got h S
def sT(f:E)(S:SX k W m C X)(h:mT m f e=true):PTv C X e (evE W f):=got h S
def sI(f:E)(S:SX k W m C X)(h:mI m tg f e=true):PIv C X tg e (evE W f):=got h S
def sF(fs:List E){es:List Expr}(S:SX k W m C X)(h:mF m fs es=true):dY X es (tT (C.at X) (evF W fs)):=gF h S
end
inductive G where|app (k v:E)|for (it:E) (t:Tg) (g:G)
inductive S where
 |ret (e:E)|retV (i:Nat)|set (i:Nat) (e:E)|ite (c:E) (a b:List S)|for (it:E) (t:Tg) (body:List S)
 |expr (e:E)|never|asg (t:Tg) (e:E)|whl (n:Nat) (c:E) (body:List S)
 |app (i:Nat) (e:E)|lput (i:Nat) (k e:E)|setC (i:Nat) (fz:Bool) (e:E)|nput (i:Nat) (k e:E)|frzV (i:Nat)|nfrz (i:Nat)|grp (i:Nat) (g:G)|cmu (i:Nat) (f:Str) (n:Nat) (es:List E)|mput (b:List S)
noncomputable def evG(W:WD)(i:Nat):G->GM|.app k v=>jI i (evE W k) (evE W v)|.for it t g=>l6 t (evE W it) (evG W i g)
mutual
noncomputable def evS(W:WD):S->Rho->aH|.ret e,Y=>lJ (evE W e Y) Y|.retV i,Y=>gZ Y i|.set i e,Y=>dX Y i (evE W e Y)|.ite c a b,Y=>ifS (evE W c Y) Y (evB W a Y) (evB W b Y)|.for it t body,Y=>lK (evE W it Y) Y (aO t) (evB W body)|.asg t e,Y=>pO t Y (evE W e Y)|.whl n c body,Y=>dQ (evE W c) (evB W body) n Y|.expr e,Y=>(evE W e Y).thS Y λ_ _=>.nx Y|.app i e,Y=>eU Y i (evE W e Y)|.lput i k e,Y=>iQ Y i (evE W k Y) (evE W e Y)|.frzV i,Y=>lU Y i|.nfrz i,Y=>nV Y i|.grp i g,Y=>l7 i (evG W i g) Y|.cmu i f n es,Y=>jJ (W.Mu f) i Y n (bS W es Y)|.mput _,_=>.stuck|.nput i k e,Y=>eW Y i (evE W k Y) (evE W e Y)|.setC i fz e,Y=>dX Y i (if fz=true then aI (evE W e Y)else evE W e Y)|.never,_=>.stuck
noncomputable def evB(W:WD):List S->Rho->aH|[],Y=>.nx Y|s::r,Y=>(evS W s Y).thn (evB W r)
end
noncomputable def jL:Expr->Bool|.ListComp ..=>false|.SetComp ..=>false|.DictComp ..=>false|_=>true
noncomputable def mC(m:MC)(elt:Expr)(scope:Scope):E->List Comprehension->Bool
 |.comp a it ts aE t n,gens=>match gens with
  |[⟨tg,iter,ifs,0⟩] =>
   let aL:=aE.filterMap λi=>m.N[i]?
   let tgN:=c9 4 tg
   m.calm&&kL scope m.sc m.N aE aL tgN&&eJ iter&&decide (tgN.length=n)&&(dP t).all (λj=>decide (aE.length<=j))&&mG (m.sub scope aL tgN) t tg&&(mI m tg it iter&&(mE (m.sub scope aL tgN) a elt&&mF (m.sub scope aL tgN) ts ifs))
  |_=>false
 |_,_=>false
noncomputable def aCP:Expr->Bool|.Tuple ..=>false|_=>true
def kM{t:Option Expr}(h:jL e=true):swapsWith e t n env=pure false:=by cases e <;> first|rfl|cases h
def aSS(hs:env.scope=m.sc)(h:(jL e||m.kind x==some .cell)=true):swapsWith e (some (.Name x p)) n env=pure false:=by rw[a0N,aYK]at h;rcases h with h|h;{exact kM h};(have hk:env.kindOf x=some .cell:=by show env.scope.names.lookup x=_;rw[hs];exact h);(unfold swapsWith;have K:(NameKind.cell==NameKind.local)=false:=by decide);cases e <;> first|rfl|(simp[hk,K])
def aST{t:Expr}(h:aCP e=true):swappedStores [t] e env=pure none:=by unfold swappedStores;split;{rename_i q;split at q;{cases h};{cases h};cases q};rfl
def aSU:PSv C X st (λ_=>.stuck):=λO s σ H E I q=>by exists Y,F,R,w,q;exact w.elim
section
variable{W:WD}
structure SB(k:Nat)(W:WD)(m:MC)(C:Cw)(X:Cx):Prop extends SX k W m C X where
 nd:m.N.Nodup
 hp:PassesOwn (model X.prog X.w) X.A X.env X.xe
 ro:m.rz=true->RzOk (C.at X) X/\FnCx X/\XOk (HX1 X.prog X.w) (C.at X) X
end
def aSV{W:WD}(S:SB k W m C X)(fz:Bool){o it:E}{ts:List E}{l:Pos}{gens:List Comprehension}(h1:m.N[i]? = some x)(h2:m.kind x=some .local)(h3:m.sc.kind=.function)(Z:l.line=cp.line)(V:(scope.names.any λy=>y.1==x&&(y.2 == .local||y.2 == .cell))=false)(h:mC m elt scope (.comp o it ts aE t n) gens=true):PSv C X (.Assign [.Name x l] (.ListComp elt gens scope cp) sp) (λY=>dX Y i (if fz=true then aI (evE W (.comp o it ts aE t n) Y)else evE W (.comp o it ts aE t n) Y)):=by
 have hk:X.env.scope.names.lookup x=some .local:=by rw[S.hs];exact h2
 conv at h=>lhs;whnf
 split at h
 . rename_i tg iter ifs;simp only[aZL,a0L,a2C]at h;obtain⟨⟨⟨⟨⟨⟨G,ho⟩,hn⟩,J⟩,hs⟩,T⟩,r,K,F⟩:=h;unfold kL at ho;simp only[aZL,a2C,a0N,a2V,aYK,a0L,a2W]at ho;obtain⟨⟨⟨⟨⟨⟨⟨g1,g2⟩,g3⟩,g4⟩,g5⟩,g6⟩,g7⟩,g8⟩:=ho;have er:(relabel scope X.env).names=lL scope m.sc:=by rw[<- S.hs];rfl
   have bk:X.env.blockKind=.function:=by unfold Env.blockKind;rw[S.hs,h3];rfl
   have B:swapsWith (.ListComp elt [#[tg,iter,ifs,0]] scope cp) (some (.Name x l)) sp.line X.env=pure true:=by(have D:X.env.kindOf x=some .local:=hk;unfold swapsWith;have r:(ScopeKind.function==ScopeKind.function)=true:=by decide);(have K:(some NameKind.local==some NameKind.local)=true:=by decide);simp only[bk,D,Expr.pos,Z,V,r,K,a0Y];rfl
   have := aNW fz (pos := cp) (pos' := l) (spos := sp) (i := i) (x := x) (tgN := c9 4 tg) (t := t) (S.cm G) (sI it S.toSX r) g1 g2 (fun y d e => (g3 y d).resolve_left fun z => z e) (fun y d e => by
       have:=g4 y d;show X.env.scope.names.lookup y.1=_\/X.env.scope.names.lookup y.1=_;rw[S.hs];rcases this with(z|z)|z
       . exact absurd e z
       . exact .inl z
       . exact .inr z) (by rw[S.hN];exact g5) g6 (λy d=>by rw[er];exact g7 y d) (λj L=>hs j L) (λcl A fp a f=>sG (S.toSX.sub cl A fp a f) g8 t T)
       (λcl A fp a f=>sF ts (S.toSX.sub cl A fp a f) F) (λcl A fp a f=>sE o (S.toSX.sub cl A fp a f) K) (by rw[S.hN];exact S.nd) (by rw[S.hN];exact h1) hk B (nZ hn)
   rw[J]at this;exact this
 . cases h
abbrev CkS(m:MC)(f:D3.S)(st:Stmt):Type:=Option (PLift (∀{k:Nat}{W:WD}{C:Cw}{X:Cx},SB k W m C X->PSv C X st (evS W f)))
abbrev CkB(m:MC)(f:List D3.S)(sts:List Stmt):Type:=Option (PLift (∀{k:Nat}{W:WD}{C:Cw}{X:Cx},SB k W m C X->PBv C X sts (evB W f)))
noncomputable def aSW{f}{e:_}{p1:_}:CkS m (.ret f) (.Return (some e) p1):=if h:(mE m f e)=true then some #[λS=>by
 exact aMB (sE f S.toSX h)]else none
noncomputable def aSX{i:_}{x:_}{p1:_}{p2:_}:CkS m (.retV i) (.Return (some (.Name x p1)) p2):=if h:(m.N[i]?==some x&&m.vis x)=true then some #[λS=>by
 simp only[aZL,aYK]at h;exists f,d,a,S.toSX.vis h.2
 exact aMC i (iF (by rw[S.hN];exact h.1) f d a)]else none
noncomputable def aSY{i:_}{f}{x:_}{p1:_}{e:_}{p3}:CkS m (.set i f) (.Assign [.Name x p1] e p3):=if h:(m.loc i x&&(jL e||m.kind x==some .cell)&&mE m f e)=true then some #[λS=>by
 simp only[aZL]at h;obtain⟨⟨o,l⟩,a⟩:=h;exists b,c,d,S.toSX.loc o
 exact aME (by rw[S.hN];exact S.nd) b c (sE f S.toSX a) (aSS S.hs l) d]else none
noncomputable def aSZ{i:_}{f}{g:_}{x:_}{p1:_}{k:_}{p3}{e:_}{p5}:CkS m (.nput i f g) (.Assign [.Subscript (.Name x p1) k p3] e p5):=if h:(m.N[i]?==some x&&m.vis x&&jL e&&mE m f k&&mE m g e)=true then some #[λS=>by
 simp only[aZL,aYK]at h;obtain⟨⟨⟨⟨r,o⟩,l⟩,d⟩,a⟩:=h;exists v1,v2,v3,S.toSX.vis o
 exact aPJ i S.un (iF (by rw[S.hN];exact r) v1 v2 v3) (sE f S.toSX d) (sE g S.toSX a) (kM l)]else none
noncomputable def aS0{i:_}{fz}{f}{x:_}{px}{elt:_}{gens}{scope:_}{cp:_}{p6}:CkS m (.setC i fz f) (.Assign [.Name x px] (.ListComp elt gens scope cp) p6):=if h:(m.N[i]?==some x&&m.kind x==some .local&&m.sc.kind == .function&&px.line==cp.line&&!(scope.names.any λy=>y.1==x&&(y.2 == .local||y.2 == .cell))&&mC m elt scope f gens)=true then some #[λS=>by
 simp only[aZL,aYK,a1O]at h;obtain⟨⟨⟨⟨⟨A,r⟩,o⟩,l⟩,d⟩,a⟩:=h;cases f with|comp E it ts aE t n=>exact aSV S fz A r o l d a|_=>cases a]else none
noncomputable def aS1{f}{a}{b:_}{c:_}{x:_}{y:_}{p3}(d:CkB m a x)(r:CkB m b y):CkS m (.ite f a b) (.If c x y p3):=if h:(mT m f c&&(d.isSome&&r.isSome))=true then some #[λS=>by
 simp only[aZL]at h;exists A,o,l,h;exact aMD (sT f S.toSX A) (got o S) (got l S)]else none
noncomputable def aS2{f}{t:_}{b:_}{tg:_}{e:_}{body:_}{p3}(r:CkB m b body):CkS m (.for f t b) (.For tg e body [] p3):=if h:(m.calm&&mG m t tg&&eJ e&&(mI m tg f e&&r.isSome))=true then some #[λS=>by
 simp only[aZL]at h;obtain⟨⟨⟨a,A⟩,o⟩,l,d⟩:=h;exact aMJ S.hp (S.cm a) (sI f S.toSX l) (aNS (sG S.toSX S.nd t A)) (got d S) (nZ o)]else none
noncomputable def aS3{t:_}{f}{tg:_}{e:_}{p2:_}:CkS m (.asg t f) (.Assign [tg] e p2):=if h:(mG m t tg&&i8 tg&&jL e&&aCP e&&mE m f e)=true then some #[λS=>by
 simp only[aZL]at h;obtain⟨⟨⟨⟨r,o⟩,l⟩,d⟩,a⟩:=h;exact aNT (sE f S.toSX a) (sG S.toSX S.nd t r) (kM l) (aST d) o]else none
noncomputable def aS4{n:_}{f}{b:_}{c:_}{body:_}{p2:_}(r:CkB m b body):CkS m (.whl n f b) (.While c body [] p2):=if h:(mT m f c&&r.isSome)=true then some #[λ{k}{W}{C}{X} S=>by
 simp only[aZL]at h;have:evS W (.whl n f b)=dQ (evE W f) (evB W b) n:=by funext Y;rfl
 rw[this];exact aNU n S.hp (sT f S.toSX h.1) (got h.2 S)]else none
noncomputable def aS5{f}{e:_}{p1:_}:CkS m (.expr f) (.Expr e p1):=if h:(jL e&&mE m f e)=true then some #[λS=>by
 simp only[aZL]at h;exact aMA (sE f S.toSX h.2) (kM h.1)]else none
noncomputable def aS6{i:_}{f}{x:_}{p1:_}{a}{ap:_}{e:_}{cp:_}{p6}:CkS m (.app i f) (.Expr (.Call (.Attribute (.Name x p1) a ap) [e] [] cp) p6):=if h:(m.N[i]?==some x&&m.vis x&&a == "append" && ap.endLine==cp.line&&bI e&&mE m f e)=true then some #[λS=>by
 simp only[aZL,aYK]at h;obtain⟨⟨⟨⟨⟨A,r⟩,rfl⟩,o⟩,l⟩,d⟩:=h;exists v1,v2,v3,S.toSX.vis r
 exact aOC i (iF (by rw[S.hN];exact A) v1 v2 v3) (sE f S.toSX d) l o]else none
noncomputable def aS7{i f n es x p1 F p2 U cp o:_}:CkS m (.cmu i f n es) (.Expr (.Call (.Name F p2) (.Name x p1::U) [] cp) o):=if h:(m.calm&&m.N[i]?==some x&&m.vis x&&F==f&&m.glob f (.fn n)&&mEs m es U)=true then some #[λS=>by
 simp only[aZL,aYK]at h;obtain⟨⟨⟨⟨⟨a,D⟩,B⟩,rfl⟩,A⟩,d⟩:=h;exists v1,v2,v3,S.toSX.vis B;exists gl,l,hd,_,S.toSX.gl A;have st:=gSt d
 exact aQV (S.su _ _ l) (S.rm a) (S.xo a) gl hd i (iF (by rw[S.hN];exact D) v1 v2 v3) (gEs d S.toSX) (bQ rfl) (i6 _ _ λy r=>st y r)]else none
noncomputable def aS8{i:_}{f}{g:_}{x:_}{p1:_}{k:_}{p3}{e:_}{p5}:CkS m (.lput i f g) (.Assign [.Subscript (.Name x p1) k p3] e p5):=if h:(m.N[i]?==some x&&m.vis x&&jL e&&mE m f k&&mE m g e)=true then some #[λS=>by
 simp only[aZL,aYK]at h;obtain⟨⟨⟨⟨r,o⟩,l⟩,d⟩,a⟩:=h;exists v1,v2,v3,S.toSX.vis o
 exact aOU i (iF (by rw[S.hN];exact r) v1 v2 v3) (sE f S.toSX d) (sE g S.toSX a) (kM l)]else none
def aS9{W:WD}(S:SB k W m C X):PBv C X [] (evB W []):=by(have:evB W []=λY=>.nx Y:=by funext Y;simp only[evB]);rw[this];exact aL7
noncomputable def aTA{i fs sts:_}(r:CkB m fs sts):CkB m (.frzV i::fs) sts:=if h:r.isSome=true then some #[λ{k}{W}{C}{X} S=>by
 have:evB W (.frzV i::fs)=λY=>(lU Y i).thn (evB W fs):=by funext Y;rfl
 rw[this];exact aOR (got h S)]else none
noncomputable def aTB{i fs sts:_}(r:CkB m fs sts):CkB m (.nfrz i::fs) sts:=if h:r.isSome=true then some #[λ{k}{W}{C}{X} S=>by
 have:evB W (.nfrz i::fs)=λY=>(nV Y i).thn (evB W fs):=by funext Y;rfl
 rw[this];exact aP1 (got h S)]else none
abbrev CkG(m:MC)(i:Nat)(g:G)(st:Stmt):Type:=Option (PLift (∀{k:Nat}{W:WD}{C:Cw}{X:Cx},SB k W m C X->PGb C X st i (evG W i g)))
noncomputable def aTC{i:_}{f}{g:_}{x:_}{p:_}{sd}{ap1}{ke:_}{lp}{cp1}{an}{ap2}{ve}{cp2}{pos:_}:CkG m i (.app f g) (.Expr (.Call (.Attribute (.Call (.Attribute (.Name x p) sd ap1) [ke,.List [] lp] [] cp1) an ap2) [ve] [] cp2) pos):=if h:(m.N[i]?==some x&&m.vis x&&sd == "setdefault" && an == "append" && ap1.endLine==cp1.line&&ap2.endLine==cp2.line&&bI ke&&bI ve&&mE m f ke&&mE m g ve)=true then some #[λS=>by
 simp only[aZL,aYK]at h;obtain⟨⟨⟨⟨⟨⟨⟨⟨⟨B,A⟩,rfl⟩,rfl⟩,L⟩,l⟩,d⟩,a⟩,r⟩,o⟩:=h;exists v1,v2,v3,S.toSX.vis A
 exact aQL i S.un (iF (by rw[S.hN];exact B) v1 v2 v3) (sE f S.toSX r) (sE g S.toSX o) d a L l]else none
noncomputable def aTD{i:_}{f}{t:_}{g:_}{tg:_}{e:_}{st:_}{p3}(r:CkG m i g st):CkG m i (.for f t g) (.For tg e [st] [] p3):=if h:(m.calm&&mG m t tg&&eJ e&&!(dP t).contains i&&(mI m tg f e&&r.isSome))=true then some #[λS=>by
 simp only[aZL,a1O]at h;obtain⟨⟨⟨⟨d,B⟩,A⟩,a⟩,o,l⟩:=h;exact aQM S.hp (S.cm d) (sI f S.toSX o) (sG S.toSX S.nd t B) (λz=>by rw[a2W.mpr z]at a;cases a) (got l S) (nZ A)]else none
noncomputable def ckG(m:MC)(i:Nat):(g:G)->(st:Stmt)->CkG m i g st
 |.app f g,st=>match st with|.Expr (.Call (.Attribute (.Call (.Attribute (.Name x p) S l) [ke,.List [] L] [] d) an A) [V] [] a) pos=>aTC|_=>none
 |.for f t g,st=>match st with|.For tg e [st] [] o=>aTD (ckG m i g st)|_=>none
noncomputable def aTE{i g fs x p1 p2 sp st sts:_}(a:CkG m i g st)(r:CkB m fs sts):CkB m (.grp i g::fs) (.Assign [.Name x p1] (.Dict [] [] p2) sp::st::sts):=if h:(m.loc i x&&(a.isSome&&r.isSome))=true then some #[λ{k}{W}{C}{X} S=>by
 simp only[aZL]at h;exists o,l,f,h;exists b,c,d,S.toSX.loc o;have:evB W (.grp i g::fs)=λY=>(l7 i (evG W i g) Y).thn (evB W fs):=by funext Y;rfl
 rw[this];exact aQO (by rw[S.hN];exact S.nd) b c d (got l S) (got f S) (kM rfl)]else none
def aTF{g:Rho->aH}(h:∀Y,g Y=.stuck):PBv C X sts g:=λO s σ H E I q=>by exists Y,F,R,w,q;rw[h]at w;exact w.elim
noncomputable def evU(W:WD):List D3.S->Rho->aH|[.nput i k e],Y=>eW Y i (evE W k Y) (evE W e Y)|[.ite c [.nput i k e] [.nput a K E]],Y=>ifS (evE W c Y) Y (eW Y i (evE W k Y) (evE W e Y)) (eW Y a (evE W K Y) (evE W E Y))|_,_=>.stuck
abbrev CkU(m:MC)(b:List D3.S)(sts:List Stmt):Type:=Option (PLift (∀{k:Nat}{W:WD}{C:Cw}{X:Cx},SX k W m C X->PUv C X sts (evU W b)))
noncomputable def n5(m:MC)(i:Nat)(x:Str)(f g:E)(k e:Expr):Bool:=m.N[i]?==some x&&m.vis x&&jL e&&mE m f k&&mE m g e
def vA{i f g x p1 k d e a:_}(h:n5 m i x f g k e=true){W:WD}(S:SX j W m C X):PUv C X [.Assign [.Subscript (.Name x p1) k d] e a] (λY=>eW Y i (evE W f Y) (evE W g Y)):=by unfold n5 at h;simp only[aZL,aYK]at h;obtain⟨⟨⟨⟨B,A⟩,r⟩,o⟩,l⟩:=h;exists v1,v2,v3,S.vis A;exact aQW i S.un (iF (by rw[S.hN];exact B) v1 v2 v3) (sE f S o) (sE g S l) (kM r)
noncomputable def aTG{i f g x p1 k d e a:_}:CkU m [.nput i f g] [.Assign [.Subscript (.Name x p1) k d] e a]:=if h:n5 m i x f g k e=true then some #[λS=>vA h S]else none
noncomputable def aTH{c i f g a f2 G ce x p1 k A e r x2 q1 K l E d o:_}:CkU m [.ite c [.nput i f g] [.nput a f2 G]] [.If ce [.Assign [.Subscript (.Name x p1) k A] e r] [.Assign [.Subscript (.Name x2 q1) K l] E d] o] :=
 if h:(mT m c ce&&(n5 m i x f g k e&&n5 m a x2 f2 G K E))=true then some #[λS=>by
  simp only[aZL]at h;exact aQX (sT c S h.1) (vA h.2.1 S) (vA h.2.2 S)]else none
noncomputable def ckU(m:MC):(b:List D3.S)->(sts:List Stmt)->CkU m b sts
 |[.nput i f g],sts=>match sts with|[.Assign [.Subscript (.Name x p1) k d] e a]=>aTG|_=>none
 |[.ite c [.nput i f g] [.nput B f2 G]],sts=>match sts with|[.If ce [.Assign [.Subscript (.Name x p1) k d] e a] [.Assign [.Subscript (.Name l q1) K r] E o] A]=>aTH|_=>none
 |_,_=>none
noncomputable def vB{b sts:_}(r:CkU m b sts):CkB m [.mput b] sts:=if h:r.isSome=true then some #[λ{k}{W}{C}{X} S=>aTF λY=>rfl]else none
noncomputable def aTI{f fs st sts:_}(r:CkS m f st)(a:CkB m fs sts):CkB m (f::fs) (st::sts):=if h:(r.isSome&&a.isSome)=true then some #[λ{k}{W}{C}{X} S=>by
 rw[aZL]at h;have:evB W (f::fs)=λY=>(evS W f Y).thn (evB W fs):=by funext Y;simp only[evB]
 rw[this];exact aL9 (got h.1 S) (got h.2 S)]else none
set_option maxHeartbeats 4000000 in
mutual
noncomputable def ckS:(m:MC)->(f:D3.S)->(st:Stmt)->CkS m f st
 |m,.never,st=>some #[λ_=>aSU]|_,.frzV _,_|_,.nfrz _,_|_,.grp _ _,_|_,.mput _,_=>none|m,.cmu i f n es,st=>match st with|.Expr (.Call (.Name F p2) (.Name x p1::U) [] cp) l=>aS7|_=>none
 |m,.ret f,st=>match st with|.Return (some e) p1=>aSW|_=>none
 |m,.retV i,st=>match st with|.Return (some (.Name x p1)) p2=>aSX|_=>none
 |m,.set i f,st=>match st with|.Assign [.Name x p1] e d=>aSY|_=>none
 |m,.nput i f g,st=>match st with|.Assign [.Subscript (.Name x p1) k d] e o=>aSZ|_=>none
 |m,.setC i fz f,st=>match st with|.Assign [.Name x r] (.ListComp elt gens scope cp) l=>aS0|_=>none
 |m,.ite f a b,st=>match st with|.If c x y d=>aS1 (ckB m a x) (ckB m b y)|_=>none
 |m,.for f t b,st=>match st with|.For tg e body [] d=>aS2 (ckB m b body)|_=>none
 |m,.asg t f,st=>match st with|.Assign [tg] e p2=>aS3|_=>none
 |m,.whl n f b,st=>match st with|.While c body [] p2=>aS4 (ckB m b body)|_=>none
 |m,.expr f,st=>match st with|.Expr e p1=>aS5|_=>none
 |m,.lput i f g,st=>match st with|.Assign [.Subscript (.Name x p1) k d] e o=>aS8|_=>none
 |m,.app i f,st=>match st with|.Expr (.Call (.Attribute (.Name x p1) a ap) [e] [] cp) l=>aS6|_=>none
noncomputable def ckB:(m:MC)->(f:List D3.S)->(sts:List Stmt)->CkB m f sts
 |m,[],sts=>match sts with|[]=>some #[λS=>aS9 S]|_=>none
 |m,.frzV i::fs,sts=>aTA (ckB m fs sts)|m,.nfrz i::fs,sts=>aTB (ckB m fs sts)|m,.grp i g::fs,sts=>match sts with|.Assign [.Name x p1] (.Dict [] [] p2) sp::st::sts=>aTE (ckG m i g st) (ckB m fs sts)|_=>none
 |m,[.mput b],sts=>vB (ckU m b sts)|m,f::fs,sts=>match sts with|st::sts=>aTI (ckS m f st) (ckB m fs sts)|_=>none
end
noncomputable def mB(m:MC)(f:List D3.S)(sts:List Stmt):Bool:=(ckB m f sts).isSome
def sB{W:WD}(S:SB k W m C X)(f:List D3.S)(h:mB m f sts=true):PBv C X sts (evB W f):=got h S
abbrev IB:=Unit
structure CD where
 aE:List Str
 rn:Str
 ls:List Str
 b:List D3.S
structure FD where
 ps:List Str
 N:List Str
 b:List D3.S
 ins:List (Str×CD)
structure ID where
 c:Str
 ps:List Str
 N:List Str
 ib:IB
structure TB where
 T:List (Str×FD)
 I:List (Str×ID)
 cl:List CI
 xt:List ((Str×Str)×Bool)
 xi:List ((Str×Str)×Bool)
noncomputable def vC(W:WD)(i:ID):List D->Res:=λ_=>.stuck
noncomputable def n6(t:TB)(W:WD)(f:Str):List D->Res:=match t.T.lookup f with|some d=>phi d.ps.length d.N.length (evB W d.b)|none=>λ_=>.stuck
noncomputable def MsF(t:TB)(W:WD)(x:Str):D->KD->Option KD:=match t.T.lookup x with|some d=>λ_ _=>none|none=>λ_ _=>none
noncomputable def MuF(t:TB)(W:WD)(x:Str):D->List D->Option D:=match t.T.lookup x with
 |some d=>(match d.b with|[.mput b]=>jK d.ps.length d.N.length (evU W b)|_=>λ_ _=>none)
 |none=>λ_ _=>none
noncomputable def ClT(t:TB)(W:WD)(f n:Str):List (Str×D)->D->Res:=λ_ _=>.stuck
noncomputable def wyF(t:TB)(f:Str):Option fJ:=none
noncomputable def wd0(t:TB):WD:=#[λ_ _=>.stuck,λ_ _=>.stuck,λ_=>none,t.cl,t.xt,t.xi,false,λ_ _ _=>none,λ_ _ _ _=>.stuck,wyF t,λ_ _ _=>none]
noncomputable def WT(t:TB):Nat->WD|0=>wd0 t|1=>#[λf=>n6 t (wd0 t) f,λ_ _=>.stuck,λ_=>none,t.cl,t.xt,t.xi,true,MsF t (wd0 t),ClT t (wd0 t),wyF t,MuF t (wd0 t)]|k+2=>#[λf=>n6 t (WT t (k+1)) f,(WT t (k+1)).Φ,λkey=>match t.I.lookup key with|some i=>some (vC (WT t k) i)|none=>none,t.cl,t.xt,t.xi,true,MsF t (WT t (k+1)),ClT t (WT t (k+1)),wyF t,MuF t (WT t (k+1))]
def qV(t:TB):∀k,(WT t k).cl=t.cl|0|1|k+2=>rfl
def aCQ(t:TB):∀k,(WT t k).xt=t.xt|0|1|k+2=>rfl
def aCR(t:TB):∀k,(WT t k).xi=t.xi|0|1|k+2=>rfl
def WT_Wy(t:TB):∀k,(WT t k).Wy=wyF t|0|1|k+2=>rfl
def WT_Cl(t:TB):∀k,(WT t (k+1)).Cl=ClT t (WT t k)|0|k+1=>rfl
def aCS(t:TB):∀k x,(WT t (k+1)).Mu x=MuF t (WT t k) x|0,f|k+1,f=>rfl
def WT_Φ(t:TB):∀k f,(WT t (k+1)).Φ f=n6 t (WT t k) f|0,f|k+1,f=>rfl
noncomputable def bdOk(m:MC)(ps:List Str)(b:List D3.S)(st:Stmt):Bool:=mB m b (gW st)
noncomputable def jM(g:MG)(key:Str)(st:Stmt)(d:FD):Bool:=qU d.N d.ps (dL st)&&(bdOk #[d.N,dL st,g,true,true,true,key] d.ps d.b st&&d.ins.isEmpty)
noncomputable def idOk(g:MG)(st:Stmt)(d:ID):Bool:=false
noncomputable def aCT(K:Fg)(g:MG)(fa:Str->Addr)(key:Str)(d:FD):Prop :=
 ∃name st fd,Fun K name key st (fa key) fd/\cR K fd d.ps []/\jM g key st d=true
noncomputable def n8(K:Fg)(g:MG)(fa:Str->Addr):List (Str×FD)->Prop|[]=>True|(x,d)::r=>aCT K g fa x d/\n8 K g fa r
theorem n8.at{K:Fg}{g:MG}:∀{T:List (Str×FD)}{x:Str}{d:FD},n8 K g fa T->T.lookup x=some d->aCT K g fa x d|[],_,_,_,e=>by cases e|(y,D)::r,x,d,h,e=>by rw[a0K]at e;split at e;{rename_i a;cases e;rw[aYK]at a;subst a;exact h.1};exact h.2.at e
noncomputable def aCU(K:Fg)(mg:SOV)(g:MG)(key:Str)(d:ID):Prop :=
 ∃name st C f fd,W.nsIn K mainGlobals d.c=some (some (.ref C))/\mg d.c=some (.ref C)/\Mk K C f/\Fun K name key st f fd/\cR K fd d.ps []/\idOk g st d=true
noncomputable def n9(K:Fg)(mg:SOV)(g:MG):List (Str×ID)->Prop|[]=>True|(x,d)::r=>aCU K mg g x d/\n9 K mg g r
theorem n9.at{K:Fg}{g:MG}:∀{T:List (Str×ID)}{x:Str}{d:ID},n9 K mg g T->T.lookup x=some d->aCU K mg g x d|[],_,_,_,e=>by cases e|(y,D)::r,x,d,h,e=>by rw[a0K]at e;split at e;{rename_i a;cases e;rw[aYK]at a;subst a;exact h.1};exact h.2.at e
noncomputable def GVOk(w:a3K)(K:Fg)(mg:SOV)(fa:Str->Addr)(x:Str):GV->Prop|.con (.s y)=>∃t,mg x=some (.str y t)|.con (.i n)=>∃t,mg x=some (.int n t)|.con (.t tb)=>i9 w K mg x tb|.no=>mg x=none|.fn _=>mg x=some (.ref (fa x))|.cls=>True
noncomputable def oA(w:a3K)(K:Fg)(mg:SOV)(fa:Str->Addr):List (Str×GV)->Prop|[]=>True|(x,v)::r=>GVOk w K mg fa x v/\oA w K mg fa r
theorem oA.at{K:Fg}:∀{G:List (Str×GV)}{x:Str}{v:GV},oA w K mg fa G->G.lookup x=some v->GVOk w K mg fa x v|[],_,_,_,e=>by cases e|(y,V)::r,x,v,h,e=>by rw[a0K]at e;split at e;{rename_i a;cases e;rw[aYK]at a;subst a;exact h.1};exact h.2.at e
noncomputable def gOk(G:List (Str×GV))(T:List (Str×FD)):Bool:=G.all λ(x,v)=>match v with|.fn n=>(match T.lookup x with|some d=>d.ps.length==n|none=>false)|_=>true
theorem qW{T:List (Str×FD)}:∀{G:List (Str×GV)}{x:Str}{n:Nat},gOk G T=true->G.lookup x=some (.fn n)->∃d,T.lookup x=some d/\d.ps.length=n|[],_,_,_,e=>by cases e|(y,V)::r,x,n,h,e=>by unfold gOk at h;rw[aZR,aZL]at h;rw[a0K]at e;split at e;{rename_i f;cases e;rw[aYK]at f;subst f;have a:=h.1;dsimp only at a;cases q:T.lookup x with|none=>rw[q]at a;cases a|some d=>rw[q]at a;exact#[d,rfl,by simpa using a]};exact qW (G:=r) h.2 e
noncomputable def mtOk(cl:List CI)(T:List (Str×FD)):Bool:=cl.all λi=>i.meths.all λ(_,key,n)=>match T.lookup key with|some d=>d.ps.length==n|none=>false
noncomputable def aCV(mki:List (Str×Str×Nat))(I:List (Str×ID)):Bool:=mki.all λ(c,key,n)=>match I.lookup key with|some d=>d.c==c&&d.ps.length==n+1|none=>false
noncomputable def mJ(K:Fg)(fa:Str->Addr)(C:Addr):List (Str×Str×Nat)->Prop|[]=>True|(m,key,_)::r=>m7 K C m (fa key)/\mJ K fa C r
noncomputable def mK(K:Fg)(C:Addr):List Str->Prop|[]=>True|f::r=>sZ K C f/\mK K C r
noncomputable def oB(K:Fg)(fa:Str->Addr):List CI->Prop|[]=>True|i::r=>(∃C,W.nsIn K mainGlobals i.name=some (some (.ref C))/\Cls K C/\mJ K fa C i.meths/\mK K C i.flds)/\oB K fa r
theorem oB.at{K:Fg}:∀{cl:List CI}{i:CI},oB K fa cl->i∈cl->∃C,W.nsIn K mainGlobals i.name=some (some (.ref C))/\Cls K C/\mJ K fa C i.meths/\mK K C i.flds|[],_,_,h=>by cases h|j::r,i,h,a=>by rcases aXV.mp a with rfl|a;{exact h.1};exact h.2.at a
theorem mK.at{K:Fg}{C:Addr}:∀{l:List Str}{f:Str},mK K C l->f∈l->sZ K C f|[],_,_,h=>by cases h|j::r,i,h,a=>by rcases aXV.mp a with rfl|a;{exact h.1};exact h.2.at a
theorem mJ.at{K:Fg}{C:Addr}:∀{l:List (Str×Str×Nat)}{m key:Str}{n:Nat},mJ K fa C l->l.lookup m=some (key,n)->m7 K C m (fa key)|[],_,_,_,_,e=>by cases e|(m',a,N)::r,m,key,n,h,e=>by rw[a0K]at e;split at e;{rename_i d;cases e;rw[aYK]at d;subst d;exact h.1};exact h.2.at e
noncomputable def vD(g:MG)(T:List (Str×FD)):Bool:=g.sn.isEmpty
def aCW{g:MG}{T:List (Str×FD)}(h:vD g T=true)(hx:x∈g.sn):∃d:FD,T.lookup x=some d/\True/\True/\True/\g.G.lookup x=some (.fn 2):=by rw[a2Z.mp h]at hx;cases hx
def aTJ{b:List D3.S}(h:mB m [.mput b] sts=true):(ckU m b sts).isSome=true:=by have h:(vB (ckU m b sts)).isSome=true:=h;unfold vB at h;split at h;{assumption};cases h
noncomputable def vE(g:MG)(T:List (Str×FD)):Bool:=T.all λx=>x.2.ins.isEmpty||(match g.G.lookup x.1 with|some (.fn _)=>true|_=>false)
def aTK{g:MG}{T:List (Str×FD)}(h:vE g T=true){f:Str}{d:FD}(e:T.lookup f=some d)(hd:d.ins.isEmpty=false):∃n,g.G.lookup f=some (.fn n):=by have h:=a2C.mp h _ (aYX e);dsimp only at h;rw[hd,Bool.false_or]at h;split at h;{rename_i n q;exact#[n,q]};cases h
noncomputable def vF(g:MG)(T:List (Str×FD)):Bool:=g.cl.isEmpty
def aTL{g:MG}{T:List (Str×FD)}(h:vF g T=true){f a b:Str}(hx:(f,a,b,q)∈g.cl):∃d:FD,T.lookup f=some d/\True/\True/\True/\True/\g.G.lookup f=some (.fn 2):=by rw[a2Z.mp h]at hx;cases hx
structure GF(w:a3K)(K:Fg)(mg:SOV)(g:MG)(t:TB)(fa:Str->Addr):Prop where
 con:oA w K mg fa g.G
 gok:gOk g.G t.T=true
 all:n8 K g fa t.T
 alli:n9 K mg g t.I
 mk0:∀c,c∈g.mk0->tV K mg c
 mkok:aCV g.mki t.I=true
 iso:∀c,c∈g.iso->IsV K mg t.cl c
 cls:oB K fa t.cl
 mtok:mtOk t.cl t.T=true
 xtok:t8 K mg (λc x=>t.xt.lookup (c,x))
 xiok:t9 K mg (λc x=>t.xi.lookup (c,x))
 xcok:∀c,c∈g.xcs->∃Cc,mg c=some (.ref Cc)/\aAN K Cc
 xnok:∀n,n∈g.xns->∃cv,pS mg n cv
 snok:vD g t.T=true
 clok:vF g t.T=true
 insok:vE g t.T=true
 insns:∀f d,t.T.lookup f=some d->d.ins.isEmpty=false->W.nsIn K mainGlobals f=some (some (.ref (fa f)))
 clns:∀f a b h,(f,a,b,h)∈g.cl->W.nsIn K mainGlobals f=some (some (.ref (fa f)))
def aCX{K:Fg}{vs:List V}{Q:VK}{E:XK}(hz:∀ds,Φ ds=.stuck)(h:spV K mg n Φ vs H Q E):False:=by exists _,F,ds,_,_,h,h;rw[hz]at h;exact h
section
variable{K:Fg}{g:MG}{t:TB}
structure gB(P:a3L)(w:a3K)(K:Fg)(mg:SOV)(base:Heap)(g:MG)(t:TB)(fa:Str->Addr)(k:Nat):Prop where
 fn:∀key d,t.T.lookup key=some d->∃fd,bM P w K mg base (CX1 P w) k (fa key) fd d.ps (spV K mg d.ps.length ((WT t k).Φ key))/\cR K fd d.ps []/\W.keepIn K (.ref (fa key))=true
 fp:(WT t k).dp=true->∃j,j+1=k/\∀key d,t.T.lookup key=some d->∃fd,bM P w K mg base (CX1 P w) j (fa key) fd d.ps (spV K mg d.ps.length ((WT t k).Ψ key))/\cR K fd d.ps []/\W.keepIn K (.ref (fa key))=true
 ini:∀key d Φ,t.I.lookup key=some d->(WT t k).I key=some Φ->∃j,j+1<=k/\InV P w K mg base (CX1 P w) j d.c (d.ps.length-1) Φ
 mu:∀x,x∈g.sn->∃fd ps,bM P w K mg base (CX1 P w) k (fa x) fd ps (qR K ((WT t k).Ms x))/\cR K fd ps []/\W.keepIn K (.ref (fa x))=true
 cv:∀f n,qS P w K mg base k f n ((WT t k).Cl f n)
 ms:∀key d,t.T.lookup key=some d->∃fd,bM P w K mg base (CX1 P w) k (fa key) fd d.ps (nY K d.ps.length ((WT t k).Mu key))/\cR K fd d.ps []/\W.keepIn K (.ref (fa key))=true
def aTM(f:GF w K mg g t fa)(A:gB P w K mg base g t fa k){N:List Str}{fb E rb:Bool}(hP:X.prog=P)(hw:X.w=w)(hK:X.K=K)(G:X.mg=mg)(o:X.base=base)(hN:X.N=N)(hs:X.env.scope=sc)(cm:E=true->X.calm=true)(rm:E=true->bB k X.A)(un:X.A.units+64<cLine)(J:fb=true->∀x,X.fn x=true)(cd:q="" \/ (W.codeIn X.K X.env.code q=true/\X.env.qual=q++".<locals>."))(xo:E=true->XOk (CX1 X.prog X.w) (C.at X) X)(sw:(WT t k).dp=true->∀f I,(WT t k).Wy f=some I->FnW P w K mg base (CX1 P w) k f I):SX k (WT t k) #[N,sc,g,fb,E,rb,q] C X:=by
 subst hP hw hK G o;refine#[hN,hs,cm,rm,un,xo,?_,?_,f.xcok,f.xnok,λy c l=>?_,λy l=>f.con.at l,λc L=>f.mk0 c L,λc key n hm Φ e=>?_,λc L=>by rw[qV];exact f.iso c L,λi f' B hf=>?_,λc m key n e=>?_,λy n l=>?_,J,λhd=>?_,λy hy=>?_,λhd f1 a1 b1 g1 Z=>?_,A.cv,sw,(λy n l=>by
  exists d,e,rfl,qW f.gok l;exists fd,F,o,hk,A.ms y d e;exact#[fa y,fd,d.ps,F,f.con.at l,hk,o]),cd]
 . unfold WD.xf;rw[aCQ];exact f.xtok
 . unfold WD.xg;rw[aCR];exact f.xiok
 . have:=f.con.at l;cases c <;> exact this
 . have r:=a2C.mp f.mkok (c,key,n) hm;dsimp only at r;cases q:t.I.lookup key with|none=>rw[q]at r;cases r|some d=>rw[q]at r;simp only[aZL,aYK]at r;exists j,D,M,A.ini key d Φ q e;rw[r.1,r.2]at M;exact#[j,D,M]
 . rw[qV]at B;exists V,r,S,_,h4,f.cls.at B;exact#[V,r,S,h4.at hf]
 . rw[qV]at e;unfold CI.meth at e;split at e;{rename_i i ei;have B:=a2U ei;(have hn:i.name=c:=by simpa using List.find?_some ei);exists V,r,S,h3,_,f.cls.at B;have a:=a2C.mp (a2C.mp f.mtok i B) (m,key,n) (aYX e);dsimp only at a;cases q:t.T.lookup key with|none=>rw[q]at a;cases a|some d=>rw[q]at a;rw[aYK]at a;exists fd,F,o,_,A.fn key d q;rw[a]at F;exact#[V,fa key,fd,d.ps,by rw[<- hn];exact r,S,h3.at e,F,o]};cases e
 . exists d,e,rfl,qW f.gok l;exists fd,F,o,hk,A.fn y d e;exact#[fa y,fd,d.ps,F,f.con.at l,hk,o]
 . exists j,D,fp,A.fp hd;refine#[j,D,λy n l=>?_];exists d,e,rfl,qW f.gok l;exists fd,F,o,hk,fp y d e;exact#[fa y,fd,d.ps,F,f.con.at l,hk,o]
 . exists d,e,_,_,_,l,aCW f.snok hy;exists fd,ps,F,o,hk,A.mu y hy;exact#[fa y,fd,ps,F,f.con.at l,hk,o]
 . exists j,D,_,A.fp hd;rw[a2Z.mp f.clok]at Z;cases Z
def mu_0{f:Addr}:bM P w K mg base (CX1 P w) k f fd ps (qR K λ_ _=>none) :=
 #[λvs H Q E h=>(by exists _,_,_,_,_,_,_,_,_,_,_,_,_,_,e,_,h;cases e),λA outer s H args us vs Q E _ _ _ _ h=>(by exists _,_,_,_,_,_,_,_,_,_,_,_,_,_,e,_,h;cases e)]
def all_0 (f : GF w K mg g t fa) : gB P w K mg base g t fa 0 := #[fun key d e => by
      exists name,st,fd,F,a,_,f.all.at e;exact#[fd,#[λvs H Q E h=>(aCX (λ_=>rfl) h).elim,λA outer s H args us vs Q E _ _ _ _ h=>(aCX (λ_=>rfl) h).elim],a,F.kp],(λz=>by cases z),(λkey d Φ _ e=>by cases e),(λx hx=>by
      exists d,e,_,aCW f.snok hx;exists name,st,fd,F,a,_,f.all.at e;exact#[fd,d.ps,mu_0,a,F.kp]),(λ_ _=>u0),λkey d e=>by
      exists name,st,fd,F,a,_,f.all.at e;exact#[fd,u5,a,F.kp]]
def aTN(f:GF w K mg g t fa)(A:gB P w K mg base g t fa k)(hd:(WT t k).dp=true)(y:Str)(I:fJ)(h:(WT t k).Wy y=some I):FnW P w K mg base (CX1 P w) k y I:=by rw[WT_Wy]at h;exact nomatch (show(none:Option fJ)=some I from h)
def aCY(f:GF w K mg g t fa)(A:gB P w K mg base g t fa k){N:List Str}{F r:Bool}(B:X.prog=P)(l:X.w=w)(D:X.K=K)(a:X.mg=mg)(o:X.base=base)(hN:X.N=N)(hs:X.env.scope=sc)(cm:X.calm=true)(rm:bB k X.A)(d:F=true->∀x,X.fn x=true)(cd:q="" \/ (W.codeIn X.K X.env.code q=true/\X.env.qual=q++".<locals>."))(xo:XOk (CX1 X.prog X.w) (C.at X) X):SX k (WT t k) #[N,sc,g,F,true,r,q] C X:=aTM f A B l D a o hN hs (λ_=>cm) (λ_=>rm) rm.units d cd (λ_=>xo) λhd y I h=>aTN f A hd y I h
def aCZ(f:GF w K mg g t fa)(A:gB P w K mg base g t fa k)(y n:Str):qS P w K mg base (k+1) y n ((WT t (k+1)).Cl y n):=by rw[WT_Cl];exact u0
def vG(f:GF w K mg g t fa)(A:gB P w K mg base g t fa k){key:Str}{d:FD}{name:Str}{a:Addr}(F:Fun K name key st a fd)(e:t.T.lookup key=some d)(ok:jM g key st d=true):bM P w K mg base (CX1 P w) (k+1) a fd d.ps (spV K mg d.ps.length ((WT t (k+1)).Φ key)):=by
 unfold jM at ok;rw[aZL,aZL]at ok;have sc:=u9 ok.1;have:(WT t (k+1)).Φ key=phi d.ps.length d.N.length (evB (WT t k) d.b):=by rw[WT_Φ];unfold n6;rw[e]
 rw[this];have S:∀{C:Cw}{cdv:a3H},W.codeIn K cdv key=true->∀{r:a3J}{outer:List Env}{s:a3I}{H:Hp}{E:XK},C.EE=g9 mg E->bB k (r.deeper (envOfC key (dL st) s.heap.objs.size a cdv))->SB k (WT t k) #[d.N,dL st,g,true,true,true,key] C (cH (CX1 P w) P w K mg base d.N key (dL st) a cdv r outer s H E):=λ{C cdv} l {r outer s H E} o B =>
  #[aCY f A rfl rfl rfl rfl rfl rfl rfl rfl B (λ_ _=>rfl) (.inr #[l,rfl]) (t7 (K:=K) (H:=H) (outer:=outer) o),sc.nd,PassesOwn.leaving,λ_=>#[aOA (K:=K) (H:=H) (outer:=outer) o,fnCx,aOF (K:=K) (H:=H) (outer:=outer) o]]
 have ok2:=ok.2.1;unfold bdOk at ok2;exact aOB (k:=k) F sc λC cdv l r outer s H E o B=>sB (S l o B) d.b ok2
def aC0(f:GF w K mg g t fa)(A:gB P w K mg base g t fa k)(hx:x∈g.sn):∃fd ps,bM P w K mg base (CX1 P w) (k+1) (fa x) fd ps (qR K ((WT t (k+1)).Ms x))/\cR K fd ps []/\W.keepIn K (.ref (fa x))=true:=by rw[a2Z.mp f.snok]at hx;cases hx
theorem aC1(f:GF w K mg g t fa)(A:gB P w K mg base g t fa k){d:FD}(e:t.T.lookup x=some d):∃fd,bM P w K mg base (CX1 P w) (k+1) (fa x) fd d.ps (nY K d.ps.length ((WT t (k+1)).Mu x))/\cR K fd d.ps []/\PySem.W.keepIn K (.ref (fa x))=true:=by
 exists name,st,fd,F,o,ok,f.all.at e;rw[aCS];unfold MuF;rw[e];dsimp only;split
 . rename_i b eb;unfold jM at ok;rw[aZL,aZL,eb]at ok;have sc:=u9 ok.1;have r:=aTJ ok.2.1;refine#[fd,?_,o,F.kp];by_cases E:0<d.N.length
   . exact aQY F sc E λC cdv a J outer s H G D B=>got r (X:=cH (CX1 P w) P w K mg base d.N x (dL st) (fa x) cdv J outer s H G) (aCY f A rfl rfl rfl rfl rfl rfl rfl rfl B (λ_ _=>rfl) (.inr #[a,rfl]) (t7 (K:=K) (H:=H) (outer:=outer) D))
   . have:∀{W:WD},jK d.ps.length d.N.length (evU W b)=λ_ _=>none:=λ{W}=>by
       funext L ds;unfold jK;have:d.N=[]:=List.length_eq_zero_iff.mp (by lia)
       split
       . (have hp:d.ps=[]:=by have:=sc.pre;rw[‹d.N=[]›]at this;simpa using this.symm);rename_i l;rw[hp]at l;cases l
       . rfl
     rw[this];exact u5
 . exact#[fd,u5,o,F.kp]
def aTO(f:GF w K mg g t fa)(A:gB P w K mg base g t fa k){key:Str}{d:ID}(e:t.I.lookup key=some d):InV P w K mg base (CX1 P w) (k+1) d.c (d.ps.length-1) (vC (WT t k) d):=by exists name,st,r,a,fd,ns,l,M,F,o,ok,f.alli.at e;cases ok
theorem aC2(f:GF w K mg g t fa):∀k,gB P w K mg base g t fa k/\gB P w K mg base g t fa (k+1)|0=>by have A:gB P w K mg base g t fa 0:=all_0 f;refine#[A,λkey d e=>?_,λ_=>#[0,rfl,A.fn],(λkey d Φ _ e=>by cases e),(λx hx=>aC0 f A hx),aCZ f A,λkey d e=>aC1 f A e];exists name,st,fd,F,l,ok,f.all.at e;exact#[fd,vG f A F e ok,l,F.kp]|k+1=>by exists A,a,aC2 f k;refine#[a,λkey d e=>?_,λ_=>#[k+1,rfl,a.fn],λkey d Φ e E=>?_,(λx hx=>aC0 f a hx),aCZ f a,λkey d e=>aC1 f a e];{exists name,st,fd,F,l,ok,f.all.at e;exact#[fd,vG f a F e ok,l,F.kp]};(have E:(match t.I.lookup key with|some i=>some (vC (WT t k) i)|none=>none)=some Φ:=E);rw[e]at E;cases E;exact#[k+1,aYC _,aTO f A e]
end
noncomputable def vH(K:Fg)(Φ:List D->Res):Sp:=λvs H Q E=>∃a ns,vs=[.ref a]/\SqL K H a (ns.map V.int)/\Φ (pG ns)=.ok .fz (.bl true)/\∀H',Q (.bl true) H'
def aTP{K:Fg}{f:Addr}(h:bM P w K mg base CX k f fd ps (spV K mg 1 Φ)):bM P w K mg base CX k f fd ps (vH K Φ) :=
 h.imp λvs H Q E ⟨a,ns,e,d,hp,q⟩=>by subst e;refine#[rfl,H,pG ns,aD.refl _,aC.cons ?_ aC.nil,?_];{simp only[aB];exact#[a,_,rfl,d,zY ns]};rw[hp];exact#[by decide,λv F' H' s r _=>by rw[r.bl];exact q H']
def aTQ{K:Fg}{g:MG}{t:TB}(f:GF w K mg g t fa)(k:Nat){a:Addr}{d:FD}(F:Fun K "law" "law" st a fd)(e:t.T.lookup ("law":Str)=some d)(ok:jM g "law" st d=true)(l:d.ps.length=1):bM P w K mg base (CX1 P w) (k+1) a fd d.ps (vH K ((WT t (k+1)).Φ ("law":Str))):=by have:=vG (P:=P) (w:=w) (base:=base) f (aC2 f k).1 F e ok;rw[l]at this;exact aTP this
section
variable{W:WD}{a b c:E}{es:List E}
@[simp]theorem e_var{i:_}:evE W (.var i) Y=dG Y i:=Eq.trans rfl rfl
@[simp]theorem e_non:evE W .non Y=.ok .fz .non:=Eq.trans rfl rfl
@[simp]theorem e_bl{b:_}:evE W (.bl b) Y=.ok .fz (.bl b):=Eq.trans rfl rfl
@[simp]theorem e_int{i:_}:evE W (.int i) Y=.ok .fz (.int i):=Eq.trans rfl rfl
@[simp]theorem e_str{x:_}:evE W (.str x) Y=.ok .fz (.str x):=Eq.trans rfl rfl
@[simp]theorem e_globS{x y:_}:evE W (.glob x (.s y)) Y=.ok .fz (.str y):=Eq.trans rfl rfl
@[simp]theorem e_globI{x y:_}:evE W (.glob x (.i y)) Y=.ok .fz (.int y):=Eq.trans rfl rfl
@[simp]theorem e_ty{t:Ty}:evE W (.ty t) Y=.ok .fz (.ty t.id):=Eq.trans rfl rfl
@[simp]theorem e_bin{op}:evE W (.bin op a b) Y=op2 (a8 op) (evE W a Y) (evE W b Y):=Eq.trans rfl rfl
@[simp]theorem e_cmp{op}:evE W (.cmp op a b) Y=op2 (a9 op) (evE W a Y) (evE W b Y):=Eq.trans rfl rfl
@[simp]theorem vI:evE W (.andL es) Y=evA W es Y:=Eq.trans rfl rfl
@[simp]theorem e_orL:evE W (.orL es) Y=d9 W es Y:=Eq.trans rfl rfl
@[simp]theorem e_not:evE W (.not a) Y=iZ (evE W a Y):=Eq.trans rfl rfl
@[simp]theorem e_neg:evE W (.neg a) Y=pC (evE W a Y):=Eq.trans rfl rfl
@[simp]theorem e_tru:evE W (.tru a) Y=fT (evE W a Y):=Eq.trans rfl rfl
@[simp]theorem e_frz:evE W (.frz a) Y=aI (evE W a Y):=Eq.trans rfl rfl
@[simp]theorem e_ix:evE W (.ix a b) Y=op2 ixD (evE W a Y) (evE W b Y):=Eq.trans rfl rfl
@[simp]theorem e_slice{l h:_}:evE W (.slice a l h) Y=slP (evE W a Y) (evO W l) (evO W h) Y:=Eq.trans rfl rfl
@[simp]theorem e_tup:evE W (.tup es) Y=dO (bS W es Y):=Eq.trans rfl rfl
@[simp]theorem e_lst:evE W (.lst es) Y=j4 (bS W es Y):=Eq.trans rfl rfl
@[simp]theorem e_call{f n:_}:evE W (.call f n es) Y=aV n (W.Φ f) (bS W es Y):=Eq.trans rfl rfl
@[simp]theorem e_bcall{f:Bn}:evE W (.bcall f es) Y=eQ f.f (bS W es Y):=Eq.trans rfl rfl
@[simp]theorem e_items:evE W (.items a) Y=iN (aI (evE W a Y)):=Eq.trans rfl rfl
@[simp]theorem e_rng1:evE W (.rng1 a) Y=gN (aQ (evE W a Y) (.ok [])):=Eq.trans rfl rfl
@[simp]theorem e_enum1:evE W (.enum1 a) Y=pR (aQ (aI (evE W a Y)) (.ok [])):=Eq.trans rfl rfl
@[simp]theorem e_nnew:evE W .nnew Y=.ok .fr (.dtn []):=Eq.trans rfl rfl
@[simp]theorem e_nix:evE W (.nix a b) Y=op2 eD (evE W a Y) (evE W b Y):=Eq.trans rfl rfl
@[simp]theorem e_nin{neg:_}:evE W (.nin neg a b) Y=op2 (eV neg) (evE W a Y) (evE W b Y):=Eq.trans rfl rfl
@[simp]theorem aTR{k d:E}:evE W (.nget a k d) Y=lX (evE W a Y) (evE W k Y) (evE W d Y):=Eq.trans rfl rfl
@[simp]theorem e_nkeys:evE W (.nkeys a) Y=qL (evE W a Y):=Eq.trans rfl rfl
@[simp]theorem e_kkeys:evE W (.kkeys a) Y=l9 (evE W a Y):=Eq.trans rfl rfl
@[simp]theorem e_srtw:evE W (.srtw a) Y=eQ fY (aQ (evE W a Y) (.ok [])):=Eq.trans rfl rfl
@[simp]theorem e_deqC:evE W (.deqC a b) Y=op2 eqC (evE W a Y) (evE W b Y):=Eq.trans rfl rfl
@[simp]theorem aTS{it aE t n:_}:evE W (.dcomp a b it aE t n) Y=nX (evE W it Y) Y aE n (aO t) (λY=>evE W a Y) (λY=>evE W b Y):=Eq.trans rfl rfl
@[simp]theorem e_deed{x tb:_}:evE W (.deed x tb a) Y=kA tb (evE W a Y):=Eq.trans rfl rfl
@[simp]theorem e_callv{i fs n:_}:evE W (.callv i fs n es) Y=pU W.Φ fs n (dG Y i) (bS W es Y):=Eq.trans rfl rfl
@[simp]theorem e_dix:evE W (.dix a b) Y=op2 ixK (evE W a Y) (evE W b Y):=Eq.trans rfl rfl
@[simp]theorem e_tidx:evE W (.tidx a b) Y=lT (evE W a Y) (evE W b Y):=Eq.trans rfl rfl
@[simp]theorem e_din{neg:_}:evE W (.din neg a b) Y=op2 (inK neg) (evE W a Y) (evE W b Y):=Eq.trans rfl rfl
@[simp]theorem e_rng3{c:E}:evE W (.rng3 a b c) Y=kC (aQ (evE W a Y) (aQ (evE W b Y) (aQ (evE W c Y) (.ok [])))):=Eq.trans rfl rfl
@[simp]theorem eY{ts:List E}{aE t n:_}:evE W (.comp a b ts aE t n) Y=bO (evE W b Y) Y aE n (aO t) (λY=>evF W ts Y) (λY=>evE W a Y):=Eq.trans rfl rfl
@[simp]theorem aTT{ks vs:List E}:evE W (.disp ks vs) Y=hO Y ((evL W ks).zip (evL W vs)) []:=Eq.trans rfl rfl
@[simp]theorem el_nil:evL W []=[]:=by simp only[evL]
@[simp]theorem el_cons:evL W (a::es)=evE W a::evL W es:=by simp only[evL]
@[simp]theorem sg_nm{d:D}:aO (.nm i) d Y=some (Y.set i (some (false,d))):=by simp only[aO]
@[simp]theorem sg_tp{ts:List Tg}:aO (.tp ts) (.tup ds) Y=dZ ts ds Y:=by simp only[aO]
@[simp]theorem sg_tpl{ts:List Tg}:aO (.tp ts) (.lst ds) Y=dZ ts ds Y:=by simp only[aO]
@[simp]theorem sgs_nil:dZ [] [] Y=some Y:=by simp[dZ]
@[simp]theorem sgs_cons{ts:List Tg}{d:D}:dZ (t::ts) (d::ds) Y=(aO t d Y).bind (dZ ts ds):=by simp only[dZ];cases aO t d Y <;> rfl
@[simp]theorem e_tcall{t:Ty}:evE W (.tcall t es) Y=eQ t.f (bS W es Y):=Eq.trans rfl rfl
@[simp]theorem aTU{x:_}:evE W (.meth a x es) Y=fD W.cl W.Φ x (evE W a Y) (bS W es Y):=Eq.trans rfl rfl
@[simp]theorem e_mk0{x:_}:evE W (.mk0 x) Y=.ok .fr (.ins x []):=Eq.trans rfl rfl
@[simp]theorem es_nil:bS W [] Y=.ok []:=by simp only[bS]
@[simp]theorem es_cons:bS W (a::es) Y=aQ (evE W a Y) (bS W es Y):=by simp only[bS]
@[simp]theorem aC3:evA W [a] Y=evE W a Y:=by simp only[evA]
@[simp]theorem qX:evA W (a::b::es) Y=eP (evE W a Y) (evA W (b::es) Y):=by simp only[evA]
@[simp]theorem aTV:d9 W [a] Y=evE W a Y:=by simp only[d9]
@[simp]theorem aTW:d9 W (a::b::es) Y=orR (evE W a Y) (d9 W (b::es) Y):=by simp only[d9]
@[simp]theorem aC4:evF W [] Y=.ok .fz (.bl true):=by simp only[evF]
@[simp]theorem ef_cons:evF W (a::es) Y=eP (evE W a Y) (evF W es Y):=by simp only[evF]
@[simp]theorem eo_none:evO W none=none:=by simp only[evO]
@[simp]theorem eo_some:evO W (some a)=some (evE W a):=by simp only[evO]
@[simp]theorem aC5:evS W (.ret a) Y=lJ (evE W a Y) Y:=Eq.trans rfl rfl
@[simp]theorem s_retV{i:_}:evS W (.retV i) Y=gZ Y i:=Eq.trans rfl rfl
@[simp]theorem aC6{i:_}:evS W (.set i a) Y=dX Y i (evE W a Y):=Eq.trans rfl rfl
@[simp]theorem vJ{x y:List S}:evS W (.ite a x y) Y=ifS (evE W a Y) Y (evB W x Y) (evB W y Y):=Eq.trans rfl rfl
@[simp]theorem qY{y:List S}:evS W (.for a t y) Y=lK (evE W a Y) Y (aO t) (evB W y):=Eq.trans rfl rfl
@[simp]theorem s_asg:evS W (.asg t a) Y=pO t Y (evE W a Y):=Eq.trans rfl rfl
@[simp]theorem s_whl{n:_}{y:List S}:evS W (.whl n a y) Y=dQ (evE W a) (evB W y) n Y:=Eq.trans rfl rfl
@[simp]theorem aC7:evS W (.expr a) Y=(evE W a Y).thS Y λ_ _=>.nx Y:=Eq.trans rfl rfl
@[simp]theorem s_lput{i k:_}:evS W (.lput i k a) Y=iQ Y i (evE W k Y) (evE W a Y):=Eq.trans rfl rfl
@[simp]theorem aC8{i:_}:evS W (.app i a) Y=eU Y i (evE W a Y):=Eq.trans rfl rfl
@[simp]theorem s_frzV{i:_}:evS W (.frzV i) Y=lU Y i:=Eq.trans rfl rfl
@[simp]theorem s_nfrz{i:_}:evS W (.nfrz i) Y=nV Y i:=Eq.trans rfl rfl
@[simp]theorem aTX{i:_}:evS W (.nput i a b) Y=eW Y i (evE W a Y) (evE W b Y):=Eq.trans rfl rfl
@[simp]theorem aTY{i:_}:evS W (.setC i false a) Y=dX Y i (evE W a Y):=Eq.trans rfl rfl
@[simp]theorem qZ{i:_}:evS W (.setC i true a) Y=dX Y i (aI (evE W a Y)):=Eq.trans rfl rfl
@[simp]theorem s_cmu{i f n es:_}:evS W (.cmu i f n es) Y=jJ (W.Mu f) i Y n (bS W es Y):=Eq.trans rfl rfl
@[simp]theorem b_nil:evB W [] Y=.nx Y:=by simp only[evB]
@[simp]theorem kN{s:S}{r:List S}:evB W (s::r) Y=(evS W s Y).thn (evB W r):=by simp only[evB]
end
section
variable{m n:Md}{i j:Int}{d:D}
@[simp]theorem x_add:op2 (a8 .Add) (.ok m (.int i)) (.ok n (.int j))=.ok .fz (.int (i+j)):=rfl
@[simp]theorem x_sub:op2 (a8 .Sub) (.ok m (.int i)) (.ok n (.int j))=.ok .fz (.int (i-j)):=rfl
@[simp]theorem x_lt:op2 (a9 .Lt) (.ok m (.int i)) (.ok n (.int j))=.ok .fz (.bl (decide (i<j))):=rfl
@[simp]theorem x_le:op2 (a9 .LtE) (.ok m (.int i)) (.ok n (.int j))=.ok .fz (.bl (decide (i<=j))):=rfl
@[simp]theorem x_gt:op2 (a9 .Gt) (.ok m (.int i)) (.ok n (.int j))=.ok .fz (.bl (decide (j<i))):=rfl
@[simp]theorem x_ge:op2 (a9 .GtE) (.ok m (.int i)) (.ok n (.int j))=.ok .fz (.bl (decide (j<=i))):=rfl
@[simp]theorem kP(h:0<j):op2 (a8 .Mod) (.ok m (.int i)) (.ok n (.int j))=.ok .fz (.int (i % j)):=by show Res.of (if decide (0<j)=true then _ else _)=_;rw[al (aZ8 h)];rfl
def x_div(h:0<j)(a:bits j=true):op2 (a8 .FloorDiv) (.ok m (.int i)) (.ok n (.int j))=.ok .fz (.int (i / j)):=by show Res.of (if(decide (0<j)&&bits j)=true then _ else _)=_;rw[al (by rw[a,aZ8 h];rfl)];rfl
def aTZ(h:i.natAbs<10 ^ 2000):bits i=true:=by unfold bits;refine aZ8 ?_;by_cases h0:i.natAbs=0;{rw[h0];decide};refine(Nat.log2_lt h0).mpr (Nat.lt_trans h ?_);decide +kernel
def aC9{N:Nat}(h:i.natAbs<=N)(hN:N<10 ^ 2000:=by decide +kernel):bits i=true:=aTZ (a2X h hN)
@[simp]theorem aT0(h:0<j)(a:j.natAbs<=1000000000):op2 (a8 .FloorDiv) (.ok m (.int i)) (.ok n (.int j))=.ok .fz (.int (i / j)):=x_div h (aC9 a)
def aDA(h:((bits i&&bits j)||(w64 i||w64 j))=true):op2 (a8 .Mult) (.ok m (.int i)) (.ok n (.int j))=.ok .fz (.int (i * j)):=by show Res.of (((if((bits i&&bits j)||(w64 i||w64 j))=true then _ else _:Option (Md×D)).orElse _).orElse _)=_;rw[al h];rfl
def vK(f:bits i=true)(a:bits j=true):op2 (a8 .Mult) (.ok m (.int i)) (.ok n (.int j))=.ok .fz (.int (i * j)):=aDA (by rw[f,a];rfl)
theorem vL(h:i.natAbs<9000000000000000000):op2 (a8 .Mult) (.ok m (.int i)) (.ok n (.int j))=.ok .fz (.int (i * j)):=aDA (by
 have:w64 i=true:=aZ8 (by lia)
 rw[this];simp)
def bJ{a:Md->D->Md->D->Option (Md×D)}{x d:D}{k:Md}(h:a m x n y=some (k,d)):op2 a (.ok m x) (.ok n y)=.ok k d:=by show Res.of (a m x n y)=_;rw[h];rfl
@[simp]theorem aDB:op2 (a9 .Eq) (.ok m (.int i)) (.ok n (.int j))=.ok .fz (.bl (i==j)):=bJ rfl
@[simp]theorem x_neI:op2 (a9 .NotEq) (.ok m (.int i)) (.ok n (.int j))=.ok .fz (.bl (i != j)):=bJ rfl
@[simp]theorem x_eqB{a b:Bool}:op2 (a9 .Eq) (.ok m (.bl a)) (.ok n (.bl b))=.ok .fz (.bl (a==b)):=bJ rfl
@[simp]theorem x_neB{a b:Bool}:op2 (a9 .NotEq) (.ok m (.bl a)) (.ok n (.bl b))=.ok .fz (.bl (a != b)):=bJ rfl
@[simp]theorem x_eqS{a b:Str}:op2 (a9 .Eq) (.ok m (.str a)) (.ok n (.str b))=.ok .fz (.bl (a==b)):=bJ (by rfl)
@[simp]theorem x_neS{a b:Str}:op2 (a9 .NotEq) (.ok m (.str a)) (.ok n (.str b))=.ok .fz (.bl (a != b)):=bJ (by rfl)
@[simp]theorem x_inS{a b:Str}:op2 (a9 .In) (.ok m (.str a)) (.ok n (.str b))=.ok .fz (.bl (lH a b)):=bJ rfl
@[simp]theorem x_notinS{a b:Str}:op2 (a9 .NotIn) (.ok m (.str a)) (.ok n (.str b))=.ok .fz (.bl (!lH a b)):=bJ rfl
@[simp]theorem aDC{a b:Str}(h:a.length+b.length<=sizeLine):op2 (a8 .Add) (.ok m (.str a)) (.ok n (.str b))=.ok .fz (.str (a++b)) :=
 bJ (by
  have:fS (λi j=>decide (i.length+j.length<=sizeLine)) (λi j=>D.str (i++j)) m (.str a) n (.str b)=some (Md.fz,D.str (a++b)):=by show(if decide (a.length+b.length<=sizeLine)=true then some (Md.fz,D.str (a++b))else none)=_;rw[al (aZ8 h)]
  show orO (orO (fI (λ_ _=>true) λi j=>.int (i+j)) (fS (λi j=>decide (i.length+j.length<=sizeLine)) λi j=>.str (i++j))) pI m (.str a) n (.str b)=_;simp only[orO,this];rfl)
@[simp]theorem x_isN{d:D}:op2 (a9 .Is) (.ok m d) (.ok n .non)=.ok .fz (.bl (gO d)):=bJ rfl
@[simp]theorem x_isnotN{d:D}:op2 (a9 .IsNot) (.ok m d) (.ok n .non)=.ok .fz (.bl (!gO d)):=bJ rfl
@[simp]theorem aT1{x y:List D}(h:x.length+y.length<=sizeLine):op2 (a8 .Add) (.ok m (.lst x)) (.ok n (.lst y))=.ok .fr (.lst (x++y)):=bJ (by
 show(if x.length+y.length<=sizeLine then some (Md.fr,D.lst (x++y))else none)=_;rw[al h])
@[simp]theorem aDD{x y:List D}(h:x.length+y.length<=sizeLine):op2 (a8 .Add) (.ok m (.tup x)) (.ok n (.tup y))=.ok .fz (.tup (x++y)):=bJ (by
 show(if x.length+y.length<=sizeLine then some (Md.fz,D.tup (x++y))else none)=_;rw[al h])
@[simp]theorem isn_n:gO .non=true:=rfl
@[simp]theorem isn_i{i:Int}:gO (.int i)=false:=rfl
@[simp]theorem isn_b{i:Bool}:gO (.bl i)=false:=rfl
@[simp]theorem isn_s{i:Str}:gO (.str i)=false:=rfl
@[simp]theorem isn_t{i:List D}:gO (.tup i)=false:=rfl
@[simp]theorem isn_l{i:List D}:gO (.lst i)=false:=rfl
@[simp]theorem x_andT{y:Res}:eP (.ok m (.bl true)) y=y:=rfl
@[simp]theorem x_andF{y:Res}:eP (.ok m (.bl false)) y=.ok .fz (.bl false):=rfl
@[simp]theorem x_orT{y:Res}:orR (.ok m (.bl true)) y=.ok .fz (.bl true):=rfl
@[simp]theorem x_orF{y:Res}:orR (.ok m (.bl false)) y=y:=rfl
@[simp]theorem x_and{a b:Bool}:eP (.ok m (.bl a)) (.ok .fz (.bl b))=.ok .fz (.bl (a&&b)):=by cases a <;> rfl
@[simp]theorem x_or{a b:Bool}:orR (.ok m (.bl a)) (.ok .fz (.bl b))=.ok .fz (.bl (a||b)):=by cases a <;> rfl
@[simp]theorem x_not{a:Bool}:iZ (.ok m (.bl a))=.ok .fz (.bl (!a)):=rfl
@[simp]theorem x_tru{a:Bool}:fT (.ok m (.bl a))=.ok .fz (.bl a):=rfl
@[simp]theorem x_truI:fT (.ok m (.int i))=.ok .fz (.bl (i != 0)):=rfl
@[simp]theorem x_neg:pC (.ok m (.int i))=.ok .fz (.int (-i)):=rfl
@[simp]theorem x_ifT{x y:aH}:ifS (.ok m (.bl true)) Y x y=x:=rfl
@[simp]theorem x_ifF{x y:aH}:ifS (.ok m (.bl false)) Y x y=y:=rfl
@[simp]theorem x_frz:aI (.ok .fz d)=.ok .fz d:=rfl
@[simp]theorem x_frr:aI (.ok .fr d)=.ok .fz d:=rfl
@[simp]theorem x_set:dX Y k (.ok .fz d)=.nx (Y.set k (some (false,d))):=rfl
@[simp]theorem x_setr:dX Y k (.ok .fr d)=.nx (Y.set k (some (true,d))):=rfl
@[simp]theorem x_ret:lJ (.ok .fz d) Y=.rt .fz d:=rfl
@[simp]theorem x_retr:lJ (.ok .fr d) Y=.rt .fr d:=rfl
@[simp]theorem g_0{r:Rho}:dG (some (false,d)::r) 0=.ok .fz d:=rfl
@[simp]theorem g_0b{r:Rho}:dG (some (true,d)::r) 0=.ok .bo d:=rfl
@[simp]theorem g_s{x:Option (Bool×D)}{r:Rho}{i:Nat}:dG (x::r) (i+1)=dG r i:=rfl
@[simp]theorem g_1{x:Option (Bool×D)}{r:Rho}:dG (x::r) 1=dG r 0:=rfl
@[simp]theorem rs_0{r:Rho}:gZ (some (false,d)::r) 0=.rt .fz d:=rfl
@[simp]theorem rs_0b{r:Rho}:gZ (some (true,d)::r) 0=.rt .fr d:=rfl
@[simp]theorem rs_1{x:Option (Bool×D)}{r:Rho}:gZ (x::r) 1=gZ r 0:=rfl
@[simp]theorem rs_s{x:Option (Bool×D)}{r:Rho}{i:Nat}:gZ (x::r) (i+1)=gZ r i:=rfl
@[simp]theorem r_set0{x y:Option (Bool×D)}{r:Rho}:(x::r).set 0 y=y::r:=rfl
@[simp]theorem x_callR{f:List (Md×D)->Option (Md×D)}{U:List (Md×D)}:eQ f (.ok U)=Res.of (f U):=rfl
@[simp]theorem bn_len:Bn.f .len=gM:=rfl
@[simp]theorem bn_isi:Bn.f .isinstance=i5:=rfl
@[simp]theorem ty_tuple:Ty.f .tuple=j7:=rfl
@[simp]theorem ty_list:Ty.f .list=lP:=rfl
@[simp]theorem tct_l{i:List D}:j7 [(m,.lst i)]=some (.fz,.tup i):=rfl
@[simp]theorem tct_t{i:List D}:j7 [(.fz,.tup i)]=some (.fz,.tup i):=rfl
@[simp]theorem tcl_l{i:List D}:lP [(m,.lst i)]=some (.fr,.lst i):=rfl
@[simp]theorem tcl_t{i:List D}:lP [(m,.tup i)]=some (.fr,.lst i):=rfl
@[simp]theorem len_s:gM [(m,.str z)]=some (.fz,.int z.length):=rfl
@[simp]theorem len_l{z:List D}:gM [(m,.lst z)]=some (.fz,.int z.length):=rfl
@[simp]theorem len_t{z:List D}:gM [(m,.tup z)]=some (.fz,.int z.length):=rfl
@[simp]theorem itm_l{z:List D}:iN (.ok m (.lst z))=.ok .fz (.lst z):=rfl
@[simp]theorem itm_t{z:List D}:iN (.ok m (.tup z))=.ok .fz (.lst z):=rfl
end
@[simp]theorem WT_xf{t:TB}:(WT t k).xf=λc x=>t.xt.lookup (c,x):=by unfold WD.xf;rw[aCQ]
@[simp]theorem WT_xg{t:TB}:(WT t k).xg=λc x=>t.xi.lookup (c,x):=by unfold WD.xg;rw[aCR]
section
variable{c:Str}
@[simp]theorem x_frx:aI (.exc c)=.exc c:=rfl
@[simp]theorem x_setx:dX Y k (.exc c)=.exc c Y:=rfl
@[simp]theorem x_retx:lJ (.exc c) Y=.exc c Y:=rfl
end
def aDE{N:Nat}{g:Rho->aH}{m:Md}{d:D}(a:ds.length=n)(h:g (eT N ds)=.rt m d):phi n N g ds=.ok m d:=by unfold phi;rw[al a,h];rfl
def mL{U:List (Md×D)}{d:D}(a:ds.length=n)(ha:c7 U=some ds)(h:Φ ds=.ok .fz d):aV n Φ (.ok U)=.ok .fz d:=by(show(match c7 U with|some ds=>if ds.length=n then(match Φ ds with|.ok .bo _=>Res.stuck|r=>r)else .stuck|none=>.stuck)=_);rw[ha];show(if ds.length=n then _ else _)=_;rw[al a,h]
@[simp]theorem eZ{a d:D}(h:Φ [a]=.ok .fz d):aV 1 Φ (.ok [(.fz,a)])=.ok .fz d:=mL (ds:=[a]) rfl rfl h
@[simp]theorem dI{a b d:D}(h:Φ [a,b]=.ok .fz d):aV 2 Φ (.ok [(.fz,a),(.fz,b)])=.ok .fz d:=mL (ds:=[a,b]) rfl rfl h
@[simp]theorem e9{a b c d:D}(h:Φ [a,b,c]=.ok .fz d):aV 3 Φ (.ok [(.fz,a),(.fz,b),(.fz,c)])=.ok .fz d:=mL (ds:=[a,b,c]) rfl rfl h
@[simp]theorem x_meth{Φ:Str->List D->Res}{c m key:Str}{fs:List (Str×D)}{as:bC}(h:CI.meth cl c m=some (key,n))(a:fs.lookup m=none):fD cl Φ m (.ok .fz (.ins c fs)) as=aV n (Φ key) (aQ (.ok .fz (.ins c fs)) as):=by(show(match CI.meth cl c m with|some (key,n)=>if fs.lookup m=none then aV n (Φ key) (aQ (.ok .fz (.ins c fs)) as)else .stuck|none=>.stuck)=_);rw[h];show(if fs.lookup m=none then _ else _)=_;rw[al a]
@[simp]theorem wt_cl{t:TB}:(WT t k).cl=t.cl:=qV t k
def wt_Mu{t:TB}{f:Str}{d:FD}{b:List D3.S}(h:t.T.lookup f=some d)(a:d.b=[.mput b]):(WT t (k+1)).Mu f=jK d.ps.length d.N.length (evU (WT t k) b):=by rw[aCS];unfold MuF;rw[h];dsimp only;rw[a]
def mM{t:TB}{f:Str}{d:FD}(h:t.T.lookup f=some d):(WT t (k+1)).Φ f=phi d.ps.length d.N.length (evB (WT t k) d.b):=by rw[WT_Φ];unfold n6;rw[h]
@[simp]theorem aDF{a b c e d:D}(h:Φ [a,b,c,e]=.ok .fz d):aV 4 Φ (.ok [(.fz,a),(.fz,b),(.fz,c),(.fz,e)])=.ok .fz d:=mL (ds:=[a,b,c,e]) rfl rfl h
theorem oC{W:WD}:∀{x y:List D3.S}{Y:Rho},evB W (x++y) Y=(evB W x Y).thn (evB W y)|[],y,Y=>by simp|s::x,y,Y=>by show evB W (s::(x++y)) Y=_;rw[kN,kN];cases evS W s Y with|nx ρ'=>exact oC|_=>rfl
def rA{W:WD}{s:D3.S}{r:List D3.S}(h:evS W s Y=.nx ρ'):evB W (s::r) Y=evB W r ρ':=by rw[kN,h];rfl
end D3
namespace Tp
open PySem.W PySem.Calls
structure S where
 t:BT
 n:Nat
 k:Nat
 nm:a3H
 g:List DictEntry
 tb:List a3H
def tupO(vs:List a3H):Obj:=#[.type "tuple",none,.seq vs.toArray 0,#[]]
def fldO(c:a3H)(vs:List a3H):Obj:=#[c,none,.fields vs.toArray,#[]]
def dicO(es:List DictEntry)(e:Nat):Obj:=#[.type "dict",none,.dict es.toArray e,#[]]
def en(P:Params)(x:Str)(k:Nat)(v:a3H):DictEntry:=#[PyData.keyHash P x,.str x k,v]
def iB:List Str->Nat->List a3H|[],_=>[]|x::U,k=>.str x k::iB U (k+1)
def fileS:Str:="/claim/cut.py"
noncomputable def codeO(name qual:Str)(k line A fl:Nat)(isF:Bool)(a:Nat)(ls cs T:a3H)(j:Nat):Obj :=
 fldO (.type "code") [.str name k,.str qual (k+1),.str fileS (k+2),.int line 0,.int A 0,.int 0 0,.int 0 0,.int fl 0,.ref a,.bool isF,.int 181 0,.ref (a+1),.none,ls,cs,T,.int j 0,.int line 0,.str fileS (j+1)]
noncomputable def frmO(code ns:Nat)(nm:a3H):Obj:=#[.type "frame",none,.plain,(List.toArray [some (.ref code),some (.ref 3),some (.ref ns),none,some nm,none,some (.ref 0)])]
def fnD(name qual:Str)(args:Arguments)(body:List Stmt)(sc:Scope)(gl:Nat)(nm cd:a3H):FuncData:=#[name,qual,args,.stmts body,sc,gl,[],.none,.none,.none,nm,none,cd,.none,0]
def insL:List Obj->BT->Nat->BT|[],t,_=>t|o::os,t,n=>insL os (t.ins n o) (n+1)
def layF(name qual:Str)(args:Arguments)(body:List Stmt)(sc:Scope)(line n k:Nat)(nm:a3H):List Obj×Nat×Nat :=
 match localNames args sc (.stmts body)with
 |some (ls,cs) =>
  let a:=ls.length
  let b:=cs.length
  ([tupO [],fldO .none [],tupO (iB ls (k+3)),tupO (iB cs (k+3+a)),#[.none,none,.func (fnD name qual args body sc 0 .none .none),#[]],
   codeO name qual k line args.args.length 3 true n (.ref (n+2)) (.ref (n+3)) (.ref (n+4)) (k+3+a+b),#[.type "function",none,.func (fnD name qual args body sc 3 nm (.ref (n+5))),#[]]],n+5,k+5+a+b)
 |none =>
  ([tupO [],fldO .none [],#[.none,none,.func (fnD name qual args body sc 0 .none .none),#[]],
   codeO name qual k line args.args.length 3 true n .none .none (.ref (n+2)) (k+3),#[.type "function",none,.func (fnD name qual args body sc 3 nm (.ref (n+3))),#[]]],n+3,k+5)
def look(x:Str):List DictEntry->Option a3H
 |[]=>none|⟨_,.str y _,v⟩::es=>match decide (x=y)with|true=>some v|false=>look x es
 |_::es=>look x es
structure B where
 t:BT
 n:Nat
 k:Nat
 es:List DictEntry
 tb:List a3H
def layB(P:Params)(cn:Str)(nm:a3H):List Stmt->B->B
 |.FunctionDef name args body _ _ _ sc _ _ pos::r,⟨t,n,k,es,tb⟩ =>
  match layF name (cn++"."++name) args body sc pos.line n k nm with|(os,c,j)=>layB P cn nm r #[insL os t n,n+os.length,j+1,en P name j (.ref (c+1))::es,.ref c :: .int pos.col 0 :: .int pos.line 0::tb]
 |_::r,b=>layB P cn nm r b|[],b=>b
def mroOf(t:BT)(a:Nat):List a3H×a3H:=match t.get a with|some ⟨_,_,.cls c,S⟩=>(c.mro,(S.getD 4 none).getD .none)|_=>([],.none)
def subTo(a:Nat):Obj->Obj
 |⟨c,d,.cls k,S⟩=>#[c,d,.cls {k with subclasses:=k.subclasses++[.ref a]},S]
 |o=>o
noncomputable def layC(P:Params)(name:Str)(B:List PySem.Expr)(body:List Stmt)(st:List Str)(line:Nat):S->S
 |⟨t,n,k,nm,g,tb⟩ =>
  let bs:List a3H:=match B with|.Name b _::_=>((match look b g with|some v=>[v]|none=>[.type "ValueError"]))|_=>[]
  let n2:=n+2
  let T:=insL [tupO bs,fldO (.type "builtin_function_or_method") [.builtin "type.__prepare__",.type "type"],dicO [] 0,tupO [],fldO .none [],codeO name name (k+2) line 0 0 false (n+3) .none .none .none (k+5),frmO (n+5) n2 nm] t n
  match layB P name nm body #[T,n+7,k+12,[en P "__firstlineno__" (k+11) (.int line (k+10)),en P "__qualname__" (k+9) (.str name (k+8)),en P "__module__" (k+7) nm],[]]with
  |⟨t2,m,j,es,ct⟩ =>
   let E:=en P "__static_attributes__" (j+st.length) (.ref m)::es
   let j1:=j+st.length+1
   let t3:=(t2.set n2 λ_=>dicO E.reverse E.length).set (n+4) λ_=>fldO .none ct.reverse
   let cl:=m+2
   let cp:=(E.reverse.take 1)++(E.reverse.drop 2)
   let f (mro:List a3H) (nw:a3H) (l:List a3H) (d:Option a3H) (U:List DictEntry) (gs:List Obj) (t:BT) (j:Nat):S :=
    let os:=[tupO (iB st (m-m+(j1-1-st.length))),dicO (cp++U++[en P "__doc__" j .none]) (2+U.length),#[.type "type",none,.cls #[name,l,.ref cl::mro,m+1,name,true,[],[],false,none,false],(List.toArray [d,none,some (.str name k),some (.str name (k+8)),some nw,some (.bool true)])]]
     ++ gs++[fldO (.type "super") [.ref cl,.ref cl,.ref cl],fldO (.type "builtin_function_or_method") [.builtin "object.__init_subclass__",.ref cl]]
    #[insL os t m,m+os.length,j+3,nm,en P name (j+2) (.ref cl)::g,.ref (n+5) :: .int 0 0 :: .int line 0::tb]
   let G (j a:Nat):=fldO (.type "getset_descriptor") [.str "__weakref__" j,.ref cl,.builtin "ExceptionGroup.__weakref__",.none]
   match bs with
   | []=>f [.type "object"] (.builtin "object.__new__") [.type "object"] none [en P "__dict__" (j1 + 1) (.ref (m + 3)),en P "__weakref__" (j1 + 3) (.ref (m + 4))]
       [fldO (.type "getset_descriptor") [.str "__dict__" j1,.ref cl,.builtin "function.__dict__",.builtin "function.__dict__#set"],G (j1+2) 0] t3 (j1+4)
   |.ref a::_=>(match mroOf t3 a with|(mro,nw)=>f mro nw bs (some (.ref n)) [] [] (t3.set a (subTo cl)) j1)|_=>f [.type "ValueError",.type "Exception",.type "BaseException",.type "object"] (.builtin "ValueError.__new__") bs (some (.ref n)) [en P "__weakref__" (j1+1) (.ref (m+3))] [G j1 0] t3 (j1+2)
def keysD(P:Params)(g:List DictEntry):List (Option PySem.Expr)->List PySem.Expr->Nat->List DictEntry|some (.Constant (.str x) _ _)::ks,.Name y _::vs,k=>en P x k ((look y g).getD .none)::keysD P g ks vs (k+1)|_,_,_=>[]
def put(P:Params)(x:Str)(v:a3H)(t:BT)(n k:Nat)(nm:a3H)(g:List DictEntry)(tb:List a3H):S:=match decide (x="__name__")with|true=>#[t,n,k+1,v,g,tb]|false=>#[t,n,k+1,nm,en P x k v::g,tb]
def lay1(P:Params):Stmt->S->S
 |.FunctionDef name args body _ _ _ sc _ _ pos,⟨t,n,k,nm,g,tb⟩=>match layF name name args body sc pos.line n k nm with|(os,c,j)=>#[insL os t n,n+os.length,j+1,nm,en P name j (.ref (c+1))::g,.ref c :: .int pos.col 0 :: .int pos.line 0::tb]
 |.ClassDef name B _ body _ _ _ _ _ st pos,s=>layC P name B body st pos.line s|.Assign [.Name x _] (.Constant (.str v) _ _) _,⟨t,n,k,nm,g,tb⟩=>put P x (.str v k) t n (k+1) nm g tb|.Assign [.Name x _] (.Constant (.int v) _ _) _,⟨t,n,k,nm,g,tb⟩=>put P x (.int v k) t n (k+1) nm g tb|.Assign [.Name x _] (.Dict ks vs _) _,⟨t,n,k,nm,g,tb⟩=>put P x (.ref n) (t.ins n (dicO (keysD P g ks vs k) vs.length)) (n+1) (k+2 * vs.length) nm g tb|_,s=>s
def lay(P:Params):List Stmt->S->S|[],s=>s|st::r,s=>lay P r (lay1 P st s)
noncomputable def s0(os:List Obj):S :=
 #[insL [tupO [],fldO .none [],codeO "<module>" "<module>" 182 1 0 0 false 11 .none .none .none 185,frmO 13 3 (.str "__main__" 164)] (insL os .nil 0) 11,15,187,.str "__main__" 164,[],[]]
def nameTo(nm:a3H):List DictEntry->List DictEntry
 |e::es=>{e with val:=nm}::es
 |[]=>[]
def mainTo(nm:a3H)(g:List DictEntry):Obj->Obj|⟨c,d,.dict es e,S⟩=>#[c,d,.dict (nameTo nm es.toList++g.reverse).toArray (e+g.length),S]|o=>o
noncomputable def S.bt(s:S):BT:=(s.t.set 3 (mainTo s.nm s.g)).set 12 λ_=>fldO .none s.tb.reverse
def z0:Pos:=#[0,0,0,0]
def an:Option a3H:=some (.ref 6)
def ev(p:a3L):Env:={scope:=p.main.scope,locals:=mainNs,globals:=mainNs,cells:=[],code:=.ref 13,frame:=some 14}
noncomputable def cd(p:a3L):Code:=.body (behindTheImports p) (ev p)
noncomputable def go(tb:String->Option Builtin)(p:a3L)(w:a3K)(F:Nat):List Stmt->SharedT->Code->Pos->Option (SharedT×Code×Pos)|[],s,c,q=>some (s,c,q)|st::l,s,c,q=>match segRunT tb p w 11 an 1 F s (pieceOf st (ev p) c q [topFrame z0])with|some (.next,s',a,q')=>go tb p w F l s' a q'|_=>none
def ns(F N:Nat):List Stmt->Nat|[]=>N|_::l=>F+ns F N l
section
variable{tb:String->Option Builtin}{p:a3L}
def one{N:Nat}{r:a3I}{rest:List Stmt}{c d:Code}{e:Env}{q:Pos}(h:segRun tb p w 11 an 1 n s (pieceOf st e c q [topFrame z0])=some (.next,s',d,q'))(k:topRun tb p w 11 an N s' (restOf rest e d q' [topFrame z0])=some r):topRun tb p w 11 an (n+N) s (restOf (st::rest) e c q [topFrame z0])=some r:=by
 exists a,ha,hN,seg_top (B:=[topFrame z0]) (res:=id)
  (K':=λf=>match f with|.next=>(execs rest e).wrap doneF (leaveH e) id id|f=>doneF f)
  (H':=leaveH e) rfl n s (pieceOf st e c q [topFrame z0])
  #[(exec st e).wrap (λf=>match f with|.next=>(execs rest e).wrap doneF (leaveH e) id id|f=>doneF f) (leaveH e) id id,c,q,[topFrame z0]] _ _ _ _ #[rfl,rfl,.inl #[rfl,rfl,_,rfl,rfl]] h
 cases ha;unfold restOf;rw[execs_cons_wrap];exact hN N r k
theorem go_top'{F:Nat}:∀(l:List Stmt) {s s':SharedT}{c a:Code}{q q':Pos},go tb p w F l s c q=some (s',a,q')->∀{N:Nat}{r:a3I}{rest:List Stmt},topRun tb p w 11 an N s'.abs (restOf rest (ev p) a q' [topFrame z0])=some r->topRun tb p w 11 an (ns F N l) s.abs (restOf (l++rest) (ev p) c q [topFrame z0])=some r|[],_,_,_,_,_,_,h,_,_,_,k=>by cases h;exact k|st::l,s,s',c,a,q,q',h,N,r,rest,k=>by unfold go at h;split at h;{rename_i x e;exact one (segRun_of e) (go_top' l h k)};cases h
theorem go_split{F:Nat}:∀{l r:List Stmt}{s s':SharedT}{c a:Code}{q q':Pos},go tb p w F l s c q=some (s',a,q')->go tb p w F (l++r) s c q=go tb p w F r s' a q'|[],_,_,_,_,_,_,_,h=>by cases h;rfl|st::l,r,s,s',c,a,q,q',h=>by unfold go at h;split at h;{rename_i x e;show go tb p w F (st::(l++r)) s c q=_;(conv=>lhs;unfold go);rw[e];exact go_split h};cases h
def fin2(s:a3I)(c:Code)(q:Pos):topRun tb p w 11 an 2 s (restOf [] (ev p) c q [topFrame z0])=some s:=by exists h,g,d,k,o,s;rfl
noncomputable def sh(P:Params)(S:S)(n k:Nat)(os:OsState):SharedT:=#[S.bt,n,(boot_heap P).life,#[],boot_drawn,k,os]
noncomputable def sA(P:Params):S:=s0 (boot_heap P).objs.toList
noncomputable def mid(P:Params)(l:List Stmt)(os:OsState):SharedT:=sh P (lay P l (sA P)) (lay P l (sA P)).n (lay P l (sA P)).k os
def run_of{l:List Stmt}{d:Code}(a:behindTheImports p=l)(pre:∀(w:a3K) (os:OsState),topGo treeTable p w 11 an 12 #[boot_heap w.params,#[],boot_drawn,boot_toks,os] (topStub p)=some ((sh w.params (sA w.params) 15 187 os).abs,#[denote treeTable (cd p),cd p,z0,[topFrame z0]]))(blk:∀(w:a3K) (s:a3I),segRun treeTable p w 11 an 1 1 s (blockOf l (ev p) (cd p) z0 [topFrame z0])=some (.next,s,cd p,z0))(run:∀(w:a3K) (os:OsState),go treeTable p w 1000 l (sh w.params (sA w.params) 15 187 os) (cd p) z0=some (sh w.params (lay w.params l (sA w.params)) n k os,d,q')):∀(w:a3K) (os:OsState),topRun treeTable p w 11 an (12+(1+ns 1000 2 l)) #[boot_heap w.params,#[],boot_drawn,boot_toks,os] (topStub p)=some (sh w.params (lay w.params l (sA w.params)) n k os).abs:=by intro w os;refine go_top (pre w os) ?_;unfold cd;rw[a];refine piece_block (n:=1) (by have:=blk w (sh w.params (sA w.params) 15 187 os).abs;unfold cd at this;rw[a]at this;exact this) ?_;have:=go_top' l (run w os) (rest:=[]) (fin2 _ _ _);rw[aYR]at this;unfold cd at this;rw[a]at this;exact this
end
noncomputable def KK(l:List Stmt)(as:List Addr)(P:Params):Frag:=as.map λa=>(a,((lay P l (sA P)).bt.get a).getD default)
def KK_e(l:List Stmt)(as:List Addr)(P:Params):as=(KK l as P).map (·.1):=by unfold KK;rw[a2D];exact(List.map_id as).symm
noncomputable def hk(l:List Stmt)(as:List Addr):Hook:=kHook (KK l as) as (KK_e l as)
noncomputable def H1(l:List Stmt)(n:Nat)(P:Params):Heap:=absHeap (lay P l (sA P)).bt n (boot_heap P).life
noncomputable def S1(l:List Stmt)(n k:Nat)(P:Params)(os:OsState):a3I:=#[H1 l n P,#[],boot_drawn,k,os]
def bnd(n:Str):Stmt->List Str|.FunctionDef x ..=>if x==n then[]else[x]|.ClassDef x ..=>[x]|.Assign [.Name x _] _ _=>if x == "__name__" then[]else[x]|_=>[]
def los(l:List Stmt):List Str:=l.flatMap (bnd "law")
def vw(p:a3L):a3L:={ p with main:={ p.main with body:=p.main.body.filter λst=>match st with|.FunctionDef x ..=>x == "law" |_=>false } }
def xt(r:OpenRow)(s:a3I):Bool:=xlAt (vw r.prog) [] s&&recOk r.toRowW.records s
def size1(w:a3K):((boot_heap w.params).isNs mainGlobals&&(#[]:Array GenState).size==0,(boot_heap w.params).objs.size,(boot_heap w.params).nsMap mainGlobals "__annotations__")=(true,11,an):=by kernel_rfl
end Tp
def Tp.twA:Prod.fst (true,(@Tp.go,@Tp.lay,@Tp.sh,@Tp.sA,@Tp.cd,@Tp.ev,@Tp.S.bt,@Tp.KK,@Tp.hk,@Tp.H1,@Tp.S1,@Tp.los,@Tp.vw,@Tp.xt))=true:=by k_qdec
namespace D3
open PySem.Calls
def vM(q:Str):Str:=q++".<locals>."
def cdT:a3H->a3H->a3H->a3H->a3H->a3H->Option Addr|.type "code",.ref T,.str _ _,.int _ _,.bool _,.int _ _=>some T|_,_,_,_,_,_=>none
def jN:Obj->Option (Str×Option Addr)
 |⟨cl,_,.fields vs,_⟩=>match vs.toList with|_ :: .str q _::_=>some (q,cdT cl (vs.getD 11 .none) (vs.getD 18 .none) (vs.getD 7 .none) (vs.getD 9 .none) (vs.getD 10 .none))|_=>none
 |_=>none
def tq(b:Addr):Fg->Option Str|[]=>none|(_,o)::r=>match jN o with|some (q,some T)=>if T=b then some q else tq b r|_=>tq b r
def vN:Option Obj->Bool|some ⟨.none,none,.fields vs,S⟩=>vs.size==0&&S.size==0|_=>false
noncomputable def rB(K Kf:Fg):Bool:=K.all λ(c,o)=>match jN o with|none=>true|some (q,some T)=>tq T K==some q&&(K.lookup T).isNone&&vN (Kf.lookup T)&&c != T|some (_,none)=>false
def aT2{o:Option Obj}(h:vN o=true):o=some #[.none,none,.fields #[],#[]]:=by unfold vN at h;split at h;{rename_i vs S;simp only[aZL,aYK]at h;obtain rfl:vs = #[]:=a20 h.1;obtain rfl:S = #[]:=a20 h.2;rfl};cases h
def aDG{o:Obj}{T:Addr}(h:jN o=some (q,some T)){c:Addr}(e:hp.get? c=some o)(ne:c≠T):W.CodeHd hp c T:=by exists cl,L,N,K,o;unfold jN at h;split at h;{rename_i J f vs S l;cases l;split at h;{rename_i a q' t r hv;have A:=aX2 h;have d:cdT cl (vs.getD 11 .none) (vs.getD 18 .none) (vs.getD 7 .none) (vs.getD 9 .none) (vs.getD 10 .none)=some T:=congrArg Prod.snd A;unfold cdT at d;split at d;{rename_i E G F D B;cases d;refine#[_,vs,_,_,_,_,_,_,_,e,rfl,rfl,?_,E,G,F,D,B,ne];rw[a1U]at E;cases q:vs[11]? with|none=>rw[q]at E;cases E|some v=>rw[q]at E;exact congrArg some E};cases d};cases h};cases h
def aT3{K:Fg}{cd:a3H}(h:W.codeIn K cd q=true):∃c o,cd=.ref c/\K.lookup c=some o/\∃x,jN o=some (q,x):=by unfold W.codeIn at h;split at h;{rename_i c;split at h;{rename_i e;split at h;{rename_i a n t r hv;refine#[c,_,rfl,e,?_];rw[aYK]at h;subst h;unfold jN;dsimp only;rw[hv];exact#[_,rfl]};cases h};cases h};cases h
theorem aDH{c:Addr}{o:Obj}:∀{K:Fg},K.lookup c=some o->(c,o)∈K|[],h=>by cases h|(b,u)::r,h=>by rw[a0K]at h;split at h;{rename_i a;cases h;have a:=aYK.mp a;subst a;exact mcs};exact mcm (aDH h)
theorem vO{b:Addr}{q:Str}:∀{K:Fg},tq b K=some q->∃c o,(c,o)∈K/\jN o=some (q,some b)|[],h=>by cases h|(c,o)::r,h=>by unfold tq at h;split at h;{rename_i q' T e;split at h;{rename_i f;cases h;subst f;exact#[c,o,mcs,e]};exists d,a,m,x,vO h;exact#[d,a,mcm m,x]};exists d,a,m,x,vO h;exact#[d,a,mcm m,x]
structure TabF(K Kf:Fg):Prop where
 all:∀c o,(c,o)∈K->∀q x,jN o=some (q,x)->∃T,x=some T/\tq T K=some q/\K.lookup T=none/\Kf.lookup T=some #[.none,none,.fields #[],#[]]/\c≠T
def aT4{K Kf:Fg}(h:rB K Kf=true):TabF K Kf:=#[λc o m q x e=>by
 have a:=a2C.mp h (c,o) m;dsimp only at a;rw[e]at a;cases x with
 |none=>cases a|some T =>
  dsimp only at a;simp only[aZL,aYK,a2V,Option.isNone_iff_eq_none]at a;exact#[T,rfl,a.1.1.1,a.1.1.2,aT2 a.1.2,a.2]]
def aT5{K Kf:Fg}{mb:SOV}{fa a:Addr}{sp:Sp}{S:a3I}{ns:List Int}(KX:Kf.In S.heap)(sub:∀b o,K.lookup b=some o->Kf.lookup b=some o)(tb:TabF K Kf)(nd:∀b o,(b,o)∈K->K.lookup b=some o)(aa:S.heap.Ns mainGlobals mg)(hb:S.heap.Ns builtinsNs mb)(ak:∀x:Str,x ≠ "__name__"->mb x=bootBuiltins x)(ae:S.heap.NoLimit)(aj:∃bm ob,mg "__builtins__"=some (.ref bm)/\bm≠builtinsNs/\S.heap.get? bm=some ob/\ob.cls=.type "module" /\ ob.dict=some builtinsNs/\ob.data=.plain)(hg:S.gens=#[])(ha:S.heap.get? a=some { cls:=.type "list",data:=.seq vs.toArray })(hi:IntsAre vs ns)(hl:ns.length<=sizeLine)(hr:bB k callerA)(F:∀base:Heap,K.In base->base.Ns mainGlobals mg->bM P w K mg base CX k fa fd [x] sp)(E:∀(s:a3I) (u:a3H),BindsTo s fd #[[u],[]] [(x,u)])(ai:∀H:Hp,SqL K H a (ns.map V.int)->sp [.ref a] H (λv _=>v=.bl true) λ_ _ _=>False)(am:∀H e s',CX [] H S (λ_ _ _=>False) e s'->False):codeAny (model P w) callerA (.call (.ref fa) #[[.ref a],[]]) (λr s'=>r=.ok (.ret (.bool true))/\OldK S.heap s'.heap/\s'.os=S.os/\AllBare s'.gens) S:=by
 have J:K.In S.heap:=λb o e=>KX b o (sub b o e);have rv:=aQR hi;have Z:=hi.length
 let sob:Obj:={ cls:=.type "list",data:=.seq vs.toArray }
 let H:Hp:=λb=>match tq b K with|some q=>some (.tbl (List.toArray [.str (vM q) 0]))|none=>if b=a/\K.lookup a=none then some (.frz sob (.lst (ns.map V.int)))else none
 have l:∀{b:Addr}{q:Str},tq b K=some q->K.lookup b=none/\S.heap.get? b=some #[.none,none,.fields #[],#[]]/\isCodeTable S.heap b:=λ{b q} e=>by exists c,o,m,x,vO e;exists T,e1,_,e3,e4,e5,tb.all c o m q _ x;cases e1;exists o',af,_,_,_,_,_,_,_,g1,g2,g3,g4,_,aDG x (J c o (nd c o m)) e5;exact#[e3,KX _ _ e4,c,o',af,g1,g2,g3,g4]
 have L:tq a K=none:=by cases e:tq a K with|none=>rfl|some q=>have:=(l e).2.1;rw[ha]at this;cases this
 have B:∀{b:Addr}{q:Str},tq b K=some q->H b=some (.tbl (List.toArray [.str (vM q) 0])):=λ{b q} e=>by(show(match tq b K with|some q=>_|none=>_)=_);rw[e]
 have A:∀{b:Addr},tq b K=none->H b=if b=a/\K.lookup a=none then some (.frz sob (.lst (ns.map V.int)))else none:=λ{b} e=>by(show(match tq b K with|some q=>_|none=>_)=_);rw[e]
 have HK:∀{b:Addr}{o:Obj},K.lookup b=some o->H b=none:=λ{b o} e=>by cases q:tq b K with|some x=>have:=(l q).1;rw[e]at this;cases this|none=>rw[A q,aK];rintro⟨rfl,z⟩;rw[e]at z;cases z
 have ah:∀{b:Addr}{o:Obj}{es:Array DictEntry}{ep:Nat},S.heap.get? b=some o->o.data=.dict es ep->H b=none:=λ{b o es ep} e d=>by cases q:tq b K with|some x=>have:=(l q).2.1;rw[e]at this;cases this;cases d|none=>rw[A q,aK];rintro⟨rfl,z⟩;rw[ha]at e;cases e;cases d
 have ag:∀{b:Addr}{o:Obj},S.heap.get? b=some o->o.cls=.type "module"->H b=none:=λ{b o} e d=>by cases q:tq b K with|some x=>have:=(l q).2.1;rw[e]at this;cases this;cases d|none=>rw[A q,aK];rintro⟨rfl,z⟩;rw[ha]at e;cases e;injection d with d;exact absurd d (by decide)
 have hok:HOk P w H S.heap:=λb u e=>by cases q:tq b K with|some x=>rw[B q]at e;cases e;refine#[vM x,#[],rfl,(l q).2.1,trivial,λz cv f=>?_];cases f|none=>rw[A q]at e;split at e;{rename_i hc;cases e;exists rfl,_,hc;exact#[ha,by rw[aY4];exact hl,vs,_,rv,ha]};cases e
 have hS:SqL K H a (ns.map V.int):=by cases hk:K.lookup a with|some o=>have e:=J a o hk;rw[ha]at e;cases e;exact .inr #[_,vs.toArray,_,hk,rfl,rfl,rfl,by rw[aYI,Z];exact hl,by simpa using rv]|none=>exact .inl (.inr #[sob,by rw[A L,al #[rfl,hk]]])
 have N:∀{b:Addr}{m:SOV},S.heap.Ns b m->(iE S.heap H).Ns b m:=λ{b m} ⟨o,es,ep,e,d,r⟩=>#[o,es,ep,sN e (ah e d),d,r];have G:K.In (iE S.heap H):=λb o e=>sN (J b o e) (HK e);have hM:Mod K mg (iE S.heap H):=#[G,N aa,#[mb,N hb,ak],let⟨mc,h1,h2⟩:=ae;#[mc,N h1,h2],let⟨bm,ob,b1,b2,b3,b4,b5,b6⟩:=aj;#[bm,ob,b1,b2,sN b3 (ag b3 b4),b4,b5,b6]]
 have hT:k6 K (iE S.heap H) H:=λcd q e=>by exists c,o,rfl,lk,y,hy,aT3 e;exists T,rfl,e2,_,_,e5,tb.all c o (aDH lk) q y hy;exact#[c,T,_,rfl,aDG hy (G c o lk) e5,B e2,rfl]
 have e0:iH P w K mg (iE S.heap H) callerA [] S H:=#[rfl,hM,λb o e=>aH9 e,aYM (aH8 _ _),trivial,λb hb=>absurd (show b∈([]:List Addr)from hb) (by simp),hok,.of_eq hg,hT]
 refine aZ9 ((F _ G (N aa)).run callerA [] S H #[[.ref a],[]] [.ref a] [.ref a] _ _ hr e0 (E S (.ref a)) (.cons rfl .nil) (ai H hS)) λr s' h=>?_;cases r with|error e=>exact(am H e s' h).elim|ok fl=>cases fl with|next|brk|cont=>exact False.elim h|ret u=>(exists v,H',os,bare,un,D,r',q,h;have q':v=.bl true:=q;subst q';obtain rfl:u=Value.bool true:=r';have W:∀b o,S.heap.get? b=some o->asItWas S.heap s'.heap b o/\∃o',s'.heap.get? b=some o':=λb o e=>by cases q:tq b K with|some x=>exists more,z,un.tbls b _ (B q);exists _,m,_,g,_,D b _ z;exists _,t2,t3,l q;rw[e]at t2;cases t2;exact#[.inr (.inl #[t3,rfl,#[],m,rfl,by rw[g];simp]),_,g]|none=>have hn:=A q;split at hn;{rename_i hc;exists rfl,_,hc;have z2:=un.frzs _ _ _ hn;exists e2,_,D _ _ z2;rw[ha]at e;cases e;exact#[.inl e2,_,e2]};have:=un.keep b o e hn (by intro z;exact absurd (show b∈([]:List Addr)from z) (by simp)) (by simp);exact#[.inl this,o,this]);exact#[rfl,#[λb o e=>(W b o e).1,λb o e=>(W b o e).2],os,bare]
def aT6{l:W.OpenLaw}{q:a3L}{d:DefRec}{K Kf:Params->Fg}{CX:a3K->CXT}{sp:a3K->Sp}(hn:l.most=some n)(J:n<=sizeLine)(N:d.params.defaults=[])(hr:bB k callerA)(hY:∀(w:a3K) (h:Heap),YP w h->(Kf w.params).In h)(sub:∀P b o,(K P).lookup b=some o->(Kf P).lookup b=some o)(nd:∀P b o,(b,o)∈K P->(K P).lookup b=some o)(tb:∀P,rB (K P) (Kf P)=true)(F:∀(w:a3K) (mg:SOV) (fa:Addr) (h:Heap),(K w.params).In h->h.Ns mainGlobals mg->mg d.name=some (.ref fa)->∃fd:FuncData,(∀(s:a3I) (u:a3H),BindsTo s fd #[[u],[]] [(x,u)])/\∀base:Heap,(K w.params).In base->base.Ns mainGlobals mg->bM l.prog w (K w.params) mg base (CX w) k fa fd [x] (sp w))(E:∀(w:a3K) (H:Hp) (a:Addr) (ns:List Int),ns.length<=n->SqL (K w.params) H a (ns.map V.int)->sp w [.ref a] H (λv _=>v=.bl true) λ_ _ _=>False)(Z:∀(w:a3K) (H:Hp) (s:a3I) (e:a3H) (s':a3I),CX w [] H s (λ_ _ _=>False) e s'->False):W.WalkO q loose XP YP l.row.toRowW d [] (λf vs=>PySem.call f vs):=by refine Att.aKW hn N λw s₀ S mg mb fa o pm cd ae a vs ns G r ho hd aa L D B A hg=>?_;have KX:=hY w _ r;exists fd,hb,hF,F w mg fa _ (λb o e=>KX b o (sub _ b o e)) G.T.g L;exact aT5 KX (sub w.params) (aT4 (tb w.params)) (nd w.params) G.T.g G.T.b G.T.builtins G.T.nolimit G.T.bmain hg D B (aXS A J) hr hF hb (λH hS=>E w H a ns A hS) λH e s'=>Z w H S e s'
noncomputable def adB(K:Fg)(x:Str):Option Addr:=match W.nsIn K mainGlobals x with|some (some (.ref a))=>some a|_=>none
def fL{K:Fg}{a:Addr}(h:adB K x=some a):W.nsIn K mainGlobals x=some (some (.ref a)):=by unfold adB at h;split at h;{rename_i b e;cases h;exact e};cases h
noncomputable def isKey(key:Str):Addr×Obj->Bool|(_,⟨.type t,_,.func fd,_⟩)=>t == "function" && fd.qualname==key|_=>false
noncomputable def faK(K:Fg)(key:Str):Addr:=match K.find? (isKey key)with|some p=>p.1|none=>0
noncomputable def stOf(fd:FuncData)(b:List Stmt):Stmt:=.FunctionDef fd.name fd.params b [] none [] fd.scope none fd.name #[0,0,0,0]
noncomputable def parB(p:Arguments)(ps:List Str):Bool:=p.posonlyargs.isEmpty&&(p.args.map (·.arg)==ps)&&p.vararg.isNone&&p.kwonlyargs.isEmpty&&p.kwarg.isNone&&decide ps.Nodup
noncomputable def fdB(K:Fg)(nm:Option Str)(key:Str)(a:Addr)(ps:List Str)(f:Stmt->Bool)(fd:FuncData)(b:List Stmt):Bool :=
 (nm.getD fd.name==fd.name)&&((fd.qualname==key)&&(fd.globals==mainGlobals&&(fd.closure.isEmpty&&((fd.defaults == .none)&&(fd.builtins==builtinsNs&&(W.codeIn K fd.code key&&(W.keepIn K (.ref a)&&(parB fd.params ps&&f (stOf fd b)))))))))
noncomputable def mN(K:Fg)(nm:Option Str)(key:Str)(a:Addr)(ps:List Str)(f:Stmt->Bool):Bool:=match K.lookup a with
 |some ⟨_,_,.func fd,_⟩=>(match fd.body with|.stmts b=>fdB K nm key a ps f fd b|_=>false)
 |_=>false
def vP{K:Fg}{nm:Option Str}{key:Str}{a:Addr}{f:Stmt->Bool}(h:mN K nm key a ps f=true):∃name st fd,Fun K name key st a fd/\cR K fd ps []/\f st=true/\nm.getD name=name/\∀us:List a3H,us.length=ps.length->bindArgs fd #[us,[]]=pure (ps.zip us):=by unfold mN at h;split at h;{rename_i oc od fd sl el;split at h;{rename_i b eb;unfold fdB at h;simp only[aZL]at h;exists h1,Z,V,T,S,N,L,J,l,o,h;exists name,qualname,params,body,scope,globals,closure,defaults,d,D,r,an,code,ct,bl,fd;dsimp only at *;obtain rfl:=eb;obtain rfl:=aYK.mp Z;obtain rfl:=aYK.mp V;obtain rfl:=a2Z.mp T;obtain rfl:=aYK.mp S;obtain rfl:=aYK.mp N;unfold parB at l;simp only[aZL,a2Z,aYK,Option.isNone_iff_eq_none,a0L]at l;obtain⟨⟨⟨⟨⟨p1,p2⟩,G⟩,F⟩,E⟩,A⟩:=l;have B:=aB6 (fd:=W.fnOf name qualname params b scope .none d D r an code ct) p1 p2 G F E rfl A;exact#[name,_,_,aKX (st:=stOf #[name,qualname,params,.stmts b,scope,mainGlobals,[],.none,d,D,r,an,code,ct,builtinsNs] b) el L J,.all B,o,aYK.mp h1,B]};cases h};cases h
noncomputable def gvB(K:Fg)(x:Str):GV->Bool
 |.con (.s y)=>(match W.nsIn K mainGlobals x with|some (some (.str z _))=>z==y|_=>false)
 |.con (.i n)=>(match W.nsIn K mainGlobals x with|some (some (.int z _))=>z==n|_=>false)
 |.con (.t _)=>true|.no=>W.nsIn K mainGlobals x==some none|.fn _=>W.nsIn K mainGlobals x==some (some (.ref (faK K x)))|.cls=>true
noncomputable def rC(K:Fg)(C:Addr):Bool:=W.plainGet K C Str.empty&&(W.hasDictIn K C&&(W.plainOver K C&&W.findIn K (.ref C) "__setattr__" == some (some (.builtin "object.__setattr__"))))
def aDI{K:Fg}{C:Addr}(h:rC K C=true):Cls K C:=by unfold rC at h;simp only[aZL,aYK]at h;exact#[h.1,h.2.1,h.2.2.1,h.2.2.2]
noncomputable def vQ(K:Fg)(C:Addr)(x:Str×Str×Nat):Bool:=W.findIn K (.ref C) x.1==some (some (.ref (faK K x.2.1)))&&(W.isFn K (.ref (faK K x.2.1))&&W.keepIn K (.ref (faK K x.2.1)))
noncomputable def ciB(K:Fg)(i:CI):Bool:=match adB K i.name with|some C=>rC K C&&(i.meths.all (vQ K C)&&i.flds.all λf=>W.findIn K (.ref C) f==some none)|none=>false
noncomputable def mk0B(K:Fg)(c:Str):Bool:=match adB K c with|some C=>W.makesIn K C&&(W.findIn K (.ref C) "__init__" == some (some (.builtin "object.__init__"))&&W.keepIn K (.ref C))|none=>false
noncomputable def clB(K:Fg)(C:Addr):Bool:=W.findIn K (.ref C) "__class__" == some (some (.builtin "object.__class__"))&&(W.specialIn K (.builtin "object.__class__") "__get__" == some (some (.builtin "getset_descriptor.__get__"))&&(W.takesIn K (.builtin "object.__class__")==some true&&W.mroIn K C (.type "object")==some true))
noncomputable def isoB(K:Fg)(cl:List CI)(c:Str):Bool:=match adB K c with
 |some C=>["NoneType","bool","int","str","tuple","list","dict"].all (λt=>W.kitOne K (.type t) (.ref C)==some false)&&cl.all λi=>match adB K i.name with|some a=>rC K a&&(clB K a&&W.kitOne K (.ref a) (.ref C)==some (i.ups.contains c))|none=>false
 |none=>false
noncomputable def inB(K:Fg)(g:MG)(x:Str×ID):Bool:=match adB K x.2.c with|some C=>W.makesIn K C&&(W.findIn K (.ref C) "__init__" == some (some (.ref (faK K x.1)))&&(W.isFn K (.ref (faK K x.1))&&(W.keepIn K (.ref C)&&mN K none x.1 (faK K x.1) x.2.ps (λst=>idOk g st x.2))))|none=>false
noncomputable def xtB(K:Fg)(x:(Str×Str)×Bool):Bool:=match adB K x.1.1,adB K x.1.2 with|some C,some a=>W.mroIn K a (.type "BaseException")==some true&&(W.typeIn K (.ref a)==some (.type "type")&&W.mroIn K C (.ref a)==some x.2)|_,_=>false
noncomputable def xcB(K:Fg)(C:Addr):Bool:=W.findIn K (.ref C) "__getattribute__" == some (some (.builtin "BaseException.__getattribute__"))&&(W.findIn K (.ref C) "__getattr__" == some none&&(W.mroIn K C (.type "BaseException")==some true&&clB K C))
noncomputable def cvB(K:Fg)(n:Str):Option V:=match W.nsIn K mainGlobals n with
 |some (some (.ref C))=>some (.ref C)|some none=>if n == "__name__" then none else(match bootBuiltins n with|some (.type T)=>some (.ty T)|_=>none)
 |_=>none
noncomputable def xiB(K:Fg)(x:(Str×Str)×Bool):Bool:=match adB K x.1.1,cvB K x.1.2 with|some C,some cv=>xcB K C&&W.kitOne K (.ref C) (aAO cv)==some x.2|_,_=>false
noncomputable def rzB(K:Fg)(c:Str):Bool:=match adB K c with|some C=>W.excIn K C vErr "ValueError.__new__"|none=>false
noncomputable def gfB(K:Fg)(g:MG)(t:TB):Bool :=
 g.G.all (λx=>gvB K x.1 x.2)&&(gOk g.G t.T&&(t.T.all (λx=>mN K (if x.1 == "law" then some "law" else none) x.1 (faK K x.1) x.2.ps (λst=>jM g x.1 st x.2))&&(t.I.all (inB K g)&&(g.mk0.all (mk0B K)&&(aCV g.mki t.I&&(g.iso.all (isoB K t.cl)&&(t.cl.all (ciB K)&&(mtOk t.cl t.T&&(t.xt.all (xtB K)&&(t.xi.all (xiB K)&&(g.xcs.all (rzB K)&&(g.xns.all (λn=>(cvB K n).isSome)&&(vD g t.T&&(vF g t.T&&vE g t.T))))))))))))))
section
variable{K:Fg}(a:K.In h)(G:h.Ns mainGlobals mg)
include a G
theorem aDJ:∀{l:List (Str×GV)},(∀x tb,(x,GV.con (.t tb))∈l->i9 w K mg x tb)->l.all (λx=>gvB K x.1 x.2)=true->oA w K mg (faK K) l|[],_,_=>trivial|(x,v)::l,d,b=>by rw[aZR,aZL]at b;refine#[?_,aDJ (λx tb hx=>d x tb (mcm hx)) b.2];have b:=b.1;dsimp only at b;cases v with|con c=>(cases c with|s y=>((have b:(match W.nsIn K mainGlobals x with|some (some (.str z _))=>z==y|_=>false)=true:=b);split at b;{rename_i z t e;cases aYK.mp b;exact#[t,a1N a G e]};cases b)|i y=>((have b:(match W.nsIn K mainGlobals x with|some (some (.int z _))=>z==y|_=>false)=true:=b);split at b;{rename_i z t e;cases aYK.mp b;exact#[t,a1N a G e]};cases b)|t tb=>exact d x tb mcs)|fn n=>exact a1N a G (aYK.mp b)|no=>exact W.mg_none_of a G (aYK.mp b)|cls=>trivial
def aDK{n:Str}{cv:V}(e:cvB K n=some cv):pS mg n cv:=by unfold cvB at e;split at e;{rename_i C q;cases e;exact .inl #[C,a1N a G q,rfl]};{rename_i q;split at e;{cases e};rename_i hn;split at e;{rename_i T hb;cases e;exact .inr #[W.mg_none_of a G q,by simpa using hn,T,hb,rfl]};cases e};cases e
end
theorem aDL{K:Fg}{g:MG}:∀{l:List (Str×FD)},l.all (λx=>mN K (if x.1 == "law" then some "law" else none) x.1 (faK K x.1) x.2.ps (λst=>jM g x.1 st x.2))=true->n8 K g (faK K) l|[],_=>trivial|(x,d)::l,b=>by rw[aZR,aZL]at b;exists name,st,fd,F,a,ok,_,_,vP b.1;exact#[#[name,st,fd,F,a,ok],aDL b.2]
theorem aDM{K:Fg}{C:Addr}:∀{l:List (Str×Str×Nat)},l.all (vQ K C)=true->mJ K (faK K) C l|[],_=>trivial|(m,key,n)::l,b=>by rw[aZR,aZL]at b;have B:=b.1;unfold vQ at B;simp only[aZL,aYK]at B;exact#[#[B.1,B.2.1,B.2.2],aDM b.2]
theorem aDN{K:Fg}{C:Addr}:∀{l:List Str},l.all (λf=>W.findIn K (.ref C) f==some none)=true->mK K C l|[],_=>trivial|f::l,b=>by rw[aZR,aZL]at b;exact#[aYK.mp b.1,aDN b.2]
theorem aDO{K:Fg}:∀{l:List CI},l.all (ciB K)=true->oB K (faK K) l|[],_=>trivial|i::l,b=>by rw[aZR,aZL]at b;refine#[?_,aDO b.2];have b:=b.1;unfold ciB at b;split at b;{rename_i C e;simp only[aZL]at b;exact#[C,fL e,aDI b.1,aDM b.2.1,aDN b.2.2]};cases b
section
variable{K:Fg}(o:K.In h)(G:h.Ns mainGlobals mg)
include o G
theorem aDP{g:MG}:∀{l:List (Str×ID)},l.all (inB K g)=true->n9 K mg g l|[],_=>trivial|(x,d)::l,b=>by rw[aZR,aZL]at b;refine#[?_,aDP b.2];have b:=b.1;unfold inB at b;split at b;{rename_i C e;simp only[aZL,aYK]at b;exists D,A,r,f,B,b;exists name,st,fd,F,a,ok,_,_,vP B;exact#[name,st,C,_,fd,fL e,a1N o G (fL e),#[D,A,r,f],F,a,ok]};cases b
omit o G in
theorem vR{c x:Str}{v:Bool}:∀{l:List ((Str×Str)×Bool)},l.lookup (c,x)=some v->((c,x),v)∈l|[],e=>by cases e|(y,b)::l,e=>by rw[a0K]at e;split at e;{rename_i a;cases e;rw[<- aYK.mp a];exact mcs};exact mcm (vR e)
def xt_of{l:List ((Str×Str)×Bool)}(b:l.all (xtB K)=true):t8 K mg (λc x=>l.lookup (c,x)):=λc x v e=>by have b:=a2C.mp b ((c,x),v) (vR e);unfold xtB at b;split at b;{rename_i C d E a;simp only[aZL,aYK]at b;exact#[C,d,fL E,a1N o G (fL E),a1N o G (fL a),b.1,b.2.1,b.2.2]};cases b
def xi_of{l:List ((Str×Str)×Bool)}(b:l.all (xiB K)=true):t9 K mg (λc x=>l.lookup (c,x)):=λc x v e=>by have b:=a2C.mp b ((c,x),v) (vR e);unfold xiB at b;split at b;{rename_i C cv e1 e2;unfold xcB clB at b;simp only[aZL,aYK]at b;obtain⟨⟨E,D,A,r,f,d,a⟩,B⟩:=b;exact#[C,cv,fL e1,#[E,D,r,A,a,f,d],aDK o G e2,B]};cases b
def gf_of{g:MG}{t:TB}(b:gfB K g t=true)(ht:∀x tb,(x,GV.con (.t tb))∈g.G->i9 w K mg x tb):GF w K mg g t (faK K):=by unfold gfB at b;simp only[aZL]at b;exists N,b2,b3,b4,b5,b6,b7,b8,b9,L,J,F,E,D,A,B,b;refine#[aDJ o G ht N,b2,aDL b3,aDP o G b4,λc r=>?_,b6,λc r=>?_,aDO b8,b9,xt_of o G L,xi_of o G J,λc r=>?_,λn hn=>?_,D,A,B,λf d e hd=>?_,λf a b h S=>?_];{have b:=a2C.mp b5 c r;unfold mk0B at b;split at b;{rename_i C e;simp only[aZL,aYK]at b;exact#[C,fL e,a1N o G (fL e),b.1,b.2.1,b.2.2]};cases b};{have b:=a2C.mp b7 c r;unfold isoB at b;split at b;{rename_i C e;rw[aZL]at b;refine#[C,a1N o G (fL e),λt ht=>aYK.mp (a2C.mp b.1 t ht),λi T=>?_];have b:=a2C.mp b.2 i T;split at b;{rename_i C' V;unfold clB at b;simp only[aZL,aYK]at b;obtain⟨c1,⟨c2,c3,c4,c5⟩,Z⟩:=b;exact#[C',fL V,aDI c1,c2,c3,c4,c5,Z]};cases b};cases b};{have b:=a2C.mp F c r;unfold rzB at b;split at b;{rename_i C e;exact#[C,a1N o G (fL e),b]};cases b};{have b:=a2C.mp E n hn;cases e:cvB K n with|none=>rw[e]at b;cases b|some cv=>exact#[cv,aDK o G e]};{exists n,l,aTK B e hd;have b:=a2C.mp N _ (aYX l);have b:(W.nsIn K mainGlobals f==some (some (.ref (faK K f))))=true:=b;exact aYK.mp b};exists d,_,_,_,_,_,l,aTL A S;have b:=a2C.mp N _ (aYX l);have b:(W.nsIn K mainGlobals f==some (some (.ref (faK K f))))=true:=b;exact aYK.mp b
end
noncomputable def vS(K:Fg)(g:MG)(t:TB):Bool:=gfB K g t&&W.nsIn K mainGlobals "law" == some (some (.ref (faK K "law")))
theorem aDQ{x:Str}{d:FD}:∀{l:List (Str×FD)},l.lookup x=some d->(x,d)∈l|[],e=>by cases e|(y,b)::l,e=>by rw[a0K]at e;split at e;{rename_i a;cases e;rw[<- aYK.mp a];exact mcs};exact mcm (aDQ e)
def walkG{l:W.OpenLaw}{q:a3L}{d:DefRec}{K Kf:Params->Fg}{g:MG}{t:TB}{kk:Nat}{e:FD}(hn:l.most=some 63)(D:d.params.defaults=[])(B:d.name="law")(S:∀(w:World) (h:Heap),YP w h->(Kf w.params).In h)(sub:∀P b o,(K P).lookup b=some o->(Kf P).lookup b=some o)(nd:∀P b o,(b,o)∈K P->(K P).lookup b=some o)(tb:∀P,rB (K P) (Kf P)=true)(b:∀P,vS (K P) g t=true)(ht:∀(w:World) (mg:SOV) (h:Heap),(K w.params).In h->h.Ns mainGlobals mg->∀x tb,(x,GV.con (.t tb))∈g.G->i9 w (K w.params) mg x tb)(J:t.T.lookup ("law":Str)=some e)(hps:e.ps=[x])(L:bB (kk+1) callerA)(main:∀ns:List Int,ns.length<=63->(WT t (kk+1)).Φ "law" (pG ns)=.ok .fz (.bl true)):W.WalkO q loose XP YP l.row.toRowW d [] (λf vs=>PySem.call f vs):=by
 refine aT6 (K:=K) (Kf:=Kf) (n:=63) (k:=kk+1) (x:=x) (CX:=λw=>CX1 l.prog w) (sp:=λw=>vH (K w.params) ((WT t (kk+1)).Φ ("law":Str))) hn (by decide) D L S sub nd tb (λw mg fa h E G A=>?_)
  (λ_ _ a ns N V=>#[a,ns,rfl,V,main ns N,λ_=>rfl]) λ_ _ _ _ _ z=>by exists _,_,_,_,_,_,_,_,_,_,z,z;exact z
 have b:=b w.params;unfold vS at b;rw[aZL,aYK]at b;have f:=gf_of (w:=w) E G b.1 (ht w mg h E G);have Z:=a1N E G b.2;rw[B,Z]at A;cases A;have b3:t.T.all (λx=>mN (K w.params) (if x.1 == "law" then some "law" else none) x.1 (faK (K w.params) x.1) x.2.ps (λst=>jM g x.1 st x.2))=true:=by have:=b.1;unfold gfB at this;simp only[aZL]at this;exact this.2.2.1
 exists name,st,fd,F,hb,ok,r,bp,vP (a2C.mp b3 (("law":Str),e) (aDQ J));have r:name="law":=r.symm;subst r;refine#[fd,λs u=>.of_eq ?_,λbase _ _=>?_]
 . have:=bp [u] (by rw[hps];rfl);rw[hps]at this;exact this
 . have:=aTQ (P:=l.prog) (base:=base) f kk F J ok (by rw[hps];rfl);rw[hps]at this;exact this
end D3
namespace Tp
open PySem.W PySem.Calls
theorem KK_look(l:List Stmt)(P:Params)(b:Addr):∀as:List Addr,(KK l as P).lookup b=if b∈as then some (((lay P l (sA P)).bt.get b).getD default)else none|[]=>rfl|a::as=>by show((a,((lay P l (sA P)).bt.get a).getD default)::KK l as P).lookup b=_;rw[a0K,KK_look l P b as];by_cases h:b=a;{subst h;simp};have:(b==a)=false:=aXI.mpr h;rw[this];simp[h]
def KK_sub(l:List Stmt)(as ts:List Addr)(P:Params)(b:Addr)(o:Obj)(h:(KK l as P).lookup b=some o):(KK l (as++ts) P).lookup b=some o:=by rw[KK_look]at h ⊢;split at h;{rename_i a;rw[al (aXX _ a)];exact h};cases h
def KK_nd(l:List Stmt)(as:List Addr)(P:Params)(b:Addr)(o:Obj)(h:(b,o)∈KK l as P):(KK l as P).lookup b=some o:=by rw[KK_look];unfold KK at h;exists a,ha,e,a2O.mp h;cases e;rw[al ha]
def left{p:a3L}{r:OpenRow}{l:List Stmt}{as:List Addr}{f:Code}(a:behindTheImports p=l)(pre:∀(w:a3K) (os:OsState),topGo treeTable p w 11 an 12 #[boot_heap w.params,#[],boot_drawn,boot_toks,os] (topStub p)=some ((sh w.params (sA w.params) 15 187 os).abs,#[denote treeTable (cd p),cd p,z0,[topFrame z0]]))(blk:∀(w:a3K) (s:a3I),segRun treeTable p w 11 an 1 1 s (blockOf l (ev p) (cd p) z0 [topFrame z0])=some (.next,s,cd p,z0))(run:∀(w:a3K) (os:OsState),go treeTable p w 1000 l (sh w.params (sA w.params) 15 187 os) (cd p) z0=some (sh w.params (lay w.params l (sA w.params)) n k os,f,q'))(le:Nat.ble (12+(1+ns 1000 2 l)) 1000000=true)(d:opening p=plainProg p.main.scope.names)(E:∀s,fenceModules? p s=some s)(xR:∀w:a3K,(λos=>((staticsOk (importedModules p.main.body) (boot_heap w.params) (H1 l n w.params)&&namesBound p (H1 l n w.params)&&gensDone (S1 l n k w.params os)&&laidKept (boot_heap w.params) (H1 l n w.params)),openSeen (vw p) (los l) (importedModules p.main.body) (xt r) true (S1 l n k w.params os),(hk l as).obs (S1 l n k w.params os)))=λ_=>(true,openGood (vw p) (los l),(hk l as).val w)):LeftO p (vw p) (los l) (xt r) (hk l as).obs (hk l as).val 1000000 :=
 LeftO.of_pieces (H₀:=boot_heap) (H₁:=H1 l n) (m₀:=11) (ann:=an) (boot_open d rfl E) size1 (run_of a pre blk run) le xR
def head{p:OpenLaw}{l:List Stmt}{as:List Addr}{d:DefRec}(left:LeftO p.prog (vw p.prog) (los l) (xt p.row) (hk l as).obs (hk l as).val 1000000)(S:p.row.wellSaid=true)(E:defOf (vw p.prog) p.name=some (d,[]))(D:p.prog.theDef p.name=some (d.params,d.body,d.scope))(B:kwWritten? d.params.kwonlyargs d.params.kw_defaults=some [])(A:(!p.row.writes||p.row.records.isEmpty)=true)(ok:(chainsOk (vw p.prog)&&opensWell p.prog&&(frees p.row.toRowW&&p.row.within.isEmpty))=true)(o:p.prog.bare)(a:p.row.toRowW.promised)(call:WalkO (vw p.prog) (los l) (XL (vw p.prog) []) (hk l as).says p.row.toRowW d [] λf vs=>PySem.call f vs):p.row.Holds :=
 holds_open (r:=p.row) (XP:=XL (vw p.prog) []) (YP:=(hk l as).says) left (hk l as).of (hk l as).keeps (λs e=>xl_of s (Bool.and_eq_true_iff.mp e).1) XL.keeps E D B
  (λs e=>recFacts_of (Bool.and_eq_true_iff.mp e).2) A S ok o a call
end Tp
namespace D3
open PySem.Calls
noncomputable def rE:Obj->List DictEntry|⟨.type t,none,.dict es _,S⟩=>if t="dict" /\ S.size=0 then es.toList else[]|_=>[]
def aT7{o:Obj}(h:rE o≠[]):∃es ep,o=#[.type "dict",none,.dict es ep,#[]]/\rE o=es.toList:=by unfold rE at h ⊢;split at h;{rename_i t es ep sl;split at h;{rename_i a;exists rfl,hs,a;obtain rfl:=a20 hs;exact#[es,ep,rfl,rfl]};exact absurd rfl h};exact absurd rfl h
noncomputable def fM(K:Fg)(x:Str):List DictEntry:=match adB K x with
 |some a=>(match K.lookup a with|some o=>rE o|none=>[])
 |none=>[]
def aT8{K:Fg}(h:fM K x≠[]):∃a es ep,adB K x=some a/\K.lookup a=some #[.type "dict",none,.dict es ep,#[]]/\fM K x=es.toList:=by unfold fM at h ⊢;cases ea:adB K x with|none=>rw[ea]at h;exact absurd rfl h|some a=>rw[ea]at h;dsimp only at h ⊢;cases E:K.lookup a with|none=>rw[E]at h;exact absurd rfl h|some o=>rw[E]at h;dsimp only at h ⊢;exists es,ep,rfl,e,aT7 h;exact#[a,es,ep,rfl,E,e]
noncomputable def kQ(P:Params):List (Str×Str)->List DictEntry->List DictEntry|(z,_)::r,⟨_,.str _ t,.ref a⟩::es=>#[PyData.keyHash P z,.str z t,.ref a]::kQ P r es|_,_=>[]
noncomputable def okE(K:Fg):List (Str×Str)->List DictEntry->Bool|[],[]=>true|(_,f)::r,⟨_,.str _ _,.ref a⟩::es=>W.nsIn K mainGlobals f==some (some (.ref a))&&okE K r es|_,_=>false
theorem aDR{w:a3K}{K:Fg}:∀{tb:List (Str×Str)}{es:List DictEntry},es=kQ w.params tb es->okE K tb es=true->j9 w K tb es|[],[],_,_=>rfl|[],⟨_,.str _ _,.ref _⟩::es,e,_=>by unfold kQ at e;cases e|(z,f)::r,es,e,ok=>by unfold okE at ok;split at ok;{rename_i d l;cases l};{rename_i F A B y t a es' d;cases d;rw[aZL,aYK]at ok;unfold kQ at e;injection e with o E;exact#[t,a,es',congrArg (·::es') o,ok.1,aDR E ok.2]};cases ok
def aT9{K:Fg}:∀{tb:List (Str×Str)},tb≠[]->okE K tb []=false|[],h=>absurd rfl h|p::r,_=>by unfold okE;rfl
def aDS{K:Fg}{tb:List (Str×Str)}(X:K.In h)(G:h.Ns mainGlobals mg)(e:fM K x=kQ w.params tb (fM K x))(ok:okE K tb (fM K x)=true)(ne:tb≠[])(nd:(tb.map (·.1)).Nodup):i9 w K mg x tb:=by(have B:fM K x≠[]:=λz=>by rw[z,aT9 ne]at ok;cases ok);have t:=aDR e ok;exists a,es,ep,ea,d,E,aT8 B;rw[E]at t;exact#[#[a,_,es,ep,a1N X G (fL ea),d,#[rfl,rfl,rfl],rfl,t],nd]
def aUA{g:MG}{K:Params->Fg}{y d:Str}{a T:List (Str×Str)}(b:(g.G.all λx=>match x.2 with|.con (.t tb)=>(x.1==y&&tb==a)||(x.1==d&&tb==T)|_=>true)=true)(e:∀P,fM (K P) y=kQ P a (fM (K P) y))(ok:∀P,okE (K P) a (fM (K P) y)=true)(e':∀P,fM (K P) d=kQ P T (fM (K P) d))(o:∀P,okE (K P) T (fM (K P) d)=true)(ne:a≠[])(nd:(a.map (·.1)).Nodup)(N:T≠[])(f:(T.map (·.1)).Nodup)(w:a3K)(mg:SOV)(h:Heap)(X:(K w.params).In h)(G:h.Ns mainGlobals mg)(x:Str)(tb:List (Str×Str))(l:(x,GV.con (.t tb))∈g.G):i9 w (K w.params) mg x tb:=by have:=a2C.mp b _ l;dsimp only at this;rw[a0N,aZL,aZL,aYK,aYK,aYK,aYK]at this;rcases this with⟨rfl,rfl⟩|⟨rfl,rfl⟩;{exact aDS X G (e w.params) (ok w.params) ne nd};exact aDS X G (e' w.params) (o w.params) N f
end D3
namespace K45
open D3
abbrev aP(ps U:List Str)(b:List D3.S):FD:=#[ps,ps++U,b,[]]
abbrev n1:E:=.int 1
abbrev n0:E:=.int 0
abbrev n2:E:=.int 2
abbrev n3:E:=.int 3
abbrev n4:E:=.int 4
abbrev sf(d:α):Option (Bool×α):=some (false,d)
abbrev si(i:Int):Option (Bool×D):=some (false,.int i)
noncomputable abbrev v0:E:=.var 0
noncomputable abbrev v1:E:=.var 1
noncomputable abbrev v2:E:=.var 2
abbrev v3:E:=.var 3
abbrev v4:E:=.var 4
abbrev v5:E:=.var 5
abbrev v6:E:=.var 6
abbrev v7:E:=.var 7
abbrev v8:E:=.var 8
abbrev v9:E:=.var 9
abbrev v10:E:=.var 10
abbrev v11:E:=.var 11
abbrev v12:E:=.var 12
abbrev v13:E:=.var 13
abbrev v14:E:=.var 14
abbrev v15:E:=.var 15
abbrev v16:E:=.var 16
abbrev v17:E:=.var 17
abbrev v18:E:=.var 18
abbrev v19:E:=.var 19
abbrev v20:E:=.var 20
def vT:List D3.S:=[.setC 3 false (.comp (.meth v0 "plus" [(.ix v1 v2),(.ix v1 (.bin .Add v2 n1))]) (.rng3 n0 (.bin .Sub (.bcall .len [v2]) n1) n2) [] [0,2] (.nm 2) 1),.ite (.cmp .Eq (.bin .Mod (.bcall .len [v2]) n2) n1) [.app 3 (.ix v2 (.neg n1))] [],.frzV 3,.set 2 v3]
def aDT:List D3.S:=[.expr (.call "refuse_missing" 2 [v3,v1]),.expr (.call "refuse_twice" 2 [v0,v2])]
def gC:List D3.S:=[.ite (.andL [(.cmp .Gt (.bcall .len [v1]) n0),(.cmp .Eq (.ix (.ix v1 (.neg n1)) n0) v2),(.cmp .Eq (.ix (.ix v1 (.neg n1)) n1) v3)]) [.lput 1 (.neg n1) (.tup [v2,v3,(.frz (.bin .Add (.ix (.ix v1 (.neg n1)) n2) v4))])] [.app 1 (.tup [v2,v3,v4])]]
def fN:List D3.S:=[.set 10 (.frz (.bin .Add (.bin .FloorDiv v0 (.bin .Add (.int 7) (.bin .Mult (.int 6) v9))) (.bin .Mult (.int 11) v9))),.ite (.cmp .Eq v9 v5) [.set 10 (.frz (.bin .Add (.bin .FloorDiv v0 (.int 25)) v7))] [],.ite (.cmp .Eq v9 n0) [.set 8 (.frz (.bin .Add v8 (.ix v2 (.bin .Mod v10 (.int 26)))))] [.set 8 (.frz (.bin .Add v8 (.ix v3 (.bin .Mod v10 (.int 36)))))]]
def rF:List D3.S:=[.set 8 (.str ""),.for (.rng1 v4) (.nm 9) fN,.app 6 v8]
def rG:List D3.S:=[.set 5 (.tup [(.frz (.tcall .tuple [(.srtw v2)])),v3]),.nput 1 v5 (.bin .Add (.nget v1 v5 n0) v4)]
def jO:List D3.S:=[.ite (.tru (.bcall .isinstance [v2,(.ty .str)])) [.app 1 (.tup [n1,n0,v2])] [.app 1 (.tup [n0,v2,(.str "")])]]
def vU:List D3.S:=[.set 7 (.frz (.lst [(.ix v4 (.bin .Mod v6 n3)),(.ix v4 (.bin .Mod (.bin .FloorDiv v6 n3) n3)),(.ix v4 (.bin .Mod (.bin .FloorDiv v6 (.int 9)) n3))])),.cmu 5 "_law_put" 4 [v2,(.frz (.tcall .tuple [(.slice v7 none (some (.bcall .len [v1])))])),(.frz (.call "_law_note" 3 [v2,(.frz (.bin .FloorDiv v6 (.int 27))),v3]))]]
def vV:List D3.S:=[.ite (.not (.tru (.call "_law_alike" 2 [(.ix v0 v2),(.ix v1 v2)]))) [.ret (.bl false)] []]
def aDU:List D3.S:=[.cmu 3 "_law_put" 4 [v2,v4,v5]]
def aUB:List D3.S:=[.cmu 3 "_law_put" 4 [v2,v4,v5]]
def vW:List D3.S:=[.ite (.andL [(.not (.tru (.bcall .isinstance [(.ix v5 v1),(.ty .str)]))),(.cmp .Gt (.ix v5 v1) n0)]) [.cmu 4 "_law_put" 4 [v3,(.frz (.tcall .tuple [(.comp (.ix v0 v1) (.items v2) [] [5] (.nm 1) 1)])),(.frz (.call "_law_so_often" 3 [v3,(.ix v5 v1),v6]))]] []]
def vX:List D3.S:=[.ret (.andL [(.bcall .isinstance [v0,(.ty .int)]),(.not (.bcall .isinstance [v0,(.ty .bool)]))])]
def aUC:List D3.S:=[.ite (.cmp .Eq (.bcall .len [v1]) n0) [.ret (.meth v0 "nought" [])] [],.set 2 (.frz (.tcall .list [v1])),.whl 1000000 (.cmp .Gt (.bcall .len [v2]) n1) vT,.ret (.ix v2 n0)]
def aDV:List D3.S:=[.setC 2 true (.comp (.tup [v2,(.frz (.call "poured" 2 [v0,(.nix v1 v2)]))]) (.nkeys v1) [] [0,1] (.nm 2) 1),.ret (.call "without_noughts" 2 [v0,v2])]
def aDW:List D3.S:=[.set 2 (.frz (.meth v0 "nought" [])),.ret (.comp (.tup [v1,v2]) (.items v1) [(.cmp .NotEq v2 v0)] [2] (.tp [(.nm 1),(.nm 2)]) 2)]
def aUD:List D3.S:=[.ite (.tru (.call "is_whole" 1 [v0])) [.ret (.tup [n0,v0,(.str "")])] [],.ret (.tup [n1,n0,v0])]
def aUE:List D3.S:=[.ret (.comp (.call "rank" 1 [v0]) (.items v0) [] [] (.nm 0) 1)]
def aUF:List D3.S:=[.grp 2 (.for (.items v1) (.tp [(.nm 3),(.nm 4)]) (.app v3 v4)),.nfrz 2,.ret (.tcall .tuple [(.srtl (.call "poured_groups" 2 [v0,v2]) (.call "rank_of_row" 1 [(.ix v0 n0)]))])]
def aDX:List D3.S:=[.ite (.cmp .In (.ix v0 v1) (.slice v0 none (some v1))) [.never] []]
def vY:List D3.S:=[.ret (.comp (.tidx v0 v1) (.items v0) [] [1] (.nm 1) 1)]
def vZ:List D3.S:=[.ret (.tcall .tuple [(.comp (.ix v0 v1) (.items v0) [] [1] (.nm 1) 1)])]
def aUG:List D3.S:=[.ite (.cmp .Eq (.ix v0 n0) (.str "table")) [.ret (.tup [])] [],.ite (.cmp .In (.ix v0 n0) (.tup [(.str "join"),(.str "pour"),(.str "leave")])) [.ret (.tup [(.ix v0 n1),(.ix v0 n2)])] [],.ret (.tup [(.ix v0 n1)])]
def aDY:List D3.S:=[.ite (.cmp .NotIn v0 v1) [.never] []]
def aDZ:List D3.S:=[.for (.enum1 v0) (.tp [(.nm 2),(.nm 3)]) aDT,.retV 0]
def aUH:List D3.S:=[.expr (.call "refuse_missing" 2 [v0,v2]),.ret (.call "kept" 2 [v1,v2])]
def aUI:List D3.S:=[.ret (.call "totalled" 3 [(.ix v0 n2),(.ix v0 n3),(.ix v1 n0)])]
def aUJ:List D3.S:=[.asg (.tp [(.nm 2),(.nm 3)]) v1,.ite (.cmp .NotEq v2 v3) [.never] [],.retV 2]
def aUK:List D3.S:=[.ite (.cmp .Eq (.ix v0 n0) (.str "table")) [.ret (.call "columns_of_table" 2 [(.ix v0 n1),v1])] [],.setC 2 true (.comp (.call "columns_of" 2 [v1,v0]) (.items (.call "askings_within" 1 [v0])) [] [1] (.nm 1) 1),.set 3 (.deed "DEEDS_askings" [("pick","columns_of_pick"),("keep","columns_of_keep"),("call","columns_of_call"),("join","columns_of_join"),("pour","columns_of_pour"),("total","columns_of_total"),("leave","columns_of_leave")] (.ix v0 n0)),.ret (.callv 3 ["columns_of_pick","columns_of_keep","columns_of_call","columns_of_join","columns_of_pour","columns_of_total","columns_of_leave"] 2 [v0,v2])]
def aUL:List D3.S:=[.ite (.din true v0 v1) [.never] [],.ret (.dix v1 v0)]
def aD0:List D3.S:=[.expr (.call "columns_of" 2 [v1,(.frz (.dcomp v1 (.ix (.dix v0 v1) n0) (.kkeys v2) [2] (.nm 1) 1))]),.ret (.call "answered" 3 [v0,v1,v2])]
def rH:List D3.S:=[.ite (.cmp .Eq (.ix v1 n0) (.str "table")) [.ret (.dix v2 (.ix v1 n1))] [],.ret (.call "answered_by" 3 [v0,v1,(.frz (.comp (.call "answered" 3 [v0,v2,v1]) (.items (.call "askings_within" 1 [v1])) [] [0,2] (.nm 2) 1))])]
def aUM:List D3.S:=[.set 3 (.deed "DEEDS_asking" [("pick","picked"),("keep","kept_rows"),("call","called_rows"),("join","joined"),("pour","poured_rows"),("total","totals"),("leave","left_out")] (.ix v1 n0)),.ret (.callv 3 ["picked","kept_rows","called_rows","joined","poured_rows","totals","left_out"] 3 [v0,v1,v2])]
def wA:List D3.S:=[.ret (.tup [(.ix (.ix v2 n0) n0),(.frz (.call "gathered" 2 [v0,(.frz (.bin .Add (.ix (.ix v2 n0) n1) (.ix (.ix v2 n1) n1)))]))])]
def wB:List D3.S:=[.asg (.tp [(.nm 3),(.nm 4)]) (.ix v2 n0),.set 5 (.frz (.tidx v3 (.ix v1 n2))),.set 6 (.frz (.call "places_of" 2 [(.ix v1 n3),v3])),.setC 7 true (.comp (.tup [(.frz (.call "values_at" 2 [v0,v3])),(.frz (.meth v1 "many" [(.frz (.call "said" 1 [(.ix v3 v2)])),v4]))]) (.items v4) [] [6,0,5] (.tp [(.nm 3),(.nm 4)]) 2),.ret (.tup [(.ix v1 n3),(.frz (.call "gathered" 2 [v0,v7]))])]
def aUN:List D3.S:=[.ite (.andL [(.tru (.call "is_whole" 1 [v0])),(.cmp .Gt v0 n0)]) [.retV 0] [],.ret n0]
def wC:List D3.S:=[.set 1 (.lst []),.for (.items (.srtw v0)) (.tp [(.nm 2),(.nm 3),(.nm 4)]) gC,.frzV 1,.ret (.tcall .tuple [v1])]
def rJ:List D3.S:=[.ite (.cmp .Lt v1 (.bcall .len [v0])) [.ret (.ix v0 v1)] [],.ret n0]
def wD:List D3.S:=[.set 2 (.str "abcdefghijklmnopqrstuvwxyz"),.set 3 (.frz (.bin .Add v2 (.str "0123456789"))),.set 4 (.frz (.bin .Add n1 (.bin .Mod v0 (.int 5)))),.set 5 (.frz (.bin .Mod (.bin .FloorDiv v0 (.int 5)) v4)),.set 6 (.lst []),.for (.rng1 v1) (.nm 7) rF,.retV 6]
def aUO:List D3.S:=[.set 1 .nnew,.for (.items v0) (.tp [(.nm 2),(.nm 3),(.nm 4)]) rG,.nfrz 1,.ret (.tcall .tuple [(.srtw (.comp (.tup [(.ix v1 n0),(.ix v1 n1),(.nix v0 v1)]) (.nkeys v1) [] [1] (.nm 1) 1))])]
def wE:List D3.S:=[.ite (.cmp .Eq v0 n0) [.ret (.bin .Add v1 v2)] [],.ret (.call "_law_normal" 1 [(.frz (.bin .Add (.tcall .list [v1]) (.tcall .list [v2])))])]
def mO:List D3.S:=[.ite (.cmp .Eq v0 n0) [.ret (.bin .Add n1 (.bin .Mod v1 (.bin .Pow (.int 10) (.int 40))))] [],.set 3 (.tup [(.tup [(.ix v2 (.bin .Mod v1 (.int 8)))]),(.tup []),n1]),.ite (.cmp .Eq (.bin .Mod (.bin .FloorDiv v1 (.int 8)) n4) n1) [.ret (.call "_law_normal" 1 [(.frz (.lst [v3,(.tup [(.tup [(.ix v2 (.bin .Mod (.bin .FloorDiv v1 (.int 32)) (.int 8)))]),(.tup []),(.frz (.bin .Add n1 (.bin .Mod (.bin .FloorDiv v1 (.int 256)) n3)))])]))])] [],.ret (.tup [v3])]
def aUP:List D3.S:=[.mput [.ite (.nin false v2 v0) [.nput 0 v2 (.call "_law_plus" 3 [v1,(.nix v0 v2),v3])] [.nput 0 v2 v3]]]
def wF:List D3.S:=[.set 1 (.lst []),.for (.items v0) (.nm 2) jO,.retV 1]
def aD1:List D3.S:=[.ret (.tup [v1,(.frz (.tcall .tuple [(.comp (.tup [v1,(.nix v0 v1)]) (.items (.srtf "_law_rank" v0)) [] [0] (.nm 1) 1)]))])]
def wG:List D3.S:=[.set 2 (.frz (.lst [(.str "x"),(.str ""),(.str "ab"),(.str "X y"),(.str "~0")])),.ret (.lst [(.frz (.bin .Sub (.bin .Mod v0 v1) (.bin .FloorDiv v1 n3))),(.frz (.bin .Mod (.bin .FloorDiv v0 (.int 7)) n3)),(.ix v2 (.bin .Mod v0 (.int 5)))])]
def aD2:List D3.S:=[.set 5 .nnew,.for (.items v0) (.nm 6) vU,.nfrz 5,.ret (.call "_law_sorted" 2 [v5,v1])]
def aUQ:List D3.S:=[.ite (.cmp .Is v1 .non) [.ret (.cmp .Is v0 .non)] [],.ite (.tru (.bcall .isinstance [v1,(.ty .bool)])) [.ret (.andL [(.bcall .isinstance [v0,(.ty .bool)]),(.cmp .Eq v0 v1)])] [],.ite (.tru (.bcall .isinstance [v1,(.ty .int)])) [.ret (.andL [(.bcall .isinstance [v0,(.ty .int)]),(.not (.bcall .isinstance [v0,(.ty .bool)])),(.cmp .Eq v0 v1)])] [],.ite (.tru (.bcall .isinstance [v1,(.ty .str)])) [.ret (.andL [(.bcall .isinstance [v0,(.ty .str)]),(.cmp .Eq v0 v1)])] [],.ite (.tru (.bcall .isinstance [v1,(.ty .tuple)])) [.ite (.orL [(.not (.tru (.bcall .isinstance [v0,(.ty .tuple)]))),(.cmp .NotEq (.bcall .len [v0]) (.bcall .len [v1]))]) [.ret (.bl false)] []] [.ite (.orL [(.not (.tru (.bcall .isinstance [v0,(.ty .list)]))),(.cmp .NotEq (.bcall .len [v0]) (.bcall .len [v1]))]) [.ret (.bl false)] []],.for (.rng1 (.bcall .len [v1])) (.nm 2) vV,.ret (.bl true)]
def aD3:List D3.S:=[.set 3 .nnew,.for (.items (.ix v0 n1)) (.tp [(.nm 4),(.nm 5)]) aDU,.for (.items (.ix v1 n1)) (.tp [(.nm 4),(.nm 5)]) aUB,.nfrz 3,.ret (.call "_law_sorted" 2 [v3,(.ix v0 n0)])]
def oD:List D3.S:=[.ite (.cmp .Eq v0 n0) [.ret (.bin .Mult v1 v2)] [],.ret (.tcall .tuple [(.comp (.tup [v1,v2,(.frz (.bin .Mult v0 v3))]) (.items v2) [] [1] (.tp [(.nm 1),(.nm 2),(.nm 3)]) 3)])]
def aD4:List D3.S:=[.set 4 .nnew,.for (.items (.ix v0 n1)) (.tp [(.nm 5),(.nm 6)]) vW,.nfrz 4,.ret (.call "_law_sorted" 2 [v4,(.frz (.tcall .tuple [(.comp (.ix (.ix v0 n0) v1) (.items v2) [] [0] (.nm 1) 1)]))])]
def iV:List D3.S:=[.set 1 (.frz (.bin .Mod (.call "_law_cell_at" 2 [v0,n0]) n2)),.set 2 (.frz (.call "_law_names" 2 [(.frz (.call "_law_cell_at" 2 [v0,n1])),(.int 8)])),.set 3 (.frz (.call "_law_pool" 2 [(.frz (.call "_law_cell_at" 2 [v0,n2])),(.frz (.bin .Pow (.int 10) (.int 50)))])),.set 4 (.frz (.tcall .tuple [(.slice v2 none (some n3))])),.set 5 (.frz (.slice v0 (some n4) (some (.int 44)))),.set 6 (.frz (.call "_law_made" 5 [(.frz (.comp (.ix v0 v1) (.rng1 (.bcall .len [v5])) [(.cmp .Eq (.bin .Mod v1 n2) n0)] [5] (.nm 1) 1)),v4,v1,v2,v3])),.set 7 (.frz (.call "_law_made" 5 [(.frz (.comp (.ix v0 v1) (.rng1 (.bcall .len [v5])) [(.cmp .Eq (.bin .Mod v1 n2) n1)] [5] (.nm 1) 1)),v4,v1,v2,v3])),.set 8 (.disp [(.ix v2 n3),(.ix v2 n4)] [v6,v7]),.nfrz 8,.set 9 (.frz (.mk0 "Counts")),.ite (.cmp .Eq v1 n1) [.set 9 (.frz (.mk0 "Reasons"))] [],.set 10 (.tup [(.str "pour"),(.tup [(.str "table"),(.ix v2 n3)]),(.tup [(.str "table"),(.ix v2 n4)])]),.set 11 (.frz (.call "_law_poured" 3 [v6,v7,v1])),.ite (.not (.tru (.call "_law_alike" 2 [(.frz (.call "ask" 3 [v9,v10,v8])),v11]))) [.ret (.bl false)] [],.set 12 (.frz (.call "_law_cell_at" 2 [v0,n3])),.set 13 (.frz (.bin .Mod v12 n3)),.setC 14 true (.comp (.bin .Mod (.bin .Add (.bin .FloorDiv v0 n3) (.bin .Mult v1 (.bin .Add n1 (.bin .Mod (.bin .FloorDiv v0 (.int 9)) n2)))) n3) (.rng1 (.bin .Mod (.bin .FloorDiv v12 (.int 18)) n4)) [] [12] (.nm 1) 1),.set 15 (.frz (.tcall .tuple [(.comp (.ix v0 v1) (.items v14) [] [4] (.nm 1) 1)])),.set 16 (.tup [(.str "total"),(.tup [(.str "table"),(.ix v2 n3)]),(.ix v4 v13),v15]),.ite (.not (.tru (.call "_law_alike" 2 [(.frz (.call "ask" 3 [v9,v16,v8])),(.frz (.call "_law_totals" 4 [v6,v13,v14,v1]))]))) [.ret (.bl false)] [],.ite (.not (.tru (.call "_law_alike" 2 [(.frz (.call "ask" 3 [v9,(.tup [(.str "total"),v10,(.ix v4 v13),v15]),v8])),(.frz (.call "_law_totals" 4 [v11,v13,v14,v1]))]))) [.ret (.bl false)] [],.ret (.deqC v8 (.disp [(.ix v2 n3),(.ix v2 n4)] [v6,v7]))]
def aUR:List D3.S:=[.ret n0]
def aUS:List D3.S:=[.ret (.bin .Add v1 v2)]
def wH:List D3.S:=[.ret (.bin .Mult v1 v2)]
def aUT:List D3.S:=[.ret (.tup [])]
def aD5:List D3.S:=[.ret (.call "reason_of" 1 [(.frz (.bin .Add v1 v2))])]
def wI:List D3.S:=[.ite (.cmp .Eq v1 n0) [.ret (.tup [])] [],.ret (.tcall .tuple [(.comp (.tup [v1,v2,(.frz (.bin .Mult v0 v3))]) (.items v2) [] [1] (.tp [(.nm 1),(.nm 2),(.nm 3)]) 3)])]
def aD6:FD:=aP ["thing"] [] vX
def aD7:FD:=aP ["kind","notes"] ["sums","halves"] aUC
def aD8:FD:=aP ["kind","groups"] ["sums"] aDV
def aD9:FD:=aP ["kind","pairs"] ["nought"] aDW
def aEA:FD:=aP ["value"] [] aUD
def aEB:FD:=aP ["row"] [] aUE
def aEC:FD:=aP ["kind","pairs"] ["groups","row","note"] aUF
def aED:FD:=aP ["columns","at"] [] aDX
def aEE:FD:=aP ["wanted","columns"] [] vY
def aEF:FD:=aP ["places","row"] [] vZ
def wJ:FD:=aP ["asking"] [] aUG
def aEG:FD:=aP ["column","columns"] [] aDY
def aEH:FD:=aP ["columns","within"] ["at","column"] aDZ
def aEI:FD:=aP ["column","columns","within"] [] aUH
def aEJ:FD:=aP ["asking","within"] [] aUI
def aEK:FD:=aP ["asking","within"] ["one","other"] aUJ
def wK:FD:=aP ["asking","shapes"] ["within","deed"] aUK
def aEL:FD:=aP ["name","shapes"] [] aUL
def aEM:FD:=aP ["kind","asking","store"] [] aD0
def wL:FD:=aP ["kind","asking","store"] [] rH
def aEN:FD:=aP ["kind","asking","within"] ["deed"] aUM
def aEO:FD:=aP ["kind","asking","within"] [] wA
def aEP:FD:=aP ["kind","asking","within"] ["columns","pairs","at","places","found"] wB
def aEQ:FD:=aP ["value"] [] aUN
def aER:FD:=aP ["terms"] ["found","facts","bars","times"] wC
def aES:FD:=aP ["_law_script","_law_k"] [] rJ
def aET:FD:=aP ["_law_cell","_law_many"] ["_law_letters","_law_signs","_law_size","_law_at","_law_names_here","_law_k","_law_name","_law_j","_law_drift"] wD
def aEU:FD:=aP ["_law_terms"] ["_law_known","_law_facts","_law_bars","_law_times","_law_stem"] aUO
def wM:FD:=aP ["_law_way","_law_a","_law_b"] [] wE
def rK:FD:=aP ["_law_way","_law_cell","_law_names_here"] ["_law_one"] mO
def aEV:FD:=aP ["_law_known","_law_way","_law_row","_law_note_here"] [] aUP
def aEW:FD:=aP ["_law_row"] ["_law_ranks","_law_value"] wF
def aEX:FD:=aP ["_law_known","_law_columns"] [] aD1
def aEY:FD:=aP ["_law_cell","_law_big"] ["_law_words"] wG
def aEZ:FD:=aP ["_law_cells","_law_columns","_law_way","_law_names_here","_law_pool_here"] ["_law_known","_law_cell","_law_row"] aD2
def rL:FD:=aP ["_law_found","_law_due"] ["_law_k"] aUQ
def aE0:FD:=aP ["_law_one","_law_other","_law_way"] ["_law_known","_law_row","_law_note_here"] aD3
def wN:FD:=aP ["_law_way","_law_often","_law_note_here"] [] oD
def aE1:FD:=aP ["_law_some","_law_at","_law_places","_law_way"] ["_law_known","_law_row","_law_note_here"] aD4
def wO:FD:=aP ["_law_script"] ["_law_way","_law_names_here","_law_pool_here","_law_columns","_law_cells","_law_one","_law_other","_law_store","_law_kind","_law_both","_law_poured_here","_law_cell","_law_at","_law_places","_law_heads","_law_asking"] iV
def aE2:FD:=aP ["self"] [] aUR
def aE3:FD:=aP ["self","a","b"] [] aUS
def aE4:FD:=aP ["self","n","a"] [] wH
def aE5:FD:=aP ["self"] [] aUT
def aE6:FD:=aP ["self","a","b"] [] aD5
def aE7:FD:=aP ["self","n","a"] [] wI
def aUU:CI:=#["Kind",["Kind"],[],[("lack","Kind.lack",2)]]
def aUV:CI:=#["Counts",["Counts","Kind"],[],[("nought","Counts.nought",1),("one","Counts.one",1),("plus","Counts.plus",3),("times","Counts.times",3),("many","Counts.many",3),("lack","Kind.lack",2)]]
def aUW:CI:=#["Reasons",["Reasons","Kind"],[],[("nought","Reasons.nought",1),("one","Reasons.one",1),("plus","Reasons.plus",3),("times","Reasons.times",3),("lack","Reasons.lack",2),("many","Reasons.many",3)]]
abbrev pFD(s:Str)(d:FD):Str×FD:=(s,d)
abbrev pGV(s:Str)(d:GV):Str×GV:=(s,d)
def T:List (Str×FD):=(List.append [("is_whole",aD6),("is_name",aP ["thing"] [] [.never,.never,.never]),("is_name_sign",aP ["sign"] [] [.never]),("is_rising",aP ["things"] [] [.never]),("poured",aD7),("poured_groups",aD8),("without_noughts",aD9),("rank",aEA),("rank_of_row",aEB),("gathered",aEC),("refuse_twice",aED),("places_of",aEE),("values_at",aEF),("passes",aP ["test","columns","row"] ["word","one","other"] [.never,.never,.never,.never,.never,.never,.never,.never]),("value_of",aP ["part","columns","row"] [] [.never,.never]),("columns_in",aP ["test"] ["word"] [.never,.never,.never,.never]),("askings_within",wJ),("refuse_missing",aEG),("columns_of_pick",aP ["asking","within"] ["column"] [.never,.never]),("kept",aEH),("columns_of_keep",aP ["asking","within"] [] [.never]),("totalled",aEI),("columns_of_total",aEJ),("columns_of_call",aP ["asking","within"] ["columns","at"] [.never,.never,.never,.never]),("columns_of_join",aP ["asking","within"] ["one","other"] [.never,.never]),("columns_of_pour",aEK),("columns_of_leave",aP ["asking","within"] ["one","other","column"] [.never,.never,.never]),("columns_of",wK)] (List.append [("columns_of_table",aEL),("ask",aEM),("answered",wL),("answered_by",aEN),("picked",aP ["kind","asking","within"] ["columns","pairs"] [.never,.never]),("kept_rows",aP ["kind","asking","within"] ["columns","pairs","places"] [.never,.never,.never]),("called_rows",aP ["kind","asking","within"] [] [.never]),("joined",aP ["kind","asking","within"] ["one","other","columns","shared","beside","places","found","row","note","rest","factor"] [.never,.never,.never,.never,.never,.never,.never,.never]),("rows_by",aP ["shared","places","some"] ["at","groups","row","note"] [.never,.never,.never,.never]),("poured_rows",aEO),("totals",aEP),("said",aEQ),("left_out",aP ["kind","asking","within"] ["columns","pairs","places","notes","found","row","note","other"] [.never,.never,.never,.never,.never,.never]),("reason_of",aER),("term_of_both",aP ["one","other"] [] [.never]),("bars_of_both",aP ["one","other"] ["found","bar"] [.never,.never,.never]),("is_reason",aP ["thing"] ["term"] [.never,.never,.never]),("is_term",aP ["thing"] ["facts","bars","times"] [.never,.never,.never,.never]),("is_facts",aP ["thing"] [] [.never,.never]),("is_bars",aP ["thing"] ["bar"] [.never,.never,.never]),("shown_reason",aP ["reason"] ["texts","facts","bars","times","factors","bar"] [.never,.never,.never,.never]),("_law_cell_at",aES),("_law_names",aET),("_law_normal",aEU),("_law_plus",wM),("_law_note",rK),("_law_put",aEV),("_law_rank",aEW)] [("_law_sorted",aEX),("_law_pool",aEY),("_law_made",aEZ),("_law_alike",rL),("_law_poured",aE0),("_law_so_often",wN),("_law_totals",aE1),("law",wO),("Kind.lack",aP ["self","a"] [] [.never,.never]),("Counts.nought",aE2),("Counts.one",aP ["self"] [] [.never]),("Counts.plus",aE3),("Counts.times",aP ["self","a","b"] [] [.never]),("Counts.many",aE4),("Reasons.nought",aE5),("Reasons.one",aP ["self"] [] [.never]),("Reasons.plus",aE6),("Reasons.times",aP ["self","a","b"] [] [.never]),("Reasons.lack",aP ["self","a"] [] [.never,.never]),("Reasons.many",aE7)]))
def TT:TB:=#[T,[],[aUU,aUV,aUW],[],[]]
abbrev okf(d:D):Res:=.ok .fz d
noncomputable abbrev Wk(k:Nat):WD:=WT TT k
noncomputable def GG:MG:=#[(List.append [("Counts",.cls),("DEEDS_asking",.con (.t [("pick","picked"),("keep","kept_rows"),("call","called_rows"),("join","joined"),("pour","poured_rows"),("total","totals"),("leave","left_out")])),("DEEDS_askings",.con (.t [("pick","columns_of_pick"),("keep","columns_of_keep"),("call","columns_of_call"),("join","columns_of_join"),("pour","columns_of_pour"),("total","columns_of_total"),("leave","columns_of_leave")])),("Reasons",.cls),("_law_alike",.fn 2),("_law_cell_at",.fn 2),("_law_made",.fn 5),("_law_names",.fn 2),("_law_normal",.fn 1),("_law_note",.fn 3),("_law_plus",.fn 3),("_law_pool",.fn 2),("_law_poured",.fn 3),("_law_put",.fn 4),("_law_rank",.fn 1),("_law_so_often",.fn 3),("_law_sorted",.fn 2),("_law_totals",.fn 4),("answered",.fn 3),("answered_by",.fn 3),("ask",.fn 3),("askings_within",.fn 1),("bool",.no),("called_rows",.fn 3),("columns_of",.fn 2),("columns_of_call",.fn 2),("columns_of_join",.fn 2),("columns_of_keep",.fn 2)] (List.append [("columns_of_leave",.fn 2),("columns_of_pick",.fn 2),("columns_of_pour",.fn 2),("columns_of_table",.fn 2),("columns_of_total",.fn 2),("enumerate",.no),("gathered",.fn 2),("int",.no),("is_whole",.fn 1),("isinstance",.no),("joined",.fn 3),("kept",.fn 2),("kept_rows",.fn 3),("left_out",.fn 3),("len",.no),("list",.no),("picked",.fn 3),("places_of",.fn 2),("poured",.fn 2),("poured_groups",.fn 2),("poured_rows",.fn 3),("range",.no),("rank",.fn 1),("rank_of_row",.fn 1),("reason_of",.fn 1),("refuse_missing",.fn 2),("refuse_twice",.fn 2),("said",.fn 1)] [("sorted",.no),("str",.no),("totalled",.fn 3),("totals",.fn 3),("tuple",.no),("values_at",.fn 2),("without_noughts",.fn 2)])),["Counts","Reasons"],[],[],[],[],[],[]]
def top(i:Nat):Stmt:=a3M.main.body.getD i (.Pass #[0,0,0,0])
abbrev wP:Stmt:=top 85
def aUX(k:Nat):(Wk (k+1)).Φ "refuse_twice"=phi 2 2 (evB (Wk k) aDX):=mM (d:=aED) rfl
def aUY(k:Nat):(Wk (k+1)).Φ "refuse_missing"=phi 2 2 (evB (Wk k) aDY):=mM (d:=aEG) rfl
def aUZ(k:Nat):(Wk (k+1)).Φ "Counts.many"=phi 3 3 (evB (Wk k) wH):=mM (d:=aE4) rfl
def aU0(k:Nat):(Wk (k+1)).Φ "Reasons.plus"=phi 3 3 (evB (Wk k) aD5):=mM (d:=aE6) rfl
def aU1(k:Nat):(Wk (k+1)).Φ "Reasons.many"=phi 3 3 (evB (Wk k) wI):=mM (d:=aE7) rfl
def fO{m:Md}{i:Int}{d:D}(h:atI ds i=some d):op2 ixD (.ok m (.lst ds)) (.ok m' (.int i))=okf d:=bJ (by show(atI ds i).map _=_;rw[h];rfl)
def dS{m:Md}{i:Int}{d:D}(h:atI ds i=some d):op2 ixD (.ok m (.tup ds)) (.ok m' (.int i))=okf d:=bJ (by show(atI ds i).map _=_;rw[h];rfl)
theorem wQ(U:List α)(v:Int)(n:Int)(hn:n=U.length)(h:0<n):∃c,c∈U/\atI U (v % n)=some c:=by have h0:=a21 v (show n≠0 by lia);(have f:=a22 v h;exists j,d,a23 h0;have a:j<U.length:=by lia);exact#[U[j],a24 a,by rw[d];exact cY (a0T a)]
inductive Pl:Nat->D->Prop where
 |int {n:_} (i:Int):Pl n (.int i)
 |str {n:_} (s:Str):Pl n (.str s)
 |tup {n:_}{ds:List D} (h:∀d∈ds,Pl n d) (hl:ds.length<=999):Pl (n+1) (.tup ds)
theorem Pl.mono{d:D}(h:Pl n d):∀{N:Nat},n<=N->Pl N d:=by induction h with|int b=>intro _ _;exact .int b|str b=>intro _ _;exact .str b|tup _ f a=>intro N hn;cases N with|zero=>lia|succ N=>exact .tup (λd hd=>a d hd (by lia)) f
def pl2{x:D}(f:Pl n x)(a:Pl n y):Pl (n+1) (.tup [x,y]):=.tup (λd hd=>by
 simp only[aXV,a2Q,a1H]at hd;rcases hd with rfl|rfl
 . exact f
 . exact a) (show 2<=999 by decide)
theorem aE8:∀{n:Nat} (ds:List D),(∀d∈ds,∃p,aT d=some p/\p.depth<=n)->∃ps,cA ds=some ps/\PyData.depthAll ps<=n|n,[],_=>#[[],by simp[cA],by simp[PyData.depthAll]]|n,d::ds,h=>by exists p,e,l,h d mcs;exists ps,E,L,aE8 ds λx hx=>h x (mcm hx);exact#[p::ps,by simp[cA,e,E],by simp only[PyData.depthAll];lia]
theorem rM{d:D}(h:Pl n d):∃p,aT d=some p/\p.depth<=n:=by induction h with|int b=>exact#[.int b,by simp[aT],by simp[PyData.depth]]|str b=>exact#[.str b,by simp[aT],by simp[PyData.depth]]| @tup n ds h f a=>exists ps,e,l,aE8 ds a;exact#[.tuple ps,by simp[aT,e],by simp only[PyData.depth];lia]
def eqB(x y:D):Bool:=match aT x,aT y with|some p,some q=>PyData.eqv p q|_,_=>false
theorem aU2{x:D}{m:Md}(hx:Pl n x)(a:Pl n y)(hn:n<=50):eqF neg m x m' y=some (.fz,.bl (if neg then !eqB x y else eqB x y)):=by exists p,ep,L,rM hx;exists q,eq,l,rM a;unfold eqF eqB;rw[ep,eq];dsimp only;rw[al (by unfold eR;rw[aZL,a0L,a0L];lia)]
def x_neD{x:D}{m:Md}(hx:Pl n x)(a:Pl n y)(hn:n<=50):op2 (a9 .NotEq) (.ok m x) (.ok m' y)=okf (.bl (!eqB x y)):=bJ (by
 show orO (eqF true) _ m x m' y=_;unfold orO;rw[aU2 hx a hn];rfl)
def aE9{U:List (Md×D)}{d:D}(a:ds.length=n)(ha:c7 U=some ds)(h:Φ ds=.ok .fr d):aV n Φ (.ok U)=.ok .fr d:=by(show(match c7 U with|some ds=>if ds.length=n then(match Φ ds with|.ok .bo _=>Res.stuck|r=>r)else .stuck|none=>.stuck)=_);rw[ha];show(if ds.length=n then _ else _)=_;rw[al a,h]
def aU3{a d:D}(h:Φ [a]=.ok .fr d):aV 1 Φ (.ok [(.fz,a)])=.ok .fr d:=aE9 (ds:=[a]) rfl rfl h
def oE{a b d:D}(h:Φ [a,b]=.ok .fr d):aV 2 Φ (.ok [(.fz,a),(.fz,b)])=.ok .fr d:=aE9 (ds:=[a,b]) rfl rfl h
def ix2_0{m:Md}{x:D}:op2 ixD (.ok m (.tup [x,y])) (.ok m' (.int 0))=okf x:=dS rfl
def ix2_1{m:Md}{x:D}:op2 ixD (.ok m (.tup [x,y])) (.ok m' (.int 1))=okf y:=dS rfl
def wR{m:Md}{x z:D}:op2 ixD (.ok m (.tup [x,y,z])) (.ok m' (.int 0))=okf x:=dS rfl
def wS{m:Md}{x z:D}:op2 ixD (.ok m (.tup [x,y,z])) (.ok m' (.int 1))=okf y:=dS rfl
def wT{m:Md}{x z:D}:op2 ixD (.ok m (.tup [x,y,z])) (.ok m' (.int 2))=okf z:=dS rfl
def tup0:dO (.ok [])=okf (.tup []):=rfl
def tup1{x:D}:dO (.ok [(.fz,x)])=okf (.tup [x]):=rfl
def iW{x z:D}:dO (.ok [(.fz,x),(.fz,y),(.fz,z)])=okf (.tup [x,y,z]):=rfl
def ent{f:Str}{d:FD}{m:Md}{v:D}(h:TT.T.lookup f=some d)(a:ds.length=d.ps.length)(l:evB (Wk k) d.b (eT d.N.length ds)=.rt m v):(Wk (k+1)).Φ f ds=.ok m v:=by rw[mM h];exact aDE a l
def dA(k:Nat){d:D}{a b:Bool}(l:i5 [(.fz,d),(.fz,.ty "int")]=some (.fz,.bl a))(f:i5 [(.fz,d),(.fz,.ty "bool")]=some (.fz,.bl b)):(Wk (k+1)).Φ "is_whole" [d]=okf (.bl (a&&!b)):=by refine ent (d:=aD6) rfl rfl ?_;show evB _ vX [sf d]=_;simp[vX,l,f,Ty.id]
def aFA(k:Nat)(i:Int):(Wk (k+1)).Φ "is_whole" [.int i]=okf (.bl true):=dA k (d:=.int i) rfl rfl
theorem aFB{α:Type}{enc:α->D}{p:α->Bool}{g:α->D}{k:D->Rho->Option Rho}{t e:Rho->Res}{d:Rho}:∀{U:List α},(∀x∈U,∃a m,k (enc x) d=some a/\t a=.ok m (.bl (p x))/\(p x=true->∃m',aI (e a)=.ok m' (g x)))->eC k t e d (U.map enc)=some ((U.filter p).map g)|[],_=>rfl|x::U,h=>by exists a,m,r,o,E,h x mcs;have f:=aFB λy l=>h y (mcm l);rw[aZZ];unfold eC;rw[r];dsimp only;rw[o];cases q:p x with|true=>exists m',E,E q;simp[E,f,List.filter_cons,q]|false=>simp[f,List.filter_cons,q]
def wU{enc:α->D}(p:α->Bool)(g:α->D){k:D->Rho->Option Rho}{t e:Rho->Res}{m:Md}{U:List α}(d:U.length<sizeLine)(h:∀x∈U,∃a m,k (enc x) (bZ aE Y++List.replicate n none)=some a/\t a=.ok m (.bl (p x))/\(p x=true->∃m',aI (e a)=.ok m' (g x))):bO (.ok m (.lst (U.map enc))) Y aE n k t e=.ok .fr (.lst ((U.filter p).map g)):=by unfold bO;rw[Res.thn_ok];dsimp only;rw[al (by simpa using d),aFB h]
def gD{enc:α->D}(g:α->D){k:D->Rho->Option Rho}{t e:Rho->Res}{m:Md}{U:List α}(d:U.length<sizeLine)(h:∀x∈U,∃a m,k (enc x) (bZ aE Y++List.replicate n none)=some a/\t a=.ok m (.bl true)/\∃m',aI (e a)=.ok m' (g x)):bO (.ok m (.lst (U.map enc))) Y aE n k t e=.ok .fr (.lst (U.map g)):=by(have:=wU (enc:=enc) (λ_=>true) g (Y:=Y) (aE:=aE) (n:=n) (k:=k) (t:=t) (e:=e) (m:=m) d λx hx=>by exists a,m,l,f,E,h x hx;exact#[a,m,l,f,λ_=>E]);rw[this,List.filter_eq_self.mpr λ_ _=>rfl]
def ph3{key:Str}{b:List D3.S}{x z d:D}(u:(Wk (k+1)).Φ key=phi 3 3 (evB (Wk k) b))(h:evB (Wk k) b [sf x,sf y,sf z]=.rt .fz d):aV 3 ((Wk (k+1)).Φ key) (.ok [(.fz,x),(.fz,y),(.fz,z)])=okf d:=e9 (by rw[u];exact aDE rfl h)
theorem up{m:Nat}(h:n<m):∃k,m=k+1:=#[m-1,by lia]
def cL{d:D}{as:List (Md×D)}:aQ (okf d) (.ok as)=.ok ((.fz,d)::as):=rfl
section
variable{W:WD}{s:D3.S}{r a b:List D3.S}{x:aH}{e c:E}{m:Md}{d:D}{l:List D}
def nxt(h:evS W s Y=.nx ρ')(f:evB W r ρ'=x):evB W (s::r) Y=x:=by rw[rA h];exact f
def nxr(h:evS W s Y=.rt m d):evB W (s::r) Y=.rt m d:=by rw[kN,h];rfl
def bA(h:evE W e Y=okf d):evB W [.ret e] Y=.rt .fz d:=by rw[kN,aC5,h];rfl
def rN(h:evE W e Y=.ok .fr d):evB W [.ret e] Y=.rt .fr d:=by rw[kN,aC5,h];rfl
def bG(h:evE W c Y=.ok m (.bl false))(f:evB W b Y=x):evS W (.ite c a b) Y=x:=by rw[vJ,h,x_ifF,f]
def fP(h:evE W c Y=.ok m (.bl true))(f:evB W a Y=x):evS W (.ite c a b) Y=x:=by rw[vJ,h,x_ifT,f]
def gE(h:evE W e Y=.ok m (.lst l)):evE W (.tcall .tuple [e]) Y=okf (.tup l):=by show eQ _ (aQ (evE W e Y) (.ok []))=_;rw[h];rfl
end
def frzE{W:WD}{e:E}{m:Md}{d:D}(a:m ≠ .bo)(h:evE W e Y=.ok m d):evE W (.frz e) Y=okf d:=by show aI (evE W e Y)=_;rw[h];cases m with|bo=>exact absurd rfl a|_=>rfl
def bN{W:WD}{e:E}{d:D}(h:evE W e Y=okf d):evE W (.frz e) Y=okf d:=frzE (by decide) h
def jP{W:WD}{e:E}{d:D}(h:evE W e Y=.ok .fr d):evE W (.frz e) Y=okf d:=frzE (by decide) h
def dB{W:WD}{e:E}{d:D}(h:evE W e Y=okf d):evS W (.set i e) Y=.nx (Y.set i (sf d)):=by rw[aC6,h];rfl
def c1{W:WD}{f:Str}{e:E}{x d:D}(h:evE W e Y=okf x)(hf:W.Φ f [x]=okf d):evE W (.call f 1 [e]) Y=okf d:=by show aV 1 (W.Φ f) (aQ (evE W e Y) (.ok []))=_;rw[h];exact eZ hf
def etp1{W:WD}{a:E}{x:D}(d:evE W a Y=okf x):evE W (.tup [a]) Y=okf (.tup [x]):=by show dO (aQ (evE W a Y) (.ok []))=_;rw[d];rfl
def wV{W:WD}{e:E}{d:D}(h:evE W e Y=okf d):evS W (.expr e) Y=.nx Y:=by rw[aC7,h];rfl
def iX{W:WD}{a b:E}{x:D}(f:evE W a Y=okf x)(d:evE W b Y=okf y):evE W (.tup [a,b]) Y=okf (.tup [x,y]):=by show dO (aQ (evE W a Y) (aQ (evE W b Y) (.ok [])))=_;rw[f,d];rfl
def etp3{W:WD}{a b c:E}{x z:D}(l:evE W a Y=okf x)(f:evE W b Y=okf y)(d:evE W c Y=okf z):evE W (.tup [a,b,c]) Y=okf (.tup [x,y,z]):=by show dO (aQ (evE W a Y) (aQ (evE W b Y) (aQ (evE W c Y) (.ok []))))=_;rw[l,f,d];rfl
def etp4{W:WD}{a b c d:E}{x z u:D}(r:evE W a Y=okf x)(o:evE W b Y=okf y)(l:evE W c Y=okf z)(f:evE W d Y=okf u):evE W (.tup [a,b,c,d]) Y=okf (.tup [x,y,z,u]):=by show dO (aQ (evE W a Y) (aQ (evE W b Y) (aQ (evE W c Y) (aQ (evE W d Y) (.ok [])))))=_;rw[r,o,l,f];rfl
def ec3{W:WD}{f:Str}{a b c:E}{x z:D}{r:Res}(o:evE W a Y=okf x)(l:evE W b Y=okf y)(d:evE W c Y=okf z)(hf:aV 3 (W.Φ f) (.ok [(.fz,x),(.fz,y),(.fz,z)])=r):evE W (.call f 3 [a,b,c]) Y=r:=by show aV 3 (W.Φ f) (aQ (evE W a Y) (aQ (evE W b Y) (aQ (evE W c Y) (.ok []))))=_;rw[o,l,d];exact hf
def ec2{W:WD}{f:Str}{a b:E}{x:D}{r:Res}(l:evE W a Y=okf x)(d:evE W b Y=okf y)(hf:aV 2 (W.Φ f) (.ok [(.fz,x),(.fz,y)])=r):evE W (.call f 2 [a,b]) Y=r:=by show aV 2 (W.Φ f) (aQ (evE W a Y) (aQ (evE W b Y) (.ok [])))=_;rw[l,d];exact hf
def ec5{W:WD}{f:Str}{a b c d e:E}{x z u v:D}{r:Res}(F:evE W a Y=okf x)(B:evE W b Y=okf y)(A:evE W c Y=okf z)(o:evE W d Y=okf u)(l:evE W e Y=okf v)(hf:aV 5 (W.Φ f) (.ok [(.fz,x),(.fz,y),(.fz,z),(.fz,u),(.fz,v)])=r):evE W (.call f 5 [a,b,c,d,e]) Y=r:=by show aV 5 (W.Φ f) (aQ (evE W a Y) (aQ (evE W b Y) (aQ (evE W c Y) (aQ (evE W d Y) (aQ (evE W e Y) (.ok []))))))=_;rw[F,B,A,o,l];exact hf
def oF{W:WD}{e:E}{m:Md}{d:D}(j:Nat)(h:evE W e Y=.ok m (.lst ds))(hd:ds[j]? = some d):evE W (.ix e (.int (j:Int))) Y=okf d:=by show op2 ixD (evE W e Y) (okf (.int j))=_;rw[h];exact fO (cY hd)
def cE{W:WD}{e:E}{m:Md}{y:Str}{b:Bool}(h:evE W e Y=.ok m (.str x))(a:(x==y)=b):evE W (.cmp .Eq e (.str y)) Y=okf (.bl b):=by show op2 (a9 .Eq) (evE W e Y) (okf (.str y))=_;rw[h];subst a;simp
theorem oG{k:D->Rho->Option Rho}{body:Rho->aH}(I:Nat->Rho->Prop):∀(ds:List D) (i:Nat) {Y:Rho},(∀j d,ds[j]? = some d->∀Y,I (i+j) Y->∃f a,k d Y=some f/\body f=.nx a/\I (i+j+1) a)->I i Y->∃ρ',bV k body ds Y=.nx ρ'/\I (i+ds.length) ρ'
 |[],i,Y,_,h=>#[Y,rfl,h]|d::ds,i,Y,hs,h=>by
  exists f,a,B,A,r,hs 0 d rfl Y h;exists ρ',E,o,oG (k:=k) (body:=body) I ds (i+1) (λj d hd Y l=>by
   have:=hs (j+1) d (by rw[a25];exact hd) Y (by rw[show i+(j+1)=i+1+j by lia];exact l)
   rw[show i+(j+1)+1=i+1+j+1 by lia]at this
   exact this) r
  refine#[ρ',?_,by rw[show i+(d::ds).length=i+1+ds.length by rw[aZX];lia];exact o]
  unfold bV;rw[B];dsimp only;rw[A];exact E
theorem wW{d:D}(h:(cC 0 (n:Int))[j]? = some d):j<n/\d=.int (j:Int):=by simp only[cC,aY1]at h;by_cases a:j<n;{refine#[a,?_];rw[a0Q (by lia)]at h;simp at h;exact h.symm};rw[List.getElem?_eq_none (by simp;lia)]at h;cases h
def aFC(n:Nat):(cC 0 (n:Int)).length=n:=by simp[cC]
def aFD{W:WD}{a b:E}{x:Bool}(f:evE W a Y=okf (.bl true))(d:evE W b Y=okf (.bl x)):evE W (.andL [a,b]) Y=okf (.bl x):=by rw[vI,qX,aC3,f,d];rfl
def andR3{W:WD}{a b c:E}{x:Bool}(l:evE W a Y=okf (.bl true))(f:evE W b Y=okf (.bl true))(d:evE W c Y=okf (.bl x)):evE W (.andL [a,b,c]) Y=okf (.bl x):=by rw[vI,qX,qX,aC3,l,f,d];rfl
def ef1{W:WD}{c:E}{b:Bool}(h:evE W c Y=okf (.bl b)):evF W [c] Y=okf (.bl b):=by show eP (evE W c Y) (okf (.bl true))=_;rw[h];cases b <;> rfl
def whl_t{t:Rho->Res}{b:Rho->aH}{m:Md}(h:t Y=.ok m (.bl true))(h':b Y=.nx ρ'):dQ t b (n+1) Y=dQ t b n ρ':=by(show(t Y).thS Y _=_;rw[h];show(match b Y with|.nx ρ'=>dQ t b n ρ'|.ct ρ'=>dQ t b n ρ'|.bk ρ'=>.nx ρ'|r=>r)=_);rw[h']
def whl_f{t:Rho->Res}{b:Rho->aH}{m:Md}(h:t Y=.ok m (.bl false)):dQ t b (n+1) Y=.nx Y:=by show(t Y).thS Y _=_;rw[h];rfl
structure KO(Kd No:D)(Ok:D->Prop)(pl:D->D->D):Prop where
 nought:∀k,fD TT.cl (Wk (k+1)).Φ "nought" (okf Kd) (.ok [])=okf No
 plus:∀k a b,Ok a->Ok b->fD TT.cl (Wk (k+3)).Φ "plus" (okf Kd) (.ok [(.fz,a),(.fz,b)])=okf (pl a b)
 okn:Ok No
 okp:∀a b,Ok a->Ok b->Ok (pl a b)
 assoc:∀a b c,Ok a->Ok b->Ok c->pl (pl a b) c=pl a (pl b c)
 left:∀a,Ok a->pl No a=a
 plain:∀a,Ok a->Pl 8 a
section
variable{Ok:D->Prop}
def pr(pl:D->D->D):List D->List D|a::b::l=>pl a b::pr pl l|_=>[]
def up2(pl:D->D->D):List D->List D|a::b::l=>pl a b::up2 pl l|l=>l
theorem KO.okf(K:KO Kd No Ok pl):∀(l:List D) (x:D),Ok x->(∀d∈l,Ok d)->Ok (l.foldl pl x)|[],_,h,_=>h|a::l,x,h,f=>K.okf l _ (K.okp _ _ h (f a mcs)) λd hd=>f d (mcm hd)
theorem KO.fold(K:KO Kd No Ok pl):∀(l:List D) (x:D),Ok x->(∀d∈l,Ok d)->(up2 pl l).foldl pl x=l.foldl pl x|[],_,_,_|[a],_,_,_=>rfl|a::b::l,x,h,f=>by have ha:=f a mcs;have o:=f b (mcm mcs);show(up2 pl l).foldl pl (pl x (pl a b))=l.foldl pl (pl (pl x a) b);rw[K.assoc x a b h ha o];exact K.fold l _ (K.okp _ _ h (K.okp _ _ ha o)) λd hd=>f d (mcm (mcm hd))
theorem KO.ok2(K:KO Kd No Ok pl):∀(l:List D),(∀d∈l,Ok d)->∀d∈up2 pl l,Ok d|[],h|[a],h=>h|a::b::l,h=>λd hd=>by have hd:d∈pl a b::up2 pl l:=hd;rcases aXV.mp hd with rfl|hd;{exact K.okp _ _ (h a mcs) (h b (mcm mcs))};exact K.ok2 l (λd hd=>h d (mcm (mcm hd))) d hd
theorem aFE:∀(l:List D),(up2 pl l).length=(l.length+1) / 2|[]=>rfl|[a]=>by show 1=(1+1) / 2;rfl|a::b::l=>by show(up2 pl l).length+1=(l.length+1+1+1) / 2;rw[aFE l];lia
theorem wX:∀(l:List D),pr pl l=(List.range (l.length / 2)).map λk=>pl (l.getD (2 * k) .non) (l.getD (2 * k+1) .non)|[]=>rfl|[a]=>by show([]:List D)=((List.range (1 / 2)).map _);rfl|a::b::l=>by(have:(a::b::l).length / 2=l.length / 2+1:=by show(l.length+1+1) / 2=_;lia);rw[this,List.range_succ_eq_map,aZZ,a2D];show pl a b::pr pl l=_;rw[wX l];refine congrArg (pl a b :: ·) (a26 λk _=>?_);show pl _ _=pl ((a::b::l).getD (2 * (k+1)) .non) ((a::b::l).getD (2 * (k+1)+1) .non);rw[show 2 * (k+1)=2 * k+1+1 by lia,show 2 * k+1+1+1=(2 * k+1)+1+1 by lia];simp
theorem aFF:∀(l:List D),up2 pl l=pr pl l++(if l.length % 2=1 then[l.getD (l.length-1) .non]else[])|[]|[a]=>rfl|a::b::l=>by(show pl a b::up2 pl l=pl a b::(pr pl l++_);rw[aFF l];have E:(a::b::l).length % 2=l.length % 2:=by show(l.length+1+1) % 2=_;lia);rw[E];split;{rename_i h;(have:(a::b::l).length-1=(l.length-1)+1+1:=by show l.length+1+1-1=_;lia);rw[this];simp};rfl
theorem rng2s(d:1<=n)(a:n<=1000):kC (.ok [(.fz,.int 0),(.fz,.int ((n:Int)-1)),(.fz,.int 2)])=okf (.lst ((List.range (n / 2)).map λ(i:Nat)=>.int ((2 * i:Nat):Int))):=by(have hs:nSt 0 ((n:Int)-1) 2=n / 2:=by unfold nSt Builtin.Range.rangeSize;split <;> lia);show(if(decide ((0:Int)<=0)&&decide ((0:Int)<=1000000)&&decide (0<=(n:Int)-1+1000)&&decide ((n:Int)-1<=1000000)&&decide ((0:Int)<2)&&decide ((2:Int)<=1000000))=true then Res.ok .fz (.lst (jA 0 ((n:Int)-1) 2))else .stuck)=_;rw[al (by simp only[aZL,a0L];lia)];unfold jA;rw[hs];congr 2;exact a26 λi _=>by congr 1;lia
def ix_n{l:List D}(h:i<l.length){m:Md}:op2 ixD (.ok m (.lst l)) (.ok m' (.int (i:Int)))=okf (l.getD i .non):=by(have e:l.getD i .non=l[i]:=by simp[h]);rw[e];exact fO (cY (a0T h))
theorem aU4(K:KO Kd No Ok pl)(k:Nat){l:List D}(o:∀d∈l,Ok d)(r:2<=l.length)(h2:l.length<=1000)(x1:Option (Bool×D))(x3:Option (Bool×D)):evB (Wk (k+3)) vT [sf Kd,x1,sf (.lst l),x3]=.nx [sf Kd,x1,sf (.lst (up2 pl l)),sf (.lst (up2 pl l))]:=by
 have Z:sizeLine=16777216:=aYH;have c1:bO (okf (.lst ((List.range (l.length / 2)).map λ(i:Nat)=>.int ((2 * i:Nat):Int)))) [sf Kd,x1,sf (.lst l),x3] [0,2] 1 (aO (.nm 2)) (λY=>evF (Wk (k+3)) [] Y) (λY=>evE (Wk (k+3)) (.meth v0 "plus" [(.ix v1 v2),(.ix v1 (.bin .Add v2 (.int 1)))]) Y)=.ok .fr (.lst (pr pl l)):=by rw[wX];refine gD (enc:=λ(i:Nat)=>D.int ((2 * i:Nat):Int)) (λi=>pl (l.getD (2 * i) .non) (l.getD (2 * i+1) .non)) (by simp;lia) λi J=>?_;(have G:i<l.length / 2:=by simpa using J);refine#[[sf Kd,sf (.lst l),sf (.int ((2 * i:Nat):Int))],.fz,rfl,rfl,.fz,?_];have W:op2 ixD (okf (.lst l)) (okf (.int ((2 * i:Nat):Int)))=okf (l.getD (2 * i) .non):=ix_n (by lia);(have V:op2 ixD (okf (.lst l)) (okf (.int (((2 * i:Nat):Int)+1)))=okf (l.getD (2 * i+1) .non):=by(have:(((2 * i:Nat):Int)+1)=((2 * i+1:Nat):Int):=by lia);rw[this];exact ix_n (by lia));(have F:Ok (l.getD (2 * i) .non):=by(have:l.getD (2 * i) .non=l[2 * i]:=by simp[show 2 * i<l.length by lia]);rw[this];exact o _ (a24 _));(have B:Ok (l.getD (2 * i+1) .non):=by(have:l.getD (2 * i+1) .non=l[2 * i+1]:=by simp[show 2 * i+1<l.length by lia]);rw[this];exact o _ (a24 _));have:=K.plus k _ _ F B;show aI (fD TT.cl (Wk (k+3)).Φ "plus" (okf Kd) (aQ (op2 ixD (okf (.lst l)) (okf (.int ((2 * i:Nat):Int)))) (aQ (op2 ixD (okf (.lst l)) (okf (.int (((2 * i:Nat):Int)+1)))) (.ok []))))=_;rw[W,V];exact congrArg aI this
 have N:kC (.ok [(.fz,.int 0),(.fz,.int ((l.length:Int)-1)),(.fz,.int 2)])=okf (.lst ((List.range (l.length / 2)).map λ(i:Nat)=>.int ((2 * i:Nat):Int))):=rng2s (by lia) (by lia)
 have E:((l.length:Int) % 2)=((l.length % 2:Nat):Int):=by lia
 have pl2:=aFF (pl:=pl) l;refine nxt (ρ':=[sf Kd,x1,sf (.lst l),some (true,.lst (pr pl l))]) (by
  rw[aTY,eY];show dX _ 3 (bO (kC (.ok [(.fz,.int 0),(.fz,.int ((l.length:Int)-1)),(.fz,.int 2)])) _ [0,2] 1 (aO (.nm 2)) (λY=>evF (Wk (k+3)) [] Y) (λY=>evE (Wk (k+3)) (.meth v0 "plus" [(.ix v1 v2),(.ix v1 (.bin .Add v2 (.int 1)))]) Y))=_;rw[N,c1];rfl) ?_
 have T:evE (Wk (k+3)) (.cmp .Eq (.bin .Mod (.bcall .len [v2]) (.int 2)) (.int 1)) [sf Kd,x1,sf (.lst l),some (true,.lst (pr pl l))]=okf (.bl (decide (l.length % 2=1))):=by(have hx:op2 (a9 .Eq) (okf (.int ((l.length:Int) % 2))) (okf (.int 1))=okf (.bl (decide (l.length % 2=1))):=by rw[aDB];congr 2;by_cases h:l.length % 2=1;{rw[aZ8 h,E,h];rfl};rw[aXH h];(have:l.length % 2=0:=by lia);rw[E,this];rfl);show op2 (a9 .Eq) (op2 (a8 .Mod) (okf (.int (l.length:Int))) (okf (.int 2))) (okf (.int 1))=_;rw[kP (by decide)];exact hx
 by_cases a:l.length % 2=1
 . rw[aZ8 a]at T;rw[al a]at pl2;have ap:evS (Wk (k+3)) (.app 3 (.ix v2 (.neg (.int 1)))) [sf Kd,x1,sf (.lst l),some (true,.lst (pr pl l))]=.nx [sf Kd,x1,sf (.lst l),some (true,.lst (up2 pl l))]:=by
     have S:op2 ixD (okf (.lst l)) (okf (.int (-1)))=okf (l.getD (l.length-1) .non):=by(have f:l≠[]:=λz=>by rw[z]at r;exact absurd r (by decide));(obtain⟨L,v,rfl⟩:∃L v,l=L++[v]:=#[l.dropLast,l.getLast f,(List.dropLast_concat_getLast f).symm];have:(L++[v]).getD ((L++[v]).length-1) .non=v:=by simp);rw[this];exact fO (aJ4 L v)
     have A:(pr pl l).length<sizeLine:=by rw[wX,aY4,a18];lia
     rw[aC8,pl2];show eU _ 3 (op2 ixD (okf (.lst l)) (okf (.int (-1))))=_;rw[S];simp[eU,aI,A]
   exact nxt (fP T (nxt ap rfl)) rfl
 . rw[aXH a]at T;rw[aK a,aYR]at pl2;rw[pl2];exact nxt (bG T rfl) rfl
end
section
variable{Ok:D->Prop}
theorem aFG(K:KO Kd No Ok pl)(k:Nat)(x1:Option (Bool×D)):∀(n m:Nat) (l:List D) (x3:Option (Bool×D)),(∀d∈l,Ok d)->1<=l.length->l.length<=n->n<=1000->n+1<=m->∃o,dQ (evE (Wk (k+3)) (.cmp .Gt (.bcall .len [v2]) (.int 1))) (evB (Wk (k+3)) vT) m [sf Kd,x1,sf (.lst l),x3]=.nx [sf Kd,x1,sf (.lst [l.foldl pl No]),o]|n,0,l,x3,_,_,_,_,B=>by lia|n,m+1,l,x3,f,E,hn,A,B=>by have t:evE (Wk (k+3)) (.cmp .Gt (.bcall .len [v2]) (.int 1)) [sf Kd,x1,sf (.lst l),x3]=okf (.bl (decide ((1:Int)<(l.length:Int)))):=rfl;by_cases r:2<=l.length;{rw[aZ8 (by lia)]at t;have b:=aU4 K k f r (by lia) x1 x3;rw[whl_t t b];have L:=aFE (pl:=pl) l;exists o,e,aFG K k x1 (n-1) m (up2 pl l) (sf (.lst (up2 pl l))) (K.ok2 l f) (by lia) (by lia) (by lia) (by lia);rw[K.fold l No K.okn f]at e;exact#[o,e]};rw[aXH (by lia)]at t;rw[whl_f t];match l,E,r with|[a],_,_=>refine#[x3,?_];show aH.nx [sf Kd,x1,sf (.lst [a]),x3]=.nx [sf Kd,x1,sf (.lst [pl No a]),x3];rw[K.left a (f a mcs)]|[],z,_=>exact absurd z (by decide)|_::_::_,_,z=>exact absurd (by simp) z
theorem aU5(K:KO Kd No Ok pl)(k:Nat){l:List D}(f:∀d∈l,Ok d)(r:1<=l.length)(o:l.length<=1000):(Wk (k+4)).Φ "poured" [Kd,.lst l]=okf (l.foldl pl No):=by(have t:op2 (a9 .Eq) (okf (.int (l.length:Int))) (okf (.int 0))=okf (.bl false):=by rw[aDB];congr 2;exact aXI.mpr (by lia));exists a,w,aFG K k (sf (.lst l)) l.length 1000000 l none f r (aYC _) o (by lia);exact ent (d:=aD7) rfl rfl (nxt (bG (m:=.fz) t rfl) (nxt (ρ':=[sf Kd,sf (.lst l),sf (.lst l),none]) rfl (nxt (ρ':=[sf Kd,sf (.lst l),sf (.lst [l.foldl pl No]),a]) (by rw[s_whl];exact w) (bA (oF 0 (m:=.fz) rfl rfl)))))
abbrev enc(e:N×D):D:=.tup [nD e.1,e.2]
theorem aU6(K:KO Kd No Ok pl)(k:Nat){es:List (N×D)}(l:es.length<=1000)(h:∀e∈es,Ok e.2):(Wk (k+2)).Φ "without_noughts" [Kd,.lst (es.map enc)]=.ok .fr (.lst ((es.filter λe=>!eqB e.2 No).map enc)):=by(have f:sizeLine=16777216:=aYH;refine ent (d:=aD9) rfl rfl ?_;show evB _ aDW [sf Kd,sf (.lst (es.map enc)),none]=_;have n1:=K.nought k;have c1:bO (okf (.lst (es.map enc))) [sf Kd,sf (.lst (es.map enc)),sf No] [2] 2 (aO (.tp [.nm 1,.nm 2])) (λY=>evF (Wk (k+1)) [(.cmp .NotEq v2 v0)] Y) (λY=>evE (Wk (k+1)) (.tup [v1,v2]) Y)=.ok .fr (.lst ((es.filter λe=>!eqB e.2 No).map enc)):=by refine wU (enc:=enc) (λe=>!eqB e.2 No) enc (by lia) λe a=>?_;have ne:op2 (a9 .NotEq) (okf e.2) (okf No)=okf (.bl (!eqB e.2 No)):=x_neD (K.plain _ (h e a)) (K.plain _ K.okn) (by decide);refine#[[sf No,sf (nD e.1),sf e.2],.fz,rfl,?_,λ_=>#[.fz,rfl]];exact ef1 ne);exact nxt (dB (bN (by rw[aTU,wt_cl];exact n1))) (rN (by rw[eY];exact c1))
theorem aU7(K:KO Kd No Ok pl)(k:Nat){gs:GD}(G:gs.length<=1000)(hk:∀kv∈gs,cD (nD kv.1)=some kv.1)(nd:(gs.map (·.1)).Nodup)(h:∀kv∈gs,(∀d∈kv.2,Ok d)/\1<=kv.2.length/\kv.2.length<=1000):(Wk (k+5)).Φ "poured_groups" [Kd,.dtf (gs.map λkv=>(kv.1,.lst kv.2))]=.ok .fr (.lst (((gs.map λkv=>(kv.1,kv.2.foldl pl No)).filter λe=>!eqB e.2 No).map enc)):=by
 have S:sizeLine=16777216:=aYH;refine ent (d:=aD8) rfl rfl ?_;generalize o:(gs.map λkv=>((kv.1,.lst kv.2):N×D))=gd;show evB _ aDV [sf Kd,sf (.dtf gd),none]=_;have F:∀kv∈gs,bE gd kv.1=some (.lst kv.2):=by(subst o;have key:∀{gs:GD},(gs.map (·.1)).Nodup->∀kv∈gs,bE (gs.map λkv=>((kv.1,.lst kv.2):N×D)) kv.1=some (.lst kv.2):=by intro gs;induction gs with|nil=>intro _ kv h;cases h|cons g gs E=>intro nd kv f;rw[aZZ,aYT]at nd;rcases aXV.mp f with rfl|f;{rw[aZZ,qD (p:=(kv.1,D.lst kv.2)) rfl]};rw[aZZ,qE (p:=(g.1,D.lst g.2)) (λz=>nd.1 (a2O.mpr #[kv,f,z.symm]))];exact E nd.2 kv f);exact key nd
 have c1:bO (okf (.lst (gs.map λkv=>nD kv.1))) [sf Kd,sf (.dtf gd),none] [0,1] 1 (aO (.nm 2)) (λY=>evF (Wk (k+4)) [] Y) (λY=>evE (Wk (k+4)) (.tup [v2,(.frz (.call "poured" 2 [v0,(.nix v1 v2)]))]) Y)=.ok .fr (.lst (gs.map λkv=>enc (kv.1,kv.2.foldl pl No))):=by
  refine gD (enc:=λ(kv:N×List D)=>nD kv.1) (λkv=>enc (kv.1,kv.2.foldl pl No)) (by lia) λkv f=>?_
  refine#[[sf Kd,sf (.dtf gd),sf (nD kv.1)],.fz,rfl,rfl,.fz,?_];exists B,A,r,h kv f;have p:=aU5 K k B A r;have p2:aV 2 ((Wk (k+4)).Φ "poured") (.ok [(.fz,Kd),(.fz,.lst kv.2)])=okf (kv.2.foldl pl No):=dI p;have L:op2 eD (okf (.dtf gd)) (okf (nD kv.1))=okf (.lst kv.2):=bJ (by
   show eD .fz (.dtf gd) .fz (nD kv.1)=_;unfold eD;rw[hk kv f];show(bE gd kv.1).map _=_;rw[F kv f];rfl)
  exact congrArg aI (iX (W:=Wk (k+4)) (Y:=[sf Kd,sf (.dtf gd),sf (nD kv.1)]) (a:=.var 2) (b:=.frz (.call "poured" 2 [v0,(.nix v1 v2)])) rfl (bN (ec2 rfl L p2)))
 have l:=aU6 K (k+2) (es:=gs.map λkv=>(kv.1,kv.2.foldl pl No)) (by simpa using G) (λe J=>by
  exists kv,f,rfl,a2O.mp J;exact K.okf _ _ K.okn (h kv f).1)
 rw[a2D]at l;have it:evE (Wk (k+4)) (.nkeys v1) [sf Kd,sf (.dtf gd),none]=okf (.lst (gs.map λkv=>nD kv.1)):=by show Res.ok .fz (.lst (gd.map λkv=>nD kv.1))=_;rw[<- o,a2D];rfl
 exact nxt (ρ':=[sf Kd,sf (.dtf gd),sf (.lst (gs.map λkv=>enc (kv.1,kv.2.foldl pl No)))]) (by rw[qZ,eY,it,c1];rfl) (rN (ec2 (y:=.lst (gs.map λ(kv:N×List D)=>enc (kv.1,kv.2.foldl pl No))) rfl rfl (oE l)))
end
def rO{k:D->Rho->Option Rho}{body:Rho->aH}{d:D}{f a:Rho}(o:k d Y=some f)(l:body f=.nx a):bV k body (d::ds) Y=bV k body ds a:=by(conv=>lhs;unfold bV);rw[o];dsimp only;rw[l]
inductive cW:N->Prop
 |i (n:Int):cW (.i n)
 |s (x:Str):cW (.s x)
def rk:N->N|.i n=>.t [.i 0,.i n,.s ""]|.s x=>.t [.i 1,.i 0,.s x]|.t ks=>.t ks
def rkK:N->N|.t vs=>.t (vs.map rk)|k=>k
def rank_(k:Nat){v:N}(h:cW v):(Wk (k+2)).Φ "rank" [nD v]=okf (nD (rk v)):=by refine ent (d:=aEA) rfl rfl ?_;cases h with|i n=>exact nxr (fP (m:=.fz) (congrArg fT (eZ (aFA k n))) (bA rfl))|s x=>exact nxt (bG (m:=.fz) (congrArg fT (eZ (dA k (d:=.str x) (a:=false) (b:=false) rfl rfl))) rfl) (bA rfl)
theorem aU8(k:Nat){vs:List N}(h:∀v∈vs,cW v)(l:vs.length<=10):(Wk (k+3)).Φ "rank_of_row" [nD (.t vs)]=.ok .fr (.lst (vs.map λv=>nD (rk v))):=by have f:sizeLine=16777216:=aYH;refine ent (d:=aEB) rfl rfl (rN ?_);rw[eY];show bO (okf (.lst (nDL vs))) _ [] 1 _ _ _=_;rw[fH];exact gD (enc:=nD) (λv=>nD (rk v)) (by lia) λv a=>#[[sf (nD v)],.fz,rfl,rfl,.fz,congrArg aI (eZ (rank_ k (h v a)))]
theorem aFH(W:WD){A:Option (Bool×D)}:∀(vs a:List N) (x:Option (Bool×D)),(∀v∈vs,cW v)->a.length+vs.length<=10->∃y,bV (aO (.nm 2)) (evB W jO) (vs.map nD) [A,some (true,.lst (a.map nD)),x]=.nx [A,some (true,.lst ((a++vs.map rk).map nD)),y]|[],a,x,_,_=>#[x,by simp[bV]]|v::vs,a,x,h,d=>by(have r:sizeLine=16777216:=aYH;have d:a.length+(vs.length+1)<=10:=d;have l:a.length<sizeLine:=by lia);(have B:evB W jO [A,some (true,.lst (a.map nD)),sf (nD v)]=.nx [A,some (true,.lst ((a++[rk v]).map nD)),sf (nD v)]:=by(have e:(a++[rk v]).map nD=a.map nD++[nD (rk v)]:=by simp);rw[e];cases h v mcs with|i n=>have i1:i5 [(.fz,.int n),(.fz,.ty Ty.str.id)]=some (.fz,.bl false):=rfl;show evB W jO [A,some (true,.lst (a.map nD)),sf (.int n)]=.nx [A,some (true,.lst (a.map nD++[.tup [.int 0,.int n,.str ""]])),sf (.int n)];unfold jO;simp[Bn.f,i1,cL,iW,eU,aI,l]|s y=>have i1:i5 [(.fz,.str y),(.fz,.ty Ty.str.id)]=some (.fz,.bl true):=rfl;show evB W jO [A,some (true,.lst (a.map nD)),sf (.str y)]=.nx [A,some (true,.lst (a.map nD++[.tup [.int 1,.int 0,.str y]])),sf (.str y)];unfold jO;simp[Bn.f,i1,cL,iW,eU,aI,l]);rw[aZZ,rO (show aO (.nm 2) (nD v) [A,some (true,.lst (a.map nD)),x]=some [A,some (true,.lst (a.map nD)),sf (nD v)]from rfl) B];exists y,e,aFH W vs (a++[rk v]) (sf (nD v)) (λu o=>h u (mcm o)) (by simp;lia);exact#[y,by rw[e];simp]
def aU9(k:Nat){vs:List N}(h:∀v∈vs,cW v)(f:vs.length<=10):(Wk (k+1)).Φ "_law_rank" [nD (.t vs)]=.ok .fr (.lst (vs.map λv=>nD (rk v))):=by(refine ent (d:=aEW) rfl rfl ?_;show evB _ wF [sf (nD (.t vs)),none,none]=_;have it:evE (Wk k) (.items v0) [sf (nD (.t vs)),some (true,.lst []),none]=okf (.lst (vs.map nD)):=by show Res.ok .fz (.lst (nDL vs))=_;rw[fH]);exists y,e,aFH (Wk k) (A:=sf (nD (.t vs))) vs [] none h (by simpa using f);(unfold wF;have a:evS (Wk k) (.set 1 (.lst [])) [sf (nD (.t vs)),none,none]=.nx [sf (nD (.t vs)),some (true,.lst []),none]:=rfl;have S:evS (Wk k) (.for (.items v0) (.nm 2) jO) [sf (nD (.t vs)),some (true,.lst []),none]=.nx [sf (nD (.t vs)),some (true,.lst ((vs.map rk).map nD)),y]:=by rw[qY,it];exact e);rw[rA a,rA S,a2D];rfl
mutual
theorem wY:∀(k:N),bX (nD k)=some k|.i n|.s x=>by simp[nD,bX]|.t ks=>by rw[nD,bX,mP ks];rfl
theorem mP:∀(ks:List N),cS (nDL ks)=some ks|[]=>by rw[nDL,cS]|k::ks=>by rw[nDL,cS,wY k,mP ks]
end
theorem aFI:∀{vs:List N},(∀v∈vs,cW v)->N.dpL vs=0|[],_=>by rw[N.dpL]|v::vs,h=>by rw[N.dpL,aFI λu a=>h u (mcm a)];cases h v mcs <;> simp[N.dp]
structure Row(k:N):Prop where
 ex:∃vs,k=.t vs/\(∀v∈vs,cW v)/\vs.length<=10
theorem Row.key{k:N}(h:Row k):cD (nD k)=some k:=by(exists vs,rfl,a,_,h.ex;rw[nD];show(match cS (nDL vs)with|some ks=>if(N.t ks).dp<=8 then some (N.t ks)else none|none=>none)=_);rw[mP];dsimp only;rw[N.dp,aFI a,al (by lia)]
section
variable{Ok:D->Prop}
structure Gi(Ok:D->Prop)(kvs:GD)(n:Nat):Prop where
 len:kvs.length<=n
 nd:(kvs.map (·.1)).Nodup
 each:∀kv∈kvs,Row kv.1/\(∀d∈kv.2,Ok d)/\1<=kv.2.length/\kv.2.length<=n
theorem wZ:∀{kvs:GD}{k:N}{ds:List D},aZ kvs k=some ds->(k,ds)∈kvs|[],k,ds,h=>by cases h|kv::kvs,k,ds,h=>by unfold aZ at h;rw[aZW]at h;by_cases e:kv.1=k;{rw[aZ8 e]at h;(have:kv.2=ds:=by simpa using h);rw[<- e,<- this];exact mcs};rw[aXH e]at h;exact mcm (wZ h)
def aVA:∀{kvs:GD}{k:N},aZ kvs k=none->∀kv∈kvs,kv.1≠k:=by intro kvs k h kv hkv e;unfold aZ at h;rw[Option.map_eq_none_iff,List.find?_eq_none]at h;exact h kv hkv (by simpa using e)
theorem Gi.add{kvs:GD}(g:Gi Ok kvs n){k:N}{d:D}(hk:Row k)(hd:Ok d):Gi Ok (dR kvs k d) (n+1):=by
 unfold dR;cases e:aZ kvs k with
 |some ds=>(have m:=wZ e;exists _,B,G,r,g.each _ m;have fs:(λkv:N×List D=>((if kv.1=k then(kv.1,ds++[d])else kv:N×List D)).1)=λkv=>kv.1:=by funext kv;split <;> rfl);refine#[by show(kvs.map _).length<=_;rw[aY4];have:=g.len;lia,by show((kvs.map _).map _).Nodup;rw[a2D];show(kvs.map λkv=>((if kv.1=k then(kv.1,ds++[d])else kv:N×List D)).1).Nodup;rw[fs];exact g.nd,λkv a=>?_];exists K,f,rfl,a2O.mp a;exists A,o,l,F,g.each _ f;split;{refine#[A,λx hx=>?_,by simp,by simp;exact r];rcases aXW.mp hx with hx|hx;{exact B x hx};rw[a07.mp hx];exact hd};exact#[A,o,l,by lia]
 |none=>have nn:=aVA e;refine#[by rw[aY3];have:=g.len;simp;lia,?_,λkv a=>?_];{rw[a1R,a2S];refine#[g.nd,by simp,λx hx y E z=>?_];(exists kv,f,rfl,a2O.mp hx;have:y=k:=by simpa using E);exact nn kv f (z.trans this)};rcases aXW.mp a with a|a;{exists A,o,l,F,g.each _ a;exact#[A,o,l,by lia]};rw[a07.mp a];exact#[hk,λx hx=>by rw[a07.mp hx];exact hd,by simp,by simp]
def val(pl:D->D->D)(No:D)(kvs:GD):List (N×D):=kvs.map λkv=>(kv.1,kv.2.foldl pl No)
def aVB(kvs:GD)(k:N):bE (val pl No kvs) k=(aZ kvs k).map λds=>ds.foldl pl No:=by unfold bE aZ val;induction kvs with|nil=>rfl|cons kv kvs a=>rw[aZZ,aZW,aZW];by_cases e:kv.1=k;{simp[e]};simp only[e,decide_false];exact a
def aVC(kvs:GD)(k:N)(d:D):val pl No (dR kvs k d)=d5 (val pl No kvs) k (pl ((bE (val pl No kvs) k).getD No) d):=by unfold d5;rw[aVB];unfold dR;cases e:aZ kvs k with|some ds=>rw[a0R,al (show(some (ds.foldl pl No)).isSome=true from rfl)];unfold val iU;rw[a2D,a2D];refine a26 λkv _=>?_;show(_,_)=_;by_cases z:kv.1=k;{simp[z,List.foldl_append]};simp[z]|none=>rw[Option.map_none,aK (by simp)];unfold val;simp
def gaG(prs:List (N×D))(kvs:GD):GD:=prs.foldl (λkvs e=>dR kvs e.1 e.2) kvs
theorem aFJ(W:WD){P:D}:∀(prs:List (N×D)) (kvs:GD) (n:Nat) (x3 x4:Option (Bool×D)),(∀e∈prs,Row e.1/\Ok e.2)->Gi Ok kvs n->n+prs.length<=1000->jH [x3,x4]=true->∃d a,kK (.tp [.nm 3,.nm 4]) (jI 2 (evE W v3) (evE W v4)) (prs.map enc) [sf Kd,sf P,none,x3,x4] kvs=some ([sf Kd,sf P,none,d,a],gaG prs kvs)/\Gi Ok (gaG prs kvs) (n+prs.length)
 |[],kvs,n,x3,x4,_,g,_,_=>#[x3,x4,rfl,g]|e::prs,kvs,n,x3,x4,h,g,l,ho=>by
  have G:sizeLine=16777216:=aYH;exists r,o,h e mcs;have l:n+(prs.length+1)<=1000:=l;exists d,a,B,E,aFJ W (P:=P) prs (dR kvs e.1 e.2) (n+1) (sf (nD e.1)) (sf e.2) (λu A=>h u (mcm A)) (g.add r o) (by lia) rfl
  refine#[d,a,?_,by
   show Gi Ok (gaG prs (dR kvs e.1 e.2)) (n+(prs.length+1));rw[show n+(prs.length+1)=n+1+prs.length by lia];exact E]
  rw[aZZ];unfold kK;have S:aO (.tp [.nm 3,.nm 4]) (enc e) [sf Kd,sf P,none,x3,x4]=some [sf Kd,sf P,none,sf (nD e.1),sf e.2]:=rfl;rw[S];dsimp only;rw[al (show jH [sf Kd,sf P,none,sf (nD e.1),sf e.2]=true from rfl)]
  have ga:jI 2 (evE W v3) (evE W v4) [sf Kd,sf P,none,sf (nD e.1),sf e.2] kvs=some ([sf Kd,sf P,none,sf (nD e.1),sf e.2],dR kvs e.1 e.2):=by have f3:aI (evE W v3 [sf Kd,sf P,none,sf (nD e.1),sf e.2])=okf (nD e.1):=rfl;have F:aI (evE W v4 [sf Kd,sf P,none,sf (nD e.1),sf e.2])=okf e.2:=rfl;unfold jI;rw[f3];dsimp only;rw[r.key];dsimp only;rw[F];dsimp only;rw[al];rw[aZL];refine#[aZ8 (by have:=g.len;lia),a2C.mpr λkv f=>aZ8 (by have:=(g.each kv f).2.2.2;lia)]
  rw[ga];exact B
end
def iR(κ:α->N)(x:α):List α->List α|[]=>[x]|y::l=>if ltN (κ y) (κ x)=true then y::iR κ x l else x::y::l
def dC(κ:α->N)(l:List α):List α:=l.foldr (iR κ) []
theorem aFK(κ:α->N)(f:α->D)(x:α):∀(l:List α),iS (κ x,f x) (l.map λe=>(κ e,f e))=(iR κ x l).map λe=>(κ e,f e)|[]=>rfl|y::l=>by rw[aZZ];unfold iS iR;dsimp only;split;{rw[aFK κ f x l];rfl};rfl
theorem rP(κ:α->N)(f:α->D):∀(l:List α),f8 (l.map λe=>(κ e,f e))=(dC κ l).map λe=>(κ e,f e)|[]=>rfl|x::l=>by show iS (κ x,f x) (f8 (l.map λe=>(κ e,f e)))=(iR κ x (dC κ l)).map _;rw[rP κ f l,aFK]
theorem aFL(κ:α->N)(x:α):∀(l:List α),(iR κ x l).Perm (x::l)|[]=>a1Z _|y::l=>by unfold iR;split;{exact((aFL κ x l).cons y).trans (List.Perm.swap x y l)};exact a1Z _
theorem mQ(κ:α->N):∀(l:List α),(dC κ l).Perm l|[]=>a1Z _|x::l=>(aFL κ x (dC κ l)).trans ((mQ κ l).cons x)
theorem aFM{f:α->D}{κ:α->N}{kd:α->D}{Φ:D->Res}:∀{es:List α},(∀e∈es,aI (Φ (f e))=okf (kd e))->iT Φ (es.map f)=some (es.map kd)|[],_=>rfl|e::es,h=>by rw[aZZ];unfold iT;rw[h e mcs,aFM (f:=f) (κ:=κ) (kd:=kd) λu a=>h u (mcm a)];rfl
theorem aFN{κ:α->N}{kd:α->D}:∀{es:List α},(∀e∈es,eG (kd e)=sf (κ e))->fZ false (es.map kd)=some (es.map κ)|[],_=>rfl|e::es,h=>by rw[aZZ];unfold fZ;rw[h e mcs,aFN (κ:=κ) λu a=>h u (mcm a)];rfl
def aVD{κ:α->N}{kd:α->D}{e:α}{es:List α}(h:eG (kd e)=sf (κ e)):fZ true ((e::es).map kd)=none:=by rw[aZZ];unfold fZ;rw[h];cases fZ true (es.map kd) <;> rfl
def aVE{m:Md}:jG m (.lst ds)=some ds:=by cases m <;> rfl
def aFO{f:α->D}{κ:α->N}{kd:α->D}{Φ:D->Res}{m:Md}{d:D}{es:List α}(hd:jG m d=some (es.map f))(r:∀e∈es,aI (Φ (f e))=okf (kd e))(a:∀e∈es,eG (kd e)=sf (κ e))(ok:okK (es.map κ)=true)(o:es.length<eE):cU Φ (.ok m d)=.ok .fr (.lst ((dC κ es).map f)):=by(have l:jF (es.map kd)=some (es.map κ):=by unfold jF;cases es with|nil=>rfl|cons e es=>rw[aVD (κ:=κ) (a e mcs)];exact aFN a);(unfold cU;show(match jG m d with|some ds=>((match iT Φ ds with|some K=>((match jF K with|some ks=>if(okK ks&&decide (ds.length<eE))=true then Res.ok .fr (.lst ((f8 (ks.zip ds)).map λp:N×D=>p.2))else .stuck|none=>.stuck))|none=>.stuck))|none=>.stuck)=_);rw[hd];dsimp only;rw[aFM (κ:=κ) r];dsimp only;rw[l];dsimp only;rw[ok,al (by rw[aY4];simpa using o),List.zip_map',rP,a2D];rfl
def aVF{f:α->D}{κ:α->N}{kd:α->D}{Φ:D->Res}{m:Md}{es:List α}(l:∀e∈es,aI (Φ (f e))=okf (kd e))(d:∀e∈es,eG (kd e)=sf (κ e))(ok:okK (es.map κ)=true)(a:es.length<eE):cU Φ (.ok m (.lst (es.map f)))=.ok .fr (.lst ((dC κ es).map f)):=aFO aVE l d ok a
def rk_dp{v:N}(h:cW v):(rk v).dp<=1:=by cases h <;> simp[rk,N.dp,N.dpL]
def aVG{u v:N}(d:cW u)(a:cW v)(e:rk u=rk v):u=v:=by cases d <;> cases a <;> simp_all[rk]
def rk_ok{u v:N}(d:cW u)(a:cW v):okN (rk u) (rk v)=true:=by
 cases d with
 |i n=>cases a with|i m=>simp only[rk,okN,cJ];split;{split;{rfl};rfl};rfl|s y=>simp[rk,okN,cJ]
 |s x=>cases a with|i m=>simp[rk,okN,cJ]|s y=>simp only[rk,okN,cJ];repeat (first|rfl|split)
theorem aFP:∀{us vs:List N},(∀u∈us,cW u)->(∀v∈vs,cW v)->cJ (us.map rk) (vs.map rk)=true|[],_,_,_=>by rw[aZ0,cJ]|_::_,[],_,_=>by rw[aZ0,aZZ,cJ]|u::us,v::vs,d,a=>by rw[aZZ,aZZ,cJ];split;{exact aFP (λx hx=>d x (mcm hx)) λx hx=>a x (mcm hx)};exact rk_ok (d u mcs) (a v mcs)
theorem aFQ:∀{vs:List N},(∀v∈vs,cW v)->N.dpL (vs.map rk)<=1|[],_=>by rw[aZ0,N.dpL];lia|v::vs,h=>by rw[aZZ,N.dpL];have:=aFQ λu a=>h u (mcm a);have:=rk_dp (h v mcs);lia
theorem w6:∀{us vs:List N},(∀u∈us,cW u)->(∀v∈vs,cW v)->us.map rk=vs.map rk->us=vs|[],[],_,_,_=>rfl|[],_::_,_,_,e|_::_,[],_,_,e=>by cases e|u::us,v::vs,d,a,e=>by rw[aZZ,aZZ]at e;exists f,E,List.cons.inj e;rw[aVG (d u mcs) (a v mcs) f,w6 (λx hx=>d x (mcm hx)) (λx hx=>a x (mcm hx)) E]
theorem aFR(h:∀k∈ks,Row k)(nd:ks.Nodup):okK (ks.map rkK)=true:=by unfold okK;rw[aZL,aZL];refine#[#[a2C.mpr λk hk=>?_,a2C.mpr λk hk=>a2C.mpr λK A=>?_],aZ8 ?_];{exists r,o,rfl,a2O.mp hk;exists vs,rfl,d,_,(h r o).ex;refine aZ8 ?_;show(N.t (vs.map rk)).dp<=8;rw[N.dp];have:=aFQ d;lia};{exists r,o,rfl,a2O.mp hk;exists vs,rfl,d,_,(h r o).ex;exists B,l,rfl,a2O.mp A;exists us,rfl,f,_,(h B l).ex;show okN (.t (vs.map rk)) (.t (us.map rk))=true;rw[okN];exact aFP d f};refine a1M.mpr (a27 ?_ nd);intro a b ha hb hab e;exists vs,rfl,d,_,(h a ha).ex;exists us,rfl,f,_,(h b hb).ex;have e:N.t (vs.map rk)=N.t (us.map rk):=e;injection e with e;exact hab (by rw[w6 d f e])
def aFS{k:N}(h:Row k):∃vs,k=.t vs/\eG (.lst (vs.map λv=>nD (rk v)))=sf (rkK k):=by(exists vs,rfl,a,_,h.ex;refine#[vs,rfl,?_];have e:(vs.map λv=>nD (rk v))=nDL (vs.map rk):=by rw[fH,a2D];rfl);rw[e];show(cS (nDL (vs.map rk))).map _=_;rw[mP];rfl
section
variable{Ok:D->Prop}
def aVH{W:WD}{a b:E}(h:W.dp=true):evE W (.srtl a b) Y=cU (λd=>evE W.pred b [sf d]) (evE W a Y):=by show(if W.dp=true then _ else _)=_;rw[al h]
def aVI{W:WD}{f:Str}{a:E}(h:W.dp=true):evE W (.srtf f a) Y=cU (λd=>W.Ψ f [d]) (evE W a Y):=by show(if W.dp=true then _ else _)=_;rw[al h]
def gG(pl:D->D->D)(No:D)(prs:List (N×D)):List (N×D):=(val pl No (gaG prs [])).filter λe=>!eqB e.2 No
theorem aFT(K:KO Kd No Ok pl)(k:Nat){P:D}{prs:List (N×D)}(J:∀m,iN (.ok m P)=okf (.lst (prs.map enc)))(h:∀e∈prs,Row e.1/\Ok e.2)(hl:prs.length<=60):(Wk (k+6)).Φ "gathered" [Kd,P]=okf (.tup ((dC (λe=>rkK e.1) (gG pl No prs)).map enc)):=by
 have hz:sizeLine=16777216:=aYH;have T:Gi Ok ([]:GD) 0:=#[aYC _,a1T,λkv a=>nomatch a];exists B,A,e1,g,aFJ (Wk (k+5)) (Kd:=Kd) (P:=P) prs [] 0 none none h T (by lia) rfl
 rw[a06]at g;have S:evS (Wk (k+5)) (.grp 2 (.for (.items v1) (.tp [(.nm 3),(.nm 4)]) (.app v3 v4))) [sf Kd,sf P,none,none,none]=.nx [sf Kd,sf P,some (true,.dtn ((gaG prs []).map λkv=>(kv.1,.lst kv.2))),B,A]:=by show l7 2 (l6 (.tp [(.nm 3),(.nm 4)]) (evE (Wk (k+5)) (.items v1)) (jI 2 (evE (Wk (k+5)) v3) (evE (Wk (k+5)) v4))) _=_;unfold l7;rw[al (show(decide (2<[sf Kd,sf P,none,none,none].length)&&jH ([sf Kd,sf P,none,none,none].set 2 none))=true from rfl)];(have gf:l6 (.tp [(.nm 3),(.nm 4)]) (evE (Wk (k+5)) (.items v1)) (jI 2 (evE (Wk (k+5)) v3) (evE (Wk (k+5)) v4)) ([sf Kd,sf P,none,none,none].set 2 none) []=some ([sf Kd,sf P,none,B,A],gaG prs []):=by unfold l6;have it:evE (Wk (k+5)) (.items v1) ([sf Kd,sf P,none,none,none].set 2 none)=okf (.lst (prs.map enc)):=J _;rw[it];exact e1);rw[gf];rfl
 generalize L:gaG prs []=G at *;have pg:=aU7 K k (gs:=G) (by have:=g.len;lia) (λkv a=>(g.each kv a).1.key) g.nd (λkv a=>#[(g.each kv a).2.1,(g.each kv a).2.2.1,by have:=(g.each kv a).2.2.2;lia])
 have o:((G.map λkv=>(kv.1,kv.2.foldl pl No)).filter λe=>!eqB e.2 No)=gG pl No prs:=by unfold gG;rw[L];rfl
 rw[o]at pg;have fr:∀e∈gG pl No prs,Row e.1:=λe f=>by rw[<- o]at f;exists kv,a,rfl,a2O.mp (aXP.mp f).1;exact(g.each kv a).1
 have fn:((gG pl No prs).map λe=>e.1).Nodup:=by rw[<- o];have:List.Sublist (((G.map λkv=>(kv.1,kv.2.foldl pl No)).filter λe=>!eqB e.2 No).map λe=>e.1) ((G.map λkv=>(kv.1,kv.2.foldl pl No)).map λe=>e.1):=List.Sublist.map _ (List.filter_sublist);refine this.nodup ?_;rw[a2D];exact g.nd
 have fl:(gG pl No prs).length<=60:=by rw[<- o];have:=a28 (λe=>!eqB e.2 No) (G.map λkv=>(kv.1,kv.2.foldl pl No));rw[aY4]at this;have:=g.len;lia
 generalize gG pl No prs=es at *;have so:cU (λd=>evE (Wk (k+5)).pred (.call "rank_of_row" 1 [(.ix v0 (.int 0))]) [sf d]) (.ok .fr (.lst (es.map enc)))=.ok .fr (.lst ((dC (λe=>rkK e.1) es).map enc)):=by
  have l:∀e:N×D,∃kd:D,e∈es->aI (evE (Wk (k+5)).pred (.call "rank_of_row" 1 [(.ix v0 (.int 0))]) [sf (enc e)])=okf kd/\eG kd=sf (rkK e.1):=λe=>by by_cases f:e∈es;{exists vs,ev,Z,aFS (fr e f);exists V,E,F,hn,(fr e f).ex;(have:V=vs:=by rw[ev]at E;injection E with z;exact z.symm);(subst this;refine#[_,λ_=>#[?_,Z]];have r:=aU8 (k+1) F hn;have c:aV 1 ((Wk (k+4)).Φ "rank_of_row") (.ok [(.fz,nD e.1)])=.ok .fr (.lst (V.map λv=>nD (rk v))):=by rw[ev];exact aU3 r);have x:evE (Wk (k+5)).pred (.call "rank_of_row" 1 [(.ix v0 (.int 0))]) [sf (enc e)]=aV 1 ((Wk (k+4)).Φ "rank_of_row") (.ok [(.fz,nD e.1)]):=rfl;rw[x,c];rfl};exact#[.non,λz=>absurd z f]
  exact aVF (κ:=λe:N×D=>rkK e.1) (kd:=λe=>(l e).choose) (λe f=>((l e).choose_spec f).1) (λe f=>((l e).choose_spec f).2) (by
   have:=aFR (ks:=es.map λe=>e.1) (λk hk=>by exists e,f,rfl,a2O.mp hk;exact fr e f) fn
   rw[a2D]at this
   exact this) (aXM (by lia:es.length<64) uK)
 exact ent (d:=aEC) rfl rfl (nxt S (nxt rfl (bA (gE (m:=.fr) (by rw[aVH rfl];erw [ec2 (W:=Wk (k+5)) rfl rfl (oE pg)];exact so)))))
end
def ce(ns:List Int)(i:Int):Int:=if 0<=i then(ns[i.toNat]?).getD 0 else 0
theorem cell(k:Nat)(ns:List Int){i:Int}(h0:0<=i):(Wk (k+1)).Φ "_law_cell_at" [.lst (ns.map .int),.int i]=okf (.int (ce ns i)):=by refine ent (d:=aES) rfl rfl ?_;show evB _ rJ [sf (.lst (ns.map .int)),sf (.int i)]=_;exists j,rfl,a23 h0;unfold ce;rw[al h0];by_cases h:j<ns.length;{have hx:op2 ixD (okf (.lst (ns.map .int))) (okf (.int j))=okf (.int ns[j]):=fO (cY (by rw[aY1,a0T h];rfl));(have h':((j:Int)<(ns.length:Int)):=by lia);simp[rJ,h',hx,h]};(have h':¬ ((j:Int)<(ns.length:Int)):=by lia);simp[rJ,h',List.getElem?_eq_none (Nat.le_of_not_lt h)]
def rQ(k:Nat)(ns:List Int){i:Int}(h0:0<=i):aV 2 ((Wk (k+1)).Φ "_law_cell_at") (.ok [(.fz,.lst (ns.map .int)),(.fz,.int i)])=okf (.int (ce ns i)):=dI (cell k ns h0)
theorem oH{n:Int}(h0:0<=n)(a:n<=1000){m:Md}:gN (.ok [(m,.int n)])=okf (.lst (cC 0 n)):=by unfold gN;rw[bC.thn_ok];dsimp only;rw[al];simp only[aZL,a0L];lia
theorem mem_range{d:D}{n:Int}(h:d∈cC 0 n):∃i:Nat,(i:Int)<n/\d=.int i:=by simp only[cC,a2O,aXQ]at h;exists i,a,rfl,h;exact#[i,by lia,by simp]
def aVJ(k:Nat)(i:Int):(Wk (k+1)).Φ "_law_alike" [.int i,.int i]=okf (.bl true):=
 ent (d:=rL) rfl rfl (nxt (bG (m:=.fz) rfl rfl) (nxt (bG (m:=.fz) rfl rfl) (nxr (fP (m:=.fz) rfl (bA (andR3 rfl rfl (by simp:op2 (a9 .Eq) (okf (.int i)) (okf (.int i))=okf (.bl true))))))))
def aVK(k:Nat)(z:Str):(Wk (k+1)).Φ "_law_alike" [.str z,.str z]=okf (.bl true):=
 ent (d:=rL) rfl rfl (nxt (bG (m:=.fz) rfl rfl) (nxt (bG (m:=.fz) rfl rfl) (nxt (bG (m:=.fz) rfl rfl) (nxr (fP (m:=.fz) rfl (bA (aFD rfl (by simp:op2 (a9 .Eq) (okf (.str z)) (okf (.str z))=okf (.bl true)))))))))
theorem aVL(k:Nat)(D:ds.length<=999)(hp:∀d∈ds,(Wk k).Φ "_law_alike" [d,d]=okf (.bl true)):(Wk (k+1)).Φ "_law_alike" [.tup ds,.tup ds]=okf (.bl true):=by
 exists ρ',e,x,rfl,oG (k:=aO (.nm 2)) (body:=evB (Wk k) vV) (λ_ Y=>∃x,Y=[sf (.tup ds),sf (.tup ds),x]) (cC 0 (ds.length:Int)) 0 (Y:=[sf (.tup ds),sf (.tup ds),none]) (λj d hd Y l=>by
  exists x,rfl,l;exists o,rfl,wW hd;have ix:op2 ixD (okf (.tup ds)) (okf (.int (j:Int)))=okf ds[j]:=dS (cY (a0T o));exact#[_,_,rfl,nxt (bG (m:=.fz) (congrArg (λr=>iZ (fT r)) (ec2 (W:=Wk k) (Y:=[sf (.tup ds),sf (.tup ds),sf (.int (j:Int))]) (f:="_law_alike") (a:=.ix v0 v2) (b:=.ix v1 v2) ix ix (dI (hp ds[j] (a24 o))))) rfl) rfl,_,rfl]) #[_,rfl]
 have ne:op2 (a9 .NotEq) (okf (.int (ds.length:Int))) (okf (.int (ds.length:Int)))=okf (.bl false):=by simp
 have B:=oH (m:=.fz) (n:=(ds.length:Int)) (by lia) (by lia)
 have S:evS (Wk k) (.for (.rng1 (.bcall .len [v1])) (.nm 2) vV) [sf (.tup ds),sf (.tup ds),none]=.nx [sf (.tup ds),sf (.tup ds),x]:=by rw[qY];show lK (gN (.ok [(.fz,.int (ds.length:Int))])) _ _ _=_;rw[B];exact e
 have A:evS (Wk k) (.ite (.tru (.bcall .isinstance [v1,(.ty .tuple)])) [.ite (.orL [(.not (.tru (.bcall .isinstance [v0,(.ty .tuple)]))),(.cmp .NotEq (.bcall .len [v0]) (.bcall .len [v1]))]) [.ret (.bl false)] []] [.ite (.orL [(.not (.tru (.bcall .isinstance [v0,(.ty .list)]))),(.cmp .NotEq (.bcall .len [v0]) (.bcall .len [v1]))]) [.ret (.bl false)] []]) [sf (.tup ds),sf (.tup ds),none]=.nx [sf (.tup ds),sf (.tup ds),none]:=by refine fP (m:=.fz) rfl (nxt (bG (m:=.fz) ?_ rfl) rfl);rw[e_orL,aTW,aTV];show orR (okf (.bl false)) (op2 (a9 .NotEq) (okf (.int (ds.length:Int))) (okf (.int (ds.length:Int))))=_;rw[ne];rfl
 exact ent (d:=rL) rfl rfl (nxt (bG (m:=.fz) rfl rfl) (nxt (bG (m:=.fz) rfl rfl) (nxt (bG (m:=.fz) rfl rfl) (nxt (bG (m:=.fz) rfl rfl) (nxt A (nxt S rfl))))))
theorem aFU:∀(n:Nat) {d:D},Pl n d->∀K,n<K->(Wk K).Φ "_law_alike" [d,d]=okf (.bl true):=by intro n d h;induction h with|int i=>intro K hk;exists K,rfl,up hk;exact aVJ K i|str z=>intro K hk;exists K,rfl,up hk;exact aVK K z|tup h f a=>intro K hk;exists K,rfl,up hk;exact aVL K f λd hd=>a d hd K (by lia)
def l0:j4 (.ok [])=.ok .fr (.lst []):=by rfl
def tx(l:List Nat):Str:=#[l.toArray]
def tx_l{l:List Nat}:(tx l).cps.toList=l:=by simp[tx]
def aVM{a b:List Nat}(h:tx a=tx b):a=b:=by have:=congrArg (λz:Str=>z.cps.toList) h;simpa[tx_l]using this
def aVN{a b:List Nat}:tx a++tx b=tx (a++b):=by show(#[a.toArray++b.toArray]:Str)=_;simp[tx]
def w8{l:List Nat}:(tx l).length=l.length:=by simp[tx,Str.length]
def cK:Str:="abcdefghijklmnopqrstuvwxyz"
def dJ:Str:=cK++("0123456789":Str)
def sgN(j:Nat)(v:Int):Nat:=if j=0 then cK.cps.toList.getD (v % 26).toNat 0 else dJ.cps.toList.getD (v % 36).toNat 0
theorem aFV{n:Int}(hn:n=z.cps.toList.length)(h:0<n)(v:Int){m:Md}:op2 ixD (.ok m (.str z)) (.ok m' (.int (v % n)))=okf (.str (tx [z.cps.toList.getD (v % n).toNat 0])):=by have h0:=a21 v (show n≠0 by lia);(have d:=a22 v h;exists i,a,a23 h0;have hx:i<z.cps.toList.length:=by lia);rw[a];refine bJ ?_;show(atI z.cps.toList (i:Int)).map _=_;rw[cY (a0T hx)];rw[show((i:Int)).toNat=i from rfl,List.getD_eq_getElem?_getD,a0T hx];rfl
def aVO:(26:Int)=cK.cps.toList.length:=by decide +kernel
def aVP:(36:Int)=dJ.cps.toList.length:=by decide +kernel
def dr(c:Int)(a k j:Nat):Int:=if j=a then c / 25+k else c / (7+6 * (j:Int))+11 * (j:Int)
def nm(c:Int)(a k s:Nat):List Nat:=(List.range s).map λj=>sgN j (dr c a k j)
def aVQ(c:Int)(a k s:Nat):tx (nm c a k (s+1))=tx (nm c a k s)++tx [sgN s (dr c a k s)]:=by rw[aVN];unfold nm;rw[a2R,a1R];rfl
section
variable{W:WD}{c:Int}{a s:Nat}{x1 x4 x6 x9 x10:Option (Bool×D)}
abbrev NS(c:Int)(a k:Nat)(x1 x4 x6:Option (Bool×D))(z:Str)(x9 x10:Option (Bool×D)):Rho:=[sf (.int c),x1,sf (.str cK),sf (.str dJ),x4,sf (.int (a:Int)),x6,sf (.int (k:Int)),sf (.str z),x9,x10]
theorem aVR(r:j<=4):evB W fN (NS c a k x1 x4 x6 (tx (nm c a k j)) (sf (.int (j:Int))) x10)=.nx (NS c a k x1 x4 x6 (tx (nm c a k (j+1))) (sf (.int (j:Int))) (sf (.int (dr c a k j)))):=by have l:op2 (a8 .Mult) (okf (.int 6)) (okf (.int (j:Int)))=okf (.int (6 * (j:Int))):=vL (by decide);have f:op2 (a8 .Mult) (okf (.int 11)) (okf (.int (j:Int)))=okf (.int (11 * (j:Int))):=vL (by decide);have D:op2 (a8 .FloorDiv) (okf (.int c)) (okf (.int (7+6 * (j:Int))))=okf (.int (c / (7+6 * (j:Int)))):=aT0 (by lia) (by lia);(have fst:evB W (fN.take 2) (NS c a k x1 x4 x6 (tx (nm c a k j)) (sf (.int (j:Int))) x10)=.nx (NS c a k x1 x4 x6 (tx (nm c a k j)) (sf (.int (j:Int))) (sf (.int (dr c a k j)))):=by unfold dr NS;generalize tx (nm c a k j)=z;generalize cK=LL at *;generalize dJ=SS at *;by_cases w:j=a;{(have d:((j:Int)==(a:Int))=true:=by rw[w];exact a0Y _);rw[al w];simp[fN,l,f,D,d]};have d:((j:Int)==(a:Int))=false:=aXI.mpr (by lia);rw[aK w];simp[fN,l,f,D,d]);have o:=aFV aVO (by decide) (dr c a k j) (m:=.fz) (m':=.fz);have E:=aFV aVP (by decide) (dr c a k j) (m:=.fz) (m':=.fz);(have Z:(tx (nm c a k j)).length=j:=by rw[w8];unfold nm;simp);have ad:∀g,op2 (a8 .Add) (okf (.str (tx (nm c a k j)))) (okf (.str (tx [g])))=okf (.str (tx (nm c a k j)++tx [g])):=λg=>aDC (by rw[aYH,Z,w8];simp;lia);(have snd:evB W [fN.getD 2 .never] (NS c a k x1 x4 x6 (tx (nm c a k j)) (sf (.int (j:Int))) (sf (.int (dr c a k j))))=.nx (NS c a k x1 x4 x6 (tx (nm c a k (j+1))) (sf (.int (j:Int))) (sf (.int (dr c a k j)))):=by rw[aVQ];unfold sgN NS;clear fst;generalize dr c a k j=v at *;generalize tx (nm c a k j)=z at *;by_cases w:j=0;{rw[al w];have ad:=ad (cK.cps.toList.getD (v % 26).toNat 0);generalize tx [cK.cps.toList.getD (v % 26).toNat 0]=y at *;generalize cK=LL at *;generalize dJ=SS at *;subst w;simp[fN,o,ad]};have d:((j:Int)==0)=false:=aXI.mpr (by lia);rw[aK w];have ad:=ad (dJ.cps.toList.getD (v % 36).toNat 0);generalize tx [dJ.cps.toList.getD (v % 36).toNat 0]=y at *;generalize cK=LL at *;generalize dJ=SS at *;simp[fN,d,E,ad]);have split:fN=fN.take 2++[fN.getD 2 .never]:=rfl;rw[split,oC,fst,aH.thn_nx];exact snd
theorem rngN(h:n<=1000){m:Md}:gN (.ok [(m,.int (n:Int))])=okf (.lst (cC 0 (n:Int))):=oH (by lia) (by lia)
theorem aVS(hs:s<=5):∃l f,bV (aO (.nm 9)) (evB W fN) (cC 0 (s:Int)) (NS c a k x1 x4 x6 (Str.ofString "") x9 x10)=.nx (NS c a k x1 x4 x6 (tx (nm c a k s)) l f):=by
 exists ρ',e,l,f,rfl,oG (k:=aO (.nm 9)) (body:=evB W fN) (λj Y=>∃l f,Y=NS c a k x1 x4 x6 (tx (nm c a k j)) l f) (cC 0 (s:Int)) 0 (Y:=NS c a k x1 x4 x6 (Str.ofString "") x9 x10)
  (λj d hd Y o=>by
   exists l,f,rfl,o;exists r,rfl,wW hd;rw[a06]
   exact#[_,_,rfl,aVR (by lia),_,_,rfl]) #[_,_,rfl]
 exact#[l,f,by rw[e,a06,aFC]]
theorem aVT(hs:s<=5)(o:ds.length<100){x8:Option (Bool×D)}:∃l f d,evB W rF [sf (.int c),x1,sf (.str cK),sf (.str dJ),sf (.int (s:Int)),sf (.int (a:Int)),some (true,.lst ds),sf (.int (k:Int)),x8,x9,x10]=.nx [sf (.int c),x1,sf (.str cK),sf (.str dJ),sf (.int (s:Int)),sf (.int (a:Int)),some (true,.lst (ds++[.str (tx (nm c a k s))])),sf (.int (k:Int)),l,f,d]:=by exists f,d,e,aVS (W:=W) (c:=c) (a:=a) (k:=k) (x1:=x1) (x4:=sf (.int (s:Int))) (x6:=some (true,.lst ds)) (x9:=x9) (x10:=x10) hs;refine#[sf (.str (tx (nm c a k s))),f,d,?_];have E:evE W (.rng1 v4) (NS c a k x1 (sf (.int (s:Int))) (some (true,.lst ds)) (Str.ofString "") x9 x10)=okf (.lst (cC 0 (s:Int))):=rngN (by lia);refine nxt (ρ':=NS c a k x1 (sf (.int (s:Int))) (some (true,.lst ds)) (Str.ofString "") x9 x10) rfl (nxt (ρ':=NS c a k x1 (sf (.int (s:Int))) (some (true,.lst ds)) (tx (nm c a k s)) f d) ?_ ?_);{rw[qY,E];exact e};rw[kN,aC8];show((if ds.length<sizeLine then _ else _:aH)).thn _=_;rw[al (by rw[aYH];lia)];rfl
end
def nms(c:Int)(a s n:Nat):List Str:=(List.range n).map λk=>tx (nm c a k s)
def aVU{W:WD}{B:List D3.S}{R L:List D}{f x2 x3 x4 d x6 A o l a:Option (Bool×D)}(E:gN (.ok [(.fz,.int 8)])=okf (.lst R))(e:bV (aO (.nm 7)) (evB W B) R [f,sf (.int 8),x2,x3,x4,d,x6,none,none,none,none]=.nx [f,sf (.int 8),x2,x3,x4,d,some (true,.lst L),A,o,l,a]):evB W [.for (.rng1 v1) (.nm 7) B,.retV 6] [f,sf (.int 8),x2,x3,x4,d,x6,none,none,none,none]=.rt .fr (.lst L):=by refine nxt (ρ':=[f,sf (.int 8),x2,x3,x4,d,some (true,.lst L),A,o,l,a]) ?_ rfl;rw[qY];exact(congrArg (λr=>lK r [f,sf (.int 8),x2,x3,x4,d,x6,none,none,none,none] (aO (.nm 7)) (evB W B)) E).trans e
theorem aVV(j:Nat)(v:Int):sgN j v<0x110000:=by(have n1:∀i<26,cK.cps.toList.getD i 0<0x110000:=by decide +kernel);(have n2:∀i<36,dJ.cps.toList.getD i 0<0x110000:=by decide +kernel);unfold sgN;split;{exact n1 _ (by lia)};exact n2 _ (by lia)
theorem nm_ok(c:Int)(a:Nat){s:Nat}(f:s<=5):∀z∈nms c a s 8,fW (.inr z)=true:=λz d=>by exists k,_,rfl,a2O.mp d;have Z:sizeLine=16777216:=aYH;show(decide ((tx (nm c a k s)).length<=sizeLine)&&PyData.strOk (tx (nm c a k s)))=true;rw[aZL,a0L];refine#[by rw[w8];simp[nm];lia,?_];unfold PyData.strOk;rw[<- Array.all_toList,tx_l,a2C];intro x hx;exists j,_,rfl,a2O.mp hx;exact aZ8 (aVV _ _)
theorem names(K:Nat)(c:Int):∃zs:List Str,zs.length=8/\zs.Nodup/\(∀z∈zs,fW (.inr z)=true)/\(Wk (K+1)).Φ "_law_names" [.int c,.int 8]=.ok .fr (.lst (zs.map .str)):=by
 exists s',S,a23 (show 0<=c % 5 by lia)
 obtain⟨s,hs,h1,F⟩:∃s:Nat,(1+c % 5)=(s:Int)/\1<=s/\s<=5:=#[1+s',by lia,by lia,by lia]
 have a0:=a21 (c / 5) (show(s:Int)≠0 by lia)
 have a1:=a22 (c / 5) (show(0:Int)<(s:Int) by lia)
 exists a,ha,a23 a0;have ha:c / 5 % (s:Int)=(a:Int):=ha;have N:a<s:=by lia
 refine#[nms c a s 8,by simp[nms],?_,nm_ok c a F,?_]
 . refine a1M.mpr (a27 (R:=λi j=>i<j) ?_ List.pairwise_lt_range);intro i j hi E hij e;rw[aXQ]at hi E;have e:=congrArg (λl:List Nat=>l[a]?) (aVM e);simp only[nm,aY1,a0Q N,a0R,a00]at e;have d:∀k:Nat,dr c a k a=c / 25+k:=λk=>al rfl;rw[d,d]at e;(have n1:∀i<26,∀j<26,cK.cps.toList.getD i 0=cK.cps.toList.getD j 0->i=j:=by decide +kernel);(have n2:∀i<36,∀j<36,dJ.cps.toList.getD i 0=dJ.cps.toList.getD j 0->i=j:=by decide +kernel);unfold sgN at e;split at e;{have:=n1 _ (by lia) _ (by lia) e;lia};have:=n2 _ (by lia) _ (by lia) e;lia
 refine ent (d:=aET) rfl rfl ?_;show evB _ wD [sf (.int c),sf (.int 8),none,none,none,none,none,none,none,none,none]=_;exists ρ',e,A,r,o,f,rfl,oG (k:=aO (.nm 7)) (body:=evB (Wk K) rF)
  (λj Y=>∃A r o f,Y=[sf (.int c),sf (.int 8),sf (.str cK),sf (.str dJ),sf (.int (s:Int)),sf (.int (a:Int)),some (true,.lst ((nms c a s j).map .str)),A,r,o,f])
  (cC 0 ((8:Nat):Int)) 0 (Y:=[sf (.int c),sf (.int 8),sf (.str cK),sf (.str dJ),sf (.int (s:Int)),sf (.int (a:Int)),some (true,.lst []),none,none,none,none])
  (λj d hd Y B=>by
   exists A,r,o,f,rfl,B;exists E,rfl,wW hd;rw[a06];exists J,G,Z,e,aVT (W:=Wk K) (c:=c) (a:=a) (k:=j) (s:=s) (x1:=sf (.int 8)) (x9:=o) (x10:=f) (x8:=r) F (ds:=(nms c a s j).map .str) (by simp[nms];lia)
   refine#[_,_,rfl,e,sf (.int (j:Int)),J,G,Z,?_];have:(nms c a s (j+1)).map D.str=(nms c a s j).map D.str++[.str (tx (nm c a j s))]:=by unfold nms;rw[a2R,a1R,a1R];rfl
   rw[this]) #[_,_,_,_,rfl]
 have ad:op2 (a8 .Add) (okf (.str cK)) (okf (.str "0123456789"))=okf (.str dJ):=aDC (by decide +kernel)
 have L:op2 (a8 .Mod) (okf (.int (c / 5))) (okf (.int (s:Int)))=okf (.int (a:Int)):=by rw[kP (by lia),ha]
 rw[a06,aFC]at e;have V:wD=[.set 2 (.str cK),.set 3 (.frz (.bin .Add v2 (.str "0123456789"))),.set 4 (.frz (.bin .Add (.int 1) (.bin .Mod v0 (.int 5)))),.set 5 (.frz (.bin .Mod (.bin .FloorDiv v0 (.int 5)) v4)),.set 6 (.lst [])]++[.for (.rng1 v1) (.nm 7) rF,.retV 6]:=rfl;have p1:evB (Wk K) [.set 2 (.str cK),.set 3 (.frz (.bin .Add v2 (.str "0123456789"))),.set 4 (.frz (.bin .Add (.int 1) (.bin .Mod v0 (.int 5)))),.set 5 (.frz (.bin .Mod (.bin .FloorDiv v0 (.int 5)) v4)),.set 6 (.lst [])] [sf (.int c),sf (.int 8),none,none,none,none,none,none,none,none,none]=.nx [sf (.int c),sf (.int 8),sf (.str cK),sf (.str dJ),sf (.int (s:Int)),sf (.int (a:Int)),some (true,.lst []),none,none,none,none]:=by clear e;generalize cK=LL at *;generalize dJ=SS at *;simp[ad,hs,L,l0]
 have T:((8:Nat):Int)=8:=rfl;rw[T]at e;rw[V,oC,p1,aH.thn_nx];exact aVU (oH (by decide) (by decide)) e
def i0{a b:D}{m:Md}:op2 ixD (.ok m (.tup [a,b])) (.ok m' (.int 0))=okf a:=dS (cY (j:=0) rfl)
def i1{a b:D}{m:Md}:op2 ixD (.ok m (.tup [a,b])) (.ok m' (.int 1))=okf b:=dS (cY (j:=1) rfl)
def j0{a b c:D}{m:Md}:op2 ixD (.ok m (.tup [a,b,c])) (.ok m' (.int 0))=okf a:=dS (cY (j:=0) rfl)
def j1{a b c:D}{m:Md}:op2 ixD (.ok m (.tup [a,b,c])) (.ok m' (.int 1))=okf b:=dS (cY (j:=1) rfl)
def j2{a b c:D}{m:Md}:op2 ixD (.ok m (.tup [a,b,c])) (.ok m' (.int 2))=okf c:=dS (cY (j:=2) rfl)
def t2{a b:D}:dO (.ok [(.fz,a),(.fz,b)])=okf (.tup [a,b]):=by rfl
def t3{a b c:D}:dO (.ok [(.fz,a),(.fz,b),(.fz,c)])=okf (.tup [a,b,c]):=by rfl
def h0{a:D}{m:Md}:op2 ixD (.ok m (.lst [a])) (.ok m' (.int 0))=okf a:=fO (cY (j:=0) rfl)
def f0{a b c d:D}{m:Md}:op2 ixD (.ok m (.tup [a,b,c,d])) (.ok m' (.int 0))=okf a:=dS (cY (j:=0) rfl)
def f1{a b c d:D}{m:Md}:op2 ixD (.ok m (.tup [a,b,c,d])) (.ok m' (.int 1))=okf b:=dS (cY (j:=1) rfl)
def f2{a b c d:D}{m:Md}:op2 ixD (.ok m (.tup [a,b,c,d])) (.ok m' (.int 2))=okf c:=dS (cY (j:=2) rfl)
def f3{a b c d:D}{m:Md}:op2 ixD (.ok m (.tup [a,b,c,d])) (.ok m' (.int 3))=okf d:=dS (cY (j:=3) rfl)
abbrev Tp(C:List Str):D:=.tup (C.map .str)
def aFW{N:Nat}{g:Rho->aH}(a:ds.length=n)(h:g (eT N ds)=.nx Y):phi n N g ds=okf .non:=by unfold phi;rw[al a,h];rfl
def xA{C:List Str}:(C.map D.str).all bY=true:=by rw[List.all_map];exact a2C.mpr λ_ _=>rfl
def aFX{C:List Str}:((C.map D.str).any λy=>eqD y (.str z))=decide (z∈C):=by rw[Bool.eq_iff_iff,List.any_map,List.any_eq_true,a0L];constructor;{rintro⟨y,a,e⟩;have e:(y==z)=true:=e;rw[aYK]at e;subst e;exact a};exact λh=>#[z,h,by show(z==z)=true;exact a0Y z]
def in_T{m:Md}{C:List Str}:op2 (a9 .In) (.ok m (.str z)) (.ok m' (Tp C))=okf (.bl (decide (z∈C))):=by refine bJ ?_;show(if(bY (.str z)&&(C.map D.str).all bY)=true then some (Md.fz,D.bl (if false=true then _ else((C.map D.str).any λy=>eqD y (.str z))))else none)=_;rw[xA,aFX];rfl
def aVW{m:Md}{C:List Str}:op2 (a9 .NotIn) (.ok m (.str z)) (.ok m' (Tp C))=okf (.bl (!decide (z∈C))):=by refine bJ ?_;show(if(bY (.str z)&&(C.map D.str).all bY)=true then some (Md.fz,D.bl (if true=true then !((C.map D.str).any λy=>eqD y (.str z))else _))else none)=_;rw[xA,aFX];rfl
theorem aFY:∀C:List Str,cA (C.map D.str)=some (C.map PyData.str)|[]=>rfl|z::C=>by(show(match aT (.str z),cA (C.map D.str)with|some p,some ps=>some (p::ps)|_,_=>none)=_);rw[aFY C];rfl
theorem aFZ:∀C:List Str,PyData.depthAll (C.map PyData.str)=0|[]=>by simp[PyData.depthAll]|z::C=>by simp[PyData.depthAll,PyData.depth,aFZ C]
def aVX{C:List Str}:eR (.tuple (C.map .str))=true:=by unfold eR;simp[PyData.depth,aFZ]
theorem aF0:∀C:List Str,PyData.eqvAll (C.map PyData.str) (C.map PyData.str)=true|[]=>by simp[PyData.eqvAll]|z::C=>by simp[PyData.eqvAll,PyData.eqv,aF0 C]
def ne_T{m:Md}{C:List Str}:op2 (a9 .NotEq) (.ok m (Tp C)) (.ok m' (Tp C))=okf (.bl false):=by refine bJ ?_;simp[a9,fNe,orO,eqF,aT,aFY,aVX,PyData.eqv,aF0]
section
variable{W:WD}{e:E}{m:Md}
theorem aF1:fF ds none (some (i:Int))=ds.take i:=by unfold fF;rw[HT.aJU,HT.tB,a04,Nat.sub_zero];by_cases h:i<=ds.length;{rw[Nat.min_eq_left h]};rw[Nat.min_eq_right (by lia),a1K,a05 (by lia)]
def sl_hi(h:evE W e Y=.ok m (.int (i:Int))):slP (okf (.tup ds)) (evO W none) (evO W (some e)) Y=okf (.tup (ds.take i)):=by simp only[evO,slP,Res.thn_ok,fU,h];rw[aK (by simp),aF1]
def aF2(h:evE W e Y=.ok m (.int (i:Int))):slP (.ok m' (.lst ds)) (evO W none) (evO W (some e)) Y=.ok .fr (.lst (ds.take i)):=by simp only[evO,slP,Res.thn_ok,fU,h];rw[aF1]
end
def sll{W:WD}{e e':E}{m:Md}(h:evE W e Y=.ok m (.int (i:Int)))(h':evE W e' Y=.ok m' (.int (j:Int))){m0:Md}:slP (.ok m0 (.lst ds)) (evO W (some e)) (evO W (some e')) Y=.ok .fr (.lst (fF ds (some (i:Int)) (some (j:Int)))):=by simp only[evO,slP,Res.thn_ok,fU,h,h']
def aF3(k:Nat){C:List Str}(h:z∈C):(Wk (k+1)).Φ "refuse_missing" [.str z,Tp C]=okf .non:=by rw[aUY];refine aFW (Y:=[sf (.str z),sf (Tp C)]) rfl ?_;have e:=aVW (m:=.fz) (m':=.fz) (z:=z) (C:=C);rw[aZ8 h]at e;exact nxt (bG (m:=.fz) e rfl) rfl
def rR{C:List Str}(hi:i<C.length){m:Md}:op2 ixD (.ok m (Tp C)) (.ok m' (.int (i:Int)))=okf (.str C[i]):=dS (cY (by rw[aY1,a0T hi];rfl))
theorem twice(k:Nat){C:List Str}(hn:C.Nodup)(hi:i<C.length):(Wk (k+1)).Φ "refuse_twice" [Tp C,.int (i:Int)]=okf .non:=by
 rw[aUX];refine aFW (Y:=[sf (Tp C),sf (.int (i:Int))]) rfl ?_;have nm:¬ C[i]∈C.take i:=λh=>by exists j,a,e,List.mem_iff_getElem.mp h;rw[List.getElem_take]at e;rw[aYW]at a;have:=(aXZ hn).mp e;lia
 have f:=rR hi (m:=.fz) (m':=.fz);have d:slP (okf (Tp C)) (evO (Wk k) none) (evO (Wk k) (some v1)) [sf (Tp C),sf (.int (i:Int))]=okf (Tp (C.take i)):=by rw[sl_hi (m:=.fz) (i:=i) rfl,<- List.map_take]
 have E:=in_T (m:=.fz) (m':=.fz) (z:=C[i]) (C:=C.take i);rw[aXH nm]at E;refine nxt (bG (m:=.fz) ?_ rfl) rfl;show op2 (a9 .In) (op2 ixD (okf (Tp C)) (okf (.int (i:Int)))) (slP (okf (Tp C)) _ _ [sf (Tp C),sf (.int (i:Int))])=_;rw[f,d];exact E
theorem aF4:∀{ds:List D}{i j:Nat}{d:D},(fE i ds)[j]? = some d->∃x,ds[j]? = some x/\d=.tup [.int ((i+j:Nat):Int),x]|[],i,j,d,h=>by simp[fE]at h|x::ds,i,0,d,h=>by simp[fE]at h;exact#[x,rfl,h.symm]|x::ds,i,j+1,d,h=>by simp only[fE,a25]at h;exists y,a,e,aF4 h;exact#[y,by rw[a25];exact a,by rw[e,show i+1+j=i+(j+1) by lia]]
theorem kept(k:Nat){K C:List Str}(hn:K.Nodup)(hs:∀z∈K,z∈C):(Wk (k+2)).Φ "kept" [Tp K,Tp C]=okf (Tp K):=by
 refine ent (d:=aEH) rfl rfl ?_;show evB (Wk (k+1)) aDZ [sf (Tp K),sf (Tp C),none,none]=_;exists ρ',e,I,oG (k:=aO (.tp [.nm 2,.nm 3])) (body:=evB (Wk (k+1)) aDT) (λ_ Y=>∃x y,Y=[sf (Tp K),sf (Tp C),x,y])
  (fE 0 (K.map .str)) 0 (Y:=[sf (Tp K),sf (Tp C),none,none])
  (λj d hd Y a=>by
   exists x,y,rfl,a;exists v,f,rfl,aF4 hd;rw[aY1]at f;exists z,o,rfl,aZ1.mp f;exists l,E,aXY.mp o;have c1:aV 2 ((Wk (k+1)).Φ "refuse_missing") (.ok [(.fz,.str z),(.fz,Tp C)])=okf .non:=dI (aF3 k (hs z (by rw[<- E];exact a24 l)))
   have r:aV 2 ((Wk (k+1)).Φ "refuse_twice") (.ok [(.fz,Tp K),(.fz,.int (j:Int))])=okf .non:=dI (twice k hn l);rw[a06];exact#[_,[sf (Tp K),sf (Tp C),sf (.int (j:Int)),sf (.str z)],rfl,nxt (wV (ec2 rfl rfl c1)) (nxt (wV (ec2 rfl rfl r)) rfl),_,_,rfl])
  #[none,none,rfl]
 exists x,y,rfl,I;exact nxt e rfl
def aVY(k:Nat){d:D}{K C:List Str}(hz:z∈C)(hn:K.Nodup)(hs:∀z∈K,z∈C):(Wk (k+4)).Φ "columns_of_total" [.tup [.str "total",d,.str z,Tp K],.lst [Tp C]]=okf (Tp K):=
 ent (d:=aEJ) rfl rfl (bA (ec3 rfl rfl rfl (e9 (ent (d:=aEI) rfl rfl (nxt (wV (ec2 rfl rfl (dI (aF3 (k+1) hz)))) (bA (ec2 rfl rfl (dI (kept k hn hs)))))))))
def aVZ(k:Nat){A:D}{C:List Str}:(Wk (k+1)).Φ "columns_of_pour" [A,.lst [Tp C,Tp C]]=okf (Tp C):=
 ent (d:=aEK) rfl rfl (nxt rfl (nxt (bG (m:=.fz) (ne_T (C:=C) (m:=.fz) (m':=.fz)) rfl) rfl))
def jpl:List Str:=[Str.ofString "join",Str.ofString "pour",Str.ofString "leave"]
def in3{m:Md}:op2 (a9 .In) (.ok m (.str z)) (.ok m' (.tup [.str (Str.ofString "join"),.str (Str.ofString "pour"),.str (Str.ofString "leave")]))=okf (.bl (decide (z∈jpl))):=in_T (C:=jpl)
def aF5(k:Nat){A x:D}{w:Str}(a:op2 ixD (okf A) (okf (.int 0))=okf (.str w))(o:op2 ixD (okf A) (okf (.int 1))=okf x)(f:(w==Str.ofString "table")=false)(l:decide (w∈jpl)=false):(Wk (k+1)).Φ "askings_within" [A]=okf (.tup [x]):=by have E:=in3 (m:=.fz) (m':=.fz) (z:=w);rw[l]at E;refine ent (d:=wJ) rfl rfl (nxt (bG (m:=.fz) (cE (m:=.fz) a f) rfl) (nxt (bG (m:=.fz) ?_ rfl) (bA (etp1 o))));show op2 (a9 .In) (op2 ixD (okf A) (okf (.int 0))) (okf (.tup (jpl.map .str)))=_;rw[a];exact E
def aF6(k:Nat){x:D}{w:Str}(a:(w==Str.ofString "table")=false)(f:decide (w∈jpl)=true):(Wk (k+1)).Φ "askings_within" [.tup [.str w,x,y]]=okf (.tup [x,y]):=by have E:=in3 (m:=.fz) (m':=.fz) (z:=w);rw[f]at E;exact ent (d:=wJ) rfl rfl (nxt (bG (m:=.fz) (cE (m:=.fz) rfl a) rfl) (nxr (fP (m:=.fz) E (bA (iX rfl rfl)))))
def aV0{w:Str}{d:D}(h:bR M (.inr w)=some d){m:Md}:op2 ixK (.ok m (.dct M)) (.ok m' (.str w))=okf d:=bJ (by
 show(bR M (.inr w)).map _=_;rw[h];rfl)
def aV1{w:Str}{d:D}(h:bR M (.inr w)=some d){m:Md}:op2 (inK true) (.ok m (.str w)) (.ok m' (.dct M))=okf (.bl false):=bJ (by
 show some (Md.fz,D.bl (if true=true then !(bR M (.inr w)).isSome else _))=_;rw[h];rfl)
def xB(k:Nat){w:Str}{d:D}(h:bR M (.inr w)=some d):(Wk (k+2)).Φ "columns_of" [.tup [.str "table",.str w],.dct M]=okf d:=
 ent (d:=wK) rfl rfl (nxr (fP (m:=.fz) (cE (m:=.fz) rfl (by decide)) (bA (ec2 rfl rfl (dI (ent (d:=aEL) rfl rfl (nxt (bG (m:=.fz) (aV1 h) rfl) (bA (aV0 h)))))))))
def xC:List (Str×Str):=[("pick","columns_of_pick"),("keep","columns_of_keep"),("call","columns_of_call"),("join","columns_of_join"),("pour","columns_of_pour"),("total","columns_of_total"),("leave","columns_of_leave")]
def dfs:List Str:=["columns_of_pick","columns_of_keep","columns_of_call","columns_of_join","columns_of_pour","columns_of_total","columns_of_leave"]
theorem aF7{W:WD}{M:D}:∀(U ys:List D),U.length=ys.length->(∀(i:Nat) (h:i<U.length) (h':i<ys.length),W.Φ "columns_of" [U[i],M]=okf ys[i])->eC (aO (.nm 1)) (λY=>evF W [] Y) (λY=>evE W (.call "columns_of" 2 [v1,v0]) Y) [sf M,none] U=some ys|[],[],_,_=>rfl|[],_::_,h,_|_::_,[],h,_=>by simp at h|x::U,y::ys,h,q=>by have d:=aF7 (W:=W) (M:=M) U ys (by simpa using h) λi l f=>q (i+1) (by simpa using l) (by simpa using f);have k:aO (.nm 1) x [sf M,none]=some [sf M,sf x]:=rfl;have a:W.Φ "columns_of" [x,M]=okf y:=q 0 (by simp) (by simp);have e:evE W (.call "columns_of" 2 [v1,v0]) [sf M,sf x]=okf y:=ec2 rfl rfl (dI a);rw[eC,k];dsimp only;rw[aC4];dsimp only;rw[e,d];rfl
def aF8(k:Nat){A M r:D}{w f:Str}{U ys:List D}(l:op2 ixD (okf A) (okf (.int 0))=okf (.str w))(o:(w==Str.ofString "table")=false)(hf:xC.lookup w=some f)(a:dfs.contains f=true)(hx:(Wk k).Φ "askings_within" [A]=okf (.tup U))(F:U.length=ys.length)(hs:U.length<sizeLine)(E:∀(i:Nat) (h:i<U.length) (h':i<ys.length),(Wk k).Φ "columns_of" [U[i],M]=okf ys[i])(B:(Wk k).Φ f [A,.lst ys]=okf r):(Wk (k+1)).Φ "columns_of" [A,M]=okf r:=by(have J:aV 1 ((Wk k).Φ "askings_within") (.ok [(.fz,A)])=okf (.tup U):=eZ hx;have cr:aV 2 ((Wk k).Φ f) (.ok [(.fz,A),(.fz,.lst ys)])=okf r:=dI B;have cl:=aF7 (W:=Wk k) (M:=M) U ys F E;refine ent (d:=wK) rfl rfl ?_;generalize Wk k=W at *;have G:bO (okf (.lst U)) [sf A,sf M,none,none] [1] 1 (aO (.nm 1)) (λY=>evF W [] Y) (λY=>evE W (.call "columns_of" 2 [v1,v0]) Y)=.ok .fr (.lst ys):=by(show(if U.length<sizeLine then(match eC (aO (.nm 1)) (λY=>evF W [] Y) (λY=>evE W (.call "columns_of" 2 [v1,v0]) Y) [sf M,none] U with|some ys=>Res.ok .fr (.lst ys)|none=>.stuck)else .stuck)=_);rw[al hs,cl]);(refine nxt (bG (m:=.fz) (cE (m:=.fz) l o) rfl) (nxt (ρ':=[sf A,sf M,sf (.lst ys),none]) ?_ (nxt (dB (Eq.trans (congrArg (kA xC) l) (show(match xC.lookup w with|some f=>Res.ok .fz (.fn f)|none=>.stuck)=_ by rw[hf]))) (bA ?_))));{rw[qZ,eY];show dX _ 2 (aI (bO (iN (aI (aV 1 (W.Φ "askings_within") (.ok [(.fz,A)])))) _ [1] 1 (aO (.nm 1)) (λY=>evF W [] Y) (λY=>evE W (.call "columns_of" 2 [v1,v0]) Y)))=_;rw[J];exact congrArg (λr=>dX _ 2 (aI r)) G};show(if dfs.contains f=true then aV 2 (W.Φ f) (.ok [(.fz,A),(.fz,.lst ys)])else .stuck)=_;rw[al a,cr]
abbrev Ky:=N×N
abbrev Tr:=Ky×Int
def kyN(k:Ky):N:=.t [k.1,k.2]
end K45
variable{J A:List K45.Tr}
namespace K45
open D3
def tmN(t:Tr):N:=.t [t.1.1,t.1.2,.i t.2]
def kl(a b:Ky):Bool:=ltN (kyN a) (kyN b)
def xD{a b:Ky}(h:kyN a=kyN b):a=b:=by unfold kyN at h;simp only[N.t.injEq,a0A,and_true]at h;exact aZD h.1 h.2
def xE{a b:Tr}(h:tmN a=tmN b):a=b:=by unfold tmN at h;simp only[N.t.injEq,a0A,and_true,N.i.injEq]at h;exact aZD (aZD h.1 h.2.1) h.2.2
def xF(a:Ky):kl a a=false:=kG _
def aV2{a b:Ky}(f:kl a b=false)(d:kl b a=false):a=b:=xD (qJ _ _ f d)
def rS{a b:Tr}(h:a.1≠b.1):ltN (tmN a) (tmN b)=kl a.1 b.1:=by unfold kl kyN tmN;simp only[ltN,bF];by_cases E:a.1.1=b.1.1;{rw[al E,al E];by_cases d:a.1.2=b.1.2;{exact absurd (aZD E d) h};rw[aK d,aK d]};rw[aK E,aK E]
def bD(p:List Tr)(k:Ky):Int:=match p with|[]=>0|t::r=>(if t.1=k then t.2 else 0)+bD r k
def Has(p:List Tr)(k:Ky):Prop:=∃t∈p,t.1=k
theorem mR:∀(p:List Tr) (t:Tr) (k:Ky),bD (p++[t]) k=bD p k+if t.1=k then t.2 else 0|[],t,k=>by simp[bD]|a::p,t,k=>by show(if a.1=k then a.2 else 0)+bD (p++[t]) k=(if a.1=k then a.2 else 0)+bD p k+_;rw[mR p t k,Int.add_assoc]
theorem aV3{p q:List Tr}(h:p.Perm q)(k:Ky):bD p k=bD q k:=by induction h with|nil=>rfl|cons x _ f=>show _+bD _ k=_+bD _ k;rw[f]|swap x y l=>show _+(_+bD l k)=_+(_+bD l k);lia|trans _ _ d a=>rw[d,a]
def aF9{p q:List Tr}(h:p.Perm q)(k:Ky):Has p k↔Has q k:=#[λ⟨t,m,e⟩=>#[t,h.mem_iff.mp m,e],λ⟨t,m,e⟩=>#[t,h.mem_iff.mpr m,e]]
theorem jQ:∀{p:List Tr}{k:Ky},¬ Has p k->bD p k=0|[],k,_=>rfl|t::p,k,h=>by have d:¬ t.1=k:=λe=>h #[t,mcs,e];have a:¬ Has p k:=λ⟨u,m,e⟩=>h #[u,mcm m,e];show(if t.1=k then t.2 else 0)+bD p k=0;rw[aK d,jQ a];rfl
def oI{p:List Tr}{t:Tr}{k:Ky}:Has (p++[t]) k↔Has p k\/t.1=k:=by constructor;{rintro⟨u,m,e⟩;rcases aXW.mp m with m|m;{exact .inl #[u,m,e]};cases a07.mp m;exact .inr e};rintro(⟨u,m,e⟩|e);{exact#[u,aXX _ m,e]};exact#[t,aYG _ (a07.mpr rfl),e]
def gH(p L:List Tr):Prop:=∀k n,(k,n)∈L↔Has p k/\n=bD p k
def dD(J:List Tr)(t:Tr):List Tr:=if(J.any λa=>decide (a.1=t.1))=true then J.map (λa=>if a.1=t.1 then(a.1,a.2+t.2)else a)else J++[t]
def mS{k:Ky}:(J.any λa=>decide (a.1=k))=true↔Has J k:=by rw[List.any_eq_true];constructor;{rintro⟨a,m,e⟩;exact#[a,m,a0M e]};rintro⟨a,m,e⟩;exact#[a,m,aZ8 e]
def xG{p L:List Tr}(h:gH p L)(k:Ky):Has L k↔Has p k:=by constructor;{rintro⟨⟨K,n⟩,m,rfl⟩;exact((h K n).mp m).1};intro q;exact#[(k,bD p k),(h k _).mpr #[q,rfl],rfl]
def aGA(J:List Tr)(t:Tr):(dD J t).map (·.1)=if(J.any λa=>decide (a.1=t.1))=true then J.map (·.1)else J.map (·.1)++[t.1]:=by unfold dD;split;{rw[a2D];refine a26 λa _=>?_;show(if a.1=t.1 then(a.1,a.2+t.2)else a).1=a.1;split <;> rfl};rw[a1R];rfl
theorem aV4{p:List Tr}(t:Tr)(h:gH p J)(nd:(J.map (·.1)).Nodup):gH (p++[t]) (dD J t)/\((dD J t).map (·.1)).Nodup:=by
 refine#[λk n=>?_,?_]
 . unfold dD;by_cases q:(J.any λa=>decide (a.1=t.1))=true
   . rw[al q];have hp:Has p t.1:=(xG h _).mp (mS.mp q);rw[oI,mR];constructor
     . intro m;obtain⟨⟨K,N⟩,m',e⟩:=a2O.mp m;have d:=(h K N).mp m';dsimp only at e;split at e;{rename_i E;cases e;rw[al E.symm];exact#[.inl d.1,by rw[d.2]]};rename_i E;cases e;rw[aK (λz=>E z.symm)];exact#[.inl d.1,by rw[d.2];lia]
     . rintro⟨m,rfl⟩;have hk:Has p k:=by
         rcases m with m|m
         . exact m
         . rw[<- m];exact hp
       have m':=(h k _).mpr #[hk,rfl];refine a2O.mpr #[(k,bD p k),m',?_];dsimp only;by_cases E:k=t.1
       . rw[al E,al E.symm]
       . rw[aK E,aK (λz=>E z.symm),a29]
   . rw[aK q];have hp:¬ Has p t.1:=λz=>q (mS.mpr ((xG h _).mpr z));rw[oI,mR,aXW,a07,h k n];by_cases E:t.1=k;{subst E;rw[al rfl,jQ hp,a3A];constructor;{rintro(z|z);{exact absurd z.1 hp};exact#[.inr rfl,by rw[<- z]]};rintro⟨_,rfl⟩;exact .inr rfl};rw[aK E,a29];constructor;{rintro(z|z);{exact#[.inl z.1,z.2]};exact absurd (by rw[<- z]) E};rintro⟨z|z,e⟩;{exact .inl #[z,e]};exact absurd z E
 . rw[aGA];split;{exact nd};rename_i q;refine a2S.mpr #[nd,a10 _ _,λa ha b f e=>?_];cases a07.mp f;exists u,mu,rfl,a2O.mp ha;exact q (mS.mpr #[u,mu,e])
theorem aGB:∀(r p J:List Tr),gH p J->(J.map (·.1)).Nodup->gH (p++r) (r.foldl dD J)/\((r.foldl dD J).map (·.1)).Nodup|[],p,J,h,nd=>by rw[aYR];exact#[h,nd]|t::r,p,J,h,nd=>by exists a,n1,aV4 t h nd;have:=aGB r (p++[t]) _ a n1;rw[a1S]at this;exact this
def bK(ts:List Tr):List Tr:=ts.foldl dD []
def aGC:gH [] []:=λk n=>Iff.intro (λh=>by cases h) (λh=>by obtain⟨⟨t,m,_⟩,_⟩:=h;cases m)
def kR(ts:List Tr):gH ts (bK ts)/\((bK ts).map (·.1)).Nodup:=by have:=aGB ts [] [] aGC a1T;rw[a0J]at this;exact this
def dE(a:List Tr)(t:Tr):List Tr:=match a with|[]=>[t]|l::r=>if l.1=t.1 then(t.1,l.2+t.2)::r else t::l::r
def rT(r:List Tr):Prop:=r.Pairwise λa b=>kl b.1 a.1=true
def aV5{p f:List Tr}(t:Tr)(h:gH p f)(d:rT f)(le:∀x∈p,ltN (tmN t) (tmN x)=false):gH (p++[t]) (dE f t)/\rT (dE f t):=by
 cases f with
 |nil=>have hp:∀k,¬ Has p k:=λk z=>nomatch (h k _).mpr #[z,rfl];refine#[λk n=>?_,a10 _ _];rw[oI,mR,jQ (hp k),a3A];show(k,n)∈[t]↔_;rw[a07];constructor;{intro e;rw[<- e];exact#[.inr rfl,by rw[al rfl]]};rintro⟨z|z,e⟩;{exact absurd z (hp k)};rw[al z]at e;rw[e,<- z]
 |cons l r =>
  have o:(l.1,l.2)∈l::r:=mcs;have o:=(h l.1 l.2).mp o;have dl:=(a11.mp d).1;have N:∀n,(l.1,n)∉r:=λn m=>by have:=dl _ m;rw[xF]at this;cases this
  unfold dE;dsimp only;by_cases e:l.1=t.1
  . rw[al e];refine#[λk n=>?_,a11.mpr #[λa ha=>by rw[<- e];exact dl a ha,(a11.mp d).2]];rw[oI,mR,aXV];by_cases E:t.1=k;{subst E;rw[al rfl];constructor;{rintro(z|z);{rw[Prod.mk.injEq]at z;exact#[.inr rfl,by rw[z.2,o.2,e]]};exact absurd z (by rw[<- e];exact N n)};rintro⟨_,z⟩;left;rw[z,o.2,e]};rw[aK E,a29];constructor;{rintro(z|z);{exact absurd (Prod.mk.injEq .. ▸ z).1.symm E};have:=(h k n).mp (mcm z);exact#[.inl this.1,this.2]};rintro⟨z|z,B⟩;{have:=(h k n).mpr #[z,B];rcases aXV.mp this with m|m;{exact absurd (by rw[<- m]at e;exact e.symm) E};exact .inr m};exact absurd z E
  . rw[aK e];exists x,F,ex,o.1;have D:kl t.1 l.1=false:=by
      have:=le x F;rw[rS (by rw[ex];exact λz=>e z.symm),ex]at this
      exact this
    have K:kl l.1 t.1=true:=by cases q:kl l.1 t.1 with|true=>rfl|false=>exact absurd (aV2 q D) e
    have hp:¬ Has p t.1:=λz=>by have:=(h t.1 _).mpr #[z,rfl];rcases aXV.mp this with m|m;{exact e (by rw[<- m])};have:=dl _ m;rw[D]at this;cases this
    refine#[λk n=>?_,a11.mpr #[λa ha=>?_,d]]
    . rw[oI,mR,aXV,h k n];by_cases E:t.1=k;{subst E;rw[al rfl,jQ hp,a3A];constructor;{rintro(z|z);{exact#[.inr rfl,by rw[<- z]]};exact absurd z.1 hp};rintro⟨_,rfl⟩;exact .inl rfl};rw[aK E,a29];constructor;{rintro(z|z);{exact absurd (by rw[<- z]) E};exact#[.inl z.1,z.2]};rintro⟨z|z,B⟩;{exact .inr #[z,B]};exact absurd z E
    . rcases aXV.mp ha with rfl|ha;{exact K};exact uL _ _ _ (dl a ha) K
theorem aGD:∀(r p a:List Tr),gH p a->rT a->gP ((p++r).map tmN)->gH (p++r) (r.foldl dE a)/\rT (r.foldl dE a)|[],p,a,h,d,_=>by rw[aYR];exact#[h,d]|t::r,p,a,h,d,so=>by(have le:∀x∈p,ltN (tmN t) (tmN x)=false:=λx hx=>by rw[a1R]at so;exact(List.pairwise_append.mp so).2.2 _ (a3B hx) _ (a3B mcs));exists f,D,aV5 t h d le;have:=aGD r (p++[t]) _ f D (by rw[a1S];exact so);rw[a1S]at this;exact this
theorem aGE:∀{a b:List Tr},a.map tmN=b.map tmN->a=b|[],[],_=>rfl|[],_::_,h|_::_,[],h=>by cases h|x::a,y::b,h=>by rw[aZZ,aZZ,a0A]at h;rw[xE h.1,aGE h.2]
def both{ts S:List Tr}(hs:S.map tmN=dH (ts.map tmN)):(S.foldl dE []).reverse.map tmN=dH ((bK ts).map tmN):=by
 have f:S.Perm ts:=by(have h0:(S.map tmN).Perm (ts.map tmN):=by rw[hs];exact jD _);(exists o,q1,r,uV h0;have:S=o:=by exact aGE r);rw[this];exact q1
 exists l,D,aGD S [] [] aGC .nil (by rw[a0J,hs];exact lZ _)
 rw[a0J]at l;exists E,n2,kR ts;have d:(S.foldl dE []).Nodup:=D.imp λ{a b} h e=>by subst e;rw[xF]at h;cases h
 have N:(bK ts).Nodup:=by have:=a1M.mp n2;exact this.imp λ{a b} h e=>h (by rw[e])
 have B:(S.foldl dE []).Perm (bK ts):=(a3C d N).mpr λ⟨k,n⟩=>by rw[l k n,E k n,aF9 f k,aV3 f k]
 refine uO ?_ (((List.reverse_perm _).trans B).map tmN);unfold gP;rw[a1M,List.pairwise_reverse];refine D.imp λ{a b} h=>?_;have ne:a.1≠b.1:=λe=>by rw[e,xF]at h;cases h
 rw[rS ne];exact nS h
theorem aGF:∀{ks:List N},(∀k∈ks,aT (nD k)=some k.py)->cA (nDL ks)=some (N.pyL ks)|[],_=>by simp[nDL,cA,N.pyL]|k::ks,h=>by simp only[nDL,cA,N.pyL];rw[h k mcs,aGF λx hx=>h x (mcm hx)]
def rV(k:N):aT (nD k)=some k.py:=by induction k using N.ind with|hi n|hs x=>simp[nD,aT,N.py]|ht U a=>simp only[nD,aT,N.py];rw[aGF a];rfl
theorem eqF_N{x y:N}{m:Md}(hx:x.dp<=50)(a:y.dp<=50):eqF neg m (nD x) m' (nD y)=some (.fz,.bl (if neg then !decide (x=y)else decide (x=y))):=by unfold eqF;rw[rV,rV];dsimp only;rw[al (by unfold eR;rw[aZL,a0L,a0L,N.py_depth,N.py_depth];lia),N.py_eqv]
def aGG{x y:N}{m:Md}(hx:x.dp<=50)(a:y.dp<=50):op2 (a9 .Eq) (.ok m (nD x)) (.ok m' (nD y))=okf (.bl (decide (x=y))):=bJ (by
 show orO (eqF false) _ m (nD x) m' (nD y)=_;unfold orO;rw[eqF_N hx a];rfl)
def aV6(h:(N.t ks).dp<=8):cD (nD (.t ks))=some (.t ks):=by(rw[nD];show(match cS (nDL ks)with|some ks=>if(N.t ks).dp<=8 then some (N.t ks)else none|none=>none)=_);rw[mP];dsimp only;rw[al h]
def aV7(h:∀k∈ks,eF k=true)(h0:ks≠[]):txD (nDL ks)=none:=by cases ks with|nil=>exact absurd rfl h0|cons k ks=>have:=h k mcs;unfold eF at this;split at this;{simp only[nDL,nD];rfl};cases this
def aV8(ks:List N):(dH ks).length=ks.length:=(jD ks).length_eq
def aGH{m:Md}{d:D}(hd:seqD d=some (nDL ks))(h:∀k∈ks,eF k=true)(ok:okS ks=true):fY [(m,d)]=some (.fr,.lst (nDL (dH ks))):=by(show(match seqD d with|some ds=>_|none=>none)=_);rw[hd];dsimp only;by_cases h0:ks=[];{subst h0;rfl};rw[aV7 h h0,mP];dsimp only;rw[al ok]
def isF(f:N):Prop:=∃U:List Str,f=.t (U.map .s)/\U.length<1000
theorem aGI:∀{U ys:List N},(∀x∈U,∀y∈ys,okN x y=true)->cJ U ys=true|[],_,_|_::_,[],_=>by simp[cJ]|x::U,y::ys,h=>by rw[cJ];split;{exact aGI λa ha b d=>h a (mcm ha) b (mcm d)};exact h x mcs y mcs
def ok_F{f g:N}(hf:isF f)(l:isF g):okN f g=true:=by exists U,rfl,_,hf;exists ys,rfl,_,l;rw[okN];refine aGI λx hx y d=>?_;exists a,_,rfl,a2O.mp hx;exists b,_,rfl,a2O.mp d;rw[okN]
def ok_T{s t:Tr}(d:okN s.1.1 t.1.1=true)(a:okN s.1.2 t.1.2=true):okN (tmN s) (tmN t)=true:=by unfold tmN;simp only[okN,cJ];split;{split;{split <;> rfl};exact a};exact d
theorem aGJ:∀{U:List N}{n:Nat},(∀x∈U,x.dp<=n)->N.dpL U<=n|[],n,_=>by simp[N.dpL]|x::U,n,h=>by rw[N.dpL];have:=h x mcs;have:=aGJ λy a=>h y (mcm a);lia
theorem dp_F{f:N}(h:isF f):f.dp<=1:=by(exists U,rfl,_,h;rw[N.dp];have:N.dpL (U.map N.s)<=0:=aGJ λx hx=>by exists a,_,rfl,a2O.mp hx;rw[N.dp];exact aYC 0);lia
def aV9{t:Tr}(h:isF t.1.1):eF (tmN t)=true:=by exists U,e,_,h;unfold tmN;rw[e];rfl
def oJ(t:Tr):nD (tmN t)=.tup [nD t.1.1,nD t.1.2,.int t.2]:=by simp[tmN,nD,nDL]
def K_eq(k:Ky):nD (kyN k)=.tup [nD k.1,nD k.2]:=by simp[kyN,nD,nDL]
abbrev tD(t:Tr):D:=nD (tmN t)
def kT(ts:List Tr):nDL (ts.map tmN)=ts.map tD:=by rw[fH,a2D];rfl
theorem aWA(r:List D)(d:D):atI (r++[d]) (-1)=some d:=by unfold atI ixN;rw[aK (by decide),al (by simp;lia)];(simp;have:(-1+((r.length:Int)+1)).toNat=r.length:=by lia);rw[this];simp
theorem aWB(r:List D)(d:D):ixN (r++[d]).length (-1)=some r.length:=by unfold ixN;rw[aK (by decide),al (by simp;lia)];simp;lia
def aWC(r:List D)(d e:D):(r++[d]).set r.length e=r++[e]:=by simp
def isK(k:Ky):Prop:=isF k.1/\k.2=.t []
theorem kU{k:Ky}(h:isK k):k.1.dp<=1/\k.2.dp<=1/\(kyN k).dp<=8/\∀n,(tmN (k,n)).dp<=8:=by(have d:=dp_F h.1;have a:k.2.dp<=1:=by rw[h.2];simp[N.dp,N.dpL]);refine#[d,a,?_,λn=>?_];{simp only[kyN,N.dp,N.dpL];lia};simp only[tmN,N.dp,N.dpL];lia
def ok_K{s t:Tr}(d:isK s.1)(a:isK t.1):okN (tmN s) (tmN t)=true:=ok_T (ok_F d.1 a.1) (by rw[d.2,a.2];simp[okN,cJ])
def aGK{ts:List Tr}(h:∀t∈ts,isK t.1)(l:ts.length<64):okS (ts.map tmN)=true/\∀k∈ts.map tmN,eF k=true:=by(have d:∀k∈ts.map tmN,eF k=true:=λk hk=>by exists t,a,rfl,a2O.mp hk;exact aV9 (h t a).1);refine#[?_,d];unfold okS;simp only[aZL,a0N,a0L,a2C];refine#[#[#[λk hk=>?_,.inr d],λx hx y f=>?_],by rw[aY4];exact aXM l uK];{exists t,a,rfl,a2O.mp hk;exact aXS ((kU (h t a)).2.2.2 t.2) (by decide)};exists s,hs,rfl,a2O.mp hx;exists t,a,rfl,a2O.mp f;exact ok_K (h s hs) (h t a)
def lst0:j4 (.ok [])=.ok .fr (.lst []):=rfl
def kW(t:Tr):tD t=.tup [nD t.1.1,nD t.1.2,.int t.2]:=oJ t
def body0{W:WD}{A x2 x3 x4:Option (Bool×D)}{t:Tr}:evB W gC [A,some (true,.lst []),sf (nD t.1.1),sf (nD t.1.2),sf (.int t.2)]=.nx [A,some (true,.lst [tD t]),sf (nD t.1.1),sf (nD t.1.2),sf (.int t.2)]:=by(have l0:gM [(.bo,.lst [])]=some (.fz,.int 0):=rfl;have a:eU [A,some (true,.lst []),sf (nD t.1.1),sf (nD t.1.2),sf (.int t.2)] 1 (okf (.tup [nD t.1.1,nD t.1.2,.int t.2]))=.nx [A,some (true,.lst [tD t]),sf (nD t.1.1),sf (nD t.1.2),sf (.int t.2)]:=by rw[tD,oJ];rfl);simp[gC,l0,iW,a]
theorem body1{W:WD}{A:Option (Bool×D)}{l t:Tr}{r:List D}(o:isK l.1)(ht:isK t.1)(G:r.length+1<sizeLine):evB W gC [A,some (true,.lst (r++[tD l])),sf (nD t.1.1),sf (nD t.1.2),sf (.int t.2)]=.nx [A,some (true,.lst (if l.1=t.1 then r++[tD (t.1,l.2+t.2)]else r++[tD l]++[tD t])),sf (nD t.1.1),sf (nD t.1.2),sf (.int t.2)]:=by(have l0:gM [(.bo,.lst (r++[tD l]))]=some (.fz,.int (r.length+1:Nat)):=by show some (Md.fz,D.int ((r++[tD l]).length:Nat))=_;rw[aY3];rfl);(have i0:op2 ixD (.ok .bo (.lst (r++[tD l]))) (okf (.int (-1)))=okf (.tup [nD l.1.1,nD l.1.2,.int l.2]):=by rw[<- oJ];exact fO (aWA r _));have E:=aGG (m:=.fz) (m':=.fz) (x:=l.1.1) (y:=t.1.1) (by have:=(kU o).1;lia) (by have:=(kU ht).1;lia);have a:=aGG (m:=.fz) (m':=.fz) (x:=l.1.2) (y:=t.1.2) (by have:=(kU o).2.1;lia) (by have:=(kU ht).2.1;lia);(have f:(0:Int)<((r.length+1:Nat):Int):=by lia);(have B:eU [A,some (true,.lst (r++[tD l])),sf (nD t.1.1),sf (nD t.1.2),sf (.int t.2)] 1 (okf (.tup [nD t.1.1,nD t.1.2,.int t.2]))=.nx [A,some (true,.lst (r++[tD l]++[tD t])),sf (nD t.1.1),sf (nD t.1.2),sf (.int t.2)]:=by rw[tD,tD,oJ t];show(if(r++[nD (tmN l)]).length<sizeLine then _ else _)=_;rw[al (by rw[aY3];exact G)];rfl);(have F:iQ [A,some (true,.lst (r++[tD l])),sf (nD t.1.1),sf (nD t.1.2),sf (.int t.2)] 1 (okf (.int (-1))) (okf (.tup [nD t.1.1,nD t.1.2,.int (l.2+t.2)]))=.nx [A,some (true,.lst (r++[tD (t.1,l.2+t.2)])),sf (nD t.1.1),sf (nD t.1.2),sf (.int t.2)]:=by(show(match ixN (r++[tD l]).length (-1)with|some j=>aH.nx (List.set [A,some (true,D.lst (r++[tD l])),sf (nD t.1.1),sf (nD t.1.2),sf (D.int t.2)] 1 (some (true,D.lst ((r++[tD l]).set j _))))|none=>.stuck)=_);rw[aWB];dsimp only;rw[aWC];have:tD (t.1,l.2+t.2)=.tup [nD t.1.1,nD t.1.2,.int (l.2+t.2)]:=oJ _;rw[this];rfl);by_cases c1:l.1.1=t.1.1;{by_cases d:l.1.2=t.1.2;{have c:l.1=t.1:=aZD c1 d;rw[al c];rw[aZ8 c1]at E;rw[aZ8 d]at a;generalize D.lst (r++[tD l])=L at *;simp[gC,l0,i0,wR,wS,wT,E,a,f,iW,F]};have c:¬ l.1=t.1:=λe=>d (by rw[e]);rw[aK c];rw[aZ8 c1]at E;rw[aXH d]at a;generalize D.lst (r++[tD l])=L at *;simp[gC,l0,i0,wR,wS,wT,E,a,f,iW,B]};have c:¬ l.1=t.1:=λe=>c1 (by rw[e]);rw[aK c];rw[aXH c1]at E;generalize D.lst (r++[tD l])=L at *;simp[gC,l0,i0,wR,wS,wT,E,a,f,iW,B]
def aWD(r:List Tr)(t:Tr):(dE r t).length<=r.length+1:=by unfold dE;split;{simp};split <;> simp
def aWE{r:List Tr}{t:Tr}(h:∀x∈r,isK x.1)(ht:isK t.1):∀x∈dE r t,isK x.1:=by unfold dE;split;{intro x hx;cases a07.mp hx;exact ht};split;{intro x hx;rcases aXV.mp hx with rfl|hx;{exact ht};exact h x (mcm hx)};intro x hx;rcases aXV.mp hx with rfl|hx;{exact ht};exact h x hx
theorem aGL{W:WD}{A:Option (Bool×D)}:∀(S a:List Tr) (x2 x3 x4:Option (Bool×D)),(∀t∈S,isK t.1)->(∀t∈a,isK t.1)->a.length+S.length<1000->∃o f d,bV (aO (.tp [.nm 2,.nm 3,.nm 4])) (evB W gC) (S.map tD) [A,some (true,.lst (a.reverse.map tD)),x2,x3,x4]=.nx [A,some (true,.lst ((S.foldl dE a).reverse.map tD)),o,f,d]|[],a,x2,x3,x4,_,_,_=>#[x2,x3,x4,rfl]|t::S,a,x2,x3,x4,G,E,F=>by have B:=G t mcs;rw[aZX]at F;obtain⟨o,f,d,e⟩   := aGL (W:=W) (A:=A) S (dE a t) (sf (nD t.1.1)) (sf (nD t.1.2)) (sf (.int t.2)) (λx hx=>G x (mcm hx)) (aWE E B) (by have:=aWD a t;lia);(refine#[o,f,d,?_];have K:evB W gC [A,some (true,.lst (a.reverse.map tD)),sf (nD t.1.1),sf (nD t.1.2),sf (.int t.2)]=.nx [A,some (true,.lst ((dE a t).reverse.map tD)),sf (nD t.1.1),sf (nD t.1.2),sf (.int t.2)]:=by cases a with|nil=>exact body0 (x2:=x2) (x3:=x3) (x4:=x4)|cons l r=>rw[a3D,a1R];show evB W gC [A,some (true,.lst (r.reverse.map tD++[tD l])),_,_,_]=_;rw[body1 (E l mcs) B (by rw[aY4,List.length_reverse,aYH];rw[aZX]at F;lia)];unfold dE;dsimp only;split;{rw[a3D,a1R];rfl};rw[a3D,a3D,a1R,a1R];rfl);rw[aZZ,kW t];unfold bV;rw[show aO (.tp [.nm 2,.nm 3,.nm 4]) (.tup [nD t.1.1,nD t.1.2,.int t.2]) [A,some (true,.lst (a.reverse.map tD)),x2,x3,x4]=some [A,some (true,.lst (a.reverse.map tD)),sf (nD t.1.1),sf (nD t.1.2),sf (.int t.2)]from by simp];dsimp only;rw[K];exact e
theorem aWF{ts S:List Tr}(hs:S.map tmN=dH (ts.map tmN))(h:∀t∈ts,isK t.1)(G:ts.length<60){d:D}(hd:d=.tup (ts.map tD)\/d=.lst (ts.map tD)):(Wk (k+1)).Φ "reason_of" [d]=okf (.tup (nDL (dH ((bK ts).map tmN)))):=by exists ok,N,aGK h (aXM G (by decide));(have K:∀t∈S,isK t.1:=λt a=>by(have:tmN t∈dH (ts.map tmN):=by rw[<- hs];exact a3B a);exists u,F,e,a2O.mp ((jD _).mem_iff.mp this);rw[<- xE e];exact h u F);(have lS:S.length<60:=by have:=congrArg List.length hs;rw[aY4,aV8,aY4]at this;lia);(have Z:fY [(.fz,d)]=some (.fr,.lst (S.map tD)):=by rw[<- kT S,hs];exact aGH (by rw[kT];rcases hd with rfl|rfl <;> rfl) N ok);obtain⟨r,o,l,E⟩  :=aGL (W:=WT TT k) (A:=sf d) S [] none none none K (λt a=>nomatch a) (by simp;lia);(have V:j7 [(.fz,.lst ((S.foldl dE []).reverse.map tD))]=some (.fz,.tup (nDL (dH ((bK ts).map tmN)))):=by show some (Md.fz,D.tup ((S.foldl dE []).reverse.map tD))=_;rw[<- kT,both hs]);refine ent (d:=aER) rfl rfl ?_;show evB _ wC [sf d,none,none,none,none]=_;have E:bV (aO (.tp [.nm 2,.nm 3,.nm 4])) (evB (Wk k) gC) (S.map tD) [sf d,some (true,.lst []),none,none,none]=_:=E;have T:∀{L:D},lU [sf d,some (true,L),r,o,l] 1=.nx [sf d,sf L,r,o,l]:=rfl;unfold wC;generalize gC=B at *;generalize (S.foldl dE []).reverse.map tD=L at *;generalize nDL (dH ((bK ts).map tmN))=M at *;generalize S.map tD=L0 at *;clear hd;simp[lst0,Z,lK,E,T,Ty.f,V]
def F(ys:List Str):N:=.t (ys.map .s)
def rW(ys:List Str):nD (F ys)=.tup (ys.map .str):=by unfold F;rw[nD,fH,a2D];congr 1
abbrev Rw:=List Str×N×Int
def gQ(r:Rw):D:=.tup [.tup (r.1.map .str),nD r.2.1,.int r.2.2]
def tr(r:Rw):Tr:=((F (eX r.1),r.2.1),r.2.2)
def kv(a:Tr):N×D:=(kyN a.1,.int a.2)
theorem aGM:∀(U:List Str),txD (U.map .str)=some U|[]=>rfl|x::U=>by rw[aZZ];unfold txD;rw[aGM U];rfl
def aWG{U:List Str}{m:Md}{d:D}(hd:seqD d=some (U.map .str))(h:U.length<64):fY [(m,d)]=some (.fr,.lst ((eX U).map .str)):=by(show(match seqD d with|some ds=>_|none=>none)=_);rw[hd];dsimp only;rw[aGM];dsimp only;rw[al h]
theorem rX:∀(J:List Tr) (k:Ky),bE (J.map kv) (kyN k)=(J.find? λa=>decide (a.1=k)).map λa=>.int a.2|[],k=>rfl|a::J,k=>by rw[aZZ];by_cases e:a.1=k;{rw[qD (p:=kv a) (by show kyN a.1=_;rw[e]),List.find?_cons_of_pos (by simpa using e)];rfl};rw[qE (p:=kv a) (λz=>e (xD z)),rX J k,List.find?_cons_of_neg (by simpa using e)]
def xH{k:Ky}{n:Int}(nd:(J.map (·.1)).Nodup)(h:(k,n)∈J):J.find? (λa=>decide (a.1=k))=some (k,n):=by induction J with|nil=>cases h|cons a J d=>rw[aZZ,aYT]at nd;rcases aXV.mp h with e|h;{subst e;rw[List.find?_cons_of_pos (by simp)]};have:¬ a.1=k:=λe=>nd.1 (by rw[e];exact a2O.mpr #[_,h,rfl]);rw[List.find?_cons_of_neg (by simpa using this)];exact d nd.2 h
def aWH{t:Tr}(nd:(J.map (·.1)).Nodup):((dD J t).map (·.1)).Nodup:=by rw[aGA];split;{exact nd};rename_i q;refine a2S.mpr #[nd,a10 _ _,λa ha b d e=>?_];cases a07.mp d;exists u,mu,rfl,a2O.mp ha;exact q (mS.mpr #[u,mu,e])
theorem aGN(J:List Tr)(t:Tr):(dD J t).length<=J.length+1:=by unfold dD;split;{rw[aY4];lia};rw[aY3];exact aYC _
def iA(J:List Tr)(k:Ky):Int:=((J.find? λa=>decide (a.1=k)).map (·.2)).getD 0
def aWI(J:List Tr)(k:Ky):(bE (J.map kv) (kyN k)).getD (.int 0)=.int (iA J k):=by rw[rX];unfold iA;cases J.find? λa=>decide (a.1=k) <;> rfl
def aWJ{t:Tr}(nd:(J.map (·.1)).Nodup):d5 (J.map kv) (kyN t.1) (.int (iA J t.1+t.2))=(dD J t).map kv:=by unfold d5 dD;rw[rX];by_cases q:(J.any λa=>decide (a.1=t.1))=true;{rw[al q];obtain⟨⟨k,n⟩,m,e⟩:=mS.mp q;dsimp only at e;subst e;have hf:=xH nd m;(have d:iA J t.1=n:=by unfold iA;rw[hf];rfl);rw[al (by rw[hf];rfl),d,a2D,a2D];refine a26 λa ha=>?_;show(if kyN a.1=kyN t.1 then(kyN a.1,D.int (n+t.2))else kv a)=kv (if a.1=t.1 then(a.1,a.2+t.2)else a);by_cases e:a.1=t.1;{rw[al e,al (by rw[e])];(have:a=(t.1,n):=by have:=xH nd (k:=t.1) (n:=a.2) (by rw[<- e];exact ha);rw[hf]at this;injection this with this;rw[this,<- e]);rw[this];rfl};rw[aK e,aK (λz=>e (xD z))]};rw[aK q];(have:(J.find? λa=>decide (a.1=t.1))=none:=by rw[List.find?_eq_none];intro a ha z;exact q (mS.mpr #[a,ha,a0M z]));(have d:iA J t.1=0:=by unfold iA;rw[this];rfl);rw[aK (by rw[this];decide),d,a3A,a1R];rfl
def xI{k:Ky}(h:(kyN k).dp<=8):cD (.tup [nD k.1,nD k.2])=some (kyN k):=by rw[<- K_eq];exact aV6 h
def aGO{W:WD}{a:E}{m:Md}{d d':D}(h:evE W a Y=.ok m d)(hs:fY [(m,d)]=some (m',d')):evE W (.srtw a) Y=.ok m' d':=by show eQ fY (aQ (evE W a Y) (.ok []))=_;rw[h];show Res.of (fY [(m,d)])=_;rw[hs];rfl
theorem nbody{W:WD}{A d:Option (Bool×D)}{r:Rw}(nd:(J.map (·.1)).Nodup)(hx:r.1.length<64)(a:(kyN (tr r).1).dp<=8)(G:J.length<1000):evB W rG [A,some (true,.dtn (J.map kv)),sf (.tup (r.1.map .str)),sf (nD r.2.1),sf (.int r.2.2),d]=.nx [A,some (true,.dtn ((dD J (tr r)).map kv)),sf (.tup (r.1.map .str)),sf (nD r.2.1),sf (.int r.2.2),sf (.tup [nD (tr r).1.1,nD (tr r).1.2])]:=by
 have o:fY [(.fz,.tup (r.1.map .str))]=some (.fr,.lst ((eX r.1).map .str)):=aWG rfl hx;have B:nD r.2.1=nD (tr r).1.2:=rfl;have f:lX (.ok .bo (.dtn (J.map kv))) (okf (.tup [nD (tr r).1.1,nD (tr r).1.2])) (okf (.int 0))=okf (.int (iA J (tr r).1)):=by(show(match Md.fz,cD (.tup [nD (tr r).1.1,nD (tr r).1.2])with|.fz,some k=>Res.ok .fz ((bE (J.map kv) k).getD (.int 0))|_,_=>.stuck)=_);rw[xI a];dsimp only;rw[aWI]
 have E : eW [A, some (true, .dtn (J.map kv)), sf (.tup (r.1.map .str)), sf (nD (tr r).1.2), sf (.int r.2.2), sf (.tup [nD (tr r).1.1, nD (tr r).1.2])] 1 (okf (.tup [nD (tr r).1.1, nD (tr r).1.2])) (okf (.int (iA J (tr r).1 + r.2.2))) =
     .nx [A,some (true,.dtn ((dD J (tr r)).map kv)),sf (.tup (r.1.map .str)),sf (nD (tr r).1.2),sf (.int r.2.2),sf (.tup [nD (tr r).1.1,nD (tr r).1.2])]:=by
  show(match cD (.tup [nD (tr r).1.1,nD (tr r).1.2])with|some k=>if(J.map kv).length<sizeLine then aH.nx (List.set [A,some (true,D.dtn (J.map kv)),sf (D.tup (r.1.map .str)),sf (nD (tr r).1.2),sf (.int r.2.2),sf (.tup [nD (tr r).1.1,nD (tr r).1.2])] 1 (some (true,D.dtn (d5 (J.map kv) k (.int (iA J (tr r).1+r.2.2))))))else .stuck|none=>.stuck)=_
  rw[xI a];dsimp only;rw[al (by rw[aY4,aYH];lia)]
  have:=aWJ (t:=tr r) nd;rw[show(tr r).2=r.2.2 from rfl]at this
  rw[this];rfl
 have l:D.tup ((eX r.1).map D.str)=nD (tr r).1.1:=by rw[show(tr r).1.1=F (eX r.1)from rfl,rW]
 rw[B];refine nxt (dB (iX (bN (Eq.trans (gE (aGO rfl o)) (congrArg (Res.ok .fz) l))) rfl)) (nxt ?_ rfl);rw[aTX,e_bin,aTR];show eW _ 1 (okf (.tup [nD (tr r).1.1,nD (tr r).1.2])) (op2 (a8 .Add) (lX (.ok .bo (.dtn (J.map kv))) (okf (.tup [nD (tr r).1.1,nD (tr r).1.2])) (okf (.int 0))) (okf (.int r.2.2)))=_;rw[f];exact E
theorem aGP{W:WD}{A:Option (Bool×D)}:∀(rs:List Rw) (J:List Tr) (x2 x3 x4 a:Option (Bool×D)),(J.map (·.1)).Nodup->(∀r∈rs,r.1.length<64/\(kyN (tr r).1).dp<=8)->J.length+rs.length<1000->∃o l f d,bV (aO (.tp [.nm 2,.nm 3,.nm 4])) (evB W rG) (rs.map gQ) [A,some (true,.dtn (J.map kv)),x2,x3,x4,a]=.nx [A,some (true,.dtn (((rs.map tr).foldl dD J).map kv)),o,l,f,d]|[],J,x2,x3,x4,a,_,_,_=>#[x2,x3,x4,a,rfl]|r::rs,J,x2,x3,x4,a,nd,h,B=>by exists F,E,h r mcs;rw[aZX]at B;exists o,l,f,d,e,aGP (W:=W) (A:=A) rs (dD J (tr r)) (sf (.tup (r.1.map .str))) (sf (nD r.2.1)) (sf (.int r.2.2)) (sf (.tup [nD (tr r).1.1,nD (tr r).1.2])) (aWH nd) (λx hx=>h x (mcm hx)) (by have:=aGN J (tr r);lia);refine#[o,l,f,d,?_];rw[aZZ];unfold bV;rw[show aO (.tp [.nm 2,.nm 3,.nm 4]) (gQ r) [A,some (true,.dtn (J.map kv)),x2,x3,x4,a]=some [A,some (true,.dtn (J.map kv)),sf (.tup (r.1.map .str)),sf (nD r.2.1),sf (.int r.2.2),a]from by simp[gQ]];dsimp only;rw[nbody nd F E (by lia)];exact e
def aWK{ts:List Tr}(h:∀t∈ts,isK t.1):∀t∈bK ts,isK t.1:=λt d=>by exists u,a,e,(((kR ts).1 t.1 t.2).mp d).1;rw[<- e];exact h u a
theorem aGQ:∀(r J:List Tr),(r.foldl dD J).length<=J.length+r.length|[],J=>aYC _|t::r,J=>by have d:=aGQ r (dD J t);have a:=aGN J t;rw[List.foldl_cons,aZX];lia
def aGR(ts:List Tr):(bK ts).length<=ts.length:=by unfold bK;have:=aGQ ts [];simpa using this
def nf(ts:List Tr):D:=.tup (nDL (dH ((bK ts).map tmN)))
theorem aWL{rs:List Rw}(h:∀r∈rs,r.1.length<64/\isK (tr r).1)(hl:rs.length<64):(Wk (k+1)).Φ "_law_normal" [.lst (rs.map gQ)]=okf (nf (rs.map tr)):=by
 have N:∀t∈rs.map tr,isK t.1:=λt l=>by exists r,f,rfl,a2O.mp l;exact(h r f).2
 exists tl,nd,kR (rs.map tr);have K:=aWK N;have Z:(bK (rs.map tr)).length<64:=by have:=aGR (rs.map tr);rw[aY4]at this;lia
 exists G,F,B,o,E,aGP (W:=Wk k) (A:=sf (.lst (rs.map gQ))) rs [] none none none none a1T (λr f=>#[(h r f).1,(kU (h r f).2).2.2.1]) (by simp;lia)
 have E:bV (aO (.tp [.nm 2,.nm 3,.nm 4])) (evB (Wk k) rG) (rs.map gQ) [sf (.lst (rs.map gQ)),some (true,.dtn []),none,none,none,none]=.nx [sf (.lst (rs.map gQ)),some (true,.dtn ((bK (rs.map tr)).map kv)),G,F,B,o]:=E;have V:bO (okf (.lst ((bK (rs.map tr)).map λa=>nD (kyN a.1)))) [sf (.lst (rs.map gQ)),sf (.dtf ((bK (rs.map tr)).map kv)),G,F,B,o] [1] 1 (aO (.nm 1)) (λY=>evF (Wk k) [] Y) (λY=>evE (Wk k) (.tup [(.ix v1 (.int 0)),(.ix v1 (.int 1)),(.nix v0 v1)]) Y)=.ok .fr (.lst ((bK (rs.map tr)).map tD)):=by
  refine gD (enc:=λa:Tr=>nD (kyN a.1)) tD (by rw[aYH];lia) λa ha=>?_
  refine#[[sf (.dtf ((bK (rs.map tr)).map kv)),sf (nD (kyN a.1))],.fz,rfl,by simp,.fz,?_]
  have g:op2 eD (okf (.dtf ((bK (rs.map tr)).map kv))) (okf (.tup [nD a.1.1,nD a.1.2]))=okf (.int a.2):=bJ (by
   show(match some ((bK (rs.map tr)).map kv),cD (.tup [nD a.1.1,nD a.1.2])with|some kvs,some k=>(bE kvs k).map λd=>(Md.fz,d)|_,_=>none)=_
   rw[xI (kU (K a ha)).2.2.1];dsimp only;rw[rX,xH nd (k:=a.1) (n:=a.2) ha];rfl)
  rw[kW a,K_eq];generalize D.dtf ((bK (rs.map tr)).map kv)=L at *;simp[ix2_0,ix2_1,g,iW]
 have T:fY [(.fr,.lst ((bK (rs.map tr)).map tD))]=some (.fr,.lst (nDL (dH ((bK (rs.map tr)).map tmN)))):=by exists ok,S,aGK (λt l=>K t l) Z;exact aGH (by rw[kT];rfl) S ok
 refine ent (d:=aEU) rfl rfl (nxt rfl (nxt E (nxt rfl (bA (gE (m:=.fr) (aGO (Eq.trans (congrArg (λr=>bO r _ [1] 1 _ _ _) ?_) V) T))))));show Res.ok .fz (.lst (((bK (rs.map tr)).map kv).map λkv=>nD kv.1))=_;rw[a2D];rfl
def Sm(A B:List Tr):Prop:=∀k,(Has A k↔Has B k)/\bD A k=bD B k
def Sm.refl(A:List Tr):Sm A A:=λk=>#[Iff.rfl,rfl]
theorem Sm.symm{B:List Tr}(h:Sm A B):Sm B A:=λk=>#[(h k).1.symm,(h k).2.symm]
theorem Sm.trans{B C:List Tr}(h:Sm A B)(g:Sm B C):Sm A C:=λk=>#[(h k).1.trans (g k).1,(h k).2.trans (g k).2]
def nf_sm{ts us:List Tr}(p:Sm ts us):nf ts=nf us:=by exists l,n1,kR ts;exists f,n2,kR us;have o:(bK ts).Nodup:=(a1M.mp n1).imp λ{a b} h e=>h (by rw[e]);have D:(bK us).Nodup:=(a1M.mp n2).imp λ{a b} h e=>h (by rw[e]);(have d:(bK ts).Perm (bK us):=(a3C o D).mpr λ⟨k,n⟩=>by rw[l k n,f k n,(p k).1,(p k).2]);unfold nf;rw[uN (lZ _) (lZ _) (((jD _).trans (d.map tmN)).trans (jD _).symm)]
theorem rY:∀(A B:List Tr) (k:Ky),bD (A++B) k=bD A k+bD B k|[],B,k=>by simp[bD]|a::A,B,k=>by show _+bD (A++B) k=_+bD A k+_;rw[rY A B k,Int.add_assoc]
def aGS{B:List Tr}{k:Ky}:Has (A++B) k↔Has A k\/Has B k:=by constructor;{rintro⟨u,m,e⟩;exact(aXW.mp m).elim (λm=>.inl #[u,m,e]) (λm=>.inr #[u,m,e])};rintro(⟨u,m,e⟩|⟨u,m,e⟩);{exact#[u,aXX _ m,e]};exact#[u,aYG _ m,e]
def Sm.app{d B a:List Tr}(h:Sm A d)(g:Sm B a):Sm (A++B) (d++a):=λk=>by refine#[?_,?_];{rw[aGS,aGS,(h k).1,(g k).1]};rw[rY,rY,(h k).2,(g k).2]
def aGT{ts:List Tr}:∃S:List Tr,S.Perm ts/\S.map tmN=dH (ts.map tmN):=by exists S,p,e,uV (jD (ts.map tmN));exact#[S,p,e.symm]
def Nrm(A:List Tr):Prop:=(A.map (·.1)).Nodup/\gP (A.map tmN)
theorem kX:∀{A:List Tr}{k:Ky}{n:Int},(A.map (·.1)).Nodup->(k,n)∈A->bD A k=n|t::A,k,n,nd,h=>by rw[aZZ]at nd;exists n1,n2,a11.mp nd;show(if t.1=k then t.2 else 0)+bD A k=n;rcases aXV.mp h with rfl|h;{rw[al rfl,jQ λ⟨u,m,e⟩=>n1 u.1 (a3B m) e.symm];exact a29 _};rw[aK (λe=>n1 k (a2O.mpr #[_,h,rfl]) e),kX n2 h];exact a3A _
def aWM(nd:(A.map (·.1)).Nodup):gH A A:=λk n=>by constructor;{intro h;exact#[#[_,h,rfl],(kX nd h).symm]};rintro⟨⟨t,m,rfl⟩,e⟩;have:(t.1,t.2)∈A:=m;rw[e,kX nd this];exact m
def aGU(nd:(A.map (·.1)).Nodup):A.Nodup:=(a1M.mp nd).imp λ{a b} h e=>h (by rw[e])
def aWN(nd:(A.map (·.1)).Nodup):(bK A).Perm A:=by exists a,n1,kR A;exact(a3C (aGU n1) (aGU nd)).mpr λ⟨k,n⟩=>by rw[a k n,aWM nd k n]
def aWO(h:Nrm A):nf A=.tup (A.map tD):=by unfold nf;rw[<- uO h.2 ((aWN h.1).symm.map tmN),kT]
def rZ(X:List Tr):∃S:List Tr,nf X=.tup (S.map tD)/\Nrm S/\Sm S X/\S.length<=X.length:=by exists S,p,e,aGT (ts:=bK X);exists d,n1,kR X;have nd:(S.map (·.1)).Nodup:=((p.map (·.1)).nodup_iff).mpr n1;have hs:∀k,Has S k↔Has X k:=λk=>(aF9 p k).trans (xG d k);refine#[S,by unfold nf;rw[<- e,kT],#[nd,by rw[e];exact lZ _],λk=>#[hs k,?_],by rw[p.length_eq];exact aGR X];by_cases c:Has S k;{exists t,a,rfl,c;have:=((d t.1 t.2).mp (p.mem_iff.mp a)).2;rw[kX nd (n:=t.2) a,this]};rw[jQ c,jQ λz=>c ((hs k).mpr z)]
def scl(n:Int)(A:List Tr):List Tr:=A.map λt=>(t.1,n * t.2)
def aWP(n:Int)(h:Nrm A):Nrm (scl n A):=by refine#[by unfold scl;rw[a2D];exact h.1,?_];unfold scl;rw[a2D];have d:A.Pairwise λa b=>ltN (tmN b) (tmN a)=false:=a1M.mp h.2;have f:A.Pairwise λa b=>a.1≠b.1:=a1M.mp h.1;refine a1M.mpr ((d.and f).imp λ{a b} q=>?_);show ltN (tmN (b.1,n * b.2)) (tmN (a.1,n * a.2))=false;rw[rS (a:=(b.1,n * b.2)) (b:=(a.1,n * a.2)) (λe=>q.2 e.symm)];have q1:=q.1;rw[rS (λe=>q.2 e.symm)]at q1;exact q1
structure KM(Kd No:D)(way:Int)(Ok:D->Prop)(Bd:Int->D->Prop)(pl:D->D->D)(so:Int->D->D):Prop extends KO Kd No Ok pl where
 right:∀a,Ok a->pl a No=a
 eqn:∀a,Ok a->(eqB a No=true↔a=No)
 nz:∀a b,Ok a->Ok b->a≠No->pl a b≠No
 lplus:∀k a b,Ok a->Ok b->(Wk (k+3)).Φ "_law_plus" [.int way,a,b]=okf (pl a b)
 many:∀k n a,0<=n->n<=10 ^ 51->Ok a->Bd (10 ^ 45) a->fD TT.cl (Wk (k+3)).Φ "many" (okf Kd) (.ok [(.fz,.int n),(.fz,a)])=okf (so n a)
 lso:∀k n a,0<n->n<=10 ^ 51->Ok a->Bd (10 ^ 45) a->(Wk (k+1)).Φ "_law_so_often" [.int way,.int n,a]=okf (so n a)
 oks:∀n a,0<=n->Ok a->Ok (so n a)
 so0:∀a,so 0 a=No
 son:∀n a,0<n->Ok a->a≠No->so n a≠No
 bd0:Bd 0 No
 bdm:∀m m' a,m<=m'->Bd m a->Bd m' a
 bdp:∀m n a b,0<=m->0<=n->Ok a->Ok b->Bd m a->Bd n b->Bd (m+n) (pl a b)
theorem bt1{i:Int}(h0:0<=i)(h:i<=10 ^ 51):bits i=true:=aC9 (N:=10 ^ 61) (by lia)
def okC(d:D):Prop:=∃i:Int,0<=i/\d=.int i
def bdC(m:Int)(d:D):Prop:=∃i:Int,i<=m/\d=.int i
def plC:D->D->D|.int i,.int j=>.int (i+j)|d,_=>d
def soC(n:Int):D->D|.int i=>.int (n * i)|_=>.int 0
theorem aWQ:KM (.ins "Counts" []) (.int 0) 0 okC bdC plC soC where
 nought k:=by show aV 1 ((Wk (k+1)).Φ "Counts.nought") (.ok [(.fz,.ins "Counts" [])])=_;exact eZ (ent (d:=aE2) rfl rfl (bA rfl))
 plus k a b ha hb:=by exists i,f,rfl,ha;exists j,o,rfl,hb;show aV 3 ((Wk (k+3)).Φ "Counts.plus") (.ok [(.fz,.ins "Counts" []),(.fz,.int i),(.fz,.int j)])=_;exact e9 (ent (d:=aE3) rfl rfl (bA rfl))
 okn:=#[0,by decide,rfl]
 okp:=fun|_,_,⟨i,f,rfl⟩,⟨j,o,rfl⟩=>#[i+j,by lia,rfl]
 assoc:=fun|_,_,_,⟨i,f,rfl⟩,⟨j,o,rfl⟩,⟨l,r,rfl⟩=>congrArg D.int (Int.add_assoc i j l)
 left:=fun|_,⟨i,f,rfl⟩=>congrArg D.int (a3A i)
 plain:=fun|_,⟨i,f,rfl⟩=>.int i
 right:=fun|_,⟨i,f,rfl⟩=>congrArg D.int (a29 i)
 eqn a ha:=by exists i,f,rfl,ha;show PyData.eqv (.int i) (.int 0)=true↔_;rw[D.int.injEq];simp[PyData.eqv]
 nz a b ha hb h e:=by(exists i,f,rfl,ha;exists j,o,rfl,hb;have e:i+j=0:=by injection e);exact h (by rw[show i=0 by lia])
 lplus k a b ha hb:=by exists i,f,rfl,ha;exists j,o,rfl,hb;exact ent (d:=wM) rfl rfl (nxr (fP (m:=.fz) rfl (bA rfl)))
 many k n a h0 h1 ha hb:=by exists i,f,rfl,ha;exists j,o,e,hb;cases e;have mu:op2 (a8 .Mult) (okf (.int n)) (okf (.int i))=okf (.int (n * i)):=vK (bt1 h0 h1) (bt1 f (by lia));show aV 3 ((Wk (k+3)).Φ "Counts.many") (.ok [(.fz,.ins "Counts" []),(.fz,.int n),(.fz,.int i)])=_;exact ph3 (aUZ (k+2)) (by simp[wH,mu,soC])
 lso k n a h0 h1 ha hb:=by exists i,f,rfl,ha;exists j,o,e,hb;cases e;have mu:op2 (a8 .Mult) (okf (.int n)) (okf (.int i))=okf (.int (n * i)):=vK (bt1 (by lia) h1) (bt1 f (by lia));refine ent (d:=wN) rfl rfl ?_;show evB _ oD [sf (.int 0),sf (.int n),sf (.int i)]=_;simp[oD,mu,soC]
 oks n a h0 ha:=by exists i,f,rfl,ha;exact#[n * i,Int.mul_nonneg h0 f,rfl]
 so0 a:=by cases a with|int i=>show D.int (0 * i)=_;rw[Int.zero_mul]|_=>rfl
 son n a h0 ha h e:=by(exists i,f,rfl,ha;have e:n * i=0:=by injection e);rcases Int.mul_eq_zero.mp e with q|q;{lia};exact h (by rw[q])
 bd0:=#[0,by decide,rfl]
 bdm m m' a h:=λ⟨i,f,e⟩=>#[i,by lia,e]
 bdp m n a b _ _ _ _:=by rintro⟨i,f,rfl⟩ ⟨j,o,rfl⟩;exact#[i+j,by lia,rfl]
def aWR{a b:N}(h:nD a=nD b):a=b:=by have:=congrArg bX h;rw[wY,wY]at this;injection this
def aWS{a b:Tr}(h:tD a=tD b):a=b:=xE (aWR h)
theorem mU:∀{A B:List Tr},A.map tD=B.map tD->A=B|[],[],_=>rfl|[],_::_,h|_::_,[],h=>by cases h|a::A,b::B,h=>by rw[aZZ,aZZ,a0A]at h;rw[aWS h.1,mU h.2]
abbrev rD(A:List Tr):D:=.tup (A.map tD)
open Classical in
noncomputable def unT(d:D):List Tr:=if h:∃S:List Tr,d=rD S then h.choose else[]
def mV(S:List Tr):unT (rD S)=S:=by unfold unT;have h:∃a:List Tr,rD S=rD a:=#[S,rfl];rw[dif_pos h];have:=h.choose_spec;injection this with this;exact(mU this).symm
noncomputable def plR(a b:D):D:=nf (unT a++unT b)
noncomputable def soR(n:Int)(a:D):D:=if n=0 then .tup []else rD (scl n (unT a))
def gI(A B:List Tr):plR (rD A) (rD B)=nf (A++B):=by unfold plR;rw[mV,mV]
def kyS(z:Str):Ky:=(F [z],.t [])
def Fc(P:List Str)(t:Tr):Prop:=(∃z∈P,t.1=kyS z)/\0<t.2
def okR(P:List Str)(d:D):Prop:=∃S:List Tr,d=rD S/\Nrm S/\∀t∈S,Fc P t
def bdR(m:Int)(d:D):Prop:=∃S:List Tr,d=rD S/\∀t∈S,t.2<=m
def Fc.K{P:List Str}{t:Tr}(h:Fc P t):isK t.1:=by obtain⟨⟨z,_,e⟩,_⟩:=h;rw[e];exact#[#[[z],rfl,by simp],rfl]
theorem aGV{α:Type}[BEq α][LawfulBEq α]:∀{l l':List α},l.Nodup->(∀y∈l,y∈l')->l.length<=l'.length|[],_,_,_=>aYO _|a::l,l',f,r=>by(rw[aYT]at f;have ha:=r a mcs;have:=aGV (l':=l'.erase a) f.2 λy o=>by have d:y≠a:=λe=>f.1 (e ▸ o);exact(List.mem_erase_of_ne d).mpr (r y (mcm o)));rw[List.length_erase_of_mem ha]at this;have pos:0<l'.length:=List.length_pos_of_mem ha;rw[aZX];lia
def oK{P:List Str}{S:List Tr}(N:Nrm S)(h:∀t∈S,Fc P t):S.length<=P.length:=by(have:=aGV (l:=S.map (·.1)) (l':=P.map kyS) N.1 λy d=>by exists t,f,rfl,a2O.mp d;exists z,a,e,(h t f).1;exact a2O.mpr #[z,a,e.symm]);simpa using this
theorem aGW:∀{X:List Tr}{k:Ky},(∀t∈X,0<t.2)->0<=bD X k/\(Has X k->0<bD X k)|[],k,_=>#[Int.le_refl _,λ⟨_,m,_⟩=>nomatch m]|t::X,k,h=>by exists i1,a,aGW (X:=X) (k:=k) λu d=>h u (mcm d);have h0:=h t mcs;show 0<=(if t.1=k then t.2 else 0)+bD X k/\(_->0<(if t.1=k then t.2 else 0)+bD X k);by_cases e:t.1=k;{rw[al e];exact#[by lia,λ_=>by lia]};rw[aK e];refine#[by lia,λ⟨u,m,q⟩=>?_];rcases aXV.mp m with rfl|m;{exact absurd q e};have:=a #[u,m,q];lia
def aGX{m:Int}:∀{X:List Tr}{k:Ky},(X.map (·.1)).Nodup->0<=m->(∀t∈X,t.2<=m)->bD X k<=m:=λ{X k} nd h0 h=>by by_cases c:Has X k;{exists t,a,rfl,c;rw[kX nd (n:=t.2) a];exact h t a};rw[jQ c];exact h0
def aWT{X:List Tr}(h:X≠[]):∃k,Has X k:=by exists t,l,rfl,List.exists_cons_of_ne_nil h;exact#[t.1,t,mcs,rfl]
def Pl_S{S:List Tr}{P:List Str}(h:∀t∈S,Fc P t)(f:S.length<=999):Pl 8 (rD S):=by refine .tup (n:=7) (λd hd=>?_) (by rw[aY4];exact f);exists t,a,rfl,a2O.mp hd;obtain⟨⟨z,_,e⟩,_⟩:=h t a;rw[kW,e];refine .tup (n:=6) (λd hd=>?_) (show 3<=999 by decide);simp only[aXV,a2Q,a1H]at hd;rcases hd with rfl|rfl|rfl;{show Pl 6 (nD (F [z]));rw[rW];exact .tup (n:=5) (λd hd=>by rw[a07.mp hd];exact .str z) (show 1<=999 by decide)};{exact .tup (n:=5) (λd hd=>by cases hd) (show 0<=999 by decide)};exact .int _
theorem cat_R{B:List Tr}{m:Md}(h:A.length+B.length<=1000):op2 (a8 .Add) (.ok m (rD A)) (.ok m' (rD B))=okf (rD (A++B)):=by have:=aDD (m:=m) (n:=m') (x:=A.map tD) (y:=B.map tD) (by rw[aY4,aY4,aYH];lia);rw[<- a1R]at this;exact this
theorem aWU{B:List Tr}{m:Md}(h:A.length+B.length<=1000):op2 (a8 .Add) (.ok m (.lst (A.map tD))) (.ok m' (.lst (B.map tD)))=.ok .fr (.lst ((A++B).map tD)):=by have:=aT1 (m:=m) (n:=m') (x:=A.map tD) (y:=B.map tD) (by rw[aY4,aY4,aYH];lia);rw[<- a1R]at this;exact this
def rwT(P:List Str)(t:Tr):Rw:=(match t.1.1 with|.t [.s z]=>[z]|_=>[],t.1.2,t.2)
def xJ{P:List Str}{t:Tr}(h:Fc P t):gQ (rwT P t)=tD t/\tr (rwT P t)=t:=by obtain⟨⟨z,_,e⟩,_⟩:=h;exists k,n,t;cases e;refine#[?_,rfl];rw[kW];show D.tup [.tup [.str z],nD (.t []),.int n]=.tup [nD (F [z]),nD (.t []),.int n];rw[rW];rfl
def aGY(k:Nat){P:List Str}{X:List Tr}(h:∀t∈X,Fc P t)(f:X.length<64):(Wk (k+1)).Φ "_law_normal" [.lst (X.map tD)]=okf (nf X):=by
 have l:(X.map (rwT P)).map gQ=X.map tD:=by rw[a2D];exact a26 λt a=>(xJ (h t a)).1
 have E:(X.map (rwT P)).map tr=X:=by rw[a2D];(conv=>rhs;rw[<- List.map_id X]);exact a26 λt a=>(xJ (h t a)).2
 have:=aWL (k:=k) (rs:=X.map (rwT P)) (λr d=>by
  exists t,a,rfl,a2O.mp d;refine#[?_,by rw[(xJ (h t a)).2];exact(h t a).K]
  obtain⟨⟨z,_,e⟩,_⟩:=h t a;exists kk,n,t;cases e
  exact(by decide:1<64)) (by rw[aY4];exact f)
 rw[l,E]at this;exact this
def aGZ{P:List Str}{X:List Tr}(h:∀t∈X,Fc P t):okR P (nf X)/\(X≠[]->nf X ≠ .tup []):=by exists S,e,N,sm,_,rZ X;refine#[#[S,e,N,λt a=>?_],λhx q=>?_];{exists u,d,E,(sm t.1).1.mp #[t,a,rfl];refine#[by rw[<- E];exact(h u d).1,?_];(have:t.2=bD X t.1:=by rw[<- (sm t.1).2];exact(kX N.1 (n:=t.2) a).symm);rw[this];exact(aGW λu d=>(h u d).2).2 #[u,d,E]};exists k,hk,aWT hx;exists t,a,_,(sm k).1.mpr hk;rw[e]at q;injection q with q;rw[a3E]at q;rw[q]at a;cases a
def aG0(h:Nrm A):nf A=rD A:=aWO h
def r6{P:List Str}(a:P.length<=8){B:List Tr}(l:Nrm A)(N:Nrm B)(f:∀t∈A,Fc P t)(d:∀t∈B,Fc P t):A.length<=8/\B.length<=8/\∀t∈A++B,Fc P t :=
 #[aXS (oK l f) a,aXS (oK N d) a,λt o=>(aXW.mp o).elim (f t) (d t)]
theorem aG1{W:WD}{n:Int}(h0:0<=n)(l:n<=10 ^ 51)(o:A.length<=1000)(f:∀t∈A,0<t.2/\t.2<=10 ^ 45){m:Md}(d:bZ aE Y=[sf (.int n)]):bO (.ok m (.lst (A.map tD))) Y aE 3 (aO (.tp [.nm 1,.nm 2,.nm 3])) (λY=>evF W [] Y) (λY=>evE W (.tup [v1,v2,(.frz (.bin .Mult v0 v3))]) Y)=.ok .fr (.lst ((scl n A).map tD)):=by(have:(scl n A).map tD=A.map λt=>tD (t.1,n * t.2):=by unfold scl;rw[a2D];rfl);rw[this];refine gD (enc:=tD) _ (by rw[aYH];lia) λt a=>?_;exists r,B,f t a;have mu:op2 (a8 .Mult) (okf (.int n)) (okf (.int t.2))=okf (.int (n * t.2)):=vK (bt1 h0 l) (bt1 (by lia) (by lia));refine#[[sf (.int n),sf (nD t.1.1),sf (nD t.1.2),sf (.int t.2)],.fz,by rw[d,kW];rfl,rfl,.fz,?_];rw[kW];show aI (dO (aQ (okf (nD t.1.1)) (aQ (okf (nD t.1.2)) (aQ (aI (op2 (a8 .Mult) (okf (.int n)) (okf (.int t.2)))) (.ok [])))))=_;rw[mu];rfl
theorem aG2{P:List Str}(T:P.length<=8):KM (.ins "Reasons" []) (.tup []) 1 (okR P) bdR plR soR where
 nought k:=by show aV 1 ((Wk (k+1)).Φ "Reasons.nought") (.ok [(.fz,.ins "Reasons" [])])=_;exact eZ (ent (d:=aE5) rfl rfl (bA rfl))
 plus k a b ha D:=by exists A,rfl,l,f,ha;exists B,rfl,E,F,D;exists lA,lB,G,r6 T l E f F;exists S,_,eS,aGT (ts:=A++B);have r:=eZ (aWF (k:=k+1) eS (λt o=>(G t o).K) (by rw[aY3];lia) (.inl rfl));have ca:=cat_R (A:=A) (B:=B) (m:=.fz) (m':=.fz) (by lia);rw[gI];show aV 3 ((Wk (k+3)).Φ "Reasons.plus") (.ok [(.fz,.ins "Reasons" []),(.fz,rD A),(.fz,rD B)])=_;refine ph3 (aU0 (k+2)) (bA ?_);show aV 1 ((Wk (k+2)).Φ "reason_of") (aQ (aI (op2 (a8 .Add) (okf (rD A)) (okf (rD B)))) (.ok []))=_;rw[ca];exact r
 okn:=#[[],rfl,#[a1T,List.Pairwise.nil],λt o=>nomatch o]
 okp a b ha D:=by exists A,rfl,l,f,ha;exists B,rfl,E,F,D;rw[gI];exact(aGZ (r6 T l E f F).2.2).1
 assoc a b c ha D hc:=by exists A,rfl,l,f,ha;exists B,rfl,E,F,D;exists C,rfl,nC,hC,hc;rw[gI,gI];exists S,e,_,sm,_,rZ (A++B);exists S',L,_,Z,_,rZ (B++C);rw[e,L,gI,gI];refine nf_sm ((sm.app (.refl C)).trans ?_);rw[a1S];exact Sm.app (.refl A) Z.symm
 left a ha:=by exists A,rfl,l,f,ha;show plR (rD []) (rD A)=_;rw[gI];exact aG0 l
 plain:=fun|_,⟨A,rfl,l,f⟩=>Pl_S f (by have:=oK l f;lia)
 right a ha:=by exists A,rfl,l,f,ha;show plR (rD A) (rD [])=_;rw[gI,aYR];exact aG0 l
 eqn a ha:=by(exists A,rfl,l,f,ha;have V:=rV (.t (A.map tmN));rw[nD,kT]at V;have e2:aT (.tup [])=some (N.py (.t [])):=rV (.t []);show(match aT (rD A),aT (.tup [])with|some p,some q=>PyData.eqv p q|_,_=>false)=true↔_);rw[V,e2];dsimp only;rw[N.py_eqv,a0L];constructor;{intro h;injection h with h;rw[a3E]at h;rw[h];rfl};intro h;injection h with h;rw[a3E]at h;rw[h];rfl
 nz a b ha D h:=by exists A,rfl,l,f,ha;exists B,rfl,E,F,D;rw[gI];refine(aGZ (r6 T l E f F).2.2).2 λe=>?_;exists V,_,List.append_eq_nil_iff.mp e;exact h (by rw[V];rfl)
 lplus k a b ha D:=by exists A,rfl,l,f,ha;exists B,rfl,E,F,D;exists lA,lB,G,r6 T l E f F;have ca:=aWU (A:=A) (B:=B) (m:=.fr) (m':=.fr) (by lia);have r:=eZ (aGY (k+1) G (by rw[aY3];lia));rw[gI];refine ent (d:=wM) rfl rfl ?_;show evB (Wk (k+2)) wE [sf (.int 1),sf (rD A),sf (rD B)]=_;unfold wE;refine nxt (bG (m:=.fz) (by rfl) rfl) (bA ?_);show aV 1 ((Wk (k+2)).Φ "_law_normal") (aQ (aI (op2 (a8 .Add) (.ok .fr (.lst (A.map tD))) (.ok .fr (.lst (B.map tD))))) (.ok []))=_;rw[ca];exact r
 many k n a h0 h1 ha D:=by exists A,rfl,l,f,ha;exists W,e,D,D;injection e with e;cases mU e;have lA:=oK l f;show aV 3 ((Wk (k+3)).Φ "Reasons.many") (.ok [(.fz,.ins "Reasons" []),(.fz,.int n),(.fz,rD A)])=_;refine ph3 (aU1 (k+2)) ?_;unfold soR wI;rw[mV];by_cases z:n=0;{subst z;rw[al rfl];exact nxr (by rw[vJ];rfl)};rw[aK z];refine nxt (bG (m:=.fz) (by show Res.ok .fz (.bl (n==0))=_;rw[aXI.mpr z]) rfl) (bA (gE (m:=.fr) ?_));rw[eY];exact aG1 h0 h1 (by lia) (λt o=>#[(f t o).2,D t o]) (m:=.fz) rfl
 lso k n a h0 h1 ha D:=by exists A,rfl,l,f,ha;exists W,e,D,D;injection e with e;cases mU e;have lA:=oK l f;refine ent (d:=wN) rfl rfl ?_;show evB (Wk k) oD [sf (.int 1),sf (.int n),sf (rD A)]=_;unfold soR oD;rw[mV,aK (by lia)];refine nxt (bG (m:=.fz) (by rfl) rfl) (bA (gE (m:=.fr) ?_));rw[eY];exact aG1 (by lia) h1 (by lia) (λt o=>#[(f t o).2,D t o]) (m:=.fz) rfl
 oks n a h0 ha:=by exists A,rfl,l,f,ha;unfold soR;rw[mV];split;{exact#[[],rfl,#[a1T,List.Pairwise.nil],λt o=>nomatch o]};refine#[scl n A,rfl,aWP n l,λt o=>?_];exists u,hu,rfl,a2O.mp o;exact#[(f u hu).1,Int.mul_pos (by lia) (f u hu).2]
 so0 a:=al rfl
 son n a h0 ha h:=by exists A,rfl,l,f,ha;unfold soR;rw[mV,aK (by lia)];intro e;injection e with e;unfold scl at e;rw[a2D,a3E]at e;exact h (by rw[e];rfl)
 bd0:=#[[],rfl,λt o=>nomatch o]
 bdm m m' a h:=λ⟨S,e,q⟩=>#[S,e,λt o=>Int.le_trans (q t o) h]
 bdp m n a b m0 n0 ha D:=by rintro⟨W,rfl,qA⟩ ⟨B',rfl,qB⟩;exists A,e,l,f,ha;exists B,L,E,F,D;injection e with e;injection L with L;(cases mU e;cases mU L;rw[gI];exists S,e,nr,sm,_,rZ (W++B');refine#[S,e,λt o=>?_];have:t.2=bD (W++B') t.1:=by rw[<- (sm t.1).2];exact(kX nr.1 (n:=t.2) o).symm);rw[this,rY];have:=aGX (k:=t.1) l.1 m0 qA;have:=aGX (k:=t.1) E.1 n0 qB;lia
abbrev κ(e:N×D):N:=rkK e.1
def nts(P:List (N×D))(k:N):List D:=(P.filter λe=>decide (e.1=k)).map (·.2)
theorem aG3{k j:N}{v:List D}:∀{kvs:GD},(aZ kvs k).isSome=true->aZ (iU kvs k v) j=if j=k then some v else aZ kvs j
 |[],h=>by simp[aZ]at h|kv::kvs,h=>by
  by_cases e:kv.1=k
  . by_cases z:j=k
    . simp[aZ,iU,aZW,e,z]
    . have Z:¬ k=j:=λq=>z q.symm;have o:¬ kv.1=j:=λq=>z (q.symm.trans e);rw[aK z];have:∀(l:GD),aZ (iU l k v) j=aZ l j:=λl=>by
        induction l with|nil=>rfl|cons a l d=>unfold aZ iU at *;rw[aZZ,aZW,aZW];by_cases q:a.1=k;{rw[al q,show decide (a.1=j)=false by simp[q,Z]];simpa using d};rw[aK q];by_cases f:a.1=j;{rw[show decide (a.1=j)=true by simp[f]]};rw[show decide (a.1=j)=false by simp[f]];exact d
      exact this _
  . (have h':(aZ kvs k).isSome=true:=by simpa[aZ,aZW,e]using h);have d:=aG3 (j:=j) (v:=v) h';unfold aZ iU at *;rw[aZZ,aZW,aZW,aK e];by_cases q:kv.1=j;{have:¬ j=k:=λz=>e (q.trans z);rw[show decide (kv.1=j)=true by simp[q],aK this]};rw[show decide (kv.1=j)=false by simp[q]];exact d
def aWV(kvs:GD)(k j:N)(d:D):(aZ (dR kvs k d) j).getD []=(aZ kvs j).getD []++if k=j then[d]else[]:=by unfold dR;cases e:aZ kvs k with|some ds=>dsimp only;rw[aG3 (by rw[e];rfl)];by_cases q:j=k;{rw[al q,al q.symm,q,e];rfl};rw[aK q,aK λz=>q z.symm,aYR]|none=>(dsimp only;have h:∀j,aZ (kvs++[(k,[d])]) j=(aZ kvs j).or (if k=j then some [d]else none):=λj=>by unfold aZ;rw[List.find?_append];cases kvs.find? λkv=>decide (kv.1=j)with|some x=>rfl|none=>by_cases q:k=j;{simp[aZW,q]};simp[aZW,q]);rw[h];by_cases q:k=j;{rw[al q,al q,<- q,e];rfl};rw[aK q,aK q,aYR,Option.or_none]
def aWW(e:N×D)(P:List (N×D))(k:N):nts (e::P) k=(if e.1=k then[e.2]else[])++nts P k:=by unfold nts;by_cases q:e.1=k;{rw[a3F (by simp[q]),al q];rfl};rw[a3G (by simp[q]),aK q];rfl
theorem aG4:∀(P:List (N×D)) (kvs:GD) (k:N),(aZ (gaG P kvs) k).getD []=(aZ kvs k).getD []++nts P k|[],kvs,k=>by show _=_++[];rw[aYR];rfl|e::P,kvs,k=>by show(aZ (gaG P (dR kvs e.1 e.2)) k).getD []=_;rw[aG4 P,aWV,aWW,a1S]
theorem aG5:∀{kvs:GD}{k:N}{ds:List D},(kvs.map (·.1)).Nodup->(k,ds)∈kvs->aZ kvs k=some ds|kv::kvs,k,ds,nd,h=>by rw[aZZ,aYT]at nd;rcases aXV.mp h with e|h;{subst e;simp[aZ,aZW]};have:¬ kv.1=k:=λz=>nd.1 (z ▸ a2O.mpr #[_,h,rfl]);have a:=aG5 nd.2 h;simpa[aZ,aZW,this]using a
section
variable{Ok:D->Prop}
def aWX:Gi Ok [] 0:=#[aYC _,a1T,λkv h=>nomatch h]
theorem aG6:∀(P:List (N×D)) (kvs:GD) (n:Nat),(∀e∈P,Row e.1/\Ok e.2)->Gi Ok kvs n->Gi Ok (gaG P kvs) (n+P.length)|[],kvs,n,_,g=>g|e::P,kvs,n,h,g=>by exists r,o,h e mcs;have:=aG6 P (dR kvs e.1 e.2) (n+1) (λu a=>h u (mcm a)) (g.add r o);show Gi Ok (gaG P (dR kvs e.1 e.2)) (n+(P.length+1));rw[show n+(P.length+1)=n+1+P.length by lia];exact this
def kY{P:List (N×D)}(h:∀e∈P,Row e.1/\Ok e.2):Gi Ok (gaG P []) P.length:=by have:=aG6 P [] 0 h aWX;rwa [a06]at this
def aG7{P:List (N×D)}(h:∀e∈P,Row e.1/\Ok e.2){k:N}:(k,ds)∈gaG P []↔ds=nts P k/\ds≠[]:=by have g:=kY h;have q:=aG4 P [] k;have q:(aZ (gaG P []) k).getD []=nts P k:=q;constructor;{intro m;rw[aG5 g.nd m]at q;have:=(g.each _ m).2.2.1;exact#[q,λz=>by rw[z]at this;simp at this]};rintro⟨rfl,ne⟩;cases e:aZ (gaG P []) k with|none=>rw[e]at q;exact absurd q.symm ne|some ds=>rw[e]at q;have q:ds=nts P k:=q;rw[<- q];exact wZ e
def oM{P:List (N×D)}{k:N}{d:D}(h:d∈nts P k):(k,d)∈P:=by exists e,a,rfl,a2O.mp h;exists l,f,aXP.mp a;rw[<- a0M f];exact l
def aWY(P:List (N×D))(k:N):(nts P k).length<=P.length:=by unfold nts;rw[aY4];exact a28 _ _
def oN(K:KM Kd No way Ok Bd pl so)(l:List D)(x:D)(hx:Ok x)(h:∀d∈l,Ok d):Ok (l.foldl pl x):=K.toKO.okf l x hx h
theorem aG8(K:KM Kd No way Ok Bd pl so):∀(l:List D) (x:D),Ok x->(∀d∈l,Ok d)->(l.filter λd=>!eqB d No).foldl pl x=l.foldl pl x|[],x,_,_=>rfl|d::l,x,hx,h=>by have hd:=h d mcs;have a:=aG8 K l (pl x d) (K.okp _ _ hx hd) λu f=>h u (mcm f);cases q:eqB d No with|true=>rw[a3G (by simp[q])];have:d=No:=(K.eqn d hd).mp q;rw[List.foldl_cons,<- a,this,K.right x hx]|false=>rw[a3F (by simp[q])];exact a
theorem aG9(K:KM Kd No way Ok Bd pl so):∀(l:List D) (x:D),Ok x->x≠No->(∀d∈l,Ok d)->l.foldl pl x≠No|[],x,_,n,_=>n|d::l,x,hx,n,h=>aG9 K l (pl x d) (K.okp _ _ hx (h d mcs)) (K.nz _ _ hx (h d mcs) n) λu a=>h u (mcm a)
def aHA(K:KM Kd No way Ok Bd pl so){l:List D}(h:∀d∈l,Ok d/\d≠No)(ne:l≠[]):l.foldl pl No≠No:=by cases l with|nil=>exact absurd rfl ne|cons d l=>exists a,o,h d mcs;show l.foldl pl (pl No d)≠No;rw[K.left d a];exact aG9 K l d a o λu f=>(h u (mcm f)).1
theorem aHB(K:KM Kd No way Ok Bd pl so){b:Int}(a:0<=b):∀(l:List D) (x:D) (m:Int),0<=m->Ok x->Bd m x->(∀d∈l,Ok d/\Bd b d)->Bd (m+l.length * b) (l.foldl pl x)|[],x,m,_,_,hx,_=>by simpa using hx|d::l,x,m,E,o,hx,h=>by exists f,F,h d mcs;have r:=aHB K a l (pl x d) (m+b) (by lia) (K.okp _ _ o f) (K.bdp m b x d E a o f hx F) λu B=>h u (mcm B);(have e:m+b+(l.length:Int) * b=m+((d::l).length:Int) * b:=by rw[aZX];push_cast;rw[Int.add_mul];lia);rw[<- e];exact r
def aWZ{j k:N}(f:Row j)(hk:Row k)(e:rkK j=rkK k):j=k:=by exists us,rfl,d,_,f.ex;exists vs,rfl,a,_,hk.ex;have e:N.t (us.map rk)=N.t (vs.map rk):=e;injection e with e;rw[w6 d a e]
theorem aHC:∀{l:List (N×D)},(∀e∈l,Row e.1)->(l.map (·.1)).Nodup->(l.map κ).Nodup|[],_,_=>a1T|e::l,h,nd=>by rw[aZZ,aYT]at nd ⊢;refine#[λq=>?_,aHC (λu a=>h u (mcm a)) nd.2];exists u,a,E,a2O.mp q;have:=aWZ (h u (mcm a)) (h e mcs) E;exact nd.1 (this ▸ a2O.mpr #[u,a,rfl])
def aW0{l l':List (N×D)}(p:l.Perm l')(nd:(l.map κ).Nodup):(dC κ l).map enc=(dC κ l').map enc:=by
 have h:f8 (l.map λe=>(κ e,enc e))=f8 (l'.map λe=>(κ e,enc e)) :=
  (aB2 (uY (l.map λe=>(κ e,enc e))) ((qQ _).trans (p.map _)) (by
   rw[a2D];exact(p.map κ).nodup_iff.mp nd))
 rw[rP,rP]at h;have:=congrArg (List.map λq:N×D=>q.2) h;simpa[a2D,Function.comp_def]using this
def r8{P:List (N×D)}(h:∀e∈P,Row e.1/\Ok e.2):((val pl No (gaG P [])).map (·.1)).Nodup:=by unfold val;rw[a2D];exact(kY h).nd
def jR{P:List (N×D)}(h:∀e∈P,Row e.1/\Ok e.2){k:N}{d:D}:(k,d)∈val pl No (gaG P [])↔nts P k≠[]/\d=(nts P k).foldl pl No:=by unfold val;constructor;{intro m;exists kv,a,e,a2O.mp m;cases e;exists E,f,(aG7 h (k:=kv.1) (ds:=kv.2)).mp a;exact#[E ▸ f,by rw[<- E]]};rintro⟨ne,rfl⟩;exact a2O.mpr #[(k,nts P k),(aG7 h).mpr #[rfl,ne],rfl]
def oO{P:List (N×D)}{k:N}(ne:nts P k≠[]):∃d,(k,d)∈P:=by cases e:nts P k with|nil=>exact absurd e ne|cons d l=>exact#[d,oM (by rw[e];exact mcs)]
def same(K:KM Kd No way Ok Bd pl so){P:List (N×D)}(h:∀e∈P,Row e.1/\Ok e.2):(dC κ (gG pl No P)).map enc=(dC κ (val pl No (gaG (P.filter λe=>!eqB e.2 No) []))).map enc:=by
 have h':∀e∈P.filter (λe=>!eqB e.2 No),Row e.1/\Ok e.2:=λe o=>h e (aXP.mp o).1;have en:∀k,nts (P.filter λe=>!eqB e.2 No) k=(nts P k).filter λd=>!eqB d No:=λk=>by unfold nts;rw[List.filter_map,List.filter_filter,List.filter_filter];congr 1;refine List.filter_congr λe _=>?_;show(_&&_)=(_&&_);rw[Bool.and_comm];rfl
 have ok:∀k,∀d∈nts P k,Ok d:=λk d hd=>(h _ (oM hd)).2;have n1:((gG pl No P).map (·.1)).Nodup:=(List.Sublist.map _ (List.filter_sublist)).nodup (r8 h);have n2:=r8 (pl:=pl) (No:=No) h';have nd:∀{l:List (N×D)},(l.map (·.1)).Nodup->l.Nodup:=λ{l} q=>by induction l with|nil=>exact a1T|cons a l B=>rw[aZZ,aYT]at q;exact aYT.mpr #[λz=>q.1 (a2O.mpr #[a,z,rfl]),B q.2]
 have r:(gG pl No P).Perm (val pl No (gaG (P.filter λe=>!eqB e.2 No) [])):=(a3C (nd n1) (nd n2)).mpr λ⟨k,d⟩=>by
  rw[jR h',en];unfold gG;rw[aXP,jR h];have f:=aG8 K (nts P k) No K.okn (ok k);constructor
  . rintro⟨⟨ne,rfl⟩,q⟩;refine#[λz=>?_,f.symm];rw[z]at f;have f:No=(nts P k).foldl pl No:=f;have:eqB ((nts P k).foldl pl No) No=true:=(K.eqn _ (oN K _ _ K.okn (ok k))).mpr f.symm;dsimp only at q;rw[this]at q;cases q
  . rintro⟨ne,rfl⟩;refine#[#[λz=>ne (by rw[z];rfl),f],?_]
    have:=aHA K (l:=(nts P k).filter λd=>!eqB d No) (λd hd=>by
     exists a,b,aXP.mp hd;exact#[ok k d a,λz=>by rw[(K.eqn d (ok k d a)).mpr z]at b;cases b]) ne
    dsimp only;cases q:eqB (((nts P k).filter λd=>!eqB d No).foldl pl No) No with|false=>rfl|true=>exact absurd ((K.eqn _ (oN K _ _ K.okn λd hd=>ok k d (aXP.mp hd).1)).mp q) this
 exact aW0 r (aHC (λe o=>by
  exists ne,_,(jR h (k:=e.1) (d:=e.2)).mp (aXP.mp o).1;exists d,hd,oO ne;exact(h _ hd).1) n1)
end
def LB(v:N):Prop:=cW v/\∀i:Int,v=.i i->i<=10 ^ 51
structure cM(w:Nat)(k:N):Prop where
 ex:∃vs,k=.t vs/\vs.length=w/\∀v∈vs,LB v
theorem cM.row{w:Nat}{k:N}(d:w<=10)(h:cM w k):Row k:=by exists vs,e,f,a,h.ex;exact#[vs,e,λv m=>(a v m).1,by lia]
theorem aHD:∀{V:List (N×D)},(V.map (·.1)).Nodup->∀e∈V,bE V e.1=some e.2|[],_,e,h=>by cases h|g::V,nd,e,a=>by rw[aZZ,aYT]at nd;rcases aXV.mp a with rfl|a;{rw[qD (p:=e) rfl]};rw[qE (p:=g) (λz=>nd.1 (a2O.mpr #[e,a,z.symm]))];exact aHD nd.2 e a
def aW1{V:List (N×D)}(nd:(V.map (·.1)).Nodup){e:N×D}(d:e∈V)(a:Row e.1):op2 eD (okf (.dtf V)) (okf (nD e.1))=okf e.2:=bJ (by
 show eD .fz (.dtf V) .fz (nD e.1)=_;unfold eD;rw[a.key];show(bE V e.1).map _=_;rw[aHD nd e d];rfl)
theorem fH:∀(ks:List N),nDL ks=ks.map nD|[]=>by rw[nDL];rfl|k::ks=>by rw[nDL,fH ks];rfl
theorem aW2{k:N}(h:Row k):Pl 1 (nD k):=by exists vs,rfl,a,l,h.ex;rw[nD];refine .tup (λd hd=>?_) (by rw[fH,aY4];lia);rw[fH]at hd;exists v,f,rfl,a2O.mp hd;cases a v f with|i n=>rw[nD];exact .int n|s x=>rw[nD];exact .str x
abbrev Tb(C:List Str)(R:List (N×D)):D:=.tup [Tp C,.tup (R.map enc)]
abbrev cG(pl:D->D->D)(No:D)(P:List (N×D)):List (N×D):=dC κ (val pl No (gaG P []))
structure TR(No:D)(Ok:D->Prop)(Bd:Int->D->Prop)(w n:Nat)(b:Int)(R:List (N×D)):Prop where
 each:∀e∈R,cM w e.1/\Ok e.2/\e.2≠No/\Bd b e.2
 len:R.length<=n
section
variable{Ok:D->Prop}{w:Nat}{b:Int}{P:List (N×D)}
def TR.ro(t:TR No Ok Bd w n b R)(d:w<=10):∀e∈R,Row e.1/\Ok e.2:=λe a=>#[(t.each e a).1.row d,(t.each e a).2.1]
theorem TR.app{a:Nat}{r:List (N×D)}(t:TR No Ok Bd w n b R)(t':TR No Ok Bd w a b r):TR No Ok Bd w (n+a) b (R++r) :=
 #[λe d=>by exact(aXW.mp d).elim (t.each e) (t'.each e),by rw[aY3];have:=t.len;have:=t'.len;lia]
theorem TR.sum(K:KM Kd No way Ok Bd pl so)(t:TR No Ok Bd w n b P)(l:w<=10)(f:0<=b):TR No Ok Bd w n (n * b) (cG pl No P):=by have h:=t.ro l;refine#[λe a=>?_,?_];{have a:=(mQ κ _).mem_iff.mp a;exists ne,E,(jR h (k:=e.1) (d:=e.2)).mp a;exists d,hd,oO ne;have q:∀d∈nts P e.1,Ok d/\d≠No/\Bd b d:=λd hd=>(t.each _ (oM hd)).2;refine#[(t.each _ hd).1,?_,?_,?_];{rw[E];exact oN K _ _ K.okn λd hd=>(q d hd).1};{rw[E];exact aHA K (λd hd=>#[(q d hd).1,(q d hd).2.1]) ne};rw[E];refine K.bdm _ _ _ ?_ (aHB K f (nts P e.1) No 0 (Int.le_refl _) K.okn K.bd0 λd hd=>#[(q d hd).1,(q d hd).2.2]);rw[a3A];have r:=aWY P e.1;have o:=t.len;exact Int.mul_le_mul_of_nonneg_right (by lia) f};rw[(mQ κ _).length_eq];unfold val;rw[aY4];exact aXS (kY h).len t.len
def xK{W:WD}{f:Str}{a b c:E}{x z:D}(o:evE W a Y=okf x)(l:evE W b Y=okf y)(d:evE W c Y=okf z)(h:jJ (W.Mu f) i Y n (.ok [(.fz,x),(.fz,y),(.fz,z)])=.nx ρ'):evS W (.cmu i f n [a,b,c]) Y=.nx ρ':=by rw[s_cmu];show jJ _ _ _ _ (aQ (evE W a Y) (aQ (evE W b Y) (aQ (evE W c Y) (.ok []))))=_;rw[o,l,d];exact h
def aHE{N:Nat}{g:Rho->aH}{d d':D}(a:ds.length+1=n)(h:g (mD N d ds)=.nx ρ')(h0:ρ'[0]? = some (some (true,d'))):jK n N g d ds=some d':=by unfold jK;rw[al a,h];dsimp only;rw[h0]
abbrev bP:List D3.S:=[.ite (.nin false v2 v0) [.nput 0 v2 (.call "_law_plus" 3 [v1,(.nix v0 v2),v3])] [.nput 0 v2 v3]]
theorem put_(K:KM Kd No way Ok Bd pl so)(k:Nat){V:List (N×D)}{r:N}{d:D}(F:Row r)(T:∀e∈V,Ok e.2)(hd:Ok d)(W:V.length<1000):(Wk (k+4)).Mu "_law_put" (.dtn V) [.int way,nD r,d]=some (.dtn (d5 V r (pl ((bE V r).getD No) d))):=by
 have Z:sizeLine=16777216:=aYH;have L:V.length<sizeLine:=by lia
 rw[wt_Mu (d:=aEV) rfl rfl];have B:op2 (eV false) (okf (nD r)) (.ok .bo (.dtn V))=okf (.bl (bE V r).isSome):=bJ (by
  show eV false .fz (nD r) .bo (.dtn V)=_;unfold eV;rw[F.key];rfl)
 generalize a:mD 4 (.dtn V) [.int way,nD r,d]=Y;have E:Y=[some (true,.dtn V),sf (.int way),sf (nD r),sf d]:=by rw[<- a];rfl
 have l:evE (Wk (k+3)) v2 Y=okf (nD r):=by rw[E];rfl
 have o:evE (Wk (k+3)) v0 Y=.ok .bo (.dtn V):=by rw[E];rfl
 cases e:bE V r with
 |none=>(rw[e]at B;have G:eW Y 0 (okf (nD r)) (evE (Wk (k+3)) v3 Y)=.nx (Y.set 0 (some (true,.dtn (d5 V r d)))):=by(rw[E];show(match cD (nD r)with|some k=>if V.length<sizeLine then aH.nx _ else .stuck|none=>.stuck)=_);rw[F.key];dsimp only;rw[al L]);(have ev:evU (Wk (k+3)) bP Y=.nx (Y.set 0 (some (true,.dtn (d5 V r d)))):=by show ifS (op2 (eV false) (evE (Wk (k+3)) v2 Y) (evE (Wk (k+3)) v0 Y)) Y _ _=_;rw[l,o,B];exact G);rw[aZQ,K.left d hd];exact aHE rfl (by rw[<- a]at ev;exact ev) rfl
 |some x =>
  rw[e]at B;have hx:Ok x:=by unfold bE at e;cases f:V.find? (λkv=>decide (kv.1=r))with|none=>rw[f]at e;cases e|some y=>rw[f]at e;cases e;exact T _ (a2U f)
  have nx:op2 eD (.ok .bo (.dtn V)) (okf (nD r))=okf x:=bJ (by
   show eD .bo (.dtn V) .fz (nD r)=_;unfold eD;rw[F.key];show(bE V r).map _=_;rw[e];rfl)
  have S:=K.lplus k x d hx hd;have G:eW Y 0 (okf (nD r)) (evE (Wk (k+3)) (.call "_law_plus" 3 [v1,(.nix v0 v2),v3]) Y)=.nx (Y.set 0 (some (true,.dtn (d5 V r (pl x d))))):=by(have cs:evE (Wk (k+3)) (.call "_law_plus" 3 [v1,(.nix v0 v2),v3]) Y=okf (pl x d):=by rw[E];exact ec3 rfl nx rfl (e9 S));(rw[cs,E];show(match cD (nD r)with|some k=>if V.length<sizeLine then aH.nx _ else .stuck|none=>.stuck)=_);rw[F.key];dsimp only;rw[al L]
  have ev:evU (Wk (k+3)) bP Y=.nx (Y.set 0 (some (true,.dtn (d5 V r (pl x d))))):=by show ifS (op2 (eV false) (evE (Wk (k+3)) v2 Y) (evE (Wk (k+3)) v0 Y)) Y _ _=_;rw[l,o,B];exact G
  exact aHE rfl (by rw[<- a]at ev;exact ev) rfl
theorem xL(K:KM Kd No way Ok Bd pl so)(k i:Nat){P:List (N×D)}{e:N×D}(h:∀u∈P,Row u.1/\Ok u.2)(a:Row e.1/\Ok e.2)(F:P.length<1000)(hi:Y[i]? = some (some (true,.dtn (val pl No (gaG P []))))):jJ ((Wk (k+4)).Mu "_law_put") i Y 4 (.ok [(.fz,.int way),(.fz,nD e.1),(.fz,e.2)])=.nx (Y.set i (some (true,.dtn (val pl No (gaG (P++[e]) []))))):=by
 have g:=kY h;have ge:gaG (P++[e]) []=dR (gaG P []) e.1 e.2:=by unfold gaG;rw[List.foldl_append];rfl
 have E:val pl No (gaG (P++[e]) [])=d5 (val pl No (gaG P [])) e.1 (pl ((bE (val pl No (gaG P [])) e.1).getD No) e.2):=by rw[ge,aVC]
 have f:=put_ K k (V:=val pl No (gaG P [])) (r:=e.1) (d:=e.2) a.1 (λu l=>by
  exists _,o,(jR h (k:=u.1) (d:=u.2)).mp l;rw[o];exact oN K _ _ K.okn λd hd=>(h _ (oM hd)).2) a.2 (by
  unfold val;rw[aY4];have:=g.len;lia)
 unfold jJ;rw[hi];show(match(WT TT (k+4)).Mu "_law_put" (.dtn (val pl No (gaG P []))) [.int way,nD e.1,e.2]with|some B=>aH.nx (Y.set i (some (true,B)))|none=>.stuck)=_
 rw[f,E]
theorem aHF(k:Nat){V:List (N×D)}{c:D}(l:∀e∈V,Row e.1)(nd:(V.map (·.1)).Nodup)(L:V.length<=60):(Wk (k+3)).Φ "_law_sorted" [.dtf V,c]=okf (.tup [c,.tup ((dC κ V).map enc)]):=by
 have Z:sizeLine=16777216:=aYH;refine ent (d:=aEX) rfl rfl ?_;show evB _ aD1 [sf (.dtf V),sf c]=_;have so:cU (λd=>(Wk (k+1)).Φ "_law_rank" [d]) (okf (.dtf V))=.ok .fr (.lst ((dC κ V).map λe=>nD e.1)):=by
  have K:∀e:N×D,∃kd:D,e∈V->aI ((Wk (k+1)).Φ "_law_rank" [nD e.1])=okf kd/\eG kd=sf (rkK e.1):=λe=>by by_cases a:e∈V;{exists vs,ev,F,aFS (l e a);exists o,E,B,hn,(l e a).ex;(have:o=vs:=by rw[ev]at E;injection E with z;exact z.symm);subst this;refine#[_,λ_=>#[?_,F]];rw[ev,aU9 k B hn];rfl};exact#[.non,λz=>absurd z a]
  exact aFO (f:=λe:N×D=>nD e.1) (κ:=κ) (kd:=λe=>Classical.choose (K e)) rfl (λe a=>(Classical.choose_spec (K e) a).1) (λe a=>(Classical.choose_spec (K e) a).2) (by
   have:=aFR (ks:=V.map λe=>e.1) (λk hk=>by exists e,a,rfl,a2O.mp hk;exact l e a) nd
   rw[a2D]at this
   exact this) (aXM (by lia:V.length<64) uK)
 have G:evE (Wk (k+2)) (.items (.srtf "_law_rank" v0)) [sf (.dtf V),sf c]=okf (.lst ((dC κ V).map λe=>nD e.1)):=by show iN (aI (evE (Wk (k+2)) (.srtf "_law_rank" v0) _))=_;rw[aVI rfl];show iN (aI (cU (λd=>(Wk (k+1)).Φ "_law_rank" [d]) (okf (.dtf V))))=_;rw[so];rfl
 have r:=mQ κ V;have c1:bO (okf (.lst ((dC κ V).map λe=>nD e.1))) [sf (.dtf V),sf c] [0] 1 (aO (.nm 1)) (λY=>evF (Wk (k+2)) [] Y) (λY=>evE (Wk (k+2)) (.tup [v1,(.nix v0 v1)]) Y)=.ok .fr (.lst ((dC κ V).map enc)):=by refine gD (enc:=λe:N×D=>nD e.1) enc (by rw[r.length_eq];lia) λe a=>?_;have a:=r.mem_iff.mp a;have nx:=aW1 nd a (l e a);refine#[[sf (.dtf V),sf (nD e.1)],.fz,rfl,rfl,.fz,?_];show aI (dO (aQ (okf (nD e.1)) (aQ (op2 eD (okf (.dtf V)) (okf (nD e.1))) (.ok []))))=_;rw[nx];rfl
 exact bA (iX rfl (bN (gE (by rw[eY,G];exact c1))))
end
def big:Int:=100000000000000000000000000000000000000000000000000
def pw{m:Md}:op2 (a8 .Pow) (.ok m (.int 10)) (.ok m' (.int 50))=okf (.int big):=by rfl
def pw40{m:Md}:op2 (a8 .Pow) (.ok m (.int 10)) (.ok m' (.int 40))=okf (.int 10000000000000000000000000000000000000000):=by rfl
def ls3{a b c:D}:j4 (.ok [(.fz,a),(.fz,b),(.fz,c)])=.ok .fr (.lst [a,b,c]):=rfl
def iB:List Str:=["x","","ab","X y","~0"]
theorem pool(k:Nat)(c:Int):∃vs:List N,vs.length=3/\(∀v∈vs,LB v)/\(Wk (k+1)).Φ "_law_pool" [.int c,.int big]=.ok .fr (.lst (vs.map nD)):=by(have f:0<big:=by decide);(have r:big<=10 ^ 51:=by decide);(have l:=kP (m:=.fz) (n:=.fz) (i:=c) f;have n1:=a22 c f;have n2:0<=big / 3:=by decide);exists d,hd,E,wQ (iB.map D.str) c 5 rfl (by decide);exists t,o,rfl,a2O.mp hd;have ix:=fO (m:=.fz) (m':=.fz) E;refine#[[.i (c % big-big / 3),.i (c / 7 % 3),.s t],rfl,λv a=>?_,?_];{simp only[aXV,a2Q,a1H]at a;rcases a with rfl|rfl|rfl;{exact#[.i _,λi e=>by injection e with e;lia]};{exact#[.i _,λi e=>by injection e with e;lia]};exact#[.s _,λi e=>by cases e]};refine ent (d:=aEY) rfl rfl ?_;show evB (Wk k) wG [sf (.int c),sf (.int big),none]=_;unfold wG;have S:evS (Wk k) (.set 2 (.frz (.lst [(.str "x"),(.str ""),(.str "ab"),(.str "X y"),(.str "~0")]))) [sf (.int c),sf (.int big),none]=.nx [sf (.int c),sf (.int big),sf (.lst (iB.map D.str))]:=rfl;rw[rA S];generalize iB.map D.str=TX at *;generalize big=B at *;simp[ix,l,ls3,nD]
theorem note0(k:Nat)(c:Int)(P:D):∃d,okC d/\d ≠ .int 0/\bdC (10 ^ 40) d/\(Wk (k+2)).Φ "_law_note" [.int 0,.int c,P]=okf d:=by(have p:=pw40 (m:=.fz) (m':=.fz);have E:(10:Int) ^ 40=10000000000000000000000000000000000000000:=by decide);(have B:(0:Int)<10000000000000000000000000000000000000000:=by decide);have a:=kP (m:=.fz) (n:=.fz) (i:=c) B;have n1:=a22 c B;have n2:=a21 c (show(10000000000000000000000000000000000000000:Int)≠0 by decide);refine#[.int (1+c % 10000000000000000000000000000000000000000),#[_,by lia,rfl],λe=>by injection e with e;lia,#[_,by lia,rfl],?_];refine ent (d:=rK) rfl rfl ?_;show evB (Wk (k+1)) mO [sf (.int 0),sf (.int c),sf P,none]=_;unfold mO;refine nxr (fP (m:=.fz) (by rfl) (bA ?_));show op2 (a8 .Add) (okf (.int 1)) (op2 (a8 .Mod) (okf (.int c)) (op2 (a8 .Pow) (okf (.int 10)) (okf (.int 40))))=_;rw[p,a];simp
def tD_S(z:Str)(n:Int):tD (kyS z,n)=.tup [.tup [.str z],.tup [],.int n]:=by rw[kW];show D.tup [nD (F [z]),nD (.t []),.int n]=_;rw[rW,nD,nDL];rfl
def nrm1(t:Tr):Nrm [t]:=#[by simp,a10 _ _]
def c1'{W:WD}{f:Str}{a:E}{x:D}{r:Res}(d:evE W a Y=okf x)(hf:aV 1 (W.Φ f) (.ok [(.fz,x)])=r):evE W (.call f 1 [a]) Y=r:=by show aV 1 (W.Φ f) (aQ (evE W a Y) (.ok []))=_;rw[d];exact hf
def el2{W:WD}{a b:E}{x:D}(f:evE W a Y=okf x)(d:evE W b Y=okf y):evE W (.lst [a,b]) Y=.ok .fr (.lst [x,y]):=by show j4 (aQ (evE W a Y) (aQ (evE W b Y) (.ok [])))=_;rw[f,d];rfl
theorem note1(k:Nat)(c:Int)(W:zs.length=8):∃d,okR zs d/\d ≠ .tup []/\bdR (10 ^ 40) d/\(Wk (k+2)).Φ "_law_note" [.int 1,.int c,.lst (zs.map .str)]=okf d:=by
 have K:=aG2 (P:=zs) (by lia)
 have r:∀v:Int,∃z∈zs,atI (zs.map D.str) (v % 8)=some (.str z):=λv=>by exists d,hd,ed,wQ (zs.map D.str) v 8 (by rw[aY4,W];rfl) (by decide);exists z,r,rfl,a2O.mp hd;exact#[z,r,ed]
 exists a,F,e1,r c;exists l,E,e2,r (c / 32);have n3:0<=c / 256 % 3/\c / 256 % 3<3:=by lia
 have f1:Fc zs (kyS a,1):=#[#[a,F,rfl],Int.one_pos];have f2:Fc zs (kyS l,1+c / 256 % 3):=#[#[l,E,rfl],by show 0<1+c / 256 % 3;lia]
 have o:okR zs (rD [(kyS a,1)]):=#[_,rfl,nrm1 _,λt f=>by rw[a07.mp f];exact f1]
 have B:okR zs (rD [(kyS l,1+c / 256 % 3)]):=#[_,rfl,nrm1 _,λt f=>by rw[a07.mp f];exact f2]
 have N:rD [(kyS a,1)] ≠ .tup []:=λz=>by injection z with z;cases z
 have G:bdR 1 (rD [(kyS a,1)]):=#[_,rfl,λt f=>by rw[a07.mp f];exact Int.le_refl _]
 have b2:bdR 3 (rD [(kyS l,1+c / 256 % 3)]):=#[_,rfl,λt f=>by rw[a07.mp f];show 1+c / 256 % 3<=3;lia]
 have i1:=fO (m:=.fz) (m':=.fz) e1;have V:=fO (m:=.fz) (m':=.fz) e2;have S:evS (Wk (k+1)) (.set 3 (.tup [(.tup [(.ix v2 (.bin .Mod v1 (.int 8)))]),(.tup []),(.int 1)])) [sf (.int 1),sf (.int c),sf (.lst (zs.map .str)),none]=.nx [sf (.int 1),sf (.int c),sf (.lst (zs.map .str)),sf (tD (kyS a,1))]:=by rw[tD_S];generalize zs.map D.str=Z at *;simp[i1,tup0,tup1,iW]
 have pre:evS (Wk (k+1)) (.ite (.cmp .Eq v0 (.int 0)) [.ret (.bin .Add (.int 1) (.bin .Mod v1 (.bin .Pow (.int 10) (.int 40))))] []) [sf (.int 1),sf (.int c),sf (.lst (zs.map .str)),none]=.nx [sf (.int 1),sf (.int c),sf (.lst (zs.map .str)),none]:=bG (m:=.fz) (by rfl) rfl
 cases q:(c / 8 % 4==1)with
 |true =>
  refine#[plR (rD [(kyS a,1)]) (rD [(kyS l,1+c / 256 % 3)]),K.okp _ _ o B,K.nz _ _ o B N,K.bdm _ _ _ (by decide) (K.bdp 1 3 _ _ (by decide) (by decide) o B G b2),?_]
  rw[gI];refine ent (d:=rK) rfl rfl ?_;show evB (Wk (k+1)) mO [sf (.int 1),sf (.int c),sf (.lst (zs.map .str)),none]=_;have L:=eZ (aGY k (P:=zs) (X:=[(kyS a,1)]++[(kyS l,1+c / 256 % 3)]) (λt f=>by
   rcases aXW.mp f with h|h
   . rw[a07.mp h];exact f1
   . rw[a07.mp h];exact f2) (by show 2<64;lia))
  have ev:evE (Wk (k+1)) (.tup [(.tup [(.ix v2 (.bin .Mod (.bin .FloorDiv v1 (.int 32)) (.int 8)))]),(.tup []),(.frz (.bin .Add (.int 1) (.bin .Mod (.bin .FloorDiv v1 (.int 256)) (.int 3))))]) [sf (.int 1),sf (.int c),sf (.lst (zs.map .str)),sf (tD (kyS a,1))]=okf (tD (kyS l,1+c / 256 % 3)):=by rw[tD_S l];generalize zs.map D.str=Z at *;generalize tD (kyS a,1)=T at *;simp[V,tup0,tup1,iW]
  refine nxt pre (nxt S (nxr (fP (m:=.fz) (by simp[q]) (bA (c1' (jP (el2 rfl ev)) L)))))
 |false=>refine#[rD [(kyS a,1)],o,N,K.bdm _ _ _ (by decide) G,?_];refine ent (d:=rK) rfl rfl ?_;show evB (Wk (k+1)) mO [sf (.int 1),sf (.int c),sf (.lst (zs.map .str)),none]=_;unfold mO;exact nxt pre (nxt S (nxt (bG (m:=.fz) (by simp[q]) rfl) (bA rfl)))
def r9(k:Nat)(way:Int)(zs:List Str)(Ok:D->Prop)(Bd:Int->D->Prop)(No:D):Prop:=∀c:Int,∃d,Ok d/\d≠No/\Bd (10 ^ 40) d/\(Wk k).Φ "_law_note" [.int way,.int c,.lst (zs.map .str)]=okf d
section
variable{Ok:D->Prop}
abbrev Sm5(pl:D->D->D)(No:D)(way:Int)(d:Option (Bool×D))(C zs:List Str)(vs:List N)(P:List (N×D))(x6 a:Option (Bool×D)):Rho :=
 [d,sf (Tp C),sf (.int way),sf (.lst (zs.map .str)),sf (.lst (vs.map nD)),some (true,.dtn (val pl No (gaG P []))),x6,a]
theorem made1(K:KM Kd No way Ok Bd pl so)(k:Nat){C:List Str}(hC:C.length=3){vs:List N}(h3:vs.length=3)(E:∀v∈vs,LB v)(hn:r9 (k+4) way zs Ok Bd No){P:List (N×D)}(h:TR No Ok Bd 3 P.length (10 ^ 40) P)(hl:P.length<100)(c:Int)(r L:Option (Bool×D)):∃e W,TR No Ok Bd 3 (P++[e]).length (10 ^ 40) (P++[e])/\evB (Wk (k+4)) vU (Sm5 pl No way r C zs vs P (sf (.int c)) L)=.nx (Sm5 pl No way r C zs vs (P++[e]) (sf (.int c)) W):=by
 have B:∀v:Int,∃u∈vs,atI (vs.map nD) (v % 3)=some (nD u):=λv=>by exists d,hd,ed,wQ (vs.map nD) v 3 (by rw[aY4,h3];rfl) (by decide);exists u,hu,rfl,a2O.mp hd;exact#[u,hu,ed]
 exists o,m1,e1,B c;exists f,m2,e2,B (c / 3);exists a,m3,e3,B (c / 9);exists d,T,nd,bd,en,hn (c / 27);have i1:=fO (m:=.fz) (m':=.fz) e1;have i2:=fO (m:=.fz) (m':=.fz) e2;have i3:=fO (m:=.fz) (m':=.fz) e3;have S:cM 3 (.t [o,f,a]):=#[_,rfl,rfl,λv m=>by
  simp only[aXV,a2Q,a1H]at m;rcases m with rfl|rfl|rfl
  . exact E _ m1
  . exact E _ m2
  . exact E _ m3]
 have tr:TR No Ok Bd 3 (P++[(N.t [o,f,a],d)]).length (10 ^ 40) (P++[(N.t [o,f,a],d)]):=#[λe he=>by
  rcases aXW.mp he with F|F
  . exact h.each e F
  . rw[a07.mp F];exact#[S,T,nd,bd],aYC _]
 refine#[(.t [o,f,a],d),sf (.lst [nD o,nD f,nD a]),tr,?_];have s1:evS (Wk (k+4)) (.set 7 (.frz (.lst [(.ix v4 (.bin .Mod v6 (.int 3))),(.ix v4 (.bin .Mod (.bin .FloorDiv v6 (.int 3)) (.int 3))),(.ix v4 (.bin .Mod (.bin .FloorDiv v6 (.int 9)) (.int 3)))]))) (Sm5 pl No way r C zs vs P (sf (.int c)) L)=.nx (Sm5 pl No way r C zs vs P (sf (.int c)) (sf (.lst [nD o,nD f,nD a]))):=by unfold Sm5;generalize vs.map nD=V at *;generalize zs.map D.str=Z at *;generalize val pl No (gaG P [])=G at *;generalize nD o=w1 at *;generalize nD f=w2 at *;generalize nD a=w3 at *;simp[i1,i2,i3,ls3]
 have cm:=xL K k 5 (P:=P) (e:=(.t [o,f,a],d)) (h.ro (by decide)) #[S.row (by decide),T] (by lia) (Y:=Sm5 pl No way r C zs vs P (sf (.int c)) (sf (.lst [nD o,nD f,nD a]))) rfl
 have ln:evE (Wk (k+4)) (.bcall .len [v1]) (Sm5 pl No way r C zs vs P (sf (.int c)) (sf (.lst [nD o,nD f,nD a])))=okf (.int ((3:Nat):Int)):=by show Res.of (some (Md.fz,D.int ((C.map D.str).length:Int)))=_;rw[aY4,hC];rfl
 have fd:evE (Wk (k+4)) (.frz (.bin .FloorDiv v6 (.int 27))) (Sm5 pl No way r C zs vs P (sf (.int c)) (sf (.lst [nD o,nD f,nD a])))=okf (.int (c / 27)):=by unfold Sm5;simp
 exact nxt s1 (nxt (xK rfl (bN (gE (m:=.fr) (l:=[nD o,nD f,nD a]) (aF2 (ds:=[nD o,nD f,nD a]) (m':=.fz) ln))) (bN (ec3 rfl fd rfl (e9 en))) cm) rfl)
theorem aHG(K:KM Kd No way Ok Bd pl so)(k:Nat){C zs:List Str}(B:C.length=3){vs:List N}(E:vs.length=3)(r:∀v∈vs,LB v)(hn:r9 (k+4) way zs Ok Bd No)(d:Option (Bool×D)):∀(cs:List Int) (P:List (N×D)) (x6 a:Option (Bool×D)),TR No Ok Bd 3 P.length (10 ^ 40) P->P.length+cs.length<100->∃f G l,TR No Ok Bd 3 (P.length+cs.length) (10 ^ 40) f/\bV (aO (.nm 6)) (evB (Wk (k+4)) vU) (cs.map .int) (Sm5 pl No way d C zs vs P x6 a)=.nx (Sm5 pl No way d C zs vs f G l)|[],P,x6,a,h,o=>#[P,x6,a,h,rfl]|c::cs,P,x6,a,h,o=>by have o:P.length+(cs.length+1)<100:=o;exists e,l,t,L,made1 K k B E r hn h (by lia) c d a;exists f,F,Z,t',S,aHG K k B E r hn d cs (P++[e]) (sf (.int c)) l t (by rw[aY3,aZV];lia);refine#[f,F,Z,?_,by exact Eq.trans (rO rfl L) S];(have:(P++[e]).length+cs.length=P.length+(c::cs).length:=by rw[aY3,aZV,aZX];lia);rw[<- this];exact t'
theorem aHH(K:KM Kd No way Ok Bd pl so)(k:Nat){C:List Str}(l:C.length=3){vs:List N}(o:vs.length=3)(a:∀v∈vs,LB v)(hn:r9 (k+4) way zs Ok Bd No)(D:cs.length<=20):∃P,TR No Ok Bd 3 20 (10 ^ 40) P/\(Wk (k+5)).Φ "_law_made" [.lst (cs.map .int),Tp C,.int way,.lst (zs.map .str),.lst (vs.map nD)]=okf (Tb C (cG pl No P)):=by
 exists P,B,r,t,e,aHG K k l o a hn (sf (.lst (cs.map .int))) cs [] none none #[λe h=>(nomatch h),aYC _] (by show 0+cs.length<100;lia)
 have T:TR No Ok Bd 3 20 (10 ^ 40) P:=#[t.each,by have:=t.len;have:P.length<=0+cs.length:=this;lia]
 refine#[P,T,?_];have h:=T.ro (by decide)
 have g:=kY h;have so:=aHF (k+1) (V:=val pl No (gaG P [])) (c:=Tp C) (λe f=>by
  exists ne,_,(jR h (k:=e.1) (d:=e.2)).mp f;exists d,hd,oO ne
  exact(h _ hd).1) (r8 h) (by unfold val;rw[aY4];have:=g.len;have:=T.len;lia)
 refine ent (d:=aEZ) rfl rfl ?_;show evB (Wk (k+4)) aD2 [sf (.lst (cs.map .int)),sf (Tp C),sf (.int way),sf (.lst (zs.map .str)),sf (.lst (vs.map nD)),none,none,none]=_;exact nxt rfl (nxt e (nxt rfl (bA (dI so))))
end
def oP:N->List N|.t vs=>vs|_=>[]
def sub(ps:List Nat)(k:N):N:=.t (ps.map λi=>(oP k).getD i (.i 0))
def sdN:N->Int|.i n=>if 0<n then n else 0|_=>0
def sdA(a:Nat)(k:N):Int:=sdN ((oP k).getD a (.i 0))
theorem cM.at{w:Nat}{k:N}(h:cM w k)(hi:i<w):∃v,LB v/\(oP k).getD i (.i 0)=v/\∀m m':Md,op2 ixD (.ok m (nD k)) (.ok m' (.int (i:Int)))=okf (nD v):=by(exists vs,rfl,f,d,h.ex;have a:i<vs.length:=by lia);refine#[vs[i],d _ (a24 a),by show vs.getD i (.i 0)=_;simp[a],λm m'=>?_];rw[nD,fH];exact dS (cY (by rw[aY1,a0T a];rfl))
theorem cM.sub{w:Nat}{k:N}(h:cM w k){ps:List Nat}(hp:∀i∈ps,i<w):cM ps.length (sub ps k) :=
 #[_,rfl,aY4 _,λv a=>by
  exists i,f,rfl,a2O.mp a;exists u,d,e,_,h.at (hp i f);rw[e];exact d]
def sC(n:Int):sdN (.i n)=if 0<n then n else 0:=rfl
theorem sD{v:N}(h:LB v):0<=sdN v/\sdN v<=10 ^ 51:=by(have z:(0:Int)<=0/\(0:Int)<=10 ^ 51:=by decide);cases v with|i n=>have:=h.2 n rfl;show 0<=(if 0<n then n else 0)/\(if 0<n then n else 0)<=10 ^ 51;by_cases q:0<n;{rw[al q];exact#[by lia,this]};rw[aK q];exact z|s x|t ks=>exact z
abbrev cN(ps:List Nat):List D:=ps.map λ(i:Nat)=>.int (i:Int)
theorem aHI{W:WD}{k:N}{w:Nat}(h:cM w k){ps:List Nat}(hp:∀i∈ps,i<w)(f:ps.length<=10){m:Md}(d:bZ aE Y=[sf (nD k)]):bO (.ok m (.lst (cN ps))) Y aE 1 (aO (.nm 1)) (λY=>evF W [] Y) (λY=>evE W (.ix v0 v1) Y)=.ok .fr (.lst (nDL ((ps.map λi=>(oP k).getD i (.i 0))))):=by have Z:sizeLine=16777216:=aYH;rw[fH,a2D];refine gD (enc:=λi:Nat=>D.int (i:Int)) (λi=>nD ((oP k).getD i (.i 0))) (by lia) λi a=>?_;exists v,_,e,ix,h.at (hp i a);refine#[[sf (nD k),sf (.int (i:Int))],.fz,by rw[d];rfl,rfl,.fz,?_];show aI (op2 ixD (okf (nD k)) (okf (.int (i:Int))))=_;rw[ix,e];rfl
def aW3{W:WD}{k:N}{w:Nat}(h:cM w k){ps:List Nat}(hp:∀i∈ps,i<w)(a:ps.length<=10){m:Md}{it:E}(hi:evE W it Y=.ok m (.lst (cN ps)))(d:bZ aE Y=[sf (nD k)]):evE W (.frz (.tcall .tuple [(.comp (.ix v0 v1) it [] aE (.nm 1) 1)])) Y=okf (nD (sub ps k)):=by rw[sub,nD];exact bN (gE (m:=.fr) (by rw[eY,hi];exact aHI h hp a d))
section
variable{Ok:D->Prop}
abbrev L6(pl:D->D->D)(No:D)(way:Int)(d x1:Option (Bool×D))(P:List (N×D))(x4 a:Option (Bool×D)):Rho :=
 [d,x1,sf (.int way),some (true,.dtn (val pl No (gaG P []))),x4,a]
theorem xM(K:KM Kd No way Ok Bd pl so)(k:Nat)(d x1:Option (Bool×D)):∀(R P:List (N×D)) (x4 a:Option (Bool×D)),(∀e∈R,Row e.1/\Ok e.2)->(∀e∈P,Row e.1/\Ok e.2)->P.length+R.length<1000->∃l f,bV (aO (.tp [.nm 4,.nm 5])) (evB (Wk (k+4)) aDU) (R.map enc) (L6 pl No way d x1 P x4 a)=.nx (L6 pl No way d x1 (P++R) l f)
 |[],P,x4,a,_,_,_=>#[x4,a,by rw[aYR];rfl]|e::R,P,x4,a,h,F,B=>by
  have B:P.length+(R.length+1)<1000:=B;have E:=h e mcs;have cm:=xL K k 3 (P:=P) (e:=e) F E (by lia) (Y:=L6 pl No way d x1 P (sf (nD e.1)) (sf e.2)) rfl
  exists l,f,G,xM K k d x1 R (P++[e]) (sf (nD e.1)) (sf e.2) (λu o=>h u (mcm o)) (λu o=>by
   rcases aXW.mp o with r|r
   . exact F u r
   . rw[a07.mp r];exact E) (by rw[aY3,aZV];lia)
  refine#[l,f,?_];exact Eq.trans (rO rfl (nxt (xK rfl rfl rfl cm) rfl)) (G.trans (by rw[a1S];rfl))
theorem aHJ(k:Nat){P:List (N×D)}{c:D}(h:∀e∈P,Row e.1/\Ok e.2)(f:P.length<=60):(Wk (k+3)).Φ "_law_sorted" [.dtf (val pl No (gaG P [])),c]=okf (.tup [c,.tup ((cG pl No P).map enc)]):=by
 have g:=kY h;exact aHF k (V:=val pl No (gaG P [])) (c:=c) (λe a=>by
  exists ne,_,(jR h (k:=e.1) (d:=e.2)).mp a;exists d,hd,oO ne
  exact(h _ hd).1) (r8 h) (by unfold val;rw[aY4];have:=g.len;lia)
theorem aW4(K:KM Kd No way Ok Bd pl so)(k:Nat){C:List Str}{R2:List (N×D)}(f:∀e∈R1,Row e.1/\Ok e.2)(l:∀e∈R2,Row e.1/\Ok e.2)(B:R1.length+R2.length<=60):(Wk (k+5)).Φ "_law_poured" [Tb C R1,Tb C R2,.int way]=okf (Tb C (cG pl No (R1++R2))):=by have a:∀e∈R1++R2,Row e.1/\Ok e.2:=λe E=>(aXW.mp E).elim (f e) (l e);exists r,o,G,xM K k (sf (Tb C R1)) (sf (Tb C R2)) R1 [] none none f (λe h=>(nomatch h)) (by show 0+R1.length<1000;lia);exists L,Z,F,xM K k (sf (Tb C R1)) (sf (Tb C R2)) R2 ([]++R1) r o l f (by show R1.length+R2.length<1000;lia);refine ent (d:=aE0) rfl rfl ?_;show evB (Wk (k+4)) aD3 [sf (Tb C R1),sf (Tb C R2),sf (.int way),none,none,none]=_;exact nxt rfl (nxt G (nxt F (nxt rfl (bA (dI (aHJ (No:=No) (pl:=pl) (k+1) (P:=R1++R2) (c:=Tp C) a (by rw[aY3];exact B)))))))
def tot(so:Int->D->D)(a:Nat)(ps:List Nat)(e:N×D):N×D:=(sub ps e.1,so (sdA a e.1) e.2)
abbrev L7(pl:D->D->D)(No:D)(way:Int)(f:Option (Bool×D))(a:Nat)(ps:List Nat)(P:List (N×D))(d x6:Option (Bool×D)):Rho :=
 [f,sf (.int (a:Int)),sf (.lst (cN ps)),sf (.int way),some (true,.dtn (val pl No (gaG P []))),d,x6]
theorem tot1(K:KM Kd No way Ok Bd pl so)(k:Nat)(f:Option (Bool×D)){w a:Nat}(hw:w<=10)(ha:a<w){ps:List Nat}(hp:∀i∈ps,i<w)(B:ps.length<=10){P:List (N×D)}(W:∀e∈P,Row e.1/\Ok e.2)(T:P.length<1000){e:N×D}(V:cM w e.1/\Ok e.2/\e.2≠No/\Bd (10 ^ 45) e.2):evB (Wk (k+4)) vW (L7 pl No way f a ps P (sf (nD e.1)) (sf e.2))=.nx (L7 pl No way f a ps (P++[tot so a ps e].filter λe=>!eqB e.2 No) (sf (nD e.1)) (sf e.2)):=by
 exists r,o,ne,Z,V;exists v,l,ev,ix,r.at ha;have S:sdA a e.1=sdN v:=by unfold sdA;rw[ev]
 have F:=sD l;have d:=ix .fz .fz;by_cases hs:0<sdN v
 . obtain⟨n,rfl⟩:∃n,v=.i n:=by
     cases v with|i n=>exact#[n,rfl]|s x|t ks=>exact absurd hs (by show ¬ (0:Int)<0;lia)
   have hn:0<n/\sdN (.i n)=n:=by by_cases q:0<n;{exact#[q,by rw[sC,al q]]};exact absurd hs (by rw[sC,aK q];lia)
   have os:=K.oks n e.2 (by lia) o
   have nz:=K.son n e.2 hn.1 o ne;have E:([tot so a ps e].filter λe=>!eqB e.2 No)=[(sub ps e.1,so n e.2)]:=by unfold tot;rw[S,hn.2];refine a3F ?_;cases q:eqB (so n e.2) No with|false=>rfl|true=>exact absurd ((K.eqn _ os).mp q) nz
   rw[E];have L:=(r.sub hp).row B;have cm:=xL K k 4 (P:=P) (e:=(sub ps e.1,so n e.2)) W #[L,os] T (Y:=L7 pl No way f a ps P (sf (nD e.1)) (sf e.2)) rfl;have ls:=K.lso (k+3) n e.2 hn.1 (by rw[<- hn.2];exact F.2) o Z
   have ct:evE (Wk (k+4)) (.andL [(.not (.tru (.bcall .isinstance [(.ix v5 v1),(.ty .str)]))),(.cmp .Gt (.ix v5 v1) (.int 0))]) (L7 pl No way f a ps P (sf (nD e.1)) (sf e.2))=okf (.bl true):=by unfold L7;generalize cN ps=I at *;generalize val pl No (gaG P [])=G at *;generalize nD e.1=E1 at *;have dn:=aZ8 hn.1;rw[nD]at d;simp[d,hn.1];rfl
   exact nxt (fP ct (nxt (xK rfl (aW3 r hp B rfl rfl) (bN (ec3 rfl d rfl (e9 ls))) cm) rfl)) rfl
 . (have z0:sdN v=0:=by lia);(have E:([tot so a ps e].filter λe=>!eqB e.2 No)=[]:=by unfold tot;rw[S,z0,K.so0];have:eqB No No=true:=(K.eqn No K.okn).mpr rfl;exact a3G (by simp[this]));(rw[E,aYR];have ct:evE (Wk (k+4)) (.andL [(.not (.tru (.bcall .isinstance [(.ix v5 v1),(.ty .str)]))),(.cmp .Gt (.ix v5 v1) (.int 0))]) (L7 pl No way f a ps P (sf (nD e.1)) (sf e.2))=okf (.bl false):=by unfold L7;generalize cN ps=I at *;generalize val pl No (gaG P [])=G at *;generalize nD e.1=E1 at *;cases l.1 with|i n=>have hn:¬ 0<n:=λq=>hs (by rw[sC,al q];exact q);rw[nD]at d;simp[d,hn];rfl|s x=>rw[nD]at d;simp[d];rfl);exact nxt (bG ct rfl) rfl
theorem totL(K:KM Kd No way Ok Bd pl so)(k:Nat)(f:Option (Bool×D)){w a:Nat}(L:w<=10)(ha:a<w){ps:List Nat}(hp:∀i∈ps,i<w)(E:ps.length<=10):∀(R P:List (N×D)) (d x6:Option (Bool×D)),(∀e∈P,Row e.1/\Ok e.2)->(∀e∈R,cM w e.1/\Ok e.2/\e.2≠No/\Bd (10 ^ 45) e.2)->P.length+R.length<1000->∃r o,bV (aO (.tp [.nm 5,.nm 6])) (evB (Wk (k+4)) vW) (R.map enc) (L7 pl No way f a ps P d x6)=.nx (L7 pl No way f a ps (P++(R.map (tot so a ps)).filter λe=>!eqB e.2 No) r o)|[],P,d,x6,_,_,_=>#[d,x6,by show bV _ _ [] _=.nx (L7 pl No way f a ps (P++[]) d x6);rw[aYR];rfl]|e::R,P,d,x6,T,h,S=>by have S:P.length+(R.length+1)<1000:=S;have l:=h e mcs;have V:=tot1 K k f L ha hp E T (by lia) l;(have F:∀u∈P++[tot so a ps e].filter (λe=>!eqB e.2 No),Row u.1/\Ok u.2:=λu B=>by rcases aXW.mp B with G|G;{exact T u G};have:=a07.mp (aXP.mp G).1;rw[this];exists v,W,ev,_,l.1.at ha;exact#[(l.1.sub hp).row E,K.oks _ _ (by unfold sdA;rw[ev];exact(sD W).1) l.2.1]);(have l1:([tot so a ps e].filter λe=>!eqB e.2 No).length<=1:=by have:=a28 (λe:N×D=>!eqB e.2 No) [tot so a ps e];exact this);exists r,o,Z,totL K k f L ha hp E R (P++[tot so a ps e].filter λe=>!eqB e.2 No) (sf (nD e.1)) (sf e.2) F (λu B=>h u (mcm B)) (by rw[aY3];lia);refine#[r,o,?_];refine Eq.trans (rO rfl V) (Z.trans ?_);rw[aZZ,show tot so a ps e::R.map (tot so a ps)=[tot so a ps e]++R.map (tot so a ps)from rfl,List.filter_append,a1S]
abbrev hds(C:List Str)(ps:List Nat):List Str:=ps.map λi=>C.getD i ""
def sH(K:KM Kd No way Ok Bd pl so){w a:Nat}(ha:a<w){ps:List Nat}(hp:∀i∈ps,i<w)(o:ps.length<=10)(h:∀e∈R,cM w e.1/\Ok e.2/\e.2≠No/\Bd (10 ^ 45) e.2):∀e∈R.map (tot so a ps),Row e.1/\Ok e.2:=λu f=>by exists e,d,rfl,a2O.mp f;have d:=h e d;exists v,l,ev,_,d.1.at ha;exact#[(d.1.sub hp).row o,K.oks _ _ (by unfold sdA;rw[ev];exact(sD l).1) d.2.1]
theorem aHK(K:KM Kd No way Ok Bd pl so)(k:Nat){C:List Str}{a:Nat}(o:C.length<=10)(ha:a<C.length){ps:List Nat}(hp:∀i∈ps,i<C.length)(l:ps.length<=10)(h:∀e∈R,cM C.length e.1/\Ok e.2/\e.2≠No/\Bd (10 ^ 45) e.2)(G:R.length<=60):(Wk (k+5)).Φ "_law_totals" [Tb C R,.int (a:Int),.lst (cN ps),.int way]=okf (Tb (hds C ps) (cG pl No ((R.map (tot so a ps)).filter λe=>!eqB e.2 No))):=by have Z:sizeLine=16777216:=aYH;exists F,B,E,totL K k (sf (Tb C R)) o ha hp l R [] none none (λe h=>(nomatch h)) h (by show 0+R.length<1000;lia);(rw[a0J]at E;have ro:∀e∈(R.map (tot so a ps)).filter (λe=>!eqB e.2 No),Row e.1/\Ok e.2:=λe r=>sH K ha hp l h e (aXP.mp r).1;have L:((R.map (tot so a ps)).filter λe=>!eqB e.2 No).length<=60:=by have:=a28 (λe:N×D=>!eqB e.2 No) (R.map (tot so a ps));rw[aY4]at this;lia);have sn:=aHJ (No:=No) (pl:=pl) (k+1) (P:=(R.map (tot so a ps)).filter λe=>!eqB e.2 No) (c:=Tp (hds C ps)) ro L;refine ent (d:=aE1) rfl rfl ?_;show evB (Wk (k+4)) aD4 [sf (Tb C R),sf (.int (a:Int)),sf (.lst (cN ps)),sf (.int way),none,none,none]=_;generalize S:(R.map (tot so a ps)).filter (λe=>!eqB e.2 No)=Q at *;refine nxt rfl (nxt E (nxt rfl (bA (ec2 rfl (bN (gE (m:=.fr) ?_)) (dI sn)))));show bO (okf (.lst (cN ps))) _ [0] 1 (aO (.nm 1)) (λY=>evF (Wk (k+4)) [] Y) (λY=>evE (Wk (k+4)) (.ix (.ix v0 (.int 0)) v1) Y)=.ok .fr (.lst ((hds C ps).map .str));unfold hds;rw[a2D];refine gD (enc:=λi:Nat=>D.int (i:Int)) (λi=>D.str (C.getD i "")) (by lia) λi f=>?_;(refine#[[sf (Tb C R),sf (.int (i:Int))],.fz,rfl,rfl,.fz,?_];show aI (op2 ixD (op2 ixD (okf (Tb C R)) (okf (.int 0))) (okf (.int (i:Int))))=_;rw[i0,rR (hp i f)];have:C.getD i ""=C[i]'(hp i f):=by simp[hp i f]);rw[this];rfl
end
def said_(k:Nat){v:N}(h:cW v):(Wk (k+2)).Φ "said" [nD v]=okf (.int (sdN v)):=by refine ent (d:=aEQ) rfl rfl ?_;cases h with|i n=>rw[nD,sC];have w:∀{b:Bool},decide (0<n)=b->evE (Wk (k+1)) (.andL [(.tru (.call "is_whole" 1 [v0])),(.cmp .Gt v0 (.int 0))]) [sf (.int n)]=okf (.bl b):=λe=>aFD (congrArg fT (eZ (aFA k n))) (by rw[<- e];rfl);by_cases q:0<n;{rw[al q];exact nxr (fP (w (aZ8 q)) rfl)};rw[aK q];exact nxt (bG (w (aXH q)) rfl) rfl|s x=>have w:=eZ (dA k (d:=.str x) (a:=false) (b:=false) rfl rfl);refine nxt (bG (m:=.fz) ?_ rfl) rfl;rw[vI,qX];exact congrArg (λr=>eP (fT r) _) w
theorem aHL:∀{C:List Str}{i:Nat} (hi:i<C.length),C.Nodup->(C.map D.str).findIdx? (λz=>eqD z (.str C[i]))=some i|z::C,0,_,_=>by rw[aZZ,a08];show(if eqD (.str z) (.str z)=true then _ else _)=_;rw[al (by show(z==z)=true;exact a0Y z)]|z::C,i+1,hi,nd=>by(rw[aYT]at nd;have a:i<C.length:=by simpa using hi);rw[aZZ,a08];show(if eqD (.str z) (.str C[i])=true then _ else _)=_;have:(z==C[i])=false:=aXI.mpr λe=>nd.1 (e ▸ a24 a);rw[aK (by show ¬ (z==C[i])=true;rw[this];decide)];exact congrArg (Option.map λi=>i+1) (aHL a nd.2)
def aHM{C:List Str}(nd:C.Nodup)(hi:i<C.length){m:Md}:lT (.ok m (Tp C)) (.ok m' (.str C[i]))=okf (.int (i:Int)):=by(show(if(bY (.str C[i])&&(C.map D.str).all bY)=true then(match(C.map D.str).findIdx? (λz=>eqD z (.str C[i]))with|some j=>Res.ok .fz (.int (j:Nat))|none=>.stuck)else .stuck)=_);rw[al (by rw[xA];rfl),aHL hi nd]
def oQ{C:List Str}(hi:i<C.length):C.getD i ""=C[i]:=by simp[hi]
theorem aW5(k:Nat){C:List Str}(nd:C.Nodup){ps:List Nat}(hp:∀i∈ps,i<C.length)(f:ps.length<=10):(Wk (k+1)).Φ "places_of" [Tp (hds C ps),Tp C]=.ok .fr (.lst (cN ps)):=by
 have Z:sizeLine=16777216:=aYH;refine ent (d:=aEE) rfl rfl ?_;show evB (Wk k) vY [sf (Tp (hds C ps)),sf (Tp C)]=_;unfold vY;refine rN ?_;have c:bO (okf (.lst (ps.map λi=>D.str (C.getD i "")))) [sf (Tp (hds C ps)),sf (Tp C)] [1] 1 (aO (.nm 1)) (λY=>evF (Wk k) [] Y) (λY=>evE (Wk k) (.tidx v0 v1) Y)=.ok .fr (.lst (cN ps)):=by refine gD (enc:=λi:Nat=>D.str (C.getD i "")) (λi=>D.int (i:Int)) (by lia) λi a=>?_;refine#[[sf (Tp C),sf (.str (C.getD i ""))],.fz,rfl,rfl,.fz,?_];show aI (lT (okf (Tp C)) (okf (.str (C.getD i ""))))=_;rw[oQ (hp i a),aHM nd (hp i a)];rfl
 have e:(hds C ps).map D.str=ps.map λi=>D.str (C.getD i ""):=by unfold hds;rw[a2D];rfl
 have it:evE (Wk k) (.items v0) [sf (Tp (hds C ps)),sf (Tp C)]=okf (.lst (ps.map λi=>D.str (C.getD i ""))):=by rw[<- e];rfl
 rw[eY,it];exact c
def aW6(k:Nat){r:N}{w:Nat}(h:cM w r){ps:List Nat}(hp:∀i∈ps,i<w)(a:ps.length<=10):(Wk (k+1)).Φ "values_at" [.lst (cN ps),nD r]=okf (nD (sub ps r)):=by refine ent (d:=aEF) rfl rfl ?_;show evB (Wk k) vZ [sf (.lst (cN ps)),sf (nD r)]=_;unfold vZ;rw[sub,nD];exact bA (gE (m:=.fr) (aHI (m:=.fz) h hp a rfl))
section
variable{Ok:D->Prop}
abbrev sJ(pl:D->D->D)(No:D)(P:List (N×D)):List (N×D):=dC (λe=>rkK e.1) (gG pl No P)
theorem aW7(K:KM Kd No way Ok Bd pl so)(k:Nat){A:D}{C:List Str}{R2:List (N×D)}(o:∀e∈R1,Row e.1/\Ok e.2)(l:∀e∈R2,Row e.1/\Ok e.2)(a:R1.length+R2.length<=60):(Wk (k+7)).Φ "poured_rows" [Kd,A,.lst [Tb C R1,Tb C R2]]=okf (Tb C (sJ pl No (R1++R2))):=by have Z:sizeLine=16777216:=aYH;have ca:=aDD (m:=.fz) (n:=.fz) (x:=R1.map enc) (y:=R2.map enc) (by rw[aY4,aY4];lia);rw[<- a1R]at ca;have ga:=dI (aFT K.toKO k (P:=.tup ((R1++R2).map enc)) (prs:=R1++R2) (λm=>by cases m <;> rfl) (λe f=>(aXW.mp f).elim (o e) (l e)) (by rw[aY3];exact a));refine ent (d:=aEO) rfl rfl ?_;show evB (Wk (k+6)) wA [sf Kd,sf A,sf (.lst [Tb C R1,Tb C R2])]=_;unfold wA;exact bA (iX rfl (bN (ec2 rfl (bN ca) ga)))
theorem aW8(K:KM Kd No way Ok Bd pl so)(k:Nat){x:D}{C:List Str}(nd:C.Nodup){a:Nat}(hw:C.length<=10)(ha:a<C.length){ps:List Nat}(hp:∀i∈ps,i<C.length)(l:ps.length<=10)(h:∀e∈R,cM C.length e.1/\Ok e.2/\e.2≠No/\Bd (10 ^ 45) e.2)(G:R.length<=60):(Wk (k+7)).Φ "totals" [Kd,.tup [.str "total",x,.str C[a],Tp (hds C ps)],.lst [Tb C R]]=okf (Tb (hds C ps) (sJ pl No (R.map (tot so a ps)))):=by
 have Z:sizeLine=16777216:=aYH;have ga:=dI (aFT K.toKO k (P:=.lst ((R.map (tot so a ps)).map enc)) (prs:=R.map (tot so a ps)) (λm=>by cases m <;> rfl) (sH K ha hp l h) (by rw[aY4];exact G))
 generalize o:D.tup [.str "total",x,.str C[a],Tp (hds C ps)]=A;have W:op2 ixD (okf A) (okf (.int 2))=okf (.str C[a]):=by rw[<- o];exact f2
 have B:op2 ixD (okf A) (okf (.int 3))=okf (Tp (hds C ps)):=by rw[<- o];exact f3
 have cm:∀Y:Rho,bZ [6,0,5] Y=[sf (.lst (cN ps)),sf Kd,sf (.int (a:Int))]->bO (okf (.lst (R.map enc))) Y [6,0,5] 2 (aO (.tp [(.nm 3),(.nm 4)])) (λY=>evF (Wk (k+6)) [] Y) (λY=>evE (Wk (k+6)) (.tup [(.frz (.call "values_at" 2 [v0,v3])),(.frz (.meth v1 "many" [(.frz (.call "said" 1 [(.ix v3 v2)])),v4]))]) Y)=.ok .fr (.lst ((R.map (tot so a ps)).map enc)):=λY f=>by rw[a2D];refine gD (enc:=enc) (λe=>enc (tot so a ps e)) (by lia) λe N=>?_;exists r,E,ne,T,h e N;exists v,L,ev,ix,r.at ha;have S:=sD L;have V:=dI (aW6 (k+5) r hp l);have sa:=eZ (said_ (k+4) L.1);have F:=K.many (k+3) (sdN v) e.2 S.1 S.2 E T;refine#[[sf (.lst (cN ps)),sf Kd,sf (.int (a:Int)),sf (nD e.1),sf e.2],.fz,by rw[f];rfl,rfl,.fz,?_];(show aI (dO (aQ (aI (aV 2 ((Wk (k+6)).Φ "values_at") (.ok [(.fz,.lst (cN ps)),(.fz,nD e.1)]))) (aQ (aI (fD TT.cl (Wk (k+6)).Φ "many" (okf Kd) (aQ (aI (aV 1 ((Wk (k+6)).Φ "said") (aQ (op2 ixD (okf (nD e.1)) (okf (.int (a:Int)))) (.ok [])))) (aQ (okf e.2) (.ok []))))) (.ok []))))=_;rw[V,ix];show aI (dO (aQ (okf (nD (sub ps e.1))) (aQ (aI (fD TT.cl (Wk (k+6)).Φ "many" (okf Kd) (aQ (aI (aV 1 ((Wk (k+6)).Φ "said") (.ok [(.fz,nD v)]))) (.ok [(.fz,e.2)])))) (.ok []))))=_;rw[sa];show aI (dO (aQ (okf (nD (sub ps e.1))) (aQ (aI (fD TT.cl (Wk (k+6)).Φ "many" (okf Kd) (.ok [(.fz,.int (sdN v)),(.fz,e.2)]))) (.ok []))))=_;rw[F];have:sdA a e.1=sdN v:=by unfold sdA;rw[ev]);unfold tot;rw[this];rfl
 refine ent (d:=aEP) rfl rfl ?_;show evB (Wk (k+6)) wB [sf Kd,sf A,sf (.lst [Tb C R]),none,none,none,none,none]=_;unfold wB;refine nxt rfl (nxt (dB (bN (Eq.trans (congrArg (lT _) W) (aHM nd ha)))) (nxt (dB (jP (ec2 B rfl (oE (aW5 (k+5) nd hp l))))) (nxt (ρ':=[sf Kd,sf A,sf (.lst [Tb C R]),sf (Tp C),sf (.tup (R.map enc)),sf (.int (a:Int)),sf (.lst (cN ps)),sf (.lst ((R.map (tot so a ps)).map enc))]) (by rw[qZ,eY];erw [cm _ rfl];rfl) (bA (iX B (bN (ec2 rfl rfl ga)))))))
end
def xN{w:Str}{d:D}(h:bR M (.inr w)=some d){m:Md}:op2 ixK (.ok m (.dcf M)) (.ok m' (.str w))=okf d:=bJ (by
 show(bR M (.inr w)).map _=_;rw[h];rfl)
abbrev Mp(a b:Str)(x y:D):List (Key×D):=[(.inr a,x),(.inr b,y)]
def mW{a b:Str}{x:D}:bR (Mp a b x y) (.inr a)=some x:=by simp[bR,aZW]
def sK{a b:Str}(h:a≠b){x:D}:bR (Mp a b x y) (.inr b)=some y:=by simp[bR,aZW,h]
def xO(k:Nat){w:Str}{d:D}(h:bR M (.inr w)=some d):(Wk (k+1)).Φ "answered" [Kd,.tup [.str "table",.str w],.dcf M]=okf d:=by refine ent (d:=wL) rfl rfl ?_;show evB (Wk k) rH [sf Kd,sf (.tup [.str "table",.str w]),sf (.dcf M)]=_;simp[rH,i0,i1,xN h]
def sL:List (Str×Str):=[("pick","picked"),("keep","kept_rows"),("call","called_rows"),("join","joined"),("pour","poured_rows"),("total","totals"),("leave","left_out")]
def afs:List Str:=["picked","kept_rows","called_rows","joined","poured_rows","totals","left_out"]
theorem aHN{W:WD}{Kd S:D}:∀(U ys:List D),U.length=ys.length->(∀(i:Nat) (h:i<U.length) (h':i<ys.length),W.Φ "answered" [Kd,U[i],S]=okf ys[i])->eC (aO (.nm 2)) (λY=>evF W [] Y) (λY=>evE W (.call "answered" 3 [v0,v2,v1]) Y) [sf Kd,sf S,none] U=some ys|[],[],_,_=>rfl|[],_::_,h,_|_::_,[],h,_=>by simp at h|x::U,y::ys,h,q=>by have d:=aHN (W:=W) (Kd:=Kd) (S:=S) U ys (by simpa using h) λi l f=>q (i+1) (by simpa using l) (by simpa using f);have k:aO (.nm 2) x [sf Kd,sf S,none]=some [sf Kd,sf S,sf x]:=rfl;have a:W.Φ "answered" [Kd,x,S]=okf y:=q 0 (by simp) (by simp);have e:evE W (.call "answered" 3 [v0,v2,v1]) [sf Kd,sf S,sf x]=okf y:=ec3 rfl rfl rfl (e9 a);rw[eC,k];dsimp only;rw[aC4];dsimp only;rw[e,d];rfl
def aHO(k:Nat){A S r:D}{w f:Str}{U ys:List D}(l:op2 ixD (okf A) (okf (.int 0))=okf (.str w))(o:(w==Str.ofString "table")=false)(hf:sL.lookup w=some f)(a:afs.contains f=true)(hx:(Wk (k+1)).Φ "askings_within" [A]=okf (.tup U))(G:U.length=ys.length)(hs:U.length<sizeLine)(F:∀(i:Nat) (h:i<U.length) (h':i<ys.length),(Wk (k+1)).Φ "answered" [Kd,U[i],S]=okf ys[i])(E:(Wk k).Φ f [Kd,A,.lst ys]=okf r):(Wk (k+2)).Φ "answered" [Kd,A,S]=okf r:=by
 have B:(Wk (k+1)).Φ "answered_by" [Kd,A,.lst ys]=okf r:=by(have cr:aV 3 ((Wk k).Φ f) (.ok [(.fz,Kd),(.fz,A),(.fz,.lst ys)])=okf r:=e9 E;refine ent (d:=aEN) rfl rfl ?_;show evB (Wk k) [.set 3 (.deed "DEEDS_asking" sL (.ix v1 (.int 0))),.ret (.callv 3 afs 3 [v0,v1,v2])] [sf Kd,sf A,sf (.lst ys),none]=_;generalize Wk k=W at *;refine nxt (dB (Eq.trans (congrArg (kA sL) l) (show(match sL.lookup w with|some f=>Res.ok .fz (.fn f)|none=>.stuck)=_ by rw[hf]))) (bA ?_));show(if afs.contains f=true then aV 3 (W.Φ f) (.ok [(.fz,Kd),(.fz,A),(.fz,.lst ys)])else .stuck)=_;rw[al a,cr]
 have N:aV 1 ((Wk (k+1)).Φ "askings_within") (.ok [(.fz,A)])=okf (.tup U):=eZ hx;have T:aV 3 ((Wk (k+1)).Φ "answered_by") (.ok [(.fz,Kd),(.fz,A),(.fz,.lst ys)])=okf r:=e9 B;have cl:=aHN (W:=Wk (k+1)) (Kd:=Kd) (S:=S) U ys G F;refine ent (d:=wL) rfl rfl ?_;show evB (Wk (k+1)) rH [sf Kd,sf A,sf S]=_;generalize Wk (k+1)=W at *;have K:evE W (.items (.call "askings_within" 1 [v1])) [sf Kd,sf A,sf S]=okf (.lst U):=by simp[N]
 have L:bO (okf (.lst U)) [sf Kd,sf A,sf S] [0,2] 1 (aO (.nm 2)) (λY=>evF W [] Y) (λY=>evE W (.call "answered" 3 [v0,v2,v1]) Y)=.ok .fr (.lst ys):=by(show(if U.length<sizeLine then(match eC (aO (.nm 2)) (λY=>evF W [] Y) (λY=>evE W (.call "answered" 3 [v0,v2,v1]) Y) [sf Kd,sf S,none] U with|some ys=>Res.ok .fr (.lst ys)|none=>.stuck)else .stuck)=_);rw[al hs,cl]
 exact nxt (bG (m:=.fz) (by simp[l,o]) rfl) (bA (ec3 rfl rfl (jP (by rw[eY,K];exact L)) T))
def xP(k:Nat){A c r:D}{a b:Str}(f:a≠b)(B:fW (.inr a)=true)(kb:fW (.inr b)=true){C:List Str}{R2:List (N×D)}(F:(Wk k).Φ "columns_of" [A,.dct (Mp a b (Tp C) (Tp C))]=okf c)(E:(Wk k).Φ "answered" [Kd,A,.dcf (Mp a b (Tb C R1) (Tb C R2))]=okf r):(Wk (k+1)).Φ "ask" [Kd,A,.dcf (Mp a b (Tb C R1) (Tb C R2))]=okf r:=by
 have Z:sizeLine=16777216:=aYH;have T:=dI F;have cr:=e9 E;have ga:=xN (mW (a:=a) (b:=b) (x:=Tb C R1) (y:=Tb C R2)) (m:=.fz) (m':=.fz);have gb:=xN (sK f (x:=Tb C R1) (y:=Tb C R2)) (m:=.fz) (m':=.fz);refine ent (d:=aEM) rfl rfl ?_;generalize G:Mp a b (Tb C R1) (Tb C R2)=S at *;show evB (Wk k) aD0 [sf Kd,sf A,sf (.dcf S)]=_;have kk:evE (Wk k) (.kkeys v2) [sf Kd,sf A,sf (.dcf S)]=okf (.lst [.str a,.str b]):=by show l9 (okf (.dcf S))=_;rw[<- G];unfold l9;show(if(fW (.inr a)&&(fW (.inr b)&&true))=true then Res.ok .fz (.lst [.str a,.str b])else .stuck)=_;rw[B,kb];rfl
 have ca:∀{z:Str}{R:List (N×D)},op2 ixK (okf (.dcf S)) (okf (.str z))=okf (Tb C R)->evE (Wk k) (.ix (.dix v0 v1) (.int 0)) [sf (.dcf S),sf (.str z)]=okf (Tp C):=λ{z R} h=>by show op2 ixD (op2 ixK (okf (.dcf S)) (okf (.str z))) (okf (.int 0))=_;rw[h,i0]
 have dl:dcL (aO (.nm 1)) (λY=>evE (Wk k) v1 Y) (λY=>evE (Wk k) (.ix (.dix v0 v1) (.int 0)) Y) [sf (.dcf S),none] [.str a,.str b] []=some (Mp a b (Tp C) (Tp C)):=by(have o:aO (.nm 1) (.str a) [sf (.dcf S),none]=some [sf (.dcf S),sf (.str a)]:=rfl;have l:aO (.nm 1) (.str b) [sf (.dcf S),none]=some [sf (.dcf S),sf (.str b)]:=rfl;have V:∀z:Str,evE (Wk k) v1 [sf (.dcf S),sf (.str z)]=okf (.str z):=λz=>rfl;have K:∀z:Str,gK (.str z)=some (.inr z):=λz=>rfl;have fz:aI (okf (Tp C))=okf (Tp C):=rfl;have p1:fV [] (.inr a) (Tp C)=[(.inr a,Tp C)]:=rfl;have p2:fV [(.inr a,Tp C)] (.inr b) (Tp C)=Mp a b (Tp C) (Tp C):=by simp[fV,f]);rw[dcL,o];dsimp only;rw[V,ca ga,fz];dsimp only;rw[K];dsimp only;rw[al (by simp[Z]),p1,dcL,l];dsimp only;rw[V,ca gb,fz];dsimp only;rw[K];dsimp only;rw[al (by simp[Z]),p2,dcL]
 have L:evE (Wk k) (.frz (.dcomp v1 (.ix (.dix v0 v1) (.int 0)) (.kkeys v2) [2] (.nm 1) 1)) [sf Kd,sf A,sf (.dcf S)]=okf (.dct (Mp a b (Tp C) (Tp C))):=by(refine jP ?_;rw[aTS,kk];show(match dcL (aO (.nm 1)) (λY=>evE (WT TT k) v1 Y) (λY=>evE (WT TT k) (.ix (.dix v0 v1) (.int 0)) Y) [sf (.dcf S),none] [.str a,.str b] []with|some z=>Res.ok .fr (.dct z)|none=>.stuck)=_);rw[dl]
 exact nxt (ρ':=[sf Kd,sf A,sf (.dcf S)]) (by rw[aC7,ec2 rfl L T];rfl) (bA cr)
abbrev Ap(a b:Str):D:=.tup [.str "pour",.tup [.str "table",.str a],.tup [.str "table",.str b]]
abbrev At(x:D)(z:Str)(H:List Str):D:=.tup [.str "total",x,.str z,Tp H]
def aHP(k:Nat){a b:Str}(d:a≠b){C:List Str}:(Wk (k+3)).Φ "columns_of" [Ap a b,.dct (Mp a b (Tp C) (Tp C))]=okf (Tp C):=by have Z:sizeLine=16777216:=aYH;refine aF8 (k+2) (w:="pour") (f:="columns_of_pour") (U:=[.tup [.str "table",.str a],.tup [.str "table",.str b]]) (ys:=[Tp C,Tp C]) j0 (by decide) (by decide) (by decide) (aF6 (k+1) (by decide) (by decide)) rfl (by simp[Z]) (λi h h'=>?_) (aVZ (k+1));match i,h with|0,_=>exact xB k mW|1,_=>exact xB k (sK d)
def aHQ(k:Nat){x M:D}{C H:List Str}(hz:z∈C)(hn:H.Nodup)(hs:∀z∈H,z∈C)(hx:(Wk (k+4)).Φ "columns_of" [x,M]=okf (Tp C)):(Wk (k+5)).Φ "columns_of" [At x z H,M]=okf (Tp H):=by have Z:sizeLine=16777216:=aYH;refine aF8 (k+4) (w:="total") (f:="columns_of_total") (U:=[x]) (ys:=[Tp C]) f0 (by decide) (by decide) (by decide) (aF5 (k+3) f0 f1 (by decide) (by decide)) rfl (by simp[Z]) (λi h h'=>?_) (aVY k hz hn hs);match i,h with|0,_=>exact hx
section
variable{Ok:D->Prop}
def aHR(K:KM Kd No way Ok Bd pl so)(k:Nat){a b:Str}(B:a≠b){C:List Str}{R2:List (N×D)}(F:∀e∈R1,Row e.1/\Ok e.2/\e.2≠No)(E:∀e∈R2,Row e.1/\Ok e.2/\e.2≠No)(G:R1.length+R2.length<=60):(Wk (k+9)).Φ "answered" [Kd,Ap a b,.dcf (Mp a b (Tb C R1) (Tb C R2))]=okf (Tb C (cG pl No (R1++R2))):=by(have Z:sizeLine=16777216:=aYH;have pr:=aW7 K k (A:=Ap a b) (C:=C) (λe d=>#[(F e d).1,(F e d).2.1]) (λe d=>#[(E e d).1,(E e d).2.1]) G;have r:∀e∈R1++R2,Row e.1/\Ok e.2/\e.2≠No:=λe d=>(aXW.mp d).elim (F e) (E e);have sm:=same K (P:=R1++R2) λe d=>#[(r e d).1,(r e d).2.1];have fl:(R1++R2).filter (λe=>!eqB e.2 No)=R1++R2:=List.filter_eq_self.mpr λe d=>by exists _,o,n,r e d;cases q:eqB e.2 No with|false=>rfl|true=>exact absurd ((K.eqn _ o).mp q) n);rw[fl]at sm;have L:Tb C (sJ pl No (R1++R2))=Tb C (cG pl No (R1++R2)):=congrArg (λl=>D.tup [Tp C,.tup l]) sm;rw[L]at pr;refine aHO (k+7) (w:="pour") (f:="poured_rows") (U:=[.tup [.str "table",.str a],.tup [.str "table",.str b]]) (ys:=[Tb C R1,Tb C R2]) j0 (by decide) (by decide) (by decide) (aF6 (k+7) (by decide) (by decide)) rfl (by simp[Z]) (λi h h'=>?_) pr;match i,h with|0,_=>exact xO (k+7) mW|1,_=>exact xO (k+7) (sK B)
def aHS(K:KM Kd No way Ok Bd pl so)(k:Nat){x S:D}{C:List Str}(nd:C.Nodup)(d:C.length<=10)(ha:i<C.length){ps:List Nat}(hp:∀i∈ps,i<C.length)(a:ps.length<=10)(h:∀e∈R,cM C.length e.1/\Ok e.2/\e.2≠No/\Bd (10 ^ 45) e.2)(o:R.length<=60)(hx:(Wk (k+8)).Φ "answered" [Kd,x,S]=okf (Tb C R)):(Wk (k+9)).Φ "answered" [Kd,At x C[i] (hds C ps),S]=okf (Tb (hds C ps) (cG pl No ((R.map (tot so i ps)).filter λe=>!eqB e.2 No))):=by have Z:sizeLine=16777216:=aYH;have tr:=aW8 K k (x:=x) nd d ha hp a h o;have sm:=same K (P:=R.map (tot so i ps)) (sH K ha hp a h);have E:Tb (hds C ps) (sJ pl No (R.map (tot so i ps)))=Tb (hds C ps) (cG pl No ((R.map (tot so i ps)).filter λe=>!eqB e.2 No)):=congrArg (λl=>D.tup [Tp (hds C ps),.tup l]) sm;rw[E]at tr;refine aHO (k+7) (w:="total") (f:="totals") (U:=[x]) (ys:=[Tb C R]) f0 (by decide) (by decide) (by decide) (aF5 (k+7) f0 f1 (by decide) (by decide)) rfl (by simp[Z]) (λi h h'=>?_) tr;match i,h with|0,_=>exact hx
end
theorem aHT:∀(ds:List D),(∀d∈ds,∀p,aT d=some p->PyData.eqv p p=true)->∀ps,cA ds=some ps->PyData.eqvAll ps ps=true|[],_,ps,h=>by simp[cA]at h;subst h;simp[PyData.eqvAll]|d::ds,hd,ps,h=>by(have h:(match aT d,cA ds with|some p,some ps=>some (p::ps)|_,_=>none)=some ps:=by rw[cA]at h;exact h);cases e:aT d with|none=>rw[e]at h;cases h|some p=>cases E:cA ds with|none=>rw[e,E]at h;cases h|some a=>rw[e,E]at h;cases h;rw[PyData.eqvAll,hd d mcs p e,aHT ds (λx hx=>hd x (mcm hx)) a E];rfl
def aHU{d:D}(h:Pl n d):∀p,aT d=some p->PyData.eqv p p=true:=by induction h with|int b|str b=>intro p h;simp[aT]at h;subst h;simp[PyData.eqv]| @tup n ds h f a=>intro p hp;cases e:cA ds with|none=>rw[aT,e]at hp;cases hp|some ps=>rw[aT,e]at hp;cases hp;rw[PyData.eqv];exact aHT ds a ps e
theorem aW9{a b:Str}(f:a≠b){x:D}(hn:n<=40)(hx:Pl n x)(l:Pl n y){m:Md}:op2 eqC (.ok m (.dcf (Mp a b x y))) (.ok m' (.dct (Mp a b x y)))=okf (.bl true):=bJ (by
 exists p,ep,r,rM hx;exists q,eq,L,rM l;have o:eR p=true:=by unfold eR;rw[a0L];lia
 have S:eR q=true:=by unfold eR;rw[a0L];lia
 have d:=aHU hx p ep;have V:=aHU l q eq;have h:D3.fG (Mp a b x y) (Mp a b x y)=some true:=by rw[D3.fG,mW];dsimp only;rw[ep];dsimp only;rw[o,D3.fG,sK f];dsimp only;rw[eq];dsimp only;rw[S,D3.fG,d,V];rfl
 show(D3.fG (Mp a b x y) (Mp a b x y)).map _=_;rw[h];rfl)
def aHV{W:WD}{f K d V:E}{a b:Str}{x:D}(l:a≠b)(r:evE W f Y=okf (.str a))(o:evE W K Y=okf (.str b))(B:evE W d Y=okf x)(G:evE W V Y=okf y):evE W (.disp [f,K] [d,V]) Y=.ok .fr (.dct (Mp a b x y)):=by(have p1:fV [] (.inr a) x=[(.inr a,x)]:=rfl;have p2:fV [(.inr a,x)] (.inr b) y=Mp a b x y:=by simp[fV,l]);rw[aTT];show hO Y [(evE W f,evE W d),(evE W K,evE W V)] []=_;simp[hO,r,o,B,G,aI,gK,p1,p2]
def xQ{W:WD}{f a:E}{d:D}(o:evE W f Y=okf d)(l:evE W a Y=okf d)(ha:W.Φ "_law_alike" [d,d]=okf (.bl true)):evS W (.ite (.not (.tru (.call "_law_alike" 2 [f,a]))) [.ret (.bl false)] []) Y=.nx Y:=by refine bG (m:=.fz) ?_ rfl;show iZ (fT (aV 2 (W.Φ "_law_alike") (aQ (evE W f Y) (aQ (evE W a Y) (.ok [])))))=_;rw[o,l];show iZ (fT (aV 2 (W.Φ "_law_alike") (.ok [(.fz,d),(.fz,d)])))=_;rw[dI ha];rfl
def aHW(n:Nat):cC 0 (n:Int)=(List.range n).map λ(i:Nat)=>D.int (i:Int):=by unfold cC;simp
def psA(c:Int):List Nat:=(List.range (c / 18 % 4).toNat).map λ(k:Nat)=>((c / 3+(k:Int) * (1+c / 9 % 2)) % 3).toNat
theorem ps_lt(c:Int):∀i∈psA c,i<3:=λi a=>by exists k,_,rfl,a2O.mp a;lia
theorem aXA(c:Int):(psA c).length<=10:=by unfold psA;rw[aY4,a18];lia
theorem ps_nd(c:Int):(psA c).Nodup:=by
 unfold psA;refine a1M.mpr (a27 (R:=λi j=>i<j) ?_ List.pairwise_lt_range);intro i j hi hj a e;rw[aXQ]at hi hj;have hs:c / 9 % 2=0\/c / 9 % 2=1:=by lia
 have a:(i=0/\j=1)\/(i=0/\j=2)\/(i=1/\j=2):=by lia
 generalize c / 3=u at *;rcases hs with hs|hs <;> rw[hs]at e <;> rcases a with⟨rfl,rfl⟩|⟨rfl,rfl⟩|⟨rfl,rfl⟩ <;> simp at e <;> lia
def aXB{C:List Str}(nd:C.Nodup){ps:List Nat}(hp:∀i∈ps,i<C.length)(N:ps.Nodup):(hds C ps).Nodup/\∀z∈hds C ps,z∈C:=by refine#[a1M.mpr (a27 ?_ N),λz d=>?_];{intro i j a hj hij e;rw[oQ (hp i a),oQ (hp j hj)]at e;exact hij ((aXZ nd).mp e)};exists i,a,rfl,a2O.mp d;rw[oQ (hp i a)];exact a24 _
theorem aXC{W:WD}{C:List Str}{ps:List Nat}(hp:∀i∈ps,i<C.length)(f:ps.length<=10)(a:bZ [4] Y=[sf (Tp C)]):bO (okf (.lst (cN ps))) Y [4] 1 (aO (.nm 1)) (λY=>evF W [] Y) (λY=>evE W (.ix v0 v1) Y)=.ok .fr (.lst ((hds C ps).map .str)):=by have Z:sizeLine=16777216:=aYH;unfold hds;rw[a2D];refine gD (enc:=λi:Nat=>D.int (i:Int)) (λi=>D.str (C.getD i "")) (by lia) λi d=>?_;refine#[[sf (Tp C),sf (.int (i:Int))],.fz,by rw[a];rfl,rfl,.fz,?_];show aI (op2 ixD (okf (Tp C)) (okf (.int (i:Int))))=_;rw[rR (hp i d),oQ (hp i d)];rfl
theorem aXD{W:WD}(c:Int)(a:bZ [12] Y=[sf (.int c)]):bO (okf (.lst (cC 0 (c / 18 % 4)))) Y [12] 1 (aO (.nm 1)) (λY=>evF W [] Y) (λY=>evE W (.bin .Mod (.bin .Add (.bin .FloorDiv v0 (.int 3)) (.bin .Mult v1 (.bin .Add (.int 1) (.bin .Mod (.bin .FloorDiv v0 (.int 9)) (.int 2))))) (.int 3)) Y)=.ok .fr (.lst (cN (psA c))):=by have Z:sizeLine=16777216:=aYH;exists n,hn,a23 (show 0<=c / 18 % 4 by lia);have hn:c / 18 % 4=(n:Int):=hn;unfold cN psA;rw[hn,aHW,a2D,aZB];refine gD (enc:=λi:Nat=>D.int (i:Int)) (λi=>D.int (((c / 3+(i:Int) * (1+c / 9 % 2)) % 3).toNat:Int)) (by rw[a18];lia) λi d=>?_;have d:=aXQ.mp d;refine#[[sf (.int c),sf (.int (i:Int))],.fz,by rw[a];rfl,rfl,.fz,?_];have mu:op2 (a8 .Mult) (okf (.int (i:Int))) (okf (.int (1+c / 9 % 2)))=okf (.int ((i:Int) * (1+c / 9 % 2))):=vL (by lia);have e:(((c / 3+(i:Int) * (1+c / 9 % 2)) % 3).toNat:Int)=(c / 3+(i:Int) * (1+c / 9 % 2)) % 3:=Int.toNat_of_nonneg (a21 _ (by decide));rw[e];simp[mu]
section
variable{Ok:D->Prop}
def sM(K:KM Kd No way Ok Bd pl so){C:List Str}(l:C.length<=999)(h:∀e∈R,Row e.1/\Ok e.2)(f:R.length<=999):Pl 11 (Tb C R):=by refine pl2 ?_ (.tup (λd hd=>?_) (by rw[aY4];exact f));{refine .tup (λd hd=>?_) (by rw[aY4];exact l);exists z,_,rfl,a2O.mp hd;exact .str z};exists e,a,rfl,a2O.mp hd;exact(pl2 ((aW2 (h e a).1).mono (by decide)) (K.plain _ (h e a).2))
def aXE(K:KM Kd No way Ok Bd pl so){P:List (N×D)}(h:∀e∈P,Row e.1/\Ok e.2):(∀e∈cG pl No P,Row e.1/\Ok e.2)/\(cG pl No P).length<=P.length:=by refine#[λe a=>?_,?_];{have a:=(mQ κ _).mem_iff.mp a;exists ne,E,(jR h (k:=e.1) (d:=e.2)).mp a;exists d,hd,oO ne;exact#[(h _ hd).1,by rw[E];exact oN K _ _ K.okn λd hd=>(h _ (oM hd)).2]};rw[(mQ κ _).length_eq];unfold val;rw[aY4];exact(kY h).len
abbrev QQ(ns:List Int)(way:Int)(Z:List D)(x3:Option (Bool×D))(C:List Str)(B:Option (Bool×D))(E T S Kd:D)(x10 r o l f d a:Option (Bool×D)):Rho :=
 [sf (.lst (ns.map .int)),sf (.int way),sf (.lst Z),x3,sf (Tp C),B,sf E,sf T,sf S,sf Kd,x10,r,o,l,f,d,a]
theorem tail_(K:KM Kd No way Ok Bd pl so){ns:List Int}{Z:List D}{a b:Str}(d:a≠b)(ka:fW (.inr a)=true)(kb:fW (.inr b)=true)(za:Z[3]? = some (.str a))(zb:Z[4]? = some (.str b)){C:List Str}(hC:C.length=3)(nd:C.Nodup){R2:List (N×D)}(F:TR No Ok Bd 3 20 (20 * 10 ^ 40) R1)(t2:TR No Ok Bd 3 20 (20 * 10 ^ 40) R2)(x3 G:Option (Bool×D)):evB (Wk 39) (iV.drop 11) (QQ ns way Z x3 C G (Tb C R1) (Tb C R2) (.dcf (Mp a b (Tb C R1) (Tb C R2))) Kd none none none none none none none)=.rt .fz (.bl true):=by(have zl:sizeLine=16777216:=aYH;have q1:∀e∈R1,cM C.length e.1/\Ok e.2/\e.2≠No/\Bd (10 ^ 45) e.2:=λe f=>by exists r,o,n,b,F.each e f;exact#[by rw[hC];exact r,o,n,K.bdm _ _ _ (by decide) b]);have V:=F.ro (by decide);have L:=t2.ro (by decide);have n1:∀e∈R1,Row e.1/\Ok e.2/\e.2≠No:=λe f=>#[(V e f).1,(V e f).2,(F.each e f).2.2.1];have n2:∀e∈R2,Row e.1/\Ok e.2/\e.2≠No:=λe f=>#[(L e f).1,(L e f).2,(t2.each e f).2.2.1];have l1:=F.len;have l2:=t2.len;have T:=(F.app t2).sum K (by decide) (by decide);(have l:∀e∈cG pl No (R1++R2),cM C.length e.1/\Ok e.2/\e.2≠No/\Bd (10 ^ 45) e.2:=λe f=>by exists r,o,n,b,T.each e f;exact#[by rw[hC];exact r,o,n,K.bdm _ _ _ (by decide) b]);have av:=T.len;have S:=T.ro (by decide);have lp:=e9 (aW4 K 34 (C:=C) V L (by lia));have am:=e9 (xP 38 d ka kb (aHP 35 d (C:=C)) (aHR K 29 d (C:=C) n1 n2 (by lia)));have c3:=rQ 38 ns (i:=3) (by decide);generalize hc:ce ns 3=c at *;exists i,hi,a23 (show 0<=c % 3 by lia);(have hi:c % 3=(i:Int):=hi;have B:i<C.length:=by lia);(have hp:∀i∈psA c,i<C.length:=λi h=>by rw[hC];exact ps_lt c i h);have E:=aXA c;exists hn,hm,aXB nd hp (ps_nd c);have ak:=e9 (xP 38 d ka kb (aHQ 33 (a24 B) hn hm (xB 35 (mW (a:=a) (b:=b) (x:=Tp C) (y:=Tp C)))) (aHS K 29 nd (by lia) B hp E q1 (by lia) (xO 36 (mW (a:=a) (b:=b) (x:=Tb C R1) (y:=Tb C R2)))));have aj:=e9 (xP 38 d ka kb (aHQ 33 (a24 B) hn hm (aHP 34 d (C:=C))) (aHS K 29 nd (by lia) B hp E l (by lia) (aHR K 28 d (C:=C) n1 n2 (by lia))));have ah:=aDF (aHK K 34 (by lia) B hp E q1 (by lia));have ag:=aDF (aHK K 34 (by lia) B hp E l (by lia));(have f1:∀R:List (N×D),(∀e∈R,cM C.length e.1/\Ok e.2/\e.2≠No/\Bd (10 ^ 45) e.2)->R.length<=60->(Wk 39).Φ "_law_alike" [Tb (hds C (psA c)) (cG pl No ((R.map (tot so i (psA c))).filter λe=>!eqB e.2 No)),Tb (hds C (psA c)) (cG pl No ((R.map (tot so i (psA c))).filter λe=>!eqB e.2 No))]=okf (.bl true):=λR hR lR=>by have ro:∀e∈(R.map (tot so i (psA c))).filter (λe=>!eqB e.2 No),Row e.1/\Ok e.2:=λe f=>sH K B hp E hR e (aXP.mp f).1;exists a1,a2,aXE K ro;have a3:=a28 (λe:N×D=>!eqB e.2 No) (R.map (tot so i (psA c)));rw[aY4]at a3;exact aFU 11 (sM K (by rw[aY4];lia) a1 (by lia)) 39 (by decide));have au:=aFU 11 (sM K (C:=C) (by lia) S (by lia)) 39 (by decide);have ar:=f1 R1 q1 (by lia);have aq:=f1 _ l (by lia);have ae:=sM K (C:=C) (by lia) V (by lia);have aa:=sM K (C:=C) (by lia) L (by lia);have ai:=aW9 d (by decide) ae aa (m:=.fz) (m':=.fr);have pc:=aXD (W:=Wk 39) c (Y:=QQ ns way Z x3 C G (Tb C R1) (Tb C R2) (.dcf (Mp a b (Tb C R1) (Tb C R2))) Kd (sf (Ap a b)) (sf (Tb C (cG pl No (R1++R2)))) (sf (.int c)) (sf (.int (i:Int))) none none none) rfl;have hd:=aXC (W:=Wk 39) hp E (Y:=QQ ns way Z x3 C G (Tb C R1) (Tb C R2) (.dcf (Mp a b (Tb C R1) (Tb C R2))) Kd (sf (Ap a b)) (sf (Tb C (cG pl No (R1++R2)))) (sf (.int c)) (sf (.int (i:Int))) (sf (.lst (cN (psA c)))) none none) rfl;have af:=rR B (m:=.fz) (m':=.fz);clear F t2 q1 V L n1 n2 T l S f1 ae aa hp E hn hm;generalize cN (psA c)=IS at *;generalize hds C (psA c)=HD at *;generalize C[i]=ci at *;generalize cG pl No ((R1.map (tot so i (psA c))).filter λe=>!eqB e.2 No)=O1 at *;generalize cG pl No (((cG pl No (R1++R2)).map (tot so i (psA c))).filter λe=>!eqB e.2 No)=O2 at *;generalize Tb C (cG pl No (R1++R2))=T12 at *;generalize Tb HD O1=U1 at *;generalize Tb HD O2=U2 at *;generalize Tb C R1=T1 at *;generalize Tb C R2=T2 at *;have i3:∀{Y:Rho},dG Y 2=okf (.lst Z)->evE (Wk 39) (.ix v2 (.int 3)) Y=okf (.str a):=λ{Y} h=>oF 3 (m:=.fz) h za;have i4:∀{Y:Rho},dG Y 2=okf (.lst Z)->evE (Wk 39) (.ix v2 (.int 4)) Y=okf (.str b):=λ{Y} h=>oF 4 (m:=.fz) h zb;generalize Wk 39=W at *;refine nxt (dB (etp3 rfl (iX rfl (i3 rfl)) (iX rfl (i4 rfl)))) (nxt (dB (bN lp)) (nxt (xQ (bN am) rfl au) (nxt (dB (bN c3)) (nxt (dB (bN (Eq.trans (kP (i:=c) (m:=.fz) (n:=.fz) (by decide)) (by rw[hi])))) ?_))));(have rg:evE W (.rng1 (.bin .Mod (.bin .FloorDiv v12 (.int 18)) (.int 4))) (QQ ns way Z x3 C G T1 T2 (.dcf (Mp a b T1 T2)) Kd (sf (Ap a b)) (sf T12) (sf (.int c)) (sf (.int (i:Int))) none none none)=okf (.lst (cC 0 (c / 18 % 4))):=by(have h1:op2 (a8 .FloorDiv) (okf (.int c)) (okf (.int 18))=okf (.int (c / 18)):=by simp);show gN (aQ (op2 (a8 .Mod) (op2 (a8 .FloorDiv) (okf (.int c)) (okf (.int 18))) (okf (.int 4))) (.ok []))=_;rw[h1,kP (by decide)];exact oH (by lia) (by lia));refine nxt (ρ':=QQ ns way Z x3 C G T1 T2 (.dcf (Mp a b T1 T2)) Kd (sf (Ap a b)) (sf T12) (sf (.int c)) (sf (.int (i:Int))) (sf (.lst IS)) none none) (by rw[qZ,eY];erw [rg,pc];rfl) ?_;refine nxt (dB (bN (gE (m:=.fr) hd))) (nxt (dB (etp4 rfl (iX rfl (i3 rfl)) af rfl)) (nxt (xQ (bN ak) (bN ah) ar) (nxt (xQ (bN (ec3 rfl (etp4 rfl rfl af rfl) rfl aj)) (bN ag) aq) (bA ?_))));exact Eq.trans (congrArg (op2 eqC (okf (.dcf (Mp a b T1 T2)))) (aHV d (i3 rfl) (i4 rfl) rfl rfl)) ai
end
def kk:Nat:=39
theorem aXF{ns:List Int}:∃cs:List Int,cs.length<=40/\D3.fF (ns.map D.int) (some ((4:Nat):Int)) (some ((44:Nat):Int))=cs.map .int:=by refine#[(ns.drop (min 4 ns.length)).take (min 44 ns.length-min 4 ns.length),?_,?_];{rw[aYW];lia};unfold D3.fF;rw[HT.tB,HT.tB,aY4,List.map_take,List.map_drop]
abbrev eH(j:Int):E:=.frz (.comp (.ix v0 v1) (.rng1 (.bcall .len [v5])) [(.cmp .Eq (.bin .Mod v1 (.int 2)) (.int j))] [5] (.nm 1) 1)
def aXG:∀n,n<41->((List.range n).filter λ(i:Nat)=>(i:Int) % 2==0).length<=20/\((List.range n).filter λ(i:Nat)=>(i:Int) % 2==1).length<=20:=by decide +kernel
theorem aHX{W:WD}(B:cs.length<=40){j:Int}(l:j=0\/j=1)(f:bZ [5] Y=[sf (.lst (cs.map .int))])(o:dG Y 5=okf (.lst (cs.map .int))):∃es:List Int,es.length<=20/\evE W (eH j) Y=okf (.lst (es.map .int)):=by have Z:sizeLine=16777216:=aYH;have a:=aXG cs.length (by lia);refine#[((List.range cs.length).filter λ(i:Nat)=>(i:Int) % 2==j).map λi=>cs.getD i 0,?_,jP ?_];{rw[aY4];rcases l with rfl|rfl;{exact a.1};exact a.2};(have r:evE W (.rng1 (.bcall .len [v5])) Y=okf (.lst ((List.range cs.length).map λ(i:Nat)=>D.int (i:Int))):=by(show gN (aQ (eQ gM (aQ (dG Y 5) (.ok []))) (.ok []))=_;rw[o];have:eQ gM (aQ (okf (.lst (cs.map .int))) (.ok []))=okf (.int (cs.length:Int)):=by show Res.of (some (Md.fz,D.int ((cs.map D.int).length:Int)))=_;rw[aY4];rfl);rw[this,<- aHW];exact oH (by lia) (by lia));rw[eY,r,a2D];refine wU (enc:=λ(i:Nat)=>D.int (i:Int)) (λ(i:Nat)=>(i:Int) % 2==j) (λi=>D.int (cs.getD i 0)) (by rw[a18];lia) λi d=>?_;have d:=aXQ.mp d;refine#[[sf (.lst (cs.map .int)),sf (.int (i:Int))],.fz,by rw[f];rfl,?_,λ_=>#[.fz,?_]];{generalize cs.map D.int=L at *;simp};show aI (op2 ixD (okf (.lst (cs.map .int))) (okf (.int (i:Int))))=_;(have:cs.getD i 0=cs[i]:=by simp[d]);rw[this,fO (cY (v:=D.int cs[i]) (by rw[aY1,a0T d];rfl))];rfl
section
variable{Ok:D->Prop}
abbrev Q8(ns:List Int)(way:Int)(zs:List Str)(vs:List N)(cs:List Int)(x6 a x8 x9:Option (Bool×D)):Rho :=
 [sf (.lst (ns.map .int)),sf (.int way),sf (.lst (zs.map .str)),sf (.lst (vs.map nD)),sf (Tp (zs.take 3)),sf (.lst (cs.map .int)),x6,a,x8,x9,none,none,none,none,none,none,none]
theorem aHY(K:KM Kd No way Ok Bd pl so){ns:List Int}(h8:zs.length=8)(nd:zs.Nodup)(B:∀z∈zs,fW (.inr z)=true){vs:List N}(G:vs.length=3)(E:∀v∈vs,LB v)(F:cs.length<=40)(hn:r9 38 way zs Ok Bd No)(hk:∀x6 o x8:Option (Bool×D),evB (Wk 39) [.set 9 (.frz (.mk0 "Counts")),.ite (.cmp .Eq v1 (.int 1)) [.set 9 (.frz (.mk0 "Reasons"))] []] (Q8 ns way zs vs cs x6 o x8 none)=.nx (Q8 ns way zs vs cs x6 o x8 (sf Kd))):evB (Wk 39) (iV.drop 5) (Q8 ns way zs vs cs none none none none)=.rt .fz (.bl true):=by
 have d:(zs.take 3).length=3:=by rw[aYW];lia
 have r:3<zs.length:=by lia
 have L:4<zs.length:=by lia
 have a:zs[3]≠zs[4]:=λe=>by have:=(aXZ nd).mp e;lia
 have l:(zs.map D.str)[3]? = some (.str zs[3]):=by rw[aY1,a0T r];rfl
 have f:(zs.map D.str)[4]? = some (.str zs[4]):=by rw[aY1,a0T L];rfl
 exists es,le,ee,aHX (W:=Wk 39) F (j:=0) (.inl rfl) (Y:=Q8 ns way zs vs cs none none none none) rfl rfl;exists S,T,m1,aHH K 34 d G E hn le;refine nxt (dB (bN (ec5 ee rfl rfl rfl rfl (mL (ds:=[_,_,_,_,_]) rfl rfl m1)))) ?_;exists fs,lf,ef,aHX (W:=Wk 39) F (j:=1) (.inr rfl) (Y:=Q8 ns way zs vs cs (sf (Tb (zs.take 3) (cG pl No S))) none none none) rfl rfl;exists P2,t2,V,aHH K 34 d G E hn lf;refine nxt (dB (bN (ec5 ef rfl rfl rfl rfl (mL (ds:=[_,_,_,_,_]) rfl rfl V)))) ?_;have tl:=tail_ K (ns:=ns) (Z:=zs.map .str) a (B _ (a24 r)) (B _ (a24 L)) l f d ((List.take_sublist 3 zs).nodup nd) (T.sum K (by decide) (by decide)) (t2.sum K (by decide) (by decide)) (sf (.lst (vs.map nD))) (sf (.lst (cs.map .int)))
 generalize Tb (zs.take 3) (cG pl No S)=T1 at *;generalize Tb (zs.take 3) (cG pl No P2)=T2 at *;refine nxt (ρ':=Q8 ns way zs vs cs (sf T1) (sf T2) (some (true,.dct (Mp zs[3] zs[4] T1 T2))) none) (by rw[aC6];exact congrArg (dX _ 8) (aHV a (oF 3 (m:=.fz) rfl l) (oF 4 (m:=.fz) rfl f) rfl rfl)) (nxt (ρ':=Q8 ns way zs vs cs (sf T1) (sf T2) (sf (.dcf (Mp zs[3] zs[4] T1 T2))) none) rfl ?_)
 show evB _ ([.set 9 (.frz (.mk0 "Counts")),.ite (.cmp .Eq v1 (.int 1)) [.set 9 (.frz (.mk0 "Reasons"))] []]++iV.drop 11) _=_;rw[oC,hk,aH.thn_nx];exact tl
end
theorem main(ns:List Int)(F:ns.length<=63):(Wk (kk+1)).Φ ("law":Str) (pG ns)=okf (.bl true):=by refine ent (d:=wO) rfl rfl ?_;show evB (Wk 39) iV [sf (.lst (ns.map .int)),none,none,none,none,none,none,none,none,none,none,none,none,none,none,none,none]=_;have S:=rQ 38 ns (i:=0) (by decide);have c1:=rQ 38 ns (i:=1) (by decide);have N:=rQ 38 ns (i:=2) (by decide);(exists zs,o,nd,K,en,names 38 (ce ns 1);exists vs,B,r,ep,pool 38 (ce ns 2);have en:=oE en;have ep:=oE ep;exists cs,L,G,aXF (ns:=ns);generalize ce ns 1=n1 at *;generalize ce ns 2=n2 at *;generalize ce ns 0=h at *;have E:h % 2=0\/h % 2=1:=by lia);have D:=kP (m:=.fz) (n:=.fz) (i:=h) (j:=2) (by decide);(generalize h % 2=w at *;have p1:evB (Wk 39) (iV.take 5) [sf (.lst (ns.map .int)),none,none,none,none,none,none,none,none,none,none,none,none,none,none,none,none]=.nx (Q8 ns w zs vs cs none none none none):=by refine nxt (ρ':=[sf (.lst (ns.map .int)),sf (.int w),none,none,none,none,none,none,none,none,none,none,none,none,none,none,none]) (dB (bN (Eq.trans (congrArg (op2 (a8 .Mod) · (okf (.int 2))) S) D))) (nxt (dB (jP (ec2 (bN c1) rfl en))) (nxt (dB (jP (ec2 (bN N) (bN pw) ep))) ?_));refine nxt (ρ':=[sf (.lst (ns.map .int)),sf (.int w),sf (.lst (zs.map .str)),sf (.lst (vs.map nD)),sf (Tp (zs.take 3)),none,none,none,none,none,none,none,none,none,none,none,none]) (dB (bN ?_)) (nxt (dB (jP ?_)) rfl);{rw[Tp,List.map_take];exact gE (m:=.fr) (aF2 (W:=Wk 39) (ds:=zs.map .str) (m':=.fz) (e:=.int 3) (i:=3) (m:=.fz) rfl)};rw[<- G];exact sll (W:=Wk 39) (ds:=ns.map .int) (m0:=.fz) (e:=.int 4) (e':=.int 44) (i:=4) (j:=44) (m:=.fz) (m':=.fz) rfl rfl);have ea:iV=iV.take 5++iV.drop 5:=rfl;rw[ea,oC,p1,aH.thn_nx];rcases E with rfl|rfl;{exact aHY aWQ o nd K B r L (λc=>note0 36 c _) λl f a=>nxt (ρ':=Q8 ns 0 zs vs cs l f a (sf (.ins "Counts" []))) rfl (nxt (bG (m:=.fz) rfl rfl) rfl)};exact aHY (aG2 (P:=zs) (by lia)) o nd K B r L (λc=>note1 36 c o) λl f a=>nxt (ρ':=Q8 ns 1 zs vs cs l f a (sf (.ins "Counts" []))) rfl (nxt (ρ':=Q8 ns 1 zs vs cs l f a (sf (.ins "Reasons" []))) (fP (m:=.fz) rfl (nxt (ρ':=Q8 ns 1 zs vs cs l f a (sf (.ins "Reasons" []))) rfl rfl)) rfl)
end K45
noncomputable def W.Fast.tw15738643269643530870:PySem.Program:=a3M
def W.Fast.te15738643269643530870:a3M=W.Fast.tw15738643269643530870:=rfl
noncomputable def PySem.W.Fast.tw15738643269643530870:=PySem.Challenge.pw_whencewise_k45_pour_and_total
theorem PySem.W.Fast.te15738643269643530870:PySem.Challenge.pw_whencewise_k45_pour_and_total=PySem.W.Fast.tw15738643269643530870:=rfl
namespace K45
open PySem.W Tp
def tw:Prod.fst (true,a3M)=true:=by k_qdec
noncomputable def as:List Addr:=[2,3,15,22,23,24,25,28,35,36,37,40,47,48,49,52,59,60,61,64,71,72,73,76,78,79,81,82,83,86,87,88,90,91,93,94,102,104,105,107,108,109,110,111,112,113,116,123,125,126,128,129,130,132,133,135,136,137,139,140,142,143,144,146,147,149,150,151,153,154,156,157,158,160,161,163,164,165,167,168,170,171,172,173,174,177,180,181,182,185,186,187,190,191,192,195,196,197,199,200,202,203,204,207,208,209,211,212,214,215,216,218,219,221,222,223,226,227,228,231,232,233,235,236,238,239,240,242,243,245,246,247,250,251,252,254,255,257,258,259,261,262,264,265,266,268,269,271,272,273,275,276,278,279,280,282,283,285,286,287,289,290,292,293,294,296,297,299,300,301,303,304,306,307,308,311,312,313,315,316,318,319,320,322,323,325,326,327,328,331,332,333,335,336,338,339,340,343,344,345,348,349,350,352,353,355,356,357,360,361,362,365,366,367,369,370,372,373,374,377,378,379,381,382,384,385,386,388,389,391,392,393,396,397,398,400,401,403,404,405,407,408,410,411,412,413,420,422,423,425,426,427,429,430,432,433,434,436,437,439,440,441,444,445,446,448,449,451,452,453,456,457,458,460,461,463,464,465,467,468,470,471,472,473,474,477,479,480,482,483,484,486,487,489,490,491,493,494,496,497,498,501,502,503,505,506,508,509,510,513,514,515,517,518,520,521,522,524,525,527,528,529,531,532,534,535,536,538,539,541,542,543,546,547,548,550,551,553,554,555,557,558,560,561,562,564,565,567,568,569,571,572,574,575,576,579,580,581,583,584,586,587,588,590,591,593,594,595,597,598,600,601,602,604,605,607,608,609,612,613,614,617,618,619,622,623]
noncomputable def ts:List Addr:=[77,84,89,103,124,131,138,145,152,159,166,178,183,188,193,198,205,210,217,224,229,234,241,248,253,260,267,274,281,288,295,302,309,314,321,329,334,341,346,351,358,363,368,375,380,387,394,399,406,421,428,435,442,447,454,459,466,478,485,492,499,504,511,516,523,530,537,544,549,556,563,570,577,582,589,596,603,610,615,620]
def pre(w:a3K)(os:OsState):topGo treeTable a3M w 11 an 12 #[boot_heap w.params,#[],boot_drawn,boot_toks,os] (topStub a3M)=some ((sh w.params (sA w.params) 15 187 os).abs,#[denote treeTable (cd a3M),cd a3M,z0,[topFrame z0]]):=by rw[a3M,Fast.te15738643269643530870,Fast.te203182992438928480,Fast.te13144403056285818395,Fast.te15667345088766844465,Fast.te14364793385576792824,Fast.te11892475500146522536];kernel_rfl
def blk(w:a3K)(s:a3I):segRun treeTable a3M w 11 an 1 1 s (blockOf a3M.main.body (ev a3M) (cd a3M) z0 [topFrame z0])=some (.next,s,cd a3M,z0):=by kernel_rfl
def run1(w:a3K)(os:OsState):go treeTable a3M w 1000 (a3M.main.body.take 43) (sh w.params (sA w.params) 15 187 os) (cd a3M) z0=some (mid w.params (a3M.main.body.take 43) os,cd a3M,#[158,0,163,14]) :=
 byRow2 "special-get-raises" (P:=λw=>∀os:OsState,go treeTable a3M w 1000 (a3M.main.body.take 43) (sh w.params (sA w.params) 15 187 os) (cd a3M) z0=some (mid w.params (a3M.main.body.take 43) os,cd a3M,#[158,0,163,14]))
  (λw os=>by
   rw[mid,a3M,Fast.te15738643269643530870,Fast.te203182992438928480,Fast.te13144403056285818395,Fast.te5678740263434597267,Fast.te14364793385576792824,Fast.te10212481707522018265]
   kernel_rfl)
  (λw os=>by
   rw[mid,a3M,Fast.te15738643269643530870,Fast.te203182992438928480,Fast.te13144403056285818395,Fast.te5678740263434597267,Fast.te14364793385576792824,Fast.te10212481707522018265]
   kernel_rfl) w os
def run2(w:a3K)(os:OsState):go treeTable a3M w 1000 (a3M.main.body.drop 43) (mid w.params (a3M.main.body.take 43) os) (cd a3M) #[158,0,163,14]=some (sh w.params (lay w.params a3M.main.body (sA w.params)) 624 1034 os,cd a3M,#[416,0,441,87]) :=
 byRow2 "special-get-raises" (P:=λw=>∀os:OsState,go treeTable a3M w 1000 (a3M.main.body.drop 43) (mid w.params (a3M.main.body.take 43) os) (cd a3M) #[158,0,163,14]=some (sh w.params (lay w.params a3M.main.body (sA w.params)) 624 1034 os,cd a3M,#[416,0,441,87]))
  (λw os=>by
   rw[mid,a3M,Fast.te15738643269643530870,Fast.te203182992438928480,Fast.te13144403056285818395,Fast.te5678740263434597267,Fast.te14364793385576792824,Fast.te10212481707522018265]
   kernel_rfl)
  (λw os=>by
   rw[mid,a3M,Fast.te15738643269643530870,Fast.te203182992438928480,Fast.te13144403056285818395,Fast.te5678740263434597267,Fast.te14364793385576792824,Fast.te10212481707522018265]
   kernel_rfl) w os
def run(w:a3K)(os:OsState):go treeTable a3M w 1000 a3M.main.body (sh w.params (sA w.params) 15 187 os) (cd a3M) z0=some (sh w.params (lay w.params a3M.main.body (sA w.params)) 624 1034 os,cd a3M,#[416,0,441,87]):=by have:=go_split (r:=(a3M.main.body.drop 43)) (run1 w os);rw[List.take_append_drop]at this;rw[this];exact run2 w os
def tabs:=@D3.aUA K45.GG (KK a3M.main.body as) "DEEDS_asking" "DEEDS_askings" [("pick","picked"),("keep","kept_rows"),("call","called_rows"),("join","joined"),("pour","poured_rows"),("total","totals"),("leave","left_out")] [("pick","columns_of_pick"),("keep","columns_of_keep"),("call","columns_of_call"),("join","columns_of_join"),("pour","columns_of_pour"),("total","columns_of_total"),("leave","columns_of_leave")] (by decide +kernel) (λP=>by kernel_rfl) (λP=>by kernel_rfl) (λP=>by kernel_rfl) (λP=>by kernel_rfl) (by decide) (by decide) (by decide) (by decide)
def xR(w:a3K):(λos=>((staticsOk (importedModules a3M.main.body) (boot_heap w.params) (H1 a3M.main.body 624 w.params)&&namesBound a3M (H1 a3M.main.body 624 w.params)&&gensDone (S1 a3M.main.body 624 1034 w.params os)&&laidKept (boot_heap w.params) (H1 a3M.main.body 624 w.params)),openSeen (vw a3M) (los a3M.main.body) (importedModules a3M.main.body) (xt PySem.Challenge.rw_whencewise_k45_pour_and_total.row) true (S1 a3M.main.body 624 1034 w.params os),(hk a3M.main.body (as++ts)).obs (S1 a3M.main.body 624 1034 w.params os)))=λ_=>(true,openGood (vw a3M) (los a3M.main.body),(hk a3M.main.body (as++ts)).val w):=by rw[a3M,Fast.te14387180822208032119,Fast.te15738643269643530870,Fast.te5923862056798008813,Fast.te9407923862454927560,Fast.te15884229538025494872,Fast.te4187177175401517315,Fast.te18076920544200396443,Fast.te9318435048543301240,Fast.te17808466708180730929,Fast.te2368527892694137696];kernel_rfl
def tb(P:Params):D3.rB (KK a3M.main.body as P) (KK a3M.main.body (as++ts) P)=true:=by kernel_rfl
def gf(P:Params):D3.vS (KK a3M.main.body as P) GG TT=true:=by kernel_rfl
abbrev dl:DefRec:=#["law",L2.nG wP,L2.gW wP,L2.dL wP,#[416,0,441,87]]
end K45
open PySem.W
set_option maxRecDepth 100000 in
set_option maxHeartbeats 0 in
theorem PySem.Challenge.cw_whencewise_k45_pour_and_total_holds : PySem.Challenge.rw_whencewise_k45_pour_and_total.Holds := by
 w_on;o_law
 exact Tp.head (p:=PySem.Challenge.rw_whencewise_k45_pour_and_total) (d:=K45.dl) (Tp.left (by kernel_rfl) K45.pre K45.blk K45.run (by kernel_rfl) (by kernel_rfl) (λ_=>by kernel_rfl) K45.xR) (by assumption) (by kernel_rfl) (by kernel_rfl) rfl rfl (by decide +kernel) #[rfl,rfl,rfl,rfl,rfl,by decide +kernel] (by w_witness2)
  (D3.walkG (K:=Tp.KK PySem.Challenge.pw_whencewise_k45_pour_and_total.main.body K45.as) (Kf:=Tp.KK PySem.Challenge.pw_whencewise_k45_pour_and_total.main.body (K45.as++K45.ts)) (kk:=K45.kk) (e:=K45.wO) rfl rfl rfl (λw h a=>W.kIn_of a) (Tp.KK_sub _ _ _) (Tp.KK_nd _ _) K45.tb K45.gf K45.tabs rfl rfl #[rfl,by decide,by decide] K45.main)
