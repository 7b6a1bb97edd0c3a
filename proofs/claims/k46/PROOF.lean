import PyProof.Rows.All
import Wide.All
import OpenK.AllK
import Wide.FinOn
import Lean
import PyProof.EqAt
import PyProof.EqKinds
import PyProof.TupleCall
import PySem.Challenge.RW_whencewise_k46_leave
set_option compiler.extract_closed false
set_option bootstrap.genMatcherCode false
set_option maxHeartbeats 0
set_option linter.all false
section
open PySem PySem.Spec PyProof.Rows
def jw:=@decide_eq_false
def lr:=@beq_eq_false_iff_ne
def qv:=@Paired.length
def fi:=@Heap.get?_push_size
def dv:=@Heap.lt_size
def hB:=@Nat.lt_of_lt_of_le
def jn:=@Nat.lt_irrefl
def gj:=@Nat.ne_of_lt
def Bg:=@List.mem_filter
def pa:=@List.mem_range
def CM:=@Array.getElem?_eq_some_iff
def ii:=@Nat.le_trans
def sy:=@Nat.le_of_lt
def qw:=@List.filterMap_cons
def dq:=@List.mem_cons
def ko:=@List.mem_append
def qx:=@List.mem_append_left
def mr:=@List.getElem?_eq_some_iff
def CN:=@List.getElem_inj
def pb:=@List.getElem?_set_self
def jo:=@List.getElem?_set_ne
def jx:=@Option.some.inj
def ij:=@wpAny_mono
def tc:=@wpAny_truthy_bool
def lc:=@Array.length_toList
def CO:=@wpAny_execs_nil
def nq:=@Nat.ne_of_gt
def cq:=@wpAny_pure
def bv:=@wpAny_bind
def tf:=@wpAny_load
def Bh:=@Int.mul_one
def CP:=@wpAny_pyIter_list
def dm:=@Nat.le_refl
def u1:=@wpAny_pyIter_tuple
def Bi:=@PyProof.Rows.callWith_type1
def iz:=@List.mem_append_right
def u2:=@wpAny_passesOwn
def dz:=@sizeLine_eq
def fo:=@List.size_toArray
def CQ:=@Array.mem_toList_iff
def gr:=@Bool.false_ne_true
def dc:=@beq_iff_eq
def pc:=@Heap.size_push
def Bj:=@Nat.le_of_eq
def gw:=@Nat.zero_le
def CS:=@Calls.spliced_nil
def Bk:=@Calls.spliced_cons
def h5:=@List.append_nil
def nt:=@wpAny_standAt
def lg:=@List.nodup_cons
def CT:=@List.of_mem_zip
def pd:=@List.length_take
def nu:=@PySem.mem_of_lookup
def nv:=@List.getElem?_append_right
def ny:=@List.getElem?_replicate
def mv:=@List.getElem?_append_left
def h7:=@List.getElem?_map
def u3:=@List.mem_of_getElem?
def ik:=@List.length_append
def d3:=@List.length_map
def pf:=@wpAny_Call_Name_kw
def Bl:=@concat_meets
def CU:=@noFill_tuple_add
def CV:=@F.slot_tuple_add
def CW:=@F.entry_tuple_add
def CY:=@F.args_tuple_add_2
def ph:=@Int.toNat_natCast
def jd:=@if_false
def th:=@Prod.ext
def pi:=@if_true
def pj:=@wpAny_field
def Bm:=@List.length_drop
def il:=@wpAny_holding
def nA:=@wpAny_callSpecial?_slot
def Bo:=@PyProof.Rows.slot_tuple_getitem
def jp:=@wpAny_call_entry
def mw:=@wpAny_typeOf
def cw:=@Bool.and_eq_true
def je:=@wpAny_newObj_type
def pk:=@Heap.get?_update_self
def Bp:=@Heap.get?_update_other
def pq:=@List.length_set
def pr:=@Option.getD_none
def jq:=@List.all_cons
def Bq:=@List.any_cons
def CZ:=@Calls.callWith_builtin
def C0:=@Calls.evalArgs_plain
def nB:=@List.length_singleton
def gu:=@List.find?_cons
def gg:=@List.length_cons
def pv:=@List.length_nil
def dw:=@List.map_cons
def oa:=@List.map_nil
def va:=@Nat.lt_trans
def og:=@Option.map_eq_some_iff
def C1:=@tupleKind_room_in1
def vb:=@Option.isSome_map
def C3:=@getitemInPython_of_ne
def oh:=@wpAny_specialOf
def C4:=@wpAny_operating
def C5:=@wpAny_letTemporaryGo
def C6:=@Heap.DictOf.new
def ip:=@decide_eq_true
def mz:=@codeAny_mono
def vc:=@List.cons.injEq
def qy:=@List.cons_append
def Bs:=@Nat.add_assoc
def C7:=@Array.forIn_toList
def vd:=@wpAny_forIn_list
def pz:=@wpAny_rule
def C8:=@SeqAt.eqAt_reads
def Bt:=@Nat.min_le_left
def p7:=@wpAny_isInstance
def Bu:=@Bool.not_true
def io:=@Bool.false_eq_true
def Bv:=@wpAny_seqItems
def iq:=@List.lookup_cons
def fw:=@decide_eq_true_eq
def lh:=@of_decide_eq_true
def jr:=@Bool.or_eq_true
def qz:=@W.kia_one
def ve:=@List.getElem?_set
def Bw:=@List.getElem?_range
def ti:=@Option.map_some
def vf:=@List.drop_eq_getElem_cons
def gm:=@List.getElem?_eq_getElem
def tj:=@List.drop_length
def vg:=@List.forIn_nil
def C9:=@List.forIn_cons
def q0:=@LawfulMonad.pure_bind
def oi:=@beq_self_eq_true
def Bx:=@Nat.lt_succ_of_lt
def By:=@Option.some.injEq
def vh:=@wpAny_call
def Bz:=@W.callWith_K
def p8:=@Nat.le_succ
def BA:=@List.drop_zero
def BB:=@List.take_of_length_le
def lA:=@Nat.zero_add
def fj:=@List.mem_singleton
def q5:=@List.findIdx?_cons
def js:=@List.append_assoc
def tm:=@List.zip_cons_cons
def BC:=@F.slot_tuple_iterator_next
def Fp:=@F.entry_tuple_iterator_next
def Fq:=@F.args_tuple_iterator_next_1
def q7:=@wpAny_setField
def BD:=@Obj.isFreed_of_fields
def p9:=@Obj.data_mapFields
def lw:=@Heap.SameBut.update
def BE:=@Obj.cls_mapFields
def vi:=@wpAny_of_eq
def qa:=@List.mem_nil_iff
def jy:=@or_false
def BF:=@List.getElem?_toArray
def tu:=@wpAny_attempt
def Db:=@wpAny_pyIter_enum
def Dc:=@List.take_length
def tz:=@List.nil_append
def ir:=@List.pairwise_map
def li:=@W.mg_of
def Dd:=@entryFor_of_tree
def m4:=@plainId_quiet
def kq:=@codeAny_builtin
def mf:=@Around.under_plainId
def BG:=@wpAny_askSetting
def BH:=@typeLookup_type
def BI:=@builtinLookup_eq_fast
def BJ:=@isSubtype_type
def De:=@wpAny_pyIter_slot
def tA:=@wpAny_fieldsOf
def Df:=@wpAny_setEntries_of
def ua:=@bne_self_eq_false
def Dg:=@wpAny_ite_split
def BK:=@Array.getElem?_eq_getElem
def vj:=@Array.getElem?_toList
def BL:=@List.getElem?_eq_none
def Dh:=@Bool.not_eq_true'
def Di:=@List.ext_getElem
def Dj:=@wpAny_pyIter_keyiter
def jt:=@List.map_append
def d7:=@List.mem_map
def qb:=@List.nodup_nil
def rc:=@Array.getD_eq_getD_getElem?
def Dk:=@Array.perm_iff_toList_perm
def BM:=@Array.Perm.refl
def Dl:=@of_decide_eq_false
def jz:=@List.Perm.refl
def qc:=@List.pairwise_singleton
def gx:=@List.pairwise_cons
def vk:=@PyProof.Rows.listItems_at
def qd:=@PyProof.Rows.listUpdate_at
def vm:=@PyProof.Rows.get?_update_seq
def vp:=@PyProof.Rows.seqEpoch_at
def re:=@wpAny_newList
def Dm:=@Heap.get?_update_ne
def rg:=@List.length_range
def BN:=@wpAny_runValue
def Dn:=@Calls.call_function_entry
def BO:=@Heap.size_update
def ub:=@PyProof.Rows.size_push'
def BP:=@PyProof.Rows.slot_list_sort
def BQ:=@PyProof.Rows.entry_list_sort
def fq:=@List.all_eq_true
def gv:=@List.map_map
def Do:=@wpAny_dictEntries
def Dp:=@wpAny_dictEpoch
def BR:=@F.slot_dict_keyiterator_next
def Fs:=@F.entry_dict_keyiterator_next
def Ft:=@F.args_dict_keyiterator_next_1
def BS:=@wpAny_typeNameOfWhole_keyiter
def BU:=@wpAny_typeNameOf_keyiter
def Dq:=@wpAny_isOneOf_keyiter
def rh:=@wpAny_setState_of
def Fu:=@Nat.le_one_iff_eq_zero_or_eq_one
def Fv:=@F.entry_proto_collect
def Fw:=@F.plain_proto_collect
def BV:=@F.plain_list_iadd
def rj:=@List.not_mem_nil
def Dr:=@List.range_succ
def rq:=@bne_iff_ne
def vq:=@List.contains_iff_mem
def BW:=@Nat.lt_of_le_of_lt
def Ds:=@Nat.add_le_add_left
def uc:=@List.isEmpty_iff
def Dt:=@List.mem_of_find?_eq_some
def Du:=@Array.eq_empty_of_size_eq_zero
def ud:=@Int.emod_nonneg
def vr:=@Int.emod_lt_of_pos
def rr:=@Int.eq_ofNat_of_zero_le
def sb:=@List.getElem_mem
def Dv:=@List.filter_cons
def Dw:=@List.find?_eq_none
def ue:=@List.nodup_append
def uf:=@List.map_congr_left
def BX:=@List.Pairwise.imp_of_mem
def ug:=@Int.add_zero
def sd:=@Int.zero_add
def BY:=@List.mem_map_of_mem
def Dx:=@List.perm_ext_iff_of_nodup
def BZ:=@List.reverse_cons
def vt:=@List.exists_cons_of_ne_nil
def vy:=@List.map_eq_nil_iff
def B0:=@List.map_take
def vz:=@Option.getD_some
end
abbrev du:=PySem.Challenge.pw_whencewise_k46_leave
abbrev bb:=PySem.Value
abbrev cc:=PySem.Shared
abbrev dj:=PySem.Around
abbrev dh:=PySem.World
abbrev fc:=PySem.Program
theorem aK{c:Prop}{_:Decidable c}(h:c){α:Sort u}{t e:α}:ite c t e=t:=_root_.if_pos h
theorem ba{c:Prop}{_:Decidable c}(h:¬c){α:Sort u}{t e:α}:ite c t e=e:=_root_.if_neg h
local macro_rules
|`(tactic|exists$a,*)=>do
 let p<-a.getElems.pop.mapM λx=>if x.raw.isIdent then`(Lean.Parser.Tactic.rcasesPatLo|$(⟨x.raw⟩):ident)else`(Lean.Parser.Tactic.rcasesPatLo|_)
 `(tactic|obtain⟨$p,*⟩:=$(a.getElems.back!))
local macro_rules
|`(#[$a,*])=>if a.getElems.isEmpty then `(List.toArray [])else`(⟨$a,*⟩)
abbrev di := PySem.Value -> PySem.Shared -> Prop
abbrev Fg := PySem.W.Frag
abbrev e7 := List (PySem.Addr × PySem.Obj)
abbrev fg := PySem.Str -> Option PySem.Value
def df {α : Type} {a b : α} {l : List α} (h : a ∈ l) : a ∈ b :: l := List.mem_cons_of_mem _ h
def c6 {α : Type} {a : α} {l : List α} : a ∈ a :: l := List.mem_cons_self
def hps {h : PySem.Heap} {o p : PySem.Obj} {b : PySem.Addr} (e : h.get? b = some o) : (h.push p).get? b = some o := PySem.Heap.get?_push_of_some _ e
theorem nB1{p:Prop}(h:false=true):p:=by cases h
theorem nB2{p:Prop}(h:true=false):p:=by cases h
theorem nO1{a:Type u}{x:a}{p:Prop}(h:none=some x):p:=by cases h
theorem nO2{a:Type u}{x:a}{p:Prop}(h:some x=none):p:=by cases h
local macro_rules
|`(tactic|cases $h:ident)=>`(tactic|first|exact nB1 $h|exact nB2 $h|exact nO1 $h|exact nO2 $h|subst $h|(have e:=Option.some.inj $h;clear $h;subst e)|(obtain ⟨e,f⟩:=Prod.mk.inj (Option.some.inj $h);clear $h;subst e;subst f)|cases($h))
set_option Elab.async false
set_option maxRecDepth 100000
noncomputable section
open PySem PySem.Spec PyProof.Rows
namespace L2
abbrev Key:=Sum Int Str
def kR:Key->bb->Bool|.inl k,v=>Value.isInt k v|.inr x,v=>Value.isStrOf x v
def Dy(w:dh):Key->Int|.inl k=>hashInt k|.inr x=>hashStr w x
def hU:∀{k:Key}{v:bb},kR k v=true->(∃i t,k=Sum.inl i/\v=Value.int i t)\/(∃x t,k=Sum.inr x/\v=Value.str x t)|.inl i,v,h=>by exists t,e,Value.isInt_shape (k:=i) (v:=v) h;exact .inl #[i,t,rfl,e]|.inr x,v,h=>by exists t,e,Value.isStrOf_shape (x:=x) (v:=v) h;exact .inr #[x,t,rfl,e]
def MB(i:Int)(t:Tok):kR (.inl i) (.int i t)=true:=by simp[kR,Value.isInt]
def MD(x:Str)(t:Tok):kR (.inr x) (.str x t)=true:=by simp[kR,Value.isStrOf]
def ME(a b:Int):decide ((Sum.inl a:Key)=Sum.inl b)=(a==b):=by by_cases e:a=b;{subst e;simp};have h:¬ (Sum.inl a:Key)=Sum.inl b:=λq=>e (Sum.inl.inj q);rw[jw h];exact(lr.mpr e).symm
def MF(a b:Str):decide ((Sum.inr a:Key)=Sum.inr b)=decide (a=b):=by by_cases e:a=b;{subst e;simp};have h:¬ (Sum.inr a:Key)=Sum.inr b:=λq=>e (Sum.inr.inj q);rw[jw h,jw e]
def MH(a:Int)(b:Str):decide ((Sum.inl a:Key)=Sum.inr b)=false:=jw (λq=>nomatch q)
def MI(a:Str)(b:Int):decide ((Sum.inr a:Key)=Sum.inl b)=false:=jw (λq=>nomatch q)
noncomputable def bZ(prog:fc)(w:dh):PySem.KeyKind prog w Key where
 is:=kR
 hash:=Dy w
 inj:=λv a b f c=>by rcases hU f with⟨i,t,rfl,rfl⟩|⟨x,t,rfl,rfl⟩;{rcases hU c with⟨j,u,rfl,e⟩|⟨y,u,rfl,e⟩;{injection e with E _;rw[E]};exact nomatch e};rcases hU c with⟨j,u,rfl,e⟩|⟨y,u,rfl,e⟩;{exact nomatch e};injection e with E _;rw[E]
 byValue:=λk v h=>by rcases hU h with⟨i,t,rfl,rfl⟩|⟨x,t,rfl,rfl⟩ <;> rfl
 pyHash:=λH h=>by rcases hU H with⟨i,t,rfl,rfl⟩|⟨x,t,rfl,rfl⟩;{exact wpAny_pyHash_int h};exact wpAny_pyHash_str h
 eqBool:=λd H h=>by rcases hU d with⟨i,t,rfl,rfl⟩|⟨x,t,rfl,rfl⟩;{rcases hU H with⟨j,u,rfl,rfl⟩|⟨y,u,rfl,rfl⟩;{rw[ME]at h;exact wpAny_eqBool_int h};rw[MH]at h;exact SeqAt.EqAt.int_str i t y u _ _ _ _ h};rcases hU H with⟨j,u,rfl,rfl⟩|⟨y,u,rfl,rfl⟩;{rw[MI]at h;exact SeqAt.EqAt.str_int x t j u _ _ _ _ h};rw[MF]at h;exact wpAny_eqBool_str h
 «strs»:=λk x t v h=>by rcases hU h with⟨i,u,rfl,e⟩|⟨y,u,rfl,e⟩;{exact nomatch e};injection e with E _;subst E;cases v <;> rfl
def MJ(prog:fc)(w:dh)(i:Int)(t:Tok):(bZ prog w).is (.inl i) (.int i t)=true:=MB i t
def MK(prog:fc)(w:dh)(x:Str)(t:Tok):(bZ prog w).is (.inr x) (.str x t)=true:=MD x t
inductive V where
 |non|bl (b:Bool)|int (i:Int)|str (x:Str)|byt (b:Array UInt8)|flt (b:UInt64)|ref (a:Addr)|ty (n:String)
 deriving DecidableEq
def aH:V->bb->Prop|.non,u=>u=Value.none|.bl b,u=>u=Value.bool b|.int i,u=>∃t,u=Value.int i t|.str x,u=>∃t,u=Value.str x t|.byt b,u=>∃t,u=Value.bytes b t|.flt b,u=>∃t,u=Value.float b t|.ref a,u=>u=Value.ref a|.ty n,u=>u=Value.type n
abbrev aL:List V->List bb->Prop:=Paired aH
theorem aL.length{U:List V}{us:List bb}(r:aL U us):U.length=us.length:=qv r
theorem aL.get:∀{U:List V}{us:List bb}{i:Nat}{x:V},aL U us->U[i]? = some x->∃u,us[i]? = some u/\aH x u|_,_,_,_,.nil,e=>by simp at e|_,_,0,_,.cons r _,e=>by simp at e;subst e;exact#[_,rfl,r]|_,_,i+1,x,.cons _ t,e=>by exists u,H,h,aL.get (i:=i) (x:=x) t (by simpa using e);exact#[u,by simpa using H,h]
theorem aL.set{x:V}{u:bb}(r:aH x u):∀{U:List V}{us:List bb} (i:Nat),aL U us->aL (U.set i x) (us.set i u)|_,_,_,.nil=>.nil|_,_,0,.cons _ t=>.cons r t|_,_,i+1,.cons q t=>.cons q (aL.set r i t)
theorem aL.append:∀{U ys:List V}{us ws:List bb},aL U us->aL ys ws->aL (U++ys) (us++ws)|_,_,_,_,.nil,s=>s|_,_,_,_,.cons r t,s=>.cons r (aL.append t s)
theorem aL.take:∀{U:List V}{us:List bb} (n:Nat),aL U us->aL (U.take n) (us.take n)|_,_,0,_|_,_,_+1,.nil=>.nil|_,_,n+1,.cons r t=>.cons r (aL.take n t)
theorem aL.drop:∀{U:List V}{us:List bb} (n:Nat),aL U us->aL (U.drop n) (us.drop n)|_,_,0,r=>r|_,_,_+1,.nil=>.nil|_,_,n+1,.cons _ t=>aL.drop n t
def cO:Option V->Option bb->Prop|some v,some u=>aH v u|none,none=>True|_,_=>False
def KV{κ:Type}:List (κ×V)->List (κ×bb)->Prop:=Paired λ(p:κ×V) (q:κ×bb)=>p.1=q.1/\aH p.2 q.2
def kV:Key->V|.inl i=>.int i|.inr x=>.str x
inductive N where|i (n:Int)|s (x:Str)|t (U:List N)
mutual
def eC(w:dh):N->Int|.i n=>hashInt n|.s x=>hashStr w x|.t U=>reduceHash (Builtin.Tuple.tupleHashOf (eM w U))
def eM(w:dh):List N->List Int|[]=>[]|x::U=>eC w x::eM w U
end
def yC(w:dh)(x:N×Addr×bb):DictEntry:=#[eC w x.1,.ref x.2.1,x.2.2]
inductive HO where
 /-- a list -/
 |lst (U:List V)
 /-- a tuple (never changes) -/
 |tup (U:List V)
 /-- a dict whose keys are ints and hO;one whose keys are tuples of ints and hO (the empty one is AL) -/
 |dK (kvs:List (Key×V))|dT (kvs:List (List Key×V))
 |dN (kvs:List (N×Addr×V))
 /-- a set of ints: its members,its size -/
 |set (S:Key->Bool) (n:Nat)
 /-- an instance of the class at C,its dict at dx,its attributes -/
 |ins (C dx:Addr) (fs:List (Str×V))
 /-- the dict of the instance at x -/
 |own (x:Addr)
 /-- the dict of an exception -/
 |xd (fs:List (Str×V))
 /-- a bound method,f of x -/
 |met (f x:Addr)
 /-- a range object lo,lo+1,.. below hi -/
 |rng (lo hi:Int)
 /-- a thing that is known to the object (the script;a dict while a loop walks it): read,never written while it is so -/
 |frz (o:Obj) (u:HO)
 /-- a code object's table -/
 |tbl (ps:Array bb)
 /-- a code record of that name -/
 |crec (q:Str)
 /-- any other thing,by what is true of its one object (a def of one's own: SetO a S n:=HO.ext λh=>..) -/
 |ext (φ:Heap->Prop)
abbrev Hp:=Addr->Option HO
noncomputable def ML(q:Str):Option Str:=if q="valued.<locals>." then some "worth" else if q="lifted.<locals>." then some "lift" else none
end L2
open L2
variable{α:Type}{U ys:List L2.V}{us vs its:List bb}{x qual z:Str}{u cdv:bb}{H H' F' F1 F0 H0:L2.Hp}{b it dx I:Addr}{h h' base hp:Heap}{items:Array bb}{P prog:fc}{w:dh}{e c tg iter value elt ke ea:Expr}{q pos pos' p sp apos p2 cpos ap cp p1 q1 q':Pos}{aA pins':e7}{s O:cc}{t' i j k n ep:Nat}{ch fp:List Addr}{v:L2.V}{Q:di}{st:Stmt}{body sts:List Stmt}{kvs:List (L2.N×Addr×L2.V)}{mA mg:fg}{fd:FuncData}{ps aC:List Nat}{outer:List Env}{ks:List L2.N}{sc scope:Scope}{zs loose aJ tgN:List Str}{env:Env}{values ifs elts:List Expr}{XP:(Str->Option bb)->Heap->Prop}{YP:dh->Heap->Prop}{cs:List Int}{neg:Bool}{fa:Str->Addr}{b':L2.N}{way:Int}
namespace L2
def MM(q:Str)(l:Nat):Str:=match ML q with|some n=>n|none=>if q="_law_way.<locals>." then(([(274,"_law_wheeled"),(277,"_law_whether"),(280,"_law_priced"),(285,"_law_halved"),(288,"_law_paired"),(291,"_law_heaped")]:List (Nat×Str)).lookup l).getD "<lambda>" else "<lambda>"
inductive HT where|tup (U:List V)|crec (q:Str)
def HT.ho:HT->HO|.tup U=>.tup U|.crec q=>.crec q
noncomputable def upd(H:Hp)(a:Addr)(o:HO):Hp:=λb=>if b=a then some o else H b
def a8{a:Addr}{o:HO}:upd H a o a=some o:=by unfold upd;rw[aK rfl]
def aP{a:Addr}{o:HO}(h:b≠a):upd H a o b=H b:=by unfold upd;rw[ba h]
def MN{a:Addr}{o u:HO}:upd (upd H a o) a u=upd H a u:=by funext b;unfold upd;split <;> rfl
def cI{a:Addr}{o:HO}(h:H a=some o)(h':H b=none):a≠b:=by intro e;subst e;rw[h]at h';cases h'
def fZ(h:Heap)(a:Addr)(items:Array bb):Prop:=∃o,h.get? a=some o/\o.cls=.type "tuple" /\ o.dict=none/\∃n,o.data=.seq items n
def fZ.isTup{a:Addr}(x:fZ h a items):IsTup h a items:=by exists o,e,c,_,n,d,x;exact#[o,e,c,n,d]
def fZ.new(h:Heap)(items:Array bb):fZ (h.push { cls:=.type "tuple",data:=.seq items }) h.objs.size items:=#[_,fi _ rfl,rfl,rfl,_,rfl]
section
variable(P:fc)(w:dh)
def bK(H:Hp)(h:Heap)(a:Addr):HO->Prop
 |.lst U=>U.length<=sizeLine/\∃(its:List bb) (n:Nat),aL U its/\h.get? a=some { cls:=.type "list",data:=.seq its.toArray n }|.tup U=>U.length<=sizeLine/\∃its:List bb,aL U its/\fZ h a its.toArray|.dK kvs=>kvs.length<=sizeLine/\(a==sysModules)=false/\∃vs,KV kvs vs/\h.DictOf (bZ P w) a vs| .dT kvs=>kvs.length ≤ sizeLine/\(a == sysModules)=false/\∃ U:List (List Key × Addr × bb),
     Paired (λ(p:List Key×V) (q:List Key×Addr×bb)=>p.1=q.1/\H q.2.1=some (.tup (p.1.map kV))/\aH p.2 q.2.2) kvs U /\
     ∃o es ep,h.get? a=some o/\o.ExactDict/\o.data=.dict es ep/\es.toList=U.map (entryOfKey (tupleKind (bZ P w)))/\(U.map (·.1)).Nodup
 | .dN kvs => kvs.length ≤ sizeLine ∧ (a == sysModules) = false ∧ ∃ U : List (N × Addr × bb), Paired (fun (p : N × Addr × V) (q : N × Addr × bb) => p.1 = q.1 ∧ p.2.1 = q.2.1 ∧ aH p.2.2 q.2.2) kvs U ∧
     ∃o es ep,h.get? a=some o/\o.ExactDict/\o.data=.dict es ep/\es.toList=U.map (yC w)/\(U.map (·.1)).Nodup
 |.set S n=>h.SetOf (bZ P w) a S n| .ins C dx fs => H dx = some (.own a) ∧ fs.length ≤ 1000 ∧ dx ≠ a ∧ h.get? a = some (W.instObj C dx) ∧
     ∃mA,h.Ns1 dx mA/\(∀f,cO (fs.lookup f) (mA f))/\PySem.Within mA (fs.map (·.1))
 |.own _=>∃o,h.get? a=some o|.xd fs=>∃mA,h.Ns1 a mA/\∀f,cO (fs.lookup f) (mA f)|.rng lo y=>∃t u v,h.get? a=some { cls:=.type "range",data:=.fields (List.toArray [.int lo t,.int y u,.int 1 v]) }|.frz o u=>h.get? a=some o/\bK H h a u|.tbl ps=>∃(q:Str) (m:Array bb),ps[0]? = some (.str q 0)/\h.get? a=some #[.none,none,.fields m,#[]]/\TriplesOk m.toList/\∀z cv,codeAmong z m.toList=some cv->∃c,cv=.ref c/\H c=some (.crec (q++MM q z.line))|.crec q=>∃g vs t,h.get? a=some g/\g.data=.fields vs/\vs[1]? = some (.str q t)|.met f x=>h.get? a=some (W.methodObj (.ref f) (.ref x))|.ext d=>d h/\(∃o,h.get? a=some o)/\∀r l:Heap,d r->(∀o,r.get? a=some o->l.get? a=some o)->d l
def gh(H:Hp)(h:Heap):Prop:=∀a o,H a=some o->bK P w H h a o
end
section
variable{a:Addr}{o:HO}
theorem bK.lt(x:bK P w H h a o):a<h.objs.size:=by cases o with|lst U=>exists _,_,_,_,e,x;exact dv e|tup U=>exists _,_,_,p,x;exact p.isTup.lt|dK kvs|dT kvs|dN kvs=>exists _,_,_,_,o,_,_,e,_,x;exact dv e|set S n=>exists o,_,_,_,e,_,x;exact dv e|ins C dx fs=>exists _,_,_,e,_,x;exact dv e|own y=>exists _,e,x;exact dv e|xd fs=>obtain⟨_,⟨_,_,_,e,_⟩,_⟩:=x;exact dv e|rng lo g=>exists _,_,_,e,x;exact dv e|frz ob u=>exists e,_,x;exact dv e|tbl ps|crec q=>exists _,_,_,e,_,x;exact dv e|met f y=>exact dv (show h.get? a=some _ from x)|ext d=>obtain⟨_,⟨_,e⟩,_⟩:=x;exact dv e
theorem Paired.mapP{α d:Type}{F G:α->d->Prop}:∀{L:List α}{l:List d},Paired F L l->(∀a b,F a b->G a b)->Paired G L l|_,_,.nil,_=>.nil|_,_,.cons r t,f=>.cons (f _ _ r) (Paired.mapP t f)
def bK.stay(x:bK P w H h a o)(k:∀b u,(b=a\/H b=some (.own a))->h.get? b=some u->h'.get? b=some u)(ho:∀b,H b=some (.own a)->H' b=some (.own a))(ht:∀(b:Addr) (u:HT),H b=some u.ho->H' b=some u.ho):bK P w H' h' a o:=by
 induction o with
 |lst U=>exists z,its,n,r,e,x;exact#[z,its,n,r,k _ _ (.inl rfl) e]|tup U=>exists z,its,r,ob,e,c,x;exact#[z,its,r,ob,k _ _ (.inl rfl) e,c]|dK kvs=>exists z,y,vs,r,ob,es,ep,e,c,x;exact#[z,y,vs,r,ob,es,ep,k _ _ (.inl rfl) e,c]|dT kvs=>exists z,y,U,r,ob,es,ep,e,c,x;exact#[z,y,U,Paired.mapP r λp q z=>#[z.1,ht _ (.tup _) z.2.1,z.2.2],ob,es,ep,k _ _ (.inl rfl) e,c]|dN kvs=>exists z,y,U,r,ob,es,ep,e,c,x;exact#[z,y,U,r,ob,es,ep,k _ _ (.inl rfl) e,c]|set S n=>exists ob,es,ep,t,e,c,x;exact#[ob,es,ep,t,k _ _ (.inl rfl) e,c]|ins C dx fs=>obtain⟨d,z,ne,e,mA,⟨g,es,ep,E,c⟩,r⟩:=x;exact#[ho _ d,z,ne,k _ _ (.inl rfl) e,mA,#[g,es,ep,k _ _ (.inr d) E,c],r]|own y=>exists ob,e,x;exact#[ob,k _ _ (.inl rfl) e]|xd fs=>obtain⟨mA,⟨g,es,ep,e,c⟩,r⟩:=x;exact#[mA,#[g,es,ep,k _ _ (.inl rfl) e,c],r]|rng lo L=>exists t,u,v,e,x;exact#[t,u,v,k _ _ (.inl rfl) e]|frz ob u A=>exists e,q,x;exact#[k _ _ (.inl rfl) e,A q]|tbl ps =>
  exists q,m,J,E,F,D,x;exact#[q,m,J,k _ _ (.inl rfl) E,F,λz cv f=>by
   exists c,B,G,D z cv f;exact#[c,B,ht _ (.crec _) G]]
 |crec q=>exists l,vs,t,e,r,x;exact#[l,vs,t,k _ _ (.inl rfl) e,r]|met f y=>have e:h.get? a=some (W.methodObj (.ref f) (.ref y)):=x;show h'.get? a=some (W.methodObj (.ref f) (.ref y));exact k a _ (.inl rfl) e|ext K=>obtain⟨p,⟨o,e⟩,st⟩:=x;exact#[st _ _ p λo q=>k _ _ (.inl rfl) q,#[o,k _ _ (.inl rfl) e],st]
theorem gh.lt(x:gh P w H h)(e:H a=some o):a<h.objs.size:=(x a o e).lt
def gh.fresh(x:gh P w H h)(e:h.objs.size<=a):H a=none:=by cases q:H a with|none=>rfl|some u=>exact absurd (hB (x.lt q) e) (jn _)
def gh.kept(x:gh P w H h)(k:∀b u,h.get? b=some u->h'.get? b=some u):gh P w H h':=λa o e =>
 (x a o e).stay (λb u _ q=>k b u q) (λ_ q=>q) λ_ _ q=>q
def gh.laid(x:gh P w H h)(k:∀b u,h.get? b=some u->h'.get? b=some u)(hp:h.objs.size<=a)(new:bK P w (upd H a o) h' a o):gh P w (upd H a o) h':=λb u e=>by have hn:=x.fresh hp;by_cases d:b=a;{subst d;rw[a8]at e;cases e;exact new};rw[aP d]at e;exact(x b u e).stay (λc v _ q=>k c v q) (λc q=>by rw[aP (cI q hn)];exact q) λc U q=>by rw[aP (cI q hn)];exact q
end
def Rd(H:Hp)(a:Addr)(u:HO):Prop:=H a=some u\/∃o,H a=some (.frz o u)
def Rd.ok{a:Addr}{u:HO}(r:Rd H a u)(x:gh P w H h):bK P w H h a u:=by rcases r with r|⟨o,r⟩;{exact x a u r};exists _,q,x a _ r;exact q
def wa:Option HO->Prop|some (.lst _)|some (.dK _)|some (.dT _)|some (.dN _)|some (.set _ _)|some (.ins _ _ _)|some (.ext _)=>True|_=>False
section
variable{x e:Addr}{a:HO}
def gh.write(ok:gh P w H h)(mu:wa (H x))(o:e=x\/H e=some (.own x))(k:∀b u,b≠e->h.get? b=some u->h'.get? b=some u)(m:∃u,h'.get? e=some u)(new:bK P w (upd H x a) h' x a):gh P w (upd H x a) h':=λb u q=>by
 have N:∀c y,H c=some (.own y)->c≠x:=λc y r z=>by subst z;rw[r]at mu;exact mu
 have f:∀(c:Addr) (u:HT),H c=some u.ho->c≠x:=λc u r z=>by subst z;rw[r]at mu;cases u <;> exact mu
 by_cases l:b=x
 . subst l;rw[a8]at q;cases q;exact new
 . rw[aP l]at q;by_cases d:b=e
   . have q':H b=some (.own x):=by
       rcases o with z|z
       . exact absurd (d.trans z) l
       . rw[d];exact z
     rw[q]at q';cases q';exists v,t,m;exact#[v,by rw[d];exact t]
   . (refine(ok b u q).stay (λc v g r=>k c v ?_ r) (λc r=>by rw[aP (N c b r)];exact r) λc U r=>by rw[aP (f c U r)];exact r);rcases g with rfl|g;{exact d};rintro rfl;rcases o with z|z;{exact N c b g z};rw[g]at z;cases z;exact l rfl
end
structure Un(fs ex:List Addr)(H H':Hp)(h h':Heap):Prop where
 keep:∀b o,h.get? b=some o->H b=none->b∉fs->b∉ex->h'.get? b=some o
 slot:∀b o,h.get? b=some o->H b=none->b∈fs->b∉ex->∃sl,h'.get? b=some {o with slots:=sl}
 free:∀b o,h.get? b=some o->H b=none->b∉ex->H' b=none
 there:∀b o,h.get? b=some o->b∉ex->∃o',h'.get? b=some o'
 tups:∀b U,H b=some (.tup U)->H' b=some (.tup U)
 frzs:∀b o u,H b=some (.frz o u)->H' b=some (.frz o u)
 tbls:∀b ps,H b=some (.tbl ps)->∃more,H' b=some (.tbl (ps++more))
section
variable{fs ex:List Addr}{H1:Hp}{d:Heap}{a x e:Addr}{o:HO}
def Un.any(u:Un fs ex H H1 h d){ob:Obj}(q:h.get? b=some ob)(n:H b=none)(f:b∉ex):∃S,d.get? b=some {ob with slots:=S}:=by by_cases g:b∈fs;{exact u.slot b ob q n g f};exact#[ob.slots,u.keep b ob q n g f]
def Un.kept(k:∀b u,h.get? b=some u->h'.get? b=some u):Un fs ex H H h h' :=
 #[λb ob q _ _ _=>k b ob q,λb ob q _ _ _=>#[ob.slots,k b ob q],λ_ _ _ n _=>n,λb ob q _=>#[ob,k b ob q],λ_ _ q=>q,λ_ _ _ q=>q,λ_ ps q=>#[#[],by rw[q];simp]]
def Un.refl:Un fs ex H H h h:=Un.kept λ_ _ q=>q
def Un.laid(k:∀b u,h.get? b=some u->h'.get? b=some u)(hp:h.objs.size<=a)(hn:H a=none):Un fs ex H (upd H a o) h h' where
 keep:=λb u q _ _ _=>k b u q
 slot:=λb u q _ _ _=>#[u.slots,k b u q]
 free:=λb u q n _=>by rw[aP (gj (hB (dv q) hp))];exact n
 there:=λb u q _=>#[u,k b u q]
 tups:=λb U q=>by rw[aP (cI q hn)];exact q
 frzs:=λb u U q=>by rw[aP (cI q hn)];exact q
 tbls:=λb ps q=>#[#[],by rw[aP (cI q hn),q];simp]
def Un.write(mu:wa (H x))(y:e=x\/H e=some (.own x))(k:∀b u,b≠e->h.get? b=some u->h'.get? b=some u)(l:∃u,h'.get? e=some u):Un fs ex H (upd H x o) h h':=by
 have m:∀b,H b=none->b≠x:=λb n z=>by subst z;rw[n]at mu;exact mu
 have t:∀b,H b=none->b≠e:=λb n z=>by subst z;rcases y with r|r;{exact m b n r};rw[n]at r;cases r
 have g:∀b u,H b=some u -> ¬ wa (some u)->b≠x:=λb u q nm z=>by subst z;rw[q]at mu;exact nm mu
 refine#[λb u q n _ _=>k b u (t b n) q,λb u q n _ _=>#[u.slots,k b u (t b n) q],λb u q n _=>by rw[aP (m b n)];exact n,λb u q _=>?_,
  λb U q=>by rw[aP (g b _ q λz=>z)];exact q,λb u U q=>by rw[aP (g b _ q λz=>z)];exact q,λb ps q=>#[#[],by rw[aP (g b _ q λz=>z),q];simp]]
 by_cases f:b=e
 . subst f;exact l
 . exact#[u,k b u f q]
end
def B1(h:Heap)(H:Hp):List Addr:=(List.range h.objs.size).filter λa=>(H a).isSome
def hX(h:Heap)(H:Hp):Heap:=W.hideAll h (B1 h H)
def MO(h:Heap)(H:Hp):(hX h H).objs.size=h.objs.size:=W.hideAll_size _ _
def sV{o:Obj}(e:h.get? b=some o)(n:H b=none):(hX h H).get? b=some o :=
 W.hideAll_get _ e λa=>by have q:(H b).isSome=true:=(Bg.mp a).2;rw[n]at q;simp at q
def MP{o:Obj}(e:(hX h H).get? b=some o):h.get? b=some o/\H b=none:=by have E:h.get? b=some o:=W.of_hideAll (B1 h H) e;refine#[E,?_];cases q:H b with|none=>rfl|some x=>have a:b∈B1 h H:=Bg.mpr #[pa.mpr (dv E),by simp[q]];have z:(hX h H).get? b=none:=W.hideAll_none (B1 h H) a;rw[z]at e;cases e
def MQ(g h:Heap)(L:Addr):e7:=(List.range h.objs.size).filterMap λa=>if a=L\/(g.get? a).isSome=true then none else(h.get? a).map λo=>(a,o)
def rest(g h:Heap)(L d:Addr):e7:=(MQ g h L).filter λp=>decide (p.1≠d)
structure Mod(K:Fg)(mg:fg)(base:Heap):Prop where
 kin:K.In base
 glob:base.Ns mainGlobals mg
 blt:∃mb,base.Ns builtinsNs mb/\∀x:Str,x ≠ "__name__"->mb x=bootBuiltins x
 nolimit:base.NoLimit
 bmod:∃bm ob,mg "__builtins__"=some (.ref bm)/\bm≠builtinsNs/\base.get? bm=some ob/\ob.cls=.type "module" /\ ob.dict=some builtinsNs/\ob.data=.plain
def B2(base:Heap)(H:Hp)(q:Str)(cd:bb):Prop:=∃c T ps,cd=.ref c/\W.CodeHd base c T/\H T=some (.tbl ps)/\ps[0]? = some (.str (q++".<locals>.") 0)
def B2.mono{q:Str}{cd:bb}(x:B2 base H q cd)(t:∀b ps,H b=some (.tbl ps)->∃more,H' b=some (.tbl (ps++more))):B2 base H' q cd:=by exists c,T,ps,g,f,d,E,x;exists m,a,t T ps d;refine#[c,T,_,g,f,a,?_];rw[Array.getElem?_append_left (by have:=(CM.mp E).1;exact this)];exact E
def kT(K:Fg)(base:Heap)(H:Hp):Prop:=∀cd q,W.codeIn K cd q=true->B2 base H q cd
theorem kT.mono{K:Fg}(x:kT K base H)(t:∀b ps,H b=some (.tbl ps)->∃more,H' b=some (.tbl (ps++more))):kT K base H':=λcd q e=>(x cd q e).mono t
structure Cx where
 prog:fc
 w:dh
 K:Fg
 mg:fg
 base:Heap
 A:dj
 N:List Str
 s₀:cc
 H₀:Hp
 env:Env
 outer:List Env
 stack:List Env
 ex:List Addr
 fn:Str->Bool
 calm:Bool
 pn:e7
 xe:di
def h9(l:List Env):List Addr:=l.filterMap (·.frame)
end L2
variable{X:L2.Cx}
namespace L2
abbrev Cx.fs(X:Cx):List Addr:=h9 X.outer
def B3(sc:Scope)(x:Str):Prop:=sc.names.lookup x=some .local\/sc.names.lookup x=some .cell\/sc.names.lookup x=some .free
def Loc(sc:Scope)(x:Str):Prop:=sc.names.lookup x=some .local\/sc.names.lookup x=some .cell
def Look(env:Env)(h:Heap)(m:fg)(x:Str)(u:bb):Prop :=
 (env.kindOf x=some .local/\m x=some u)\/((env.kindOf x=some .cell\/env.kindOf x=some .free)/\∃c,env.cells.lookup x=some c/\h.IsCell c (some u))
structure Cx.Ok(X:Cx):Prop where
 mod:Mod X.K X.mg X.base
 kind:X.env.scope.kind=.function
 glob:X.env.globals=mainGlobals
 blt:X.env.builtins=builtinsNs
 above:X.s₀.heap.objs.size<=X.env.locals
 inj:∀x y c,X.env.cells.lookup x=some c->X.env.cells.lookup y=some c->x=y
 has:∀x,(X.env.kindOf x=some .cell\/X.env.kindOf x=some .free)->∃c,X.env.cells.lookup x=some c
 cab:∀x c,X.fn x=true->X.env.cells.lookup x=some c->X.s₀.heap.objs.size<=c
 hd:X.calm=true->X.A.handled=none
 frames:X.A.frames=some X.stack
 stk:X.stack=X.outer\/(X.stack=X.env::X.outer/\X.env.frame=some X.env.locals)
 exf:∀b∈X.ex,b≠X.env.locals/\∀x c,X.env.cells.lookup x=some c->c≠b
 bs:∀b o,X.base.get? b=some o->X.s₀.heap.get? b=some o/\X.H₀ b=none
 bsz:X.base.objs.size<=X.s₀.heap.objs.size
 noex:∀b o,X.base.get? b=some o->b∉X.ex
 exfs:∀b∈X.ex,b∉X.fs
 funs:X.s₀.heap.FunFrames X.base X.outer
 frf:∀b∈X.fs,X.H₀ b=none
 tabs:kT X.K X.base X.H₀
structure Inv(X:Cx)(aA:e7)(σ:List (Option V))(H:Hp)(s:cc):Prop where
 ok:X.Ok
 os:s.os=X.s₀.os
 bare:AllBare s.gens
 base:Un X.fs X.ex X.H₀ H X.s₀.heap s.heap
 loc:∃m,s.heap.Ns X.env.locals m/\∀(i:Nat) (x:Str) (v:V),X.N[i]? = some x->σ[i]? = some (some v)->B3 X.env.scope x->∃u,aH v u/\Look X.env s.heap m x u
 cell:∀x c,X.env.cells.lookup x=some c->∃v,s.heap.IsCell c v
 free:H X.env.locals=none
 freeC:∀x c,X.env.cells.lookup x=some c->H c=none
 pin:∀p∈X.pn++aA,s.heap.get? p.1=some p.2/\H p.1=none/\p.1≠X.env.locals/\p.1∉X.fs/\∀v,p.2.data ≠ .cell v
 hok:gh X.prog X.w H s.heap
 len:σ.length=X.N.length
section
variable{σ:List (Option V)}
def Cx.Ok.nofr(ok:X.Ok){o:Obj}(e:X.base.get? b=some o):b∉X.fs:=λa=>by have:=(ok.funs.mem a).1;rw[e]at this;cases this
theorem Inv.bs(I:Inv X aA σ H s):∀b o,X.base.get? b=some o->s.heap.get? b=some o/\H b=none:=λb o e =>
 #[I.base.keep b o (I.ok.bs b o e).1 (I.ok.bs b o e).2 (I.ok.nofr e) (I.ok.noex b o e),I.base.free b o (I.ok.bs b o e).1 (I.ok.bs b o e).2 (I.ok.noex b o e)]
def Inv.bk(I:Inv X aA σ H s):∀b o,X.base.get? b=some o->s.heap.get? b=some o:=λb o e=>(I.bs b o e).1
theorem Inv.mod(I:Inv X aA σ H s):Mod X.K X.mg X.base:=I.ok.mod
def Inv.kIn(I:Inv X aA σ H s):X.K.In s.heap:=I.ok.mod.kin.keeps I.bk
theorem Inv.lt(I:Inv X aA σ H s):X.env.locals<s.heap.objs.size:=let⟨_,hn,_⟩:=I.loc;hn.lt
def Inv.sz(I:Inv X aA σ H s):X.s₀.heap.objs.size<=s.heap.objs.size:=ii I.ok.above (sy I.lt)
def Inv.nofs(I:Inv X aA σ H s){a:Addr}(h:s.heap.objs.size<=a):a∉X.fs:=λd=>by exists _,o,ho,_,I.ok.funs.mem d;exact absurd (hB (dv ho) (ii I.sz h)) (jn _)
def Inv.cne(I:Inv X aA σ H s):∀x c,X.env.cells.lookup x=some c->c≠X.env.locals:=λx c e z=>by exists v,o,ho,hd,I.cell x c e;obtain⟨m,⟨f,es,ep,a,d,_⟩,_⟩:=I.loc;rw[z,a]at ho;cases ho;rw[d]at hd;cases hd
theorem Inv.funs(I:Inv X aA σ H s):s.heap.FunFrames X.base X.outer:=by(have all:∀(l:List Env),(∀b∈h9 l,b∈X.fs)->X.s₀.heap.FunFrames X.base l->s.heap.FunFrames X.base l:=by intro l;induction l with|nil=>intro _ _;trivial|cons env r g=>intro hs hl;obtain⟨hk,⟨L,o,a,hn,ho,hd⟩,m⟩:=hl;have f:L∈X.fs:=hs L (by unfold h9;rw[qw,a];exact c6);exists S,e,I.base.slot L o ho (I.ok.frf L f) f λz=>I.ok.exfs L z f;exact#[hk,#[L,_,a,hn,e,hd],g (λb d=>hs b (by unfold h9;rw[qw,a];exact df d)) m]);exact all X.outer (λ_ d=>d) I.ok.funs
theorem Inv.stack(I:Inv X aA σ H s):s.heap.FunFrames X.base X.stack:=by rcases I.ok.stk with e|⟨e,a⟩;{rw[e];exact I.funs};rw[e];exists m,hn,_,I.loc;refine .cons (by rw[I.ok.kind];decide) a hn ?_ I.funs;exact Heap.get?_none_of_le (ii I.ok.bsz I.ok.above)
def Inv.stkSub(I:Inv X aA σ H s):∀b∈h9 X.stack,b∈X.env.locals::X.fs:=λb a=>by rcases I.ok.stk with e|⟨e,d⟩;{rw[e]at a;exact df a};rw[e]at a;unfold h9 at a;rw[qw,d]at a;exact a
def Inv.stkFree(I:Inv X aA σ H s):∀b∈h9 X.stack,H b=none:=λb a=>by rcases dq.mp (I.stkSub b a)with e|a;{rw[e];exact I.free};exists _,o,ho,_,I.ok.funs.mem a;exact I.base.free b o ho (I.ok.frf b a) λz=>I.ok.exfs b z a
def Inv.step{g':Array GenState}{d':Drawn}(I:Inv X aA σ H s)(f:∀b∈ch,(b∈X.ex\/X.s₀.heap.objs.size<=b)/\b≠X.env.locals/\(∀x c,X.env.cells.lookup x=some c->c≠b)/\∀p∈X.pn++aA,p.1≠b)(keep:∀b o,b≠X.env.locals->b∉X.fs->b∉ch->s.heap.get? b=some o->H b=none->h'.get? b=some o)(slot:∀b o,b≠X.env.locals->b∈X.fs->b∉ch->s.heap.get? b=some o->H b=none->∃D,h'.get? b=some {o with slots:=D})(free:∀b o,b∉ch->s.heap.get? b=some o->H b=none->H' b=none)(there:∀b o,b∉ch->s.heap.get? b=some o->∃y,h'.get? b=some y)(tups:∀b U,H b=some (.tup U)->H' b=some (.tup U))(frzs:∀b o u,H b=some (.frz o u)->H' b=some (.frz o u))(tbls:∀b ps,H b=some (.tbl ps)->∃more,H' b=some (.tbl (ps++more)))(ns:∀m,s.heap.Ns X.env.locals m->h'.Ns X.env.locals m)(hok:gh X.prog X.w H' h')(K:AllBare g'):Inv X aA σ H' {s with heap:=h',gens:=g',drawn:=d',toks:=t'}:=by(have A:∀b o,X.s₀.heap.get? b=some o->b≠X.env.locals:=λb o e=>gj (hB (dv e) I.ok.above);have g:∀b o,X.s₀.heap.get? b=some o->b∉X.ex->b∉ch:=λb o e a t=>by rcases(f b t).1 with z|z;{exact a z};exact absurd (hB (dv e) z) (jn _));(have C:∀x c,X.env.cells.lookup x=some c->∀v,s.heap.IsCell c v->h'.IsCell c v:=λx c e v ⟨o,ho,hd⟩=>by have N:c∉ch:=λz=>(f c z).2.2.1 x c e rfl;by_cases F:c∈X.fs;{exists D,q,slot c o (I.cne x c e) F N ho (I.freeC x c e);exact#[_,q,hd]};exact#[o,keep c o (I.cne x c e) F N ho (I.freeC x c e),hd]);refine#[I.ok,I.os,K,#[λb o e n t a=>?_,λb o e n t a=>?_,λb o e n a=>?_,λb o e a=>?_,λb U e=>tups b U (I.base.tups b U e),λb o U e=>frzs b o U (I.base.frzs b o U e),λb ps e=>?_],?_,λx c e=>?_,?_,λx c e=>?_,λp hp=>?_,hok,I.len];{exact keep b o (A b o e) t (g b o e a) (I.base.keep b o e n t a) (I.base.free b o e n a)};{exists D,E,I.base.slot b o e n t a;exists S,B,slot b _ (A b o e) t (g b o e a) E (I.base.free b o e n a);exact#[S,B]};{exists y,E,I.base.there b o e a;exact free b y (g b o e a) E (I.base.free b o e n a)};{exists y,E,I.base.there b o e a;exact there b y (g b o e a) E};{exists G,E,I.base.tbls b ps e;exists M,B,tbls b _ E;exact#[G++M,by rw[B,Array.append_assoc]]};{exists m,hn,J,I.loc;refine#[m,ns m hn,λi x v E B L=>?_];exists u,r,l,J i x v E B L;refine#[u,r,?_];rcases l with l|⟨k,c,e,z⟩;{exact .inl l};exact .inr #[k,c,e,C x c e _ z]};{exists v,z,I.cell x c e;exact#[v,C x c e v z]};{obtain⟨m,⟨o,_,_,ho,_⟩,_⟩:=I.loc;exact free _ o (λz=>(f _ z).2.1 rfl) ho I.free};{exists v,o,ho,hd,I.cell x c e;exact free c o (λz=>(f c z).2.2.1 x c e rfl) ho (I.freeC x c e)};exists e,n,ne,nf,d,I.pin p hp;have N:p.1∉ch:=λz=>(f p.1 z).2.2.2 p hp rfl;exact#[keep p.1 p.2 ne nf N e n,free p.1 p.2 N e n,ne,nf,d]
def Inv.un(I:Inv X aA σ H s)(u:Un X.fs [] H H' s.heap h')(hok:gh X.prog X.w H' h'):Inv X aA σ H' {s with heap:=h',toks:=t'}:=by
 obtain⟨m,⟨o,es,ep,ho,r⟩,_⟩:=id I.loc;exists S,l,u.any ho I.free (by simp)
 exact I.step (g':=s.gens) (d':=s.drawn) (ch:=[]) (λ_ z=>nomatch z) (λb o _ d _ e n=>u.keep b o e n d (by simp)) (λb o _ d _ e n=>u.slot b o e n d (by simp)) (λb o _ e n=>u.free b o e n (by simp)) (λb o _ e=>u.there b o e (by simp)) u.tups u.frzs u.tbls (λM g=>by
  exists t,E,f,a,R,g;rw[ho]at a;cases a;exact#[_,E,f,l,R]) hok I.bare
def Inv.call{g':Array GenState}{d':Drawn}(I:Inv X aA σ H s)(u:Un (h9 X.stack) ch H H' s.heap h')(hok:gh X.prog X.w H' h')(y:AllBare g')(f:∀b∈ch,(b∈X.ex\/X.s₀.heap.objs.size<=b)/\b≠X.env.locals/\(∀x c,X.env.cells.lookup x=some c->c≠b)/\∀p∈X.pn++aA,p.1≠b):Inv X aA σ H' {s with heap:=h',gens:=g',drawn:=d',toks:=t'}:=by
 obtain⟨m,⟨o,es,ep,ho,r⟩,_⟩:=id I.loc;exists S,g,u.any ho I.free λz=>(f _ z).2.1 rfl;exact I.step (ch:=ch) f (λb o g A a e n=>u.keep b o e n (λz=>(dq.mp (I.stkSub b z)).elim g A) a) (λb o _ _ a e n=>u.any e n a) (λb o a e n=>u.free b o e n a) (λb o a e=>u.there b o e a) u.tups u.frzs u.tbls (λM t=>by
  exists B,E,l,d,R,t;rw[ho]at d;cases d;exact#[_,E,l,g,R]) hok y
def Inv.turned(I:Inv X aA σ H s)(k:∀b o,b≠it->s.heap.get? b=some o->h'.get? b=some o)(hn:H it=none)(d:it≠X.env.locals)(y:it∈X.ex\/X.s₀.heap.objs.size<=it)(t:∀x c,X.env.cells.lookup x=some c->c≠it)(l:∀p∈X.pn++aA,p.1≠it):Inv X aA σ H {s with heap:=h',toks:=t'}:=by
 have N:∀b u,H b=some u->b≠it:=λb u e z=>by rw[z,hn]at e;cases e
 refine I.step (g':=s.gens) (d':=s.drawn) (ch:=[it]) (λb g=>?_) (λb o _ _ a e _=>k b o (λz=>a (by simp[z])) e) (λb o _ _ a e _=>#[o.slots,k b o (λz=>a (by simp[z])) e]) (λ_ _ _ _ n=>n)
  (λb o a e=>#[o,k b o (λz=>a (by simp[z])) e]) (λ_ _ e=>e) (λ_ _ _ e=>e) (λb ps e=>#[#[],by rw[e];simp]) (λm f=>?_) (λb u e=>?_) I.bare
 . (have e:b=it:=by simpa using g);subst e;exact#[y,d,t,l]
 . exists o,es,ep,ho,r,f;exact#[o,es,ep,k _ o (Ne.symm d) ho,r]
 . refine(I.hok b u e).stay (λc v a q=>k c v ?_ q) (λ_ q=>q) λ_ _ q=>q;rcases a with z|z;{rw[z];exact N b u e};exact N c _ z
def Inv.tok(I:Inv X aA σ H s)(t:Nat):Inv X aA σ H {s with toks:=t}:=I.un (h':=s.heap) (t':=t) Un.refl I.hok
theorem Inv.kept(I:Inv X aA σ H s)(k:∀b u,s.heap.get? b=some u->h'.get? b=some u):Inv X aA σ H {s with heap:=h',toks:=t'}:=I.un (Un.kept k) (I.hok.kept k)
theorem Inv.laid{a:Addr}{o:HO}(I:Inv X aA σ H s)(k:∀b u,s.heap.get? b=some u->h'.get? b=some u)(hp:s.heap.objs.size<=a)(new:bK X.prog X.w (upd H a o) h' a o):Inv X aA σ (upd H a o) {s with heap:=h',toks:=t'}:=I.un (Un.laid k hp (I.hok.fresh hp)) (I.hok.laid k hp new)
theorem Inv.write{x e:Addr}{o:HO}(I:Inv X aA σ H s)(mu:wa (H x))(d:e=x\/H e=some (.own x))(k:∀b u,b≠e->s.heap.get? b=some u->h'.get? b=some u)(a:∃u,h'.get? e=some u)(new:bK X.prog X.w (upd H x o) h' x o):Inv X aA σ (upd H x o) {s with heap:=h',toks:=t'}:=I.un (Un.write mu d k a) (I.hok.write mu d k a new)
def Inv.weak{a:List (Option V)}(I:Inv X aA σ H s)(f:a.length=σ.length)(w:∀(i:Nat) v,a[i]? = some (some v)->σ[i]? = some (some v)):Inv X aA a H s :=
 #[I.ok,I.os,I.bare,I.base,let⟨m,hn,d⟩:=I.loc;#[m,hn,λi x v l g E=>d i x v l (w i v g) E],I.cell,I.free,I.freeC,I.pin,I.hok,f.trans I.len]
def Inv.pins_of(I:Inv X aA σ H s)(h:∀p∈pins',s.heap.get? p.1=some p.2/\H p.1=none/\p.1≠X.env.locals/\p.1∉X.fs/\∀v,p.2.data ≠ .cell v):Inv X pins' σ H s :=
 #[I.ok,I.os,I.bare,I.base,I.loc,I.cell,I.free,I.freeC,λp hp=>(ko.mp hp).elim (λz=>I.pin p (qx _ z)) (h p),I.hok,I.len]
def yD{N:List Str}(hN:N.Nodup)(a:N[i]? = some x)(b:N[j]? = some x):i=j:=by exists g,d,mr.mp a;exists f,E,mr.mp b;exact(CN hN).mp (d.trans E.symm)
def yE{M:Model}{A:dj}{E:di}{Q:Unit->cc->Prop}(I:Inv X aA σ H s)(hN:X.N.Nodup)(hi:X.N[i]? = some x)(l:Loc X.env.scope x)(r:aH v u)(h:∀O,Inv X aA (σ.set i (some v)) H O->(∃a,Heap.SameBut a s.heap O.heap/\(a=X.env.locals\/X.env.cells.lookup x=some a))->Q () O)(hf:X.fn x=true\/X.env.scope.names.lookup x=some .local:=by first|exact .inl rfl|exact .inr rfl|assumption):wpAny M A (storeName X.env x u) Q E s:=by
 exists m,hn,hl,id I.loc;have L:(X.env.scope.kind == .class||(X.env.scope.kind == .module&&X.env.locals != X.env.globals))=false:=by rw[I.ok.kind];rfl
 have C:i<σ.length:=by rw[I.len];exact(mr.mp hi).1
 have cne:=I.cne;have t:∀{a:Addr}{h':Heap},(∃o,s.heap.get? a=some o/\H a=none)->Heap.SameBut a s.heap h'->gh X.prog X.w H h':=λ{a h'} ha hs b ob e=>by exists _,_,cW,ha;refine(I.hok b ob e).stay (λc W g q=>(hs.2 c ?_).trans q) (λ_ q=>q) λ_ _ q=>q;rintro rfl;rcases g with rfl|g;{rw[cW]at e;cases e};rw[cW]at g;cases g
 rcases l with hk|hk
 . refine wpAny_storeName_local hk hn (λh' ae hs=>?_) L;exists oL,_,_,aa,_,id hn;refine h _ #[I.ok,I.os,I.bare,#[λb o e n G l=>?_,λb o e n G l=>?_,I.base.free,λb o e l=>?_,I.base.tups,I.base.frzs,I.base.tbls],#[_,ae,λj y V f B e3=>?_],λy c e=>?_,I.free,I.freeC,λp hp=>?_,t #[oL,aa,I.free] hs,by simpa using I.len] #[_,hs,.inl rfl];{exact(hs.2 b (gj (hB (dv e) I.ok.above))).trans (I.base.keep b o e n G l)};{exists Z,f,I.base.slot b o e n G l;exact#[Z,(hs.2 b (gj (hB (dv e) I.ok.above))).trans f]};{exists o',f,I.base.there b o e l;exact#[o',(hs.2 b (gj (hB (dv e) I.ok.above))).trans f]};{by_cases D:j=i;{subst D;rw[hi]at f;cases f;rw[pb C]at B;cases B;exact#[u,r,.inl #[hk,by simp]]};rw[jo (Ne.symm D)]at B;exists Y,r',q,hl j y V f B e3;refine#[Y,r',?_];rcases q with⟨k,e⟩|⟨k,c,e,z⟩;{refine .inl #[k,?_];have:y≠x:=λe=>D (yD hN f (e ▸ hi));simp[this,e]};exact .inr #[k,c,e,z.sameBut hs (cne y c e)]};{exists W,z,I.cell y c e;exact#[W,z.sameBut hs (cne y c e)]};exists e,n,ne,nf,d,I.pin p hp;exact#[(hs.2 p.1 ne).trans e,n,ne,nf,d]
 . have F:X.fn x=true:=by
     rcases hf with z|z
     . exact z
     . rw[z]at hk;cases hk
   exists c,g,I.ok.has x (.inl hk);exists W,z,I.cell x c g;refine wpAny_storeName_cell I.ok.kind hk g z (λh' S hs=>?_);exists oc,K,J,id z;refine h {s with heap:=h'} #[I.ok,I.os,I.bare,#[λb o e n G l=>?_,λb o e n G l=>?_,I.base.free,λb o e l=>?_,I.base.tups,I.base.frzs,I.base.tbls],#[m,hn.sameBut hs (Ne.symm (cne x c g)),λj y V f B e3=>?_],λy T e=>?_,I.free,I.freeC,λp hp=>?_,t #[oc,K,I.freeC x c g] hs,by simpa using I.len] #[c,hs,.inr g]
   . exact(hs.2 b (gj (hB (dv e) (I.ok.cab x c F g)))).trans (I.base.keep b o e n G l)
   . exists Z,f,I.base.slot b o e n G l;exact#[Z,(hs.2 b (gj (hB (dv e) (I.ok.cab x c F g)))).trans f]
   . exists o',f,I.base.there b o e l;exact#[o',(hs.2 b (gj (hB (dv e) (I.ok.cab x c F g)))).trans f]
   . by_cases D:j=i;{subst D;rw[hi]at f;cases f;rw[pb C]at B;cases B;exact#[u,r,.inr #[.inl hk,c,g,S]]};rw[jo (Ne.symm D)]at B;exists Y,r',q,hl j y V f B e3;refine#[Y,r',?_];rcases q with q|⟨k,T,e,z'⟩;{exact .inl q};refine .inr #[k,T,e,z'.sameBut hs ?_];rintro rfl;exact D (yD hN f (I.ok.inj _ _ _ e g ▸ hi))
   . by_cases R:T=c;{subst R;exact#[_,S]};exists w2,z2,I.cell y T e;exact#[w2,z2.sameBut hs R]
   . exists e,n,ne,nf,d,I.pin p hp;refine#[(hs.2 p.1 ?_).trans e,n,ne,nf,d];intro q;rw[q,K]at e;have q':oc=p.2:=jx e;exact d W (by rw[<- q'];exact J)
def yF{M:Model}{A:dj}{E:di}{Q:Unit->cc->Prop}(I:Inv X aA σ H s)(hN:X.N.Nodup)(hi:X.N[i]? = some x)(a:Loc X.env.scope x)(r:aH v u)(h:∀O,Inv X aA (σ.set i (some v)) H O->Q () O)(d:X.fn x=true\/X.env.scope.names.lookup x=some .local:=by first|exact .inl rfl|exact .inr rfl|assumption):wpAny M A (storeName X.env x u) Q E s :=
 yE I hN hi a r (λO f _=>h O f) d
def Inv.call'(I:Inv X aA σ H s)(ho:O.os=s.os)(u:Un (h9 X.stack) ch H H' s.heap O.heap)(hok:gh X.prog X.w H' O.heap)(d:AllBare O.gens)(a:∀b∈ch,(b∈X.ex\/X.s₀.heap.objs.size<=b)/\b≠X.env.locals/\(∀x c,X.env.cells.lookup x=some c->c≠b)/\∀p∈X.pn++aA,p.1≠b):Inv X aA σ H' O:=by exists h',g',d',t',o,O;have e:o=s.os:=ho;subst e;exact I.call (g':=g') (t':=t') (d':=d') u hok d a
end
abbrev XK:=bb->Option Addr->Hp->Prop
abbrev St:=List (Option V)
abbrev VK:=V->Hp->Prop
abbrev TE:=St->Hp->VK->Prop
abbrev TT:=St->Hp->(Bool->Hp->Prop)->Prop
abbrev TA:=St->Hp->(List V->Hp->Prop)->Prop
end L2
variable{σ:L2.St}{ta te tl tv td:L2.TE}{tt:L2.TT}
namespace L2
structure f8 where
 nx:St->Hp->Prop
 rt:VK
 bk:St->Hp->Prop:=λ_ _=>False
 ct:St->Hp->Prop:=λ_ _=>False
abbrev TS:=f8->St->Hp->Prop
def EP(X:Cx)(aA:e7)(σ:St)(Q:VK)(u:bb)(O:cc):Prop:=∃v H',Inv X aA σ H' O/\aH v u/\Q v H'
def TP(X:Cx)(aA:e7)(σ:St)(Q:Bool->Hp->Prop)(b:Bool)(O:cc):Prop:=∃H',Inv X aA σ H' O/\Q b H'
def AP(X:Cx)(aA:e7)(σ:St)(Q:List V->Hp->Prop)(us:List bb)(O:cc):Prop:=∃vs H',Inv X aA σ H' O/\aL vs us/\Q vs H'
def SP(X:Cx)(aA:e7)(D:f8)(f:Flow)(O:cc):Prop :=
 match f with|.next=>∃a H',Inv X aA a H' O/\D.nx a H'|.brk=>∃a H',Inv X aA a H' O/\D.bk a H'|.cont=>∃a H',Inv X aA a H' O/\D.ct a H'|.ret u=>∃v a H',Inv X aA a H' O/\aH v u/\D.rt v H'
def PE(X:Cx)(e:Expr)(t:TE):Prop :=
 ∀(aA:e7) (s:cc) (σ:St) (H:Hp) (Q:VK),Inv X aA σ H s->t σ H Q->wpAny (model X.prog X.w) X.A (eval e X.env) (EP X aA σ Q) X.xe s
def PT(X:Cx)(e:Expr)(t:TT):Prop :=
 ∀(aA:e7) (s:cc) (σ:St) (H:Hp) (Q:Bool->Hp->Prop),Inv X aA σ H s->t σ H Q->wpAny (model X.prog X.w) X.A (isTrue e X.env (eval e X.env)) (TP X aA σ Q) X.xe s
def PW(X:Cx)(e:Expr)(t:TT):Prop :=
 ∀(W:Sem bb) (aA:e7) (s:cc) (σ:St) (H:Hp) (Q:Bool->Hp->Prop),Inv X aA σ H s->t σ H Q->wpAny (model X.prog X.w) X.A (isTrue e X.env W) (TP X aA σ Q) X.xe s
def PW.pt{t:TT}(h:PW X e t):PT X e t:=h _
def PA(X:Cx)(es:List Expr)(t:TA):Prop :=
 ∀(pos:Pos) (aA:e7) (s:cc) (σ:St) (H:Hp) (Q:List V->Hp->Prop),Inv X aA σ H s->t σ H Q->wpAny (model X.prog X.w) X.A (spliced (backTo pos (starEach es X.env))) (AP X aA σ Q) X.xe s
def PS(X:Cx)(st:Stmt)(t:TS):Prop :=
 ∀(aA:e7) (s:cc) (σ:St) (H:Hp) (D:f8),Inv X aA σ H s->t D σ H->wpAny (model X.prog X.w) X.A (exec st X.env) (SP X aA D) X.xe s
def ja(X:Cx)(st:List Stmt)(t:TS):Prop :=
 ∀(aA:e7) (s:cc) (σ:St) (H:Hp) (D:f8),Inv X aA σ H s->t D σ H->wpAny (model X.prog X.w) X.A (execs st X.env) (SP X aA D) X.xe s
def thn{t:Sem α}{Q d:α->cc->Prop}{M:Model}{A:dj}{E:di}(h:wpAny M A t Q E s)(f:∀a s,Q a s->d a s):wpAny M A t d E s:=ij h f λ_ _ x=>x
section
def f9(i:Nat):TE:=λσ H Q=>∃v,σ[i]? = some (some v)/\Q v H
def tC(v:V):TE:=λ_ H Q=>Q v H
def iU(hN:X.N[i]? = some x)(d:B3 X.env.scope x)(hd:(x==("__debug__":Str))=false:=by decide)(a:(x==("__classdict__":Str))=false:=by decide):PE X (.Name x pos) (f9 i):=by intro aA s σ H Q I h;exists v,e,h,h;exists m,hn,g,I.loc;exists u,r,l,g i x v hN e d;have f:EP X aA σ Q u s:=#[v,H,I,r,h];rcases l with⟨hk,hm⟩|⟨hk,c,hc,cH⟩;{exact wpAny_Name (wpAny_loadName_local I.ok.kind hk hn hm f) hd};rcases hk with hk|hk;{exact wpAny_Name (wpAny_loadName_cell I.ok.kind hk hc cH f) hd};exact wpAny_Name (wpAny_loadName_free I.ok.kind hk hc cH f a) hd
def MR{i j pos:_}:PE X (.Constant (.int i) j pos) (tC (.int i)):=λ_ _ _ H _ I h=>wpAny_Constant_int #[.int i,H,I.tok _,#[_,rfl],h]
def wb{b j pos:_}:PE X (.Constant (.bool b) j pos) (tC (.bl b)):=λ_ _ _ H _ I h=>Constant_bool #[.bl b,H,I,rfl,h]
def MS{j pos:_}:PE X (.Constant .none j pos) (tC .non):=λ_ _ _ H _ I h=>Constant_none #[.non,H,I,rfl,h]
def MT{x j pos:_}:PE X (.Constant (.str x) j pos) (tC (.str x)):=λ_ _ _ H _ I h=>Calls.Constant_str #[.str x,H,I.tok _,#[_,rfl],h]
def Gl(X:Cx)(x:Str):Prop:=X.env.kindOf x=some .globalImplicit
def mW{E:di}{σ:St}(I:Inv X aA σ H s)(d:Gl X x)(a:X.mg x=some u)(h:Q u s)(hd:(x==("__debug__":Str))=false:=by decide):wpAny (model X.prog X.w) X.A (eval (.Name x pos) X.env) Q E s:=
 Calls.Name_function_global I.ok.kind d (Calls.loadGlobal_global (by rw[I.ok.glob];exact I.mod.glob.keeps I.bk) a h) hd
def jT{E:di}{σ:St}(I:Inv X aA σ H s)(f:Gl X x)(d:X.mg x=none)(a:bootBuiltins x=some u)(h:Q u s)(hn:x ≠ "__name__":=by decide)(hd:(x==("__debug__":Str))=false:=by decide):wpAny (model X.prog X.w) X.A (eval (.Name x pos) X.env) Q E s:=by exists m,l,g,I.mod.blt;exact Calls.Name_function_global I.ok.kind f (Calls.loadGlobal_builtin (by rw[I.ok.glob];exact I.mod.glob.keeps I.bk) d (by rw[I.ok.blt];exact l.keeps I.bk) ((g x hn).trans a) h) hd
def sW(d:Gl X x)(a:X.mg x=some u)(r:aH v u)(hd:(x==("__debug__":Str))=false:=by decide):PE X (.Name x pos) (tC v):=
 λ_ _ _ H _ I h=>mW I d a #[v,H,I,r,h] hd
def MU(f:Gl X x)(d:X.mg x=none)(a:bootBuiltins x=some u)(r:aH v u)(hn:x ≠ "__name__":=by decide)(hd:(x==("__debug__":Str))=false:=by decide):PE X (.Name x pos) (tC v):=
 λ_ _ _ H _ I h=>jT I f d a #[v,H,I,r,h] hn hd
variable{a b:Expr}{tb:TE}
variable{d f:TT}{rest:List Expr}
def sX(t u:TT):TT:=λσ H Q=>t σ H λc H1=>if c=true then u σ H1 Q else Q false H1
def Fx(t u:TT):TT:=λσ H Q=>t σ H λc H1=>if c=true then Q true H1 else u σ H1 Q
def Dz(t:TT):TT:=λσ H Q=>t σ H λc H1=>Q (!c) H1
def MV(g:PT X a d):PW X (.BoolOp .And [a] pos) d:=by intro W aA s σ H Q I h;refine isTrue_and (thn (g aA s σ H Q I h) λc S e=>?_);cases c with|true=>exact isTrue_and_nil e|false=>exact e
def MW(g:PT X a d):PW X (.BoolOp .Or [a] pos) d:=by intro W aA s σ H Q I h;refine isTrue_or (thn (g aA s σ H Q I h) λc S e=>?_);cases c with|false=>exact isTrue_or_nil e|true=>exact e
def MX(m:PT X a d)(l:PW X (.BoolOp .And (b::rest) pos) f):PW X (.BoolOp .And (a::b::rest) pos) (sX d f):=by intro W aA s σ H Q I h;refine isTrue_and (thn (m aA s σ H _ I h) λc S ⟨H1,g,q1⟩=>?_);cases c with|true=>exact l W aA S σ H1 Q g q1|false=>exact#[H1,g,q1]
def wc(m:PT X a d)(l:PW X (.BoolOp .Or (b::rest) pos) f):PW X (.BoolOp .Or (a::b::rest) pos) (Fx d f):=by intro W aA s σ H Q I h;refine isTrue_or (thn (m aA s σ H _ I h) λc S ⟨H1,g,q1⟩=>?_);cases c with|true=>exact#[H1,g,q1]|false=>exact l W aA S σ H1 Q g q1
def MY(g:PT X a d):PT X (.UnaryOp .Not a pos) (Dz d):=by intro aA s σ H Q I h;exact isTrue_not (g aA s σ H (λc H1=>Q (!c) H1) I h)
def yG(ta tb:TE):TE:=λσ H Q=>ta σ H λx H1=>∃c,x=.bl c/\if c=true then tb σ H1 Q else Q (.bl false) H1
def wd(ta tb:TE):TE:=λσ H Q=>ta σ H λx H1=>∃c,x=.bl c/\if c=true then Q (.bl true) H1 else tb σ H1 Q
def yH(ta:TE):TE:=λσ H Q=>ta σ H λx H1=>∃c,x=.bl c/\Q (.bl (!c)) H1
def MZ{op}{t:TE}(h:PE X a t):PE X (.BoolOp op [a] pos) t:=λaA s σ H Q I g=>BoolOp_one (h aA s σ H Q I g)
def M0(m:PE X a ta)(l:PE X (.BoolOp .And (b::rest) pos) tb):PE X (.BoolOp .And (a::b::rest) pos) (yG ta tb):=by intro aA s σ H Q I h;refine BoolOp_and (thn (m aA s σ H _ I h) λv S ⟨x,H1,g,r,q1⟩=>?_);exists c,rfl,q1,q1;cases r;refine tc ?_;cases c with|true=>exact l aA S σ H1 Q g q1|false=>exact#[.bl false,H1,g,rfl,q1]
def we(m:PE X a ta)(l:PE X (.BoolOp .Or (b::rest) pos) tb):PE X (.BoolOp .Or (a::b::rest) pos) (wd ta tb):=by intro aA s σ H Q I h;refine BoolOp_or (thn (m aA s σ H _ I h) λv S ⟨x,H1,g,r,q1⟩=>?_);exists c,rfl,q1,q1;cases r;refine tc ?_;cases c with|false=>exact l aA S σ H1 Q g q1|true=>exact#[.bl true,H1,g,rfl,q1]
def M3(g:PE X a ta):PE X (.UnaryOp .Not a pos) (yH ta):=by intro aA s σ H Q I h;refine UnaryOp_ (thn (g aA s σ H _ I h) λv S ⟨x,H1,l,r,q1⟩=>?_);exists c,rfl,q1,q1;cases r;exact not_of (tc #[.bl (!c),H1,l,rfl,q1])
end
def fe(K:Fg)(H:Hp)(a:Addr)(U:List V):Prop :=
 Rd H a (.lst U) \/
  ∃(o:Obj) (its:Array bb) (n:Nat),K.lookup a=some o/\o.cls=.type "list" /\ o.dict=none/\o.data=.seq its n/\its.size<=sizeLine/\aL U its.toList
def SqT(K:Fg)(H:Hp)(a:Addr)(U:List V):Prop :=
 Rd H a (.tup U) \/
  ∃(o:Obj) (its:Array bb) (n:Nat),K.lookup a=some o/\o.cls=.type "tuple" /\ o.dict=none/\o.data=.seq its n/\its.size<=sizeLine/\aL U its.toList
def DA:bb->Option V|.none=>some .non|.bool b=>some (.bl b)|.int i _=>some (.int i)|.str x _=>some (.str x)|.bytes b _=>some (.byt b)|.float b _=>some (.flt b)|.ref a=>some (.ref a)|.type n=>some (.ty n)|_=>none
def aH.abs{x:V}(r:aH x u):DA u=some x:=by cases x with|non|bl _=>cases r;rfl|int _|str _|byt _|flt _=>exists t,rfl,r;rfl|ref _|ty _=>cases r;rfl
def aH.inj{x y:V}(r:aH x u)(q:aH y u):x=y:=jx (r.abs.symm.trans q.abs)
theorem aL.inj:∀{U ys:List V}{us:List bb},aL U us->aL ys us->U=ys|_,_,_,.nil,.nil=>rfl|_,_,_,.cons r t,.cons R t'=>by rw[r.inj R,aL.inj t t']
section
variable{σ:St}{a:Addr}
def fe.of{K:Fg}(h:H a=some (.lst U)):fe K H a U:=.inl (.inl h)
def SqT.of{K:Fg}(h:H a=some (.tup U)):SqT K H a U:=.inl (.inl h)
theorem Inv.list(I:Inv X aA σ H s)(h:fe X.K H a U):∃its:List bb,aL U its/\PlainL s.heap a its.toArray/\U.length<=sizeLine:=by rcases h with h|⟨o,its,n,hk,hc,hd,hs,hz,r⟩;{exists z,its,n,r,e,h.ok I.hok;exact#[its,r,#[_,n,e,rfl,rfl,rfl],z]};refine#[its.toList,r,#[o,n,I.kIn a o hk,hc,hd,by simpa using hs],?_];have e:=r.length;simp only[lc]at e;lia
theorem Inv.tuple(I:Inv X aA σ H s)(h:SqT X.K H a U):∃its:List bb,aL U its/\IsTup s.heap a its.toArray/\U.length<=sizeLine:=by rcases h with h|⟨o,its,n,hk,hc,hdt,hs,hz,r⟩;{exists z,its,r,p,h.ok I.hok;exact#[its,r,p.isTup,z]};refine#[its.toList,r,#[o,I.kIn a o hk,hc,n,by simpa using hs],?_];have e:=r.length;simp only[lc]at e;lia
def Inv.list_inj(I:Inv X aA σ H s)(h:fe X.K H a U)(h':fe X.K H a ys):U=ys:=by obtain⟨its,r,⟨o,n,e,_,_,d⟩,_⟩:=I.list h;obtain⟨f,R,⟨l,N,E,_,_,D⟩,_⟩:=I.list h';rw[e]at E;cases E;rw[d]at D;injection D with g _;(have:its=f:=by simpa using congrArg Array.toList g);subst this;exact r.inj R
def Inv.tuple_inj(I:Inv X aA σ H s)(h:SqT X.K H a U)(h':SqT X.K H a ys):U=ys:=by obtain⟨its,r,⟨o,e,_,n,d⟩,_⟩:=I.tuple h;obtain⟨f,R,⟨l,E,_,N,D⟩,_⟩:=I.tuple h';rw[e]at E;cases E;rw[d]at D;injection D with g _;(have:its=f:=by simpa using congrArg Array.toList g);subst this;exact r.inj R
end
abbrev Cx.wish(X:Cx)(E:di):Cx:={X with xe:=E}
section
variable{rest:List Stmt}{t u:TS}
def wf:TS:=λD σ H=>D.nx σ H
def wg(t u:TS):TS:=λD σ H=>t {D with nx:=u D} σ H
def M4:ja X [] wf:=λ_ _ σ H _ I h=>CO #[σ,H,I,h]
def M5(g:PS X st t)(d:ja X rest u):ja X (st::rest) (wg t u):=by intro aA s σ H D I h;refine wpAny_execs_cons (thn (g aA s σ H {D with nx:=u D} I h) λf S q=>?_);cases f with|next=>exists a,H',l,q,q;exact d aA S a H' D l q|ret v|brk|cont=>exact q
def yI(a:PS X st t):ja X [st] t:=by intro aA s σ H D I h;refine wpAny_execs_cons (thn (a aA s σ H D I h) λf S q=>?_);cases f with|next=>exact CO q|ret v|brk|cont=>exact q
def Inv.quiet{σ:St}(I:Inv X aA σ H s):interactive X.env=false:=by simp[interactive,I.ok.kind]
def yJ(te:TE):TS:=λD σ H=>te σ H λ_ H1=>D.nx σ H1
def sY(a:PE X e te)(hs:swapsWith e none pos.line X.env=pure false:=by rfl):PS X (.Expr e pos) (yJ te):=by intro aA s σ H D I h;exact wpAny_Expr_any (thn (a aA s σ H _ I h) λv S ⟨x,H1,d,r,q1⟩=>#[σ,H1,d,q1]) I.quiet hs
def DB(te:TE):TS:=λD σ H=>te σ H D.rt
def yK(a:PE X e te):PS X (.Return (some e) pos) (DB te):=by intro aA s σ H D I h;exact wpAny_Return_some (thn (a aA s σ H _ I h) λv S ⟨x,H1,d,r,q1⟩=>#[x,σ,H1,d,r,q1])
def DC(c:TT)(t u:TS):TS:=λD σ H=>c σ H λb H1=>if b=true then t D σ H1 else u D σ H1
def yL{a b:List Stmt}{T:TT}(g:PT X c T)(m:ja X a t)(l:ja X b u):PS X (.If c a b pos) (DC T t u):=by intro aA s σ H D I h;refine wpAny_If (thn (g aA s σ H _ I h) λd S ⟨H1,f,q1⟩=>?_);cases d with|true=>exact m aA S σ H1 D f q1|false=>exact l aA S σ H1 D f q1
end
abbrev TG:=V->St->Hp->(St->Hp->Prop)->Prop
abbrev m6:=List V->St->Hp->(St->Hp->Prop)->Prop
def PG(X:Cx)(T:Expr)(t:TG):Prop :=
 ∀(aA:e7) (s:cc) (σ:St) (H:Hp) (v:V) (u:bb) (Q:St->Hp->Prop),Inv X aA σ H s->aH v u->t v σ H Q ->
  wpAny (model X.prog X.w) X.A (assign T X.env u) (λ_ O=>∃a H',Inv X aA a H' O/\Q a H') X.xe s
def uh(X:Cx)(ts:List Expr)(t:m6):Prop :=
 ∀(aA:e7) (s:cc) (σ:St) (H:Hp) (vs:List V) (us:List bb) (Q:St->Hp->Prop),Inv X aA σ H s->aL vs us->t vs σ H Q ->
  wpAny (model X.prog X.w) X.A (assignInOrder ((assignEach ts X.env).map (·.2)) us) (λ_ O=>∃a H',Inv X aA a H' O/\Q a H') X.xe s
abbrev DD:=V->V->V->Hp->(Hp->Prop)->Prop
def DE(X:Cx)(t:DD):Prop :=
 ∀(aA:e7) (s:cc) (σ:St) (H:Hp) (o i v:V) (a d u:bb) (Q:Hp->Prop),Inv X aA σ H s->aH o a->aH i d->aH v u->t o i v H Q ->
  wpAny (model X.prog X.w) X.A (setItem a d u) (λ_ O=>∃H',Inv X aA σ H' O/\Q H') X.xe s
def mX(i:Nat):TG:=λv σ H Q=>Q (σ.set i (some v)) H
def M6(hN:X.N.Nodup)(hi:X.N[i]? = some x)(a:Loc X.env.scope x)(d:X.fn x=true\/X.env.scope.names.lookup x=some .local:=by first|exact .inl rfl|exact .inr rfl|assumption):PG X (.Name x pos) (mX i):=by intro aA s σ H v u Q I r h;exact wpAny_assign_Name (yF I hN hi a r (λO f=>#[_,H,f,h]) d)
def wh:m6:=λvs σ H Q=>vs=[]/\Q σ H
def yM(t:TG)(u:m6):m6:=λvs σ H Q=>∃v r,vs=v::r/\t v σ H λa H'=>u r a H' Q
def M7:uh X [] wh:=by intro aA s σ H vs us Q I r h;exists e,h,h;subst e;cases r;exact assignInOrder_nil #[σ,H,I,h]
def M8{es:List Expr}{t:TG}{u:m6}(f:PG X e t)(d:uh X es u)(hs:(assignEach (e::es) X.env).map (·.2)=assign e X.env::(assignEach es X.env).map (·.2):=by rfl):uh X (e::es) (yM t u):=by intro aA s σ H vs us Q I r h;exists v,V,E,h,h;subst E;cases r with|cons r R=>rw[hs];refine assignInOrder_cons (thn (f aA s σ H _ _ _ I r h) λ_ S ⟨a,H1,g,q1⟩=>?_);exact d aA S a H1 _ _ Q g R q1
def DF(K:Fg)(n:Nat)(t:m6):TG:=λv σ H Q=>∃a U,v=.ref a/\SqT K H a U/\U.length=n/\t U σ H Q
def M9{es:List Expr}{t:m6}(A:X.calm=true)(h:uh X es t)(hn:(assignEach es X.env).length=n:=by rfl)(f:(assignEach es X.env).findIdx? (·.1)=none:=by rfl):PG X (.Tuple es k pos) (DF X.K n t):=by intro aA s σ H v u Q I r d;exists a,U,E,m,y,d,d;subst E;cases r;exists its,R,l,C,I.tuple m;refine assign_Tuple_tuple (I.ok.hd A) l (by simp[hn,<- y,R.length]) f λh' g=>?_;have B:Inv X aA σ H {s with heap:=h'}:=I.kept (t':=s.toks) λb o e=>g b o (gj (dv e)) e;exact h aA _ σ H U _ Q B (by simpa using R) d
def mY(te:TE)(g:TG):TS:=λD σ H=>te σ H λx H1=>g x σ H1 D.nx
def Na{g:TG}(f:PE X e te)(d:PG X tg g)(hs:swapsWithSole [tg] e pos.line X.env=pure false:=by rfl)(a:swappedStores [tg] e X.env=pure none:=by rfl)(l:(assignEach [tg] X.env).map (·.2)=[assign tg X.env]:=by rfl):PS X (.Assign [tg] e pos) (mY te g):=by intro aA s σ H D I h;refine wpAny_Assign_stores (thn (f aA s σ H _ I h) λv S ⟨x,H1,m,r,q1⟩=>?_) hs a;rw[l];exact thn (d aA S σ H1 x v _ m r q1) λ_ o q=>q
def Nb(hN:X.N.Nodup)(hi:X.N[i]? = some x)(a:Loc X.env.scope x)(f:PE X e te)(hs:swapsWith e (some (.Name x pos')) pos.line X.env=pure false:=by rfl)(d:X.fn x=true\/X.env.scope.names.lookup x=some .local:=by first|exact .inl rfl|exact .inr rfl|assumption):PS X (.Assign [.Name x pos'] e pos) (mY te (mX i)):=by intro aA s σ H D I h;refine wpAny_Assign_Name (thn (f aA s σ H _ I h) λv m ⟨y,H1,l,r,q1⟩=>?_) hs;exact yF l hN hi a r (λS g=>#[_,H1,g,q1]) d
structure It where
 go:Nat->Hp->Prop
 yld:Nat->Hp->V->Hp->Prop
 stop:Nat->Hp->Prop
def cP(X:Cx)(aA:e7)(H:Hp)(b:Addr):Prop :=
 H b=none/\b≠X.env.locals/\b∉X.fs/\(b∈X.ex\/X.s₀.heap.objs.size<=b)/\(∀x c,X.env.cells.lookup x=some c->c≠b)/\∀p∈X.pn++aA,p.1≠b
def Inv.fpOk{σ:St}(I:Inv X aA σ H s)(a:s.heap.objs.size<=b)(hn:H' b=none):cP X aA H' b:=by refine#[hn,nq (hB I.lt a),I.nofs a,.inr (ii I.sz a),λx c e z=>?_,λp hp z=>?_];{exists v,q,I.cell x c e;exact absurd (hB q.lt (by rw[z];exact a)) (jn _)};exact absurd (hB (dv (I.pin p hp).1) (by rw[z];exact a)) (jn _)
structure hZ(P:fc)(w:dh)(K:Fg)(tg:Expr)(J:It)(fp:List Addr)(it:Addr)(tn:Nat->Heap->Prop):Prop where
 mem:it∈fp
 obj:∀i h,tn i h->∀b∈fp,∃o,h.get? b=some o/\∀v,o.data ≠ .cell v
 keep:∀i h h',tn i h->(∀b∈fp,∀o,h.get? b=some o->h'.get? b=some o)->tn i h'
 item:∀(X:Cx),X.prog=P->X.w=w->X.K=K->X.calm=true->∀(i:Nat) (aA:e7) (s:cc) (σ:St) (H:Hp) (E:di),Inv X aA σ H s->(∀b∈fp,cP X aA H b)->tn i s.heap->J.go i H ->
  wpAny (model P w) X.A (pyNext (.ref it)) (λr s1=>∃u,r=some u /\
   wpAny (model P w) X.A (letOwnedTupleGo tg (.ref it) u) (λ_ s2=>∃x H',Inv X aA σ H' s2/\aH x u/\J.yld i H x H'/\tn (i+1) s2.heap/\∀b∈fp,H' b=none) E s1) E s
 done:∀(X:Cx),X.prog=P->X.w=w->X.K=K->X.calm=true->∀(i:Nat) (aA:e7) (s:cc) (σ:St) (H:Hp) (E:di),Inv X aA σ H s->(∀b∈fp,cP X aA H b)->tn i s.heap->J.stop i H ->
  wpAny (model P w) X.A (pyNext (.ref it)) (λr s1=>r=none/\Inv X aA σ H s1) E s
 self:∀(A:dj) (i:Nat) (s:cc) (Q:di) (E:di),tn i s.heap->Q (.ref it) s->wpAny (model P w) A (pyIter (.ref it)) Q E s
abbrev TI:=St->Hp->(It->Hp->Prop)->Prop
def B4(X:Cx)(aA:e7)(σ:St)(tg:Expr)(R:It->Hp->Prop)(a:bb)(S:cc):Prop :=
 ∃(it:Addr) (fp:List Addr) (tn:Nat->Heap->Prop) (J:It) (H':Hp),a=.ref it/\Inv X aA σ H' S/\hZ X.prog X.w X.K tg J fp it tn/\tn 0 S.heap/\(∀b∈fp,cP X aA H' b)/\R J H'
def PI(X:Cx)(tg iter:Expr)(wi:TI):Prop :=
 ∀(aA:e7) (s:cc) (σ:St) (H:Hp) (R:It->Hp->Prop),Inv X aA σ H s->wi σ H R ->
  wpAny (model X.prog X.w) X.A (eval iter X.env) (λv S=>wpAny (model X.prog X.w) X.A (pyIter v) (B4 X aA σ tg R) X.xe S) X.xe s
def mZ{M:Model}{A:dj}{E:di}{o:Obj}{n:String}{vs:Array bb}{Q:Unit->cc->Prop}(ho:s.heap.get? it=some o)(d:o.cls=.type n)(hd:o.data=.fields vs)(hn:["enumerate","zip","dict_itemiterator","dict_reverseitemiterator","odict_iterator","itertools.zip_longest","itertools.pairwise"].contains n=false)(a:Q () s):wpAny M A (letOwnedTupleGo tg (.ref it) u) Q E s:=by
 unfold letOwnedTupleGo;cases tg <;> first
  |exact cq a
  | (cases u <;> first
      |exact cq a
      | (refine bv (tf ho ?_)
         rw[d,hd];show wpAny M A (if(["enumerate","zip","dict_itemiterator","dict_reverseitemiterator","odict_iterator","itertools.zip_longest","itertools.pairwise"].contains n&&vs[0]?==some (rawInt _))=true then _ else _) Q E s;rw[ba (by intro h;rw[hn,Bool.false_and]at h;cases h)]
         exact cq a))
def Fy(K:Fg)(a:Addr):It :=
 #[λi H=>∃U x,fe K H a U/\U[i]? = some x,λi H x H'=>H'=H/\∀U,fe K H a U->U[i]? = some x,λi H=>∃U,fe K H a U/\U.length<=i]
def DG(K:Fg)(a:Addr):It :=
 #[λi H=>∃U x,SqT K H a U/\U[i]? = some x,λi H x H'=>H'=H/\∀U,SqT K H a U->U[i]? = some x,λi H=>∃U,SqT K H a U/\U.length<=i]
def ui(lo:Int)(n:Nat):It:=#[λi _=>i<n,λi H x H'=>H'=H/\x=.int (lo+i),λi _=>n<=i]
end L2
variable{wi:L2.TI}{gt:L2.TG}
namespace L2
theorem Nc{K:Fg}(a it:Addr):hZ P w K tg (Fy K a) [it] it (λi h=>h.IsListIter it a i) where
 mem:=by simp
 obj:=λi h st b f=>by(have e:b=it:=by simpa using f);subst e;exists o,e,c,d,st;exact#[o,e,λv z=>by rw[d]at z;cases z]
 keep:=λi h h' st k=>st.at λo e=>k it (by simp) o e
 item:=by intro X t m y B i aA s σ H E I hf st hg;subst t m y;exists U,x,g,l,hg;exists its,r,p,D,I.list g;exists u,J,R,r.get l;exists f0,f1,f2,f3,A,F,hf it (by simp);refine wpAny_pyNext_list_item st p.isList (x:=u) (by simpa using J) λh' S C=>?_;have M:Inv X aA σ H {s with heap:=h'}:=I.turned (t':=s.toks) (λb o f e=>(C.2 b f).trans e) f0 f1 f3 A F;exists o,e,c,d,id S;exact#[u,rfl,mZ (s:={s with heap:=h'}) e c d (by decide) #[x,H,M,R,#[rfl,λys G=>by rw[I.list_inj G g];exact l],S,λb f=>(hf b f).1]]
 done:=by intro X t m y B i aA s σ H E I hf st hg;subst t m y;exists U,g,l,hg;exists its,r,p,D,I.list g;exists f0,f1,f2,f3,A,F,hf it (by simp);have N:=r.length;exact wpAny_pyNext_list_end (I.ok.hd B) st p.isList (by simp;lia) λh' L=>#[rfl,I.turned (t':=s.toks) (λb o f e=>L b o f e) f0 f1 f3 A F]
 self:=λ_ _ _ _ _ st h=>wpAny_pyIter_listiter st h
theorem Nd{K:Fg}(a it:Addr):hZ P w K tg (DG K a) [it] it (λi h=>h.IsTupleIter it a i) where
 mem:=by simp
 obj:=λi h st b f=>by(have e:b=it:=by simpa using f);subst e;exists o,e,c,d,st;exact#[o,e,λv z=>by rw[d]at z;cases z]
 keep:=λi h h' st k=>st.at λo e=>k it (by simp) o e
 item:=by intro X t m y B i aA s σ H E I hf st hg;subst t m y;exists U,x,g,l,hg;exists its,r,p,D,I.tuple g;exists u,J,R,r.get l;exists f0,f1,f2,f3,A,F,hf it (by simp);refine wpAny_pyNext_tuple_item st (show s.heap.IsTuple a its.toArray from p) (x:=u) (by simpa using J) λh' S C=>?_;have M:Inv X aA σ H {s with heap:=h'}:=I.turned (t':=s.toks) (λb o f e=>(C.2 b f).trans e) f0 f1 f3 A F;exists o,e,c,d,id S;exact#[u,rfl,mZ (s:={s with heap:=h'}) e c d (by decide) #[x,H,M,R,#[rfl,λys G=>by rw[I.tuple_inj G g];exact l],S,λb f=>(hf b f).1]]
 done:=by intro X t m y B i aA s σ H E I hf st hg;subst t m y;exists U,g,l,hg;exists its,r,p,D,I.tuple g;exists f0,f1,f2,f3,A,F,hf it (by simp);have N:=r.length;exact wpAny_pyNext_tuple_end (I.ok.hd B) st (show s.heap.IsTuple a its.toArray from p) (by simp;lia) λh' L=>#[rfl,I.turned (t':=s.toks) (λb o f e=>L b o f e) f0 f1 f3 A F]
 self:=λ_ _ _ _ _ st h=>wpAny_pyIter_tupleiter st h
theorem Nf{K:Fg}(it:Addr)(lo:Int)(n:Nat):hZ P w K tg (ui lo n) [it] it (λi h=>IsRangeIter h it (lo+(i:Nat) * 1) ((n:Int)-(i:Nat)) 1) where
 mem:=by simp
 obj:=λi h st b a=>by
  have e:b=it:=by simpa using a
  subst e;exact#[_,st,λv z=>by
   have Z:Data.fields _=Data.cell v:=z;cases Z]
 keep:=λi h h' st k=>k it (by simp) _ st
 item:=by intro X g d l f i aA s σ H E I hf st hg;subst g d l;exists f0,f1,f2,f3,m,F,hf it (by simp);have W:=Walks.range (prog:=X.prog) (w:=X.w) (I.ok.hd f) it lo 1 n;refine W.item i s _ _ hg st λv h' tk r S kk=>?_;exists t,rfl,r;have A:Inv X aA σ H {s with heap:=h',toks:=tk}:=I.turned (λb o a e=>kk b o (by simpa using a) e) f0 f1 f3 m F;refine#[_,rfl,mZ (s:={s with heap:=h',toks:=tk}) (n:="range_iterator") S rfl rfl (by decide) #[.int (lo+i),H,A,#[t,?_],#[rfl,rfl],S,λb a=>(hf b a).1]];rw[Bh]
 done:=by intro X g d l f i aA s σ H E I hf st hg;subst g d l;exists f0,f1,f2,f3,m,F,hf it (by simp);exact wpAny_pyNext_range_end (I.ok.hd f) st (by have:n<=i:=hg;lia) λh' y=>#[rfl,I.turned (t':=s.toks) (λb o a e=>y b o a e) f0 f1 f3 m F]
 self:=λ_ _ _ _ _ st h=>wpAny_pyIter_rangeiter st h
def sZ(K:Fg)(tl:TE):TI:=λσ H R=>tl σ H λx H1=>∃a,x=.ref a/\(∃U,fe K H1 a U)/\R (Fy K a) H1
def wj(K:Fg)(tl:TE):TI:=λσ H R=>tl σ H λx H1=>∃a,x=.ref a/\(∃U,SqT K H1 a U)/\R (DG K a) H1
def Ng{l:Expr}(g:PE X l tl):PI X tg l (sZ X.K tl):=by(intro aA s σ H R I h;refine thn (g aA s σ H _ I h) λv S ⟨x,H1,d,r,q1⟩=>?_;obtain⟨a,e,⟨U,f⟩,q⟩:=q1;subst e;cases r;exists its,t,p,y,d.list f;refine CP p.isList ?_;refine#[S.heap.objs.size,[S.heap.objs.size],_,_,H1,rfl,d.kept (t':=S.toks) λb o e=>hps e,Nc a _,#[_,fi _ rfl,rfl,rfl],λb m=>?_,q];have e:b=S.heap.objs.size:=by simpa using m);subst e;exact d.fpOk (dm _) (d.hok.fresh (dm _))
def Nh{l:Expr}(g:PE X l tl):PI X tg l (wj X.K tl):=by intro aA s σ H R I h;refine thn (g aA s σ H _ I h) λv S ⟨x,H1,d,r,q1⟩=>?_;obtain⟨a,e,⟨U,f⟩,q⟩:=q1;subst e;cases r;exists its,t,p,y,d.tuple f;refine u1 (show S.heap.IsTuple a its.toArray from p) ?_;(refine#[S.heap.objs.size,[S.heap.objs.size],_,_,H1,rfl,d.kept (t':=S.toks) λb o e=>hps e,Nd a _,#[_,fi _ rfl,rfl,rfl],λb m=>?_,q];have e:b=S.heap.objs.size:=by simpa using m);subst e;exact d.fpOk (dm _) (d.hok.fresh (dm _))
theorem Ni{σ:St}{R:It->Hp->Prop}{E:di}{lo hi:Int}{t u v:Tok}{tk:Nat}(I:Inv X aA σ H s)(m:-(2 ^ 62)<=lo)(l:lo<2 ^ 62)(g:-(2 ^ 62)<=hi)(f:hi<2 ^ 62)(q:R (ui lo (hi-lo).toNat) H):wpAny (model X.prog X.w) X.A (pyIter (.ref s.heap.objs.size)) (B4 X aA σ tg R) E { s with heap:=s.heap.push { cls:=.type "range",data:=.fields (List.toArray [.int lo t,.int hi u,.int 1 v]) },toks:=tk }:=by
 refine wpAny_pyIter_range (IsRange.new ..) (small_one m l g f) ?_;have a:Inv X aA σ H { s with heap:=s.heap.push { cls:=.type "range",data:=.fields (List.toArray [.int lo t,.int hi u,.int 1 v]) },toks:=tk }:=I.kept λb o e=>hps e
 refine#[(s.heap.push { cls:=.type "range",data:=.fields (List.toArray [.int lo t,.int hi u,.int 1 v]) }).objs.size,[(s.heap.push { cls:=.type "range",data:=.fields (List.toArray [.int lo t,.int hi u,.int 1 v]) }).objs.size],_,_,H,rfl,
  a.kept (t':=tk) λb o e=>hps e,Nf _ lo (hi-lo).toNat,?_,λb d=>?_,q]
 . (have y:lo+((0:Nat):Int) * 1=lo:=by simp);(have r:(((hi-lo).toNat:Nat):Int)-((0:Nat):Int)=Builtin.Range.rangeSize lo hi 1:=by rw[rangeSize_one];split <;> lia);show IsRangeIter _ _ (lo+((0:Nat):Int) * 1) ((((hi-lo).toNat:Nat):Int)-((0:Nat):Int)) 1;rw[y,r];exact fi _ rfl
 . (have e:b=(s.heap.push { cls:=.type "range",data:=.fields (List.toArray [.int lo t,.int hi u,.int 1 v]) }).objs.size:=by simpa using d);subst e;exact a.fpOk (dm _) (a.hok.fresh (dm _))
def yN(ta:TA):TI:=λσ H R=>ta σ H λvs H1=>∃j:Int,vs=[.int j] /\ -(2 ^ 62)<=j/\j<2 ^ 62/\R (ui 0 j.toNat) H1
theorem Nj{a:Expr}{ta:TA}(m:Gl X "range")(l:X.mg "range"=none)(o:PA X [a] ta)(hs:starEach [a] X.env=[(false,eval a X.env)]:=by rfl):PI X tg (.Call (.Name "range" p) [a] [] pos) (yN ta):=by intro aA s σ H R I h;refine Call_ (jT I m l boot_range (Bi (thn (o pos aA s σ H _ I h) λus S ⟨vs,H1,y,f,q1⟩=>?_) hs rfl));exists j,e,q1,g,q,q1;subst e;cases f with|cons r d=>cases d;exists t,rfl,r;exact call_range_1 (Ni y (by lia) (by lia) q1 g (by simpa using q))
def wl(wi:TI)(g:TG)(tb:TS):TS:=λD σ H=>wi σ H λJ H1=>∃W:Nat->Nat->St->Hp->Prop,(∃m,W 0 m σ H1)/\∀i m σ H,W i m σ H ->
 (J.stop i H/\D.nx σ H)\/(J.go i H/\∃N:St->Hp->Prop,(∀a H',N a H'->∃M,M<m/\W (i+1) M a H')/\∀x H',J.yld i H x H'->g x σ H' λd f=>tb {D with nx:=N,ct:=N,bk:=D.nx} d f)
def m5(fp:List Addr)(h:Heap):e7:=fp.filterMap λb=>(h.get? b).map λo=>(b,o)
def o3{o:Obj}(a:b∈fp)(e:h.get? b=some o):(b,o)∈m5 fp h:=List.mem_filterMap.mpr #[b,a,by rw[e];rfl]
def Nk{p:Addr×Obj}(hp:p∈m5 fp h):p.1∈fp/\h.get? p.1=some p.2:=by exists b,a,e,List.mem_filterMap.mp hp;cases q:h.get? b with|none=>rw[q]at e;cases e|some o=>rw[q]at e;have E:(b,o)=p:=jx e;subst E;exact#[a,q]
def Inv.pinned{σ:St}(I:Inv X aA σ H s)(f:∀b∈fp,cP X aA H b)(ho:∀b∈fp,∃o,s.heap.get? b=some o/\∀v,o.data ≠ .cell v):Inv X (aA++m5 fp s.heap) σ H s :=
 I.pins_of λp hp=>(ko.mp hp).elim (λz=>I.pin p (iz _ z)) λz=>by exists a,e,Nk z;exists f0,f1,f2,_,f p.1 a;exists o,E,d,ho p.1 a;rw[e]at E;cases E;exact#[e,f0,f1,f2,d]
def Inv.unpinned{pl:e7}{σ:St}(I:Inv X (aA++pl) σ H s):Inv X aA σ H s:=I.pins_of λp hp=>I.pin p (iz _ (qx _ hp))
def Nl{g:TG}{tb:TS}(hp:PassesOwn (model X.prog X.w) X.A X.env X.xe)(V:X.calm=true)(hi:PI X tg iter wi)(hg:PG X tg g)(l:ja X body tb)(hs:∀x,foldedSetIterable iter X.env x=pure x:=by intro _;rfl):PS X (.For tg iter body [] pos) (wl wi g tb):=by intro aA s σ H D I h;refine wpAny_For (thn (hi aA s σ H _ I h) λv s1 h1=>thn h1 λaa s2 h2=>?_) hs;obtain⟨it,fp,tn,J,H2,e,I2,T,F,f2,W,⟨m0,w0⟩,turn⟩:=h2;subst e;have S:∀{H':Hp},(∀b∈fp,H' b=none)->∀b∈fp,cP X aA H' b:=λhn b l=>#[hn b l,(f2 b l).2];refine codeAny_forLoop_any (λn O=>∃i σ' H',Inv X aA σ' H' O/\tn i O.heap/\(∀b∈fp,H' b=none)/\W i n σ' H') ?_ m0 #[0,σ,H2,I2,F,λb l=>(f2 b l).1,w0];rintro n s3 ⟨i,σ3,H3,I3,st3,fr3,w3⟩;rcases turn i n σ3 H3 w3 with⟨stop,qn⟩|⟨go,N,hN,step⟩;{refine u2 hp (thn (T.done X rfl rfl rfl V i aA s3 σ3 H3 X.xe I3 (S fr3) st3 stop) λr s4 ⟨K,I4⟩=>?_);subst K;exact CO #[σ3,H3,I4,qn]};refine u2 hp (thn (T.item X rfl rfl rfl V i aA s3 σ3 H3 X.xe I3 (S fr3) st3 go) λr s4 ⟨u,K,h4⟩=>?_);subst K;refine u2 hp (thn h4 λ_ R ⟨x,Y,I5,r5,Z,B,L⟩=>?_);have M:=I5.pinned (S L) (T.obj _ _ B);refine u2 hp (thn (hg _ R σ3 Y x u _ M r5 (step x Y Z)) λ_ s6 ⟨E,H6,I6,q6⟩=>?_);refine u2 hp (thn (l _ s6 E H6 _ I6 q6) λf G C=>?_);(have again:∀{a:St}{t:Hp},Inv X (aA++m5 fp R.heap) a t G->N a t->∃m,m<n/\∃i σ' H',Inv X aA σ' H' G/\tn i G.heap/\(∀b∈fp,H' b=none)/\W i m σ' H':=λ{a t} y n7=>by exists m',hm,w7,hN a t n7;refine#[m',hm,i+1,a,t,y.unpinned,T.keep _ _ _ B λb l o e=>(y.pin (b,o) (iz _ (iz _ (o3 l e)))).1,λb l=>?_,w7];exists o,e,d,T.obj _ _ B b l;exact(y.pin (b,o) (iz _ (iz _ (o3 l e)))).2.1);cases f with|next|cont=>exists a,t,y,n7,C;exact again y n7|brk=>exists a,t,y,C,C;exact#[a,t,y.unpinned,C]|ret v=>exists x7,a,t,y,r7,C,C;exact#[x7,a,t,y.unpinned,r7,C]
abbrev R2:=V->V->Hp->VK->Prop
def gp(X:Cx)(f:bb->bb->Sem bb)(r:R2):Prop :=
 ∀(aA:e7) (s:cc) (σ:St) (H:Hp) (x y:V) (v u:bb) (Q:VK),Inv X aA σ H s->aH x v->aH y u->r x y H Q ->
  wpAny (model X.prog X.w) X.A (f v u) (EP X aA σ Q) X.xe s
def DH(X:Cx)(f:bb->Sem bb)(r:V->Hp->VK->Prop):Prop :=
 ∀(aA:e7) (s:cc) (σ:St) (H:Hp) (x:V) (v:bb) (Q:VK),Inv X aA σ H s->aH x v->r x H Q ->
  wpAny (model X.prog X.w) X.A (f v) (EP X aA σ Q) X.xe s
def eD(X:Cx)(f:bb)(r:List V->Hp->VK->Prop):Prop :=
 ∀(aA:e7) (s:cc) (σ:St) (H:Hp) (U:List V) (us:List bb) (Q:VK),Inv X aA σ H s->aL U us->r U H Q ->
  wpAny (model X.prog X.w) X.A (call f us) (EP X aA σ Q) X.xe s
def DI(X:Cx)(r:V->Hp->(Bool->Hp->Prop)->Prop):Prop :=
 ∀(aA:e7) (s:cc) (σ:St) (H:Hp) (x:V) (v:bb) (Q:Bool->Hp->Prop),Inv X aA σ H s->aH x v->r x H Q ->
  wpAny (model X.prog X.w) X.A (truthy v) (TP X aA σ Q) X.xe s
def uj(r:R2)(ta tb:TE):TE:=λσ H Q=>ta σ H λx H1=>tb σ H1 λy a=>r x y a Q
def Fz(r:V->Hp->VK->Prop)(ta:TE):TE:=λσ H Q=>ta σ H λx H1=>r x H1 Q
def rI(C:Int->Int->Prop)(g:Int->Int->V):R2:=λx y H Q=>∃i j,x=.int i/\y=.int j/\C i j/\Q (g i j) H
def oj(g:Int->Int->V):R2:=λx y H Q=>∃i j,x=.int i/\y=.int j/\Q (g i j) H
def rU(g:Int->V):V->Hp->VK->Prop:=λx H Q=>∃i,x=.int i/\Q (g i) H
section
variable{a b:Expr}{tb:TE}
def tB(D:PE X a ta)(C:PE X b tb){σ:St}{R:V->V->Hp->Prop}(I:Inv X aA σ H s)(h:ta σ H λx H1=>tb σ H1 λy d=>R x y d){f:bb->bb->Sem bb}(B:∀v u l x y d,Inv X aA σ d l->aH x v->aH y u->R x y d->wpAny (model X.prog X.w) X.A (f v u) Q X.xe l):wpAny (model X.prog X.w) X.A (eval a X.env) (λv g=>wpAny (model X.prog X.w) X.A (eval b X.env) (λu S=>wpAny (model X.prog X.w) X.A (f v u) Q X.xe S) X.xe g) X.xe s:=by refine thn (D aA s σ H _ I h) λv m ⟨x,H1,F,o,q1⟩=>?_;refine thn (C aA m σ H1 _ F q1) λu l ⟨y,d,E,r,t⟩=>?_;exact B v u l x y d E o r t
def wm{op:Operator}{r:R2}(ho:gp X (binaryOp op) r)(g:PE X a ta)(f:PE X b tb):PE X (.BinOp a op b pos) (uj r ta tb):=by intro aA s σ H Q I h;exact wpAny_BinOp (tB g f I h λv u S x y m l d R q=>ho aA S σ m x y v u Q l d R q)
def wn{op:UnaryOp}{r:V->Hp->VK->Prop}(ho:DH X (unaryOp op) r)(d:PE X a ta):PE X (.UnaryOp op a pos) (Fz r ta):=by intro aA s σ H Q I h;exact UnaryOp_ (thn (d aA s σ H _ I h) λv S ⟨x,H1,f,R,q1⟩=>ho aA S σ H1 x v Q f R q1)
def B5{f:bb->bb->Sem bb}{C:Int->Int->Prop}{g:Int->Int->Int}(rule:∀(i j:Int) (t u:Tok) (s:cc) (Q:di) (E:di),C i j->Q (.int (g i j) s.toks) {s with toks:=s.toks+1} -> wpAny (model X.prog X.w) X.A (f (.int i t) (.int j u)) Q E s):gp X f (rI C λi j=>.int (g i j)):=by intro aA s σ H x y v u Q I rx ry h;exists i,j,rfl,rfl,d,q,h;exists t,rfl,rx;exists t',rfl,ry;exact rule i j t t' s _ _ d #[.int (g i j),H,I.tok _,#[_,rfl],q]
def wo{f:bb->bb->Sem bb}{g:Int->Int->Int}(rule:∀(i j:Int) (t u:Tok) (s:cc) (Q:di) (E:di),Q (.int (g i j) s.toks) {s with toks:=s.toks+1} -> wpAny (model X.prog X.w) X.A (f (.int i t) (.int j u)) Q E s):gp X f (oj λi j=>.int (g i j)):=by intro aA s σ H x y v u Q I rx ry h;exists i,j,rfl,rfl,q,h;exists t,rfl,rx;exists t',rfl,ry;exact rule i j t t' s _ _ #[.int (g i j),H,I.tok _,#[_,rfl],q]
def o4{f:bb->bb->Sem bb}{g:Int->Int->Bool}(rule:∀(i j:Int) (t u:Tok) (s:cc) (Q:di) (E:di),Q (.bool (g i j)) s->wpAny (model X.prog X.w) X.A (f (.int i t) (.int j u)) Q E s):gp X f (oj λi j=>.bl (g i j)):=by intro aA s σ H x y v u Q I rx ry h;exists i,j,rfl,rfl,q,h;exists t,rfl,rx;exists t',rfl,ry;exact rule i j t t' s _ _ #[.bl (g i j),H,I,rfl,q]
def DJ(i j:Int):Prop:=0<=j/\j<=1000000/\i.natAbs<2 ^ 64
def Nm:gp X (binaryOp .Add) (oj λi j=>.int (i+j)):=wo λ_ _ _ _ _ _ _ q=>add_int q
def Nn:gp X (binaryOp .Sub) (oj λi j=>.int (i-j)):=wo λ_ _ _ _ _ _ _ q=>sub_int q
theorem Np:gp X (binaryOp .Mod) (rI (λ_ j=>0<j) λi j=>.int (i % j)):=B5 λi j _ _ _ _ _ d q=>by have f:(0:Int)<j:=d;exact mod_int' (by lia) (by rw[Int.fmod_eq_emod_of_nonneg i (by lia)];exact q)
def Nq:gp X (binaryOp .Pow) (rI DJ λi j=>.int (i ^ j.toNat)):=B5 λ_ _ _ _ _ _ _ d q=>pow_int_small d.1 d.2.1 d.2.2 q
def Nr{f:bb->Sem bb}{g:Int->Int}(rule:∀(i:Int) (t:Tok) (s:cc) (Q:di) (E:di),Q (.int (g i) s.toks) {s with toks:=s.toks+1} -> wpAny (model X.prog X.w) X.A (f (.int i t)) Q E s):DH X f (rU λi=>.int (g i)):=by intro aA s σ H x v Q I rx h;exists i,rfl,q,h;exists t,rfl,rx;exact rule i t s _ _ #[.int (g i),H,I.tok _,#[_,rfl],q]
def Nt:DH X (unaryOp .USub) (rU λi=>.int (-i)):=Nr λ_ _ _ _ _ q=>neg_int q
end
section
variable{a b:Expr}{tb:TE}
def o5{σ:St}{Q:VK}{k K:Bool}(I:Inv X aA σ H s)(q:Q (.bl k) H)(e:k=K):EP X aA σ Q (.bool K) s:=by subst e;exact#[.bl k,H,I,rfl,q]
def wq:gp X (compareOp .Lt) (oj λi j=>.bl (decide (i<j))):=o4 λ_ _ _ _ _ _ _ q=>lt_int q
def wr:gp X (compareOp .LtE) (oj λi j=>.bl (decide (i<=j))):=o4 λ_ _ _ _ _ _ _ q=>le_int q
def wt:gp X (compareOp .Gt) (oj λi j=>.bl (decide (j<i))):=o4 λ_ _ _ _ _ _ _ q=>gt_int q
def wu:gp X (compareOp .GtE) (oj λi j=>.bl (decide (j<=i))):=o4 λ_ _ _ _ _ _ _ q=>ge_int q
def Nu:gp X (compareOp .In) (λx y H Q=>∃i j,x=.str i/\y=.str j/\Q (.bl (!(Builtin.Str.occurrences j i 0 j.length 1).isEmpty)) H):=by intro aA s σ H x y v u Q I rx ry h;exists i,j,rfl,rfl,q,h;exists t,rfl,rx;exists t',rfl,ry;exact in_str (o5 I q rfl)
def Nv:gp X (compareOp .Is) (λx y H Q=>y=.non/\Q (.bl (decide (x=.non))) H):=by
 intro aA s σ H x y v u Q I rx ry h;exists rfl,q,h;cases ry;refine is_none_gen (o5 I q ?_);cases x <;> first
  |(cases rx;rfl)
  |(exists t,rfl,rx;rfl)
def Nw:gp X (compareOp .IsNot) (λx y H Q=>y=.non/\Q (.bl (!decide (x=.non))) H):=by
 intro aA s σ H x y v u Q I rx ry h;exists rfl,q,h;cases ry;refine isnot_none_gen (o5 I q ?_);cases x <;> first
  |(cases rx;rfl)
  |(exists t,rfl,rx;rfl)
def Nx:gp X (compareOp .NotIn) (λx y H Q=>∃i j,x=.str i/\y=.str j/\Q (.bl (!(!(Builtin.Str.occurrences j i 0 j.length 1).isEmpty))) H):=by intro aA s σ H x y v u Q I rx ry h;exists i,j,rfl,rfl,q,h;exists t,rfl,rx;exists t',rfl,ry;exact notIn_str (o5 I q rfl)
def gp.or{f:bb->bb->Sem bb}{r R:R2}(h:gp X f r)(h':gp X f R):gp X f (λx y H Q=>r x y H Q\/R x y H Q):=by intro aA s σ H x y v u Q I rx ry q;rcases q with q|q;{exact h aA s σ H x y v u Q I rx ry q};exact h' aA s σ H x y v u Q I rx ry q
def Ny{op:CmpOp}{r:R2}(ho:gp X (compareOp op) r)(l:PE X a ta)(g:PE X b tb)(f:behindInMarks op b=false):PE X (.Compare a [op] [b] pos) (uj r ta tb):=by intro aA s σ H Q I h;exact wpAny_Compare1 (tB l g I h λv u S x y o m d R q=>ho aA S σ o x y v u Q m d R q) f
def yO(t:TE):TT:=λσ H Q=>t σ H λx H'=>∃k,x=.bl k/\Q k H'
def Nz{op:CmpOp}{r:R2}(ho:gp X (compareOp op) r)(A:PE X a ta)(t:PE X b tb)(o:behindInMarks op b=false):PT X (.Compare a [op] [b] pos) (yO (uj r ta tb)):=by
 intro aA s σ H Q I h;refine wpAny_isTrue_Compare1 (thn (A aA s σ H _ I h) λv d ⟨x,H1,D,g,q1⟩=>thn (t aA d σ H1 _ D q1) λu S ⟨y,F,C,f,m⟩ =>
  thn (ho aA S σ F x y v u _ C g f m) λc G ⟨z,E,B,R,k,e,l⟩=>?_) o
 subst e;cases R;exact tc #[E,B,l]
def tE(K:Fg)(x:V)(H:Hp)(k:Bool):Prop :=
 match x with|.non=>k=false|.bl b=>k=b|.int i=>k=(i != 0)|.str y=>y.length<=sizeLine/\k=((y.length:Int) != 0)|.byt y=>y.size<=sizeLine/\k=((y.size:Int) != 0)|.ref p=>(∃U,fe K H p U/\k = !U.isEmpty)\/(∃U,SqT K H p U/\k = !U.isEmpty)\/∃kvs,H p=some (.dK kvs)/\k = !kvs.isEmpty|_=>False
def NA{κ:Type}{kvs:List (κ×V)}{vs:List (κ×bb)}(r:KV kvs vs):(!vs.isEmpty) = !kvs.isEmpty:=by cases r <;> rfl
def yP(r:aL U its):(!its.toArray.isEmpty) = !U.isEmpty:=by cases r <;> simp
def kU:(sizeLine:Nat)<2 ^ 63:=by rw[dz];decide
theorem NB:DI X (λx H Q=>∃k,tE X.K x H k/\Q k H):=by
 intro aA s σ H x v Q I rx h;exists k,e,q,h;have B:=kU;have hs:sizeLine=16777216:=dz;cases x with
 |non=>cases rx;have E:k=false:=e;subst E;exact truthy_none #[H,I,q]|bl b=>cases rx;have E:k=b:=e;subst E;exact tc #[H,I,q]|int i=>exists t,rfl,rx;have E:k=(i != 0):=e;subst E;exact PySem.P.truthy_int #[H,I,q]|str y=>exists t,rfl,rx;obtain⟨o,E⟩:y.length<=sizeLine/\k=((y.length:Int) != 0):=e;subst E;exact PySem.P.truthy_str (by lia) #[H,I.tok _,q]|byt y=>exists t,rfl,rx;obtain⟨o,E⟩:y.size<=sizeLine/\k=((y.size:Int) != 0):=e;subst E;exact W.truthy_bytes (by lia) #[H,I.tok _,q]|ref p=>cases rx;have E:(∃U,fe X.K H p U/\k = !U.isEmpty)\/(∃U,SqT X.K H p U/\k = !U.isEmpty)\/∃kvs,H p=some (.dK kvs)/\k = !kvs.isEmpty:=e;rcases E with⟨U,f,E⟩|⟨U,f,E⟩|⟨kvs,f,E⟩;{subst E;exists its,r,g,l,I.list f;have d:=r.length;exact wpAny_truthy_list g.isList (by simp only[fo];lia) #[H,I.tok _,by rw[yP r];exact q]};{subst E;exists its,r,g,l,I.tuple f;have d:=r.length;exact truthy_tuple g (by simp only[fo];lia) #[H,I.tok _,by rw[yP r];exact q]};subst E;obtain⟨l,A,vs,r,m⟩:kvs.length<=sizeLine/\(p==sysModules)=false/\∃vs,KV kvs vs/\s.heap.DictOf (bZ X.prog X.w) p vs:=I.hok p _ f;have d:kvs.length=vs.length:=qv r;exact wpAny_truthy_dict A m (by lia) #[H,I.tok _,by rw[NA r];exact q]
 |_=>exact(show False from e).elim
def NC (f : PE X a ta) (d : ∀ W, isTrue a X.env W = (do let v ← W; standAt a.pos; holding [v] (truthy v))) :
    PT X a (λσ H Q=>ta σ H λx H'=>∃k,tE X.K x H' k/\Q k H'):=by
 intro aA s σ H Q I h;exact isTrue_plain (thn (f aA s σ H _ I h) λv S ⟨x,H1,g,r,q1⟩=>NB aA S σ H1 x v Q g r q1) (d _)
def ND:gp X (binaryOp .Add) (λx y H Q=>∃i j,x=.str i/\y=.str j/\i.length+j.length<=sizeLine/\Q (.str (i++j)) H):=by intro aA s σ H x y v u Q I rx ry h;exists i,j,rfl,rfl,d,q,h;exists t,rfl,rx;exists t',rfl,ry;exact add_str (λt' tk=>#[.str (i++j),H,I.tok _,#[_,rfl],q]) d
def gP{x:V}(r:aL [x] us):∃u,us=[u]/\aH x u:=by cases r with|cons d R=>cases R;exact#[_,rfl,d]
def vals2{x y:V}(r:aL [x,y] us):∃u W,us=[u,W]/\aH x u/\aH y W:=by cases r with|cons g f=>cases f with|cons d R=>cases R;exact#[_,_,rfl,g,d]
def DK(K:Fg)(x:V)(H:Hp)(n:Nat):Prop :=
 match x with|.str y=>y.length<=sizeLine/\n=y.length|.byt y=>y.size<=sizeLine/\n=y.size|.ref p=>(∃U,fe K H p U/\n=U.length)\/∃U,SqT K H p U/\n=U.length|_=>False
theorem NE:eD X (.builtin "len") (λU H Q=>∃x n,U=[x]/\DK X.K x H n/\Q (.int n) H):=by
 intro aA s σ H U us Q I r h;exists x,n,rfl,e,q,h;exists u,rfl,R,gP r;have A:=kU;have hs:sizeLine=16777216:=dz;cases x with
 |str y=>exists t,rfl,R;obtain⟨o,E⟩:y.length<=sizeLine/\n=y.length:=e;subst E;exact len_str (by lia) #[.int _,H,I.tok _,#[_,rfl],q]|byt y=>exists t,rfl,R;obtain⟨o,E⟩:y.size<=sizeLine/\n=y.size:=e;subst E;exact W.len_bytes (by lia) #[.int _,H,I.tok _,#[_,rfl],q]|ref p=>cases R;have E:(∃U,fe X.K H p U/\n=U.length)\/∃U,SqT X.K H p U/\n=U.length:=e;rcases E with⟨U,l,E⟩|⟨U,l,E⟩;{subst E;exists its,f,g,m,I.list l;have d:=f.length;exact Calls.call_len_list g.isList (by simp only[fo];lia) #[.int U.length,H,I.tok _,#[_,by simp only[fo];rw[d]],q]};subst E;exists its,f,g,m,I.tuple l;have d:=f.length;exact len_tuple g (by simp only[fo];lia) #[.int U.length,H,I.tok _,#[_,by simp only[fo];rw[d]],q]
 |_=>exact(show False from e).elim
end
structure o7(h:Heap)(x dx C:Addr)(mA:fg):Prop where
 obj:h.get? x=some (W.instObj C dx)
 ns:h.Ns1 dx mA
 ne:dx≠x
def NF(n:h.Ns1 dx mA):∃f,h.get? dx=some f/\∀name,W.lookIn name f=some (mA name):=by exists o,es,ep,ho,hd,hk,_,l,n;refine#[o,ho,λname=>?_];have e:=l name;unfold nsFind findBy at e;rw[<- Array.find?_toList]at e;unfold W.lookIn;rw[hd];dsimp only;split;{rename_i y q;rw[q]at e;exact congrArg some e};rename_i q;rw[q]at e;(have a:es.toList.any (·.refKey)=false:=by rw[List.any_eq_false];intro y g;exists z,t,d,hk y (CQ.mp g);simp[DictEntry.refKey,d]);(have A:¬ es.toList.any (·.refKey)=true:=by rw[a];exact gr);rw[ba A];exact congrArg some e
def o7.look{x C:Addr}(I:o7 h x dx C mA):∃o,W.InstAt h x (W.instObj C dx) C (some o)/\∀name,W.lookIn name o=some (mA name) :=
 let⟨o,ho,a⟩:=NF I.ns
 #[o,#[I.obj,rfl,rfl,ho],a]
section
variable{A:dj}{E:di}{K:Fg}{x C f:Addr}{name:Str}
def NG{pl:Sem Bool}{Q:bb×List bb->cc->Prop}(X:K.In s.heap)(I:o7 s.heap x dx C mA)(a:W.plainGet K C name=true)(l:W.findIn K (.ref C) name=some (some (.ref f)))(ht:W.isFn K (.ref f)=true)(d:mA name=none)(h:Q (.ref f,[.ref x]) s):wpAny (model prog w) A (getMethod (.ref x) name pl) Q E s:=by exists o,J,g,I.look;exact W.method_fn X J (W.plainGet_of a).1 (W.plainGet_of a).2 l (dc.mp ht) (by show(W.lookIn name o).map (·.isSome)=some false;rw[g,d];rfl) h
def NH{R:Result->cc->Prop}(X:K.In s.heap)(a:W.makesIn K C=true)(hi:W.findIn K (.ref C) "__init__"=some (some (.builtin "object.__init__")))(l:∀self,W.Looks (model prog w) s.heap (bindSpecial (.builtin "object.__init__") self) (.builtin "object.__init__",[self]))(h:codeAny (model prog w) (A.under (.builtin "type.__call__" #[[.ref C],[]])) (.call (.builtin "object.__init__") #[[.ref (s.heap.objs.size+1)],[]]) (W.InitBack (s.heap.objs.size+1) R) {s with heap:=(s.heap.push W.emptyDict).push (W.instObj C s.heap.objs.size)}):codeAny (model prog w) A (.call (.ref C) #[[],[]]) R s:=by exists m,g,d,t,os,s;exact W.make_core (W.makes_of X a) (W.looks_findIn X hi) l (.inr #[rfl,rfl]) h
end
def cO.some_of{o:Option bb}(r:cO (some v) o):∃u,o=some u/\aH v u:=by cases o with|none=>exact(show False from r).elim|some u=>exact#[u,rfl,r]
def cO.none_of{o:Option bb}(r:cO none o):o=none:=by cases o with|none=>rfl|some u=>exact(show False from r).elim
section
variable{a C:Addr}{fs:List (Str×V)}
def NI(hok:gh P w H h)(e:H a=some (.ins C dx fs)):∃mA,o7 h a dx C mA/\(∀f,cO (fs.lookup f) (mA f))/\PySem.Within mA (fs.map (·.1))/\fs.length<=1000/\H dx=some (.own a):=by exists d,z,ne,ob,mA,n,r,q,(show bK P w H h a (.ins C dx fs)from hok a _ e);exact#[mA,#[ob,n,ne],r,q,z,d]
end
structure ng(K:Fg)(C:Addr):Prop where
 pg:W.plainGet K C Str.empty=true
 hd:W.hasDictIn K C=true
 po:W.plainOver K C=true
 sa:W.findIn K (.ref C) "__setattr__"=some (some (.builtin "object.__setattr__"))
def ng.get{K:Fg}{C:Addr}(c:ng K C)(f:Str):W.plainGet K C f=true:=c.pg
def tF(K:Fg)(C:Addr)(f:Str):Prop:=W.findIn K (.ref C) f=some none
structure m7(K:Fg)(C:Addr)(m:Str)(f:Addr):Prop where
 at_:W.findIn K (.ref C) m=some (some (.ref f))
 fn:W.isFn K (.ref f)=true
 kp:W.keepIn K (.ref f)=true
section
variable{σ:St}{a C:Addr}{fs:List (Str×V)}{A:dj}{E:di}
def NJ{m:Str}{g:Addr}{pl:Sem Bool}{Q:bb×List bb->cc->Prop}(I:Inv X aA σ H s)(e:H a=some (.ins C dx fs))(c:ng X.K C)(k:m7 X.K C m g)(l:fs.lookup m=none)(h:Q (.ref g,[.ref a]) s):wpAny (model X.prog X.w) A (getMethod (.ref a) m pl) Q E s:=by exists mA,d,r,_,_,_,NI I.hok e;have hn:mA m=none:=cO.none_of (by rw[<- l];exact r m);exact NG I.kIn d (c.get m) k.at_ k.fn hn h
def Inv.made(I:Inv X aA σ H s):Inv X aA σ (upd (upd H s.heap.objs.size (.own (s.heap.objs.size+1))) (s.heap.objs.size+1) (.ins C s.heap.objs.size [])) {s with heap:=(s.heap.push W.emptyDict).push (W.instObj C s.heap.objs.size)}:=by(have d:(s.heap.push W.emptyDict).get? s.heap.objs.size=some W.emptyDict:=fi s.heap rfl;have m:((s.heap.push W.emptyDict).push (W.instObj C s.heap.objs.size)).get? (s.heap.objs.size+1)=some (W.instObj C s.heap.objs.size):=by have:=fi (s.heap.push W.emptyDict) (o:=W.instObj C s.heap.objs.size) rfl;rwa [pc]at this);have l:(s.heap.push W.emptyDict).Ns s.heap.objs.size (λ_=>none):=#[W.emptyDict,#[],_,d,rfl,(λe g=>absurd g (by simp)),λ_=>rfl];have r:=I.laid (a:=s.heap.objs.size) (o:=.own (s.heap.objs.size+1)) (h':=s.heap.push W.emptyDict) (t':=s.toks) (λb u q=>hps q) (dm _) #[_,d];refine r.laid (a:=s.heap.objs.size+1) (o:=.ins C s.heap.objs.size []) (t':=s.toks) (λb u q=>hps q) (Bj (pc _ _)) ?_;have ne:s.heap.objs.size≠s.heap.objs.size+1:=gj (Nat.lt_succ_self _);refine#[by rw[aP ne,a8],gw _,ne,m,λ_=>none,(Heap.Ns1.of_empty l).at λo q=>hps q,λ_=>True.intro,λy f=>absurd rfl f]
end
section
variable{f:Str}
def NK {pl : Sem Bool} {m : Str} {apos : Pos} {args : List Expr} {aA : List (Addr × Obj)} {s : cc} {σ : St} {H : Hp} {Q : bb → cc → Prop} {te : TE} (t : PE X e te) (I : Inv X aA σ H s) (h : te σ H fun x H1 => ∃ a C dx fs g, x = .ref a ∧ H1 a = some (.ins C dx fs) ∧ ng X.K C ∧ m7 X.K C m g ∧ fs.lookup m = none ∧ ∀ s1, Inv X aA σ H1 s1 → wpAny (model X.prog X.w) X.A (callWith pos (.ref g) [.ref a] (backTo pos (starEach args X.env)) (backToKw pos (keywordEach [] X.env))) Q X.xe s1)
    (ht:eval (.Call (.Attribute e m apos) args [] pos) X.env=(do
     let o <- eval e X.env
     standAt apos.atName
     let(f,first) <- holding [o] (getMethod o m pl)
     callWith pos f first (backTo pos (starEach args X.env)) (backToKw pos (keywordEach [] X.env)))) :
    wpAny (model X.prog X.w) X.A (eval (.Call (.Attribute e m apos) args [] pos) X.env) Q X.xe s:=by
 refine W.methodCall_KW (pl:=pl) (thn (t aA s σ H _ I h) λu s1 ⟨x,H1,d,r,a,C,dx,fs,g,ex,ea,c,k,l,q⟩=>?_) ht;subst ex;obtain rfl:u=Value.ref a:=r;exact NJ d ea c k l (q s1 d)
end
structure bG(k:Nat)(A:dj):Prop where
 hd:A.handled=none
 dp:A.depth+3 * k+5<recursionLimit
 un:A.units+16 * k+200<cLine
theorem bG.deeper{A:dj}(r:bG (k+1) A)(env:Env):bG k (A.deeper env) :=
 #[r.hd,by have:=r.dp;show A.depth+1+3 * k+5<_;lia,by have:=r.un;show A.units+3+16 * k+200<_;lia]
theorem bG.depth{A:dj}(r:bG k A):A.depth<recursionLimit:=by have:=r.dp;lia
theorem bG.units{A:dj}(r:bG k A):A.units+64<cLine:=by have:=r.un;lia
def kW:TA:=λ_ H Q=>Q [] H
def iA(ta:TE)(tr:TA):TA:=λσ H Q=>ta σ H λx H1=>tr σ H1 λU a=>Q (x::U) a
section
variable{es:List Expr}{t:TA}
def kX:PA X [] kW:=λ_ _ _ _ H Q I h=>CS #[[],H,I,.nil,h]
def jU(f:PE X e te)(d:PA X es t)(hs:starEach (e::es) X.env=(false,eval e X.env)::starEach es X.env:=by rfl):PA X (e::es) (iA te t):=by intro pos aA s σ H Q I h;rw[hs];show wpAny _ _ (spliced ((false,eval e X.env)::backTo pos (starEach es X.env))) _ _ s;refine Bk (thn (f aA s σ H _ I h) λu S ⟨x,H1,l,R,q1⟩=>?_);exact thn (d pos aA S σ H1 _ l q1) λus o ⟨U,m,g,r,a⟩=>#[x::U,m,g,.cons R r,a]
def ww(t:TA):TE:=λσ H Q=>t σ H λU H1=>U.length<=sizeLine/\∀p,H1 p=none->Q (.ref p) (upd H1 p (.tup U))
def wx(t:TA):TE:=λσ H Q=>t σ H λU H1=>U.length<=sizeLine/\∀p,H1 p=none->Q (.ref p) (upd H1 p (.lst U))
def NL{x1}(h:PA X es t):PE X (.Tuple es x1 pos) (ww t):=by intro aA s σ H Q I hq;refine wpAny_Tuple_spliced (thn (h pos aA s σ H _ I hq) λus S ⟨U,H1,a,r,z,q⟩=>#[by rw[<- r.length];exact z,?_]);have d:H1 S.heap.objs.size=none:=a.hok.fresh (dm _);refine#[.ref S.heap.objs.size,upd H1 S.heap.objs.size (.tup U),a.laid (t':=S.toks) (λb u e=>hps e) (dm _) ?_,rfl,q _ d];exact#[z,us,r,#[_,fi _ rfl,rfl,rfl,_,rfl]]
def NM(h:PA X es t):PE X (.List es pos) (wx t):=by intro aA s σ H Q I hq;refine wpAny_List_spliced (thn (h pos aA s σ H _ I hq) λus S ⟨U,H1,a,r,z,q⟩=>#[by rw[<- r.length];exact z,?_]);have d:H1 S.heap.objs.size=none:=a.hok.fresh (dm _);refine#[.ref S.heap.objs.size,upd H1 S.heap.objs.size (.lst U),a.laid (t':=S.toks) (λb u e=>hps e) (dm _) ?_,rfl,q _ d];exact#[z,us,0,r,fi _ rfl]
end
abbrev Sp:=List V->Hp->VK->XK->Prop
abbrev CXT:=List Env->Hp->cc->XK->bb->cc->Prop
structure iV(P:fc)(w:dh)(K:Fg)(mg:fg)(base:Heap)(A:dj)(outer:List Env)(s:cc)(H:Hp):Prop where
 frames:A.frames=some outer
 mod:Mod K mg base
 bs:∀b o,base.get? b=some o->s.heap.get? b=some o/\H b=none
 bsz:base.objs.size<=s.heap.objs.size
 funs:s.heap.FunFrames base outer
 frf:∀b∈h9 outer,H b=none
 hok:gh P w H s.heap
 bare:AllBare s.gens
 tabs:kT K base H
def CE(outer:List Env)(P:fc)(w:dh)(H:Hp)(s:cc)(Q:VK)(u:bb)(O:cc):Prop :=
 ∃v H',O.os=s.os/\AllBare O.gens/\Un (h9 outer) [] H H' s.heap O.heap/\gh P w H' O.heap/\aH v u/\Q v H'
def CR(CX:CXT)(outer:List Env)(P:fc)(w:dh)(H:Hp)(s:cc)(Q:VK)(E:XK)(r:Result)(O:cc):Prop :=
 match r with|.ok (.ret u)=>CE outer P w H s Q u O|.ok _=>False|.error e=>CX outer H s E e O
structure bO(P:fc)(w:dh)(K:Fg)(mg:fg)(base:Heap)(CX:CXT)(k:Nat)(f:Addr)(fd:FuncData)(ps:List Str)(sp:Sp):Prop where
 len:∀vs H Q E,sp vs H Q E->vs.length=ps.length
 run:∀(A:dj) (outer:List Env) (s:cc) (H:Hp) (args:Args) (us:List bb) (vs:List V) (Q:VK) (E:XK),bG k A->iV P w K mg base A outer s H->BindsTo s fd args (ps.zip us)->aL vs us->sp vs H Q E ->
  codeAny (model P w) A (.call (.ref f) args) (CR CX outer P w H s Q E) s
def bO.imp{K:Fg}{CX:CXT}{f:Addr}{ps:List Str}{sp S:Sp}(F:bO P w K mg base CX k f fd ps sp)(h:∀vs H Q E,S vs H Q E->sp vs H Q E):bO P w K mg base CX k f fd ps S :=
 #[λvs H Q E q=>F.len vs H Q E (h _ _ _ _ q),λA outer s H args us vs Q E d g l a hs=>F.run A outer s H args us vs Q E d g l a (h _ _ _ _ hs)]
theorem iV.in1{K:Fg}{A:dj}(e:iV P w K mg base A outer s H):iV P w K mg base A.in1 outer s H:=#[e.frames,e.mod,e.bs,e.bsz,e.funs,e.frf,e.hok,e.bare,e.tabs]
end L2
variable{CX:L2.CXT}
namespace L2
section
variable{σ:St}
def Inv.env0(I:Inv X aA σ H s):iV X.prog X.w X.K X.mg X.base X.A X.stack s H :=
 #[I.ok.frames,I.ok.mod,I.bs,ii I.ok.bsz I.sz,I.stack,I.stkFree,I.hok,I.bare,I.ok.tabs.mono I.base.tbls]
def Inv.after{Q:VK}(I:Inv X aA σ H s)(h:CE X.stack X.prog X.w H s Q u O):EP X aA σ Q u O:=by exists v,H',os,bare,un,hok,r,q,h;exists a,g,d,t,o,O;obtain rfl:o=s.os:=os;exact#[v,H',I.call (h':=a) (g':=g) (d':=d) (t':=t) (ch:=[]) un hok bare (λb z=>absurd z (by simp)),r,q]
end
def cQ(K:Fg)(fd:FuncData)(ps:List Str)(ds:List bb):Prop :=
 ∀(s:cc) (us:List bb),K.In s.heap->(us++ds).length=ps.length->BindsTo s fd #[us,[]] (ps.zip (us++ds))
def cQ.all{K:Fg}{ps:List Str}(h:∀us:List bb,us.length=ps.length->bindArgs fd #[us,[]]=pure (ps.zip us)):cQ K fd ps []:=λs us _ a=>by rw[h5]at a ⊢;exact .of_eq (h us a)
section
variable{f C:Addr}
structure Mk(K:Fg)(C f:Addr):Prop where
 makes:W.makesIn K C=true
 init:W.findIn K (.ref C) "__init__"=some (some (.ref f))
 fn:W.isFn K (.ref f)=true
 kp:W.keepIn K (.ref C)=true
end
def PK(X:Cx)(K:List Keyword)(t:TA):Prop :=
 ∀(pos:Pos) (aA:e7) (s:cc) (σ:St) (H:Hp) (Q:List V->Hp->Prop),Inv X aA σ H s->t σ H Q->wpAny (model X.prog X.w) X.A (evalAll ((backToKw pos (keywordEach K X.env)).map (·.2))) (AP X aA σ Q) X.xe s
section
variable{d:Pos}{a:List Keyword}{t:TA}{nm:Option Str}
def NN:PK X [] kW:=λ_ _ _ _ H Q I h=>wpAny_evalAll_nil #[[],H,I,.nil,h]
def NO(l:PE X e te)(g:PK X a t):PK X (#[nm,e,d]::a) (iA te t):=by intro pos aA s σ H Q I h;show wpAny _ _ (evalAll ((do let v <- eval e X.env;standAt pos;pure v)::(backToKw pos (keywordEach a X.env)).map (·.2))) _ _ s;refine wpAny_evalAll_cons (bv (thn (l aA s σ H _ I h) λu S ⟨x,H1,o,R,q1⟩=>bv (nt (cq ?_))));exact thn (g pos aA S σ H1 _ o q1) λus A ⟨U,y,m,r,f⟩=>#[x::U,y,m,.cons R r,f]
end
structure m8(N P:List Str)(sc:Scope):Prop where
 kind:sc.kind=.function
 co:sc.isCoroutine=false
 gen:sc.isGenerator=false
 nd:N.Nodup
 pre:N.take P.length=P
 par:∀x∈P,sc.names.lookup x=some .local\/sc.names.lookup x=some .cell
 nofree:∀y∈sc.names,y.2 ≠ .free
theorem yQ{kindOf:Str->Option NameKind}{x:Str}:∀{B:List (Str×bb)}{m:fg},(∀v,(x,v)∉B)->bindL kindOf B m x=m x|[],_,_=>rfl|(n,v)::r,m,h=>by unfold bindL;rw[yQ λw a=>h w (df a)];split;{(have:x≠n:=by rintro rfl;exact h v c6);simp[this]};rfl
theorem yR{kindOf:Str->Option NameKind}{x:Str}:∀{B:List (Str×bb)}{m:fg},(∀v,(x,v)∉B)->bindC kindOf B m x=m x|[],_,_=>rfl|(n,v)::r,m,h=>by unfold bindC;rw[yR λw a=>h w (df a)];split;{rfl};(have:x≠n:=by rintro rfl;exact h v c6);simp[this]
theorem yS{kindOf:Str->Option NameKind}{x:Str}{v:bb}:∀{P:List Str}{vs:List bb}{i:Nat}{m:fg},P.Nodup->P[i]? = some x->vs[i]? = some v->kindOf x=some .local->bindL kindOf (P.zip vs) m x=some v|[],_,_,_,_,h,_,_|_::_,[],_,_,_,_,h,_=>by simp at h|p::P,w::vs,0,m,nd,d,a,hk=>by simp at d a;subst d;subst a;show bindL kindOf ((p,w)::P.zip vs) m p=_;unfold bindL;rw[yQ λv f=>(lg.mp nd).1 (CT f).1,aK hk];simp|p::P,w::vs,i+1,m,nd,d,a,hk=>by show bindL kindOf ((p,w)::P.zip vs) m x=_;unfold bindL;exact yS (i:=i) (lg.mp nd).2 (by simpa using d) (by simpa using a) hk
theorem yT{kindOf:Str->Option NameKind}{x:Str}{v:bb}:∀{P:List Str}{vs:List bb}{i:Nat}{m:fg},P.Nodup->P[i]? = some x->vs[i]? = some v->kindOf x≠some .local->bindC kindOf (P.zip vs) m x=some v|[],_,_,_,_,h,_,_|_::_,[],_,_,_,_,h,_=>by simp at h|p::P,w::vs,0,m,nd,d,a,hk=>by simp at d a;subst d;subst a;show bindC kindOf ((p,w)::P.zip vs) m p=_;unfold bindC;rw[yR λv f=>(lg.mp nd).1 (CT f).1,ba hk];simp|p::P,w::vs,i+1,m,nd,d,a,hk=>by show bindC kindOf ((p,w)::P.zip vs) m x=_;unfold bindC;exact yT (i:=i) (lg.mp nd).2 (by simpa using d) (by simpa using a) hk
def start(N:List Str)(vs:List V):St:=vs.map some++List.replicate (N.length-vs.length) none
noncomputable def gQ(CX:CXT)(P:fc)(w:dh)(K:Fg)(mg:fg)(base:Heap)(N:List Str)(qual:Str)(scope:Scope)(f:Addr)(cd:bb)(A:dj)(outer:List Env)(s:cc)(H:Hp)(E:XK):Cx where
 prog:=P
 w:=w
 K:=K
 mg:=mg
 base:=base
 A:=A.deeper (envOfC qual scope s.heap.objs.size f cd)
 N:=N
 s₀:=s
 H₀:=H
 env:=envOfC qual scope s.heap.objs.size f cd
 outer:=outer
 stack:=envOfC qual scope s.heap.objs.size f cd::outer
 ex:=[]
 calm:=true
 fn:=λ_=>true
 pn:=[]
 xe:=λe O=>wpAny (model P w) (A.deeper (envOfC qual scope s.heap.objs.size f cd)) (leaving (envOfC qual scope s.heap.objs.size f cd) e) (λ_ S=>CX outer H s E e S) (λa S=>CX outer H s E a S) O
def yU(h:sc.names.lookup x=some .cell):∃c,(cellsFrom n sc.names []).lookup x=some c:=by have q:=W.cellsFrom_some sc.names n [] (.inl h);exact Option.isSome_iff_exists.mp q
theorem NP{K:Fg}{N ps:List Str}{f:Addr}{cd:bb}{A:dj}{s1:cc}{E:XK}{vs:List V}(S:m8 N ps scope)(hd:A.handled=none)(g:iV P w K mg base A outer s H)(G:vs.length=ps.length)(r:aL vs us)(x:InCallC s s.heap.objs.size (bindL (envOfC qual scope s.heap.objs.size f cd).kindOf (ps.zip us) λ_=>none) (cellsFrom (s.heap.objs.size+1) scope.names []) (bindC (envOfC qual scope s.heap.objs.size f cd).kindOf (ps.zip us) λ_=>none) s1):Inv (gQ CX P w K mg base N qual scope f cd A outer s H E) [] (start N vs) H s1:=by
 have D:ps.length<=N.length:=by have:=congrArg List.length S.pre;rw[pd]at this;lia
 exists B,tk,rfl,hk,x.done;have l:∀b:Addr,b∉(gQ CX P w K mg base N qual scope f cd A outer s H E).ex:=λb z=>absurd (show b∈([]:List Addr)from z) (by simp)
 refine#[#[g.mod,S.kind,rfl,rfl,dm _,λy z c B d=>?_,λy m=>?_,λy c _ h=>?_,λ_=>hd,Around.frames_deeper g.frames,.inr #[rfl,rfl],λb z=>absurd z (l b),g.bs,g.bsz,λb _ _=>l b,λb z=>absurd z (l b),g.funs,g.frf,g.tabs],
  rfl,g.bare,Un.kept hk,#[_,x.toInCall.ns,λi y v B d J=>?_],λy c h=>#[_,x.cell y c h],g.hok.fresh (dm _),λy c h=>?_,λp hp=>absurd (show p∈([]:e7)from hp) (by simp),g.hok.kept hk,?_]
 . exact name_of_addr x.apart (nu B) (nu d)
 . have m:scope.names.lookup y=some .cell\/scope.names.lookup y=some .free:=m;rcases m with m|m;{exact yU m};exact absurd rfl (S.nofree _ (nu m))
 . exact sy (x.above y c (nu h))
 . have t:i<vs.length:=by
     unfold start at d;by_cases t:i<vs.length
     . exact t
     . rw[nv (by simpa using t)]at d;rw[ny]at d;split at d <;> cases d
   have F:vs[i]? = some v:=by unfold start at d;rw[mv (by simpa using t),h7]at d;cases e:vs[i]? with|none=>rw[e]at d;cases d|some a=>rw[e]at d;cases d;rfl
   exists u,C,R,r.get F;have hp:ps[i]? = some y:=by rw[<- S.pre,List.getElem?_take_of_lt (by lia)];exact B
   have o:ps.Nodup:=by rw[<- S.pre];exact S.nd.sublist (List.take_sublist _ _)
   refine#[u,R,?_];rcases S.par y (u3 hp)with k|k
   . exact .inl #[k,yS o hp C k]
   . exists c,e,yU (n:=s.heap.objs.size+1) k;refine .inr #[.inl k,c,e,?_];have q:=x.cell y c e;rw[yT o hp C (by show scope.names.lookup y≠_;rw[k];decide)]at q;exact q
 . exact g.hok.fresh (sy (x.above y c (nu h)))
 . unfold start;show _=N.length;rw[ik,d3,List.length_replicate];lia
def yV{K:Fg}{f:Addr}{name:Str}{params:Arguments}{T kV D M ct oc:bb}{an Z:Option Addr}{m:Array (Option bb)}{N ps:List Str}{sp:Sp}(lk:K.lookup f=some #[oc,Z,.func (W.fnOf name qual params body scope T kV D M an cdv ct),m])(C:W.codeIn K cdv qual=true)(S:m8 N ps scope)(len:∀vs H Q E,sp vs H Q E->vs.length=ps.length)(d:∀(A:dj) (outer:List Env) (s:cc) (H:Hp) (vs:List V) (Q:VK) (E:XK),bG k (A.deeper (envOfC qual scope s.heap.objs.size f cdv))->sp vs H Q E->∃t,ja (gQ CX P w K mg base N qual scope f cdv A outer s H E) body t/\t {nx:=λ_ H'=>Q .non H',rt:=Q} (start N vs) H):bO P w K mg base CX (k+1) f (W.fnOf name qual params body scope T kV D M an cdv ct) ps sp:=by
 refine#[len,λA outer s H args us vs Q E B l hb r g=>?_];have hl:=len _ _ _ _ g;have Y:K.In s.heap:=l.mod.kin.keeps λb o e=>(l.bs b o e).1;have L:s.heap.NoLimit:=l.mod.nolimit.keeps λb o e=>(l.bs b o e).1;have cV:∀y∈ps.zip us,scope.names.lookup y.1=some .local\/(scope.names.lookup y.1=some .cell/\((cellsFrom (s.heap.objs.size+1) scope.names []).lookup y.1).isSome=true):=λ⟨n,v⟩ hy=>by rcases S.par n (CT hy).1 with q|q;{exact .inl q};exact .inr #[q,W.cellsFrom_some _ _ _ (.inl q)]
 refine codeAny_call_function B.depth (Y _ _ lk) rfl S.co S.gen rfl (W.codeRec_of Y C) (hb _ _ _ _ ?_);refine wpAny_newFunctionEnv_cells S.kind cV λenv he G x=>?_;subst he;refine#[L.keeps x.toInCall.keep,codeAny_func ?_];exists t,ht,hq,d A outer s H vs Q E (B.deeper _) g;have I:Inv (gQ CX P w K mg base N qual scope f cdv A outer s H E) [] (start N vs) H G:=NP S B.hd l hl r x;refine ij (ht [] G (start N vs) H _ I hq) (λfl O hs=>?_) λe O hs=>hs;have F:∀{a:St}{H':Hp}{v:V}{u:bb},Inv (gQ CX P w K mg base N qual scope f cdv A outer s H E) [] a H' O->aH v u->Q v H'->CE outer P w H s Q u O :=
  λ{a H' v u} J R q=>#[v,H',J.os,J.bare,J.base,J.hok,R,q]
 cases fl with|ret u=>exists v,a,H',J,R,q,hs;exact F J R q|next=>exists a,H',J,q,hs;exact F (v:=V.non) (u:=Value.none) J rfl q|brk|cont=>exists _,_,_,q,hs;exact False.elim q
section
variable{es:List Expr}{t:TA}{id T:String}{r:List V->Hp->VK->Prop}
def se(r:List V->Hp->VK->Prop)(t:TA):TE:=λσ H Q=>t σ H λvs H1=>r vs H1 Q
def yW(o:eD X (.builtin id) r)(l:Gl X x)(g:X.mg x=none)(f:bootBuiltins x=some (.builtin id))(y:PA X (e::es) t)(hn:x ≠ "__name__":=by decide)(d:(x==("__debug__":Str))=false:=by decide)(m:starEach (e::es) X.env=(false,eval e X.env)::starEach es X.env:=by rfl)(a:(backTo pos (starEach es X.env)).any (·.1)=false:=by rfl):PE X (.Call (.Name x p) (e::es) [] pos) (se r t):=by intro aA s σ H Q I h;refine pf (jT I l g f ?_ hn d);exact PyProof.Rows.callWith_builtin1 (thn (y pos aA s σ H _ I h) λus S ⟨vs,H1,A,R,q1⟩=>o aA S σ H1 vs us Q A R q1) m a
def yX(o:eD X (.type T) r)(l:Gl X x)(g:X.mg x=none)(f:bootBuiltins x=some (.type T))(y:PA X (e::es) t)(hn:x ≠ "__name__":=by decide)(d:(x==("__debug__":Str))=false:=by decide)(m:starEach (e::es) X.env=(false,eval e X.env)::starEach es X.env:=by rfl)(a:(backTo pos (starEach es X.env)).any (·.1)=false:=by rfl):PE X (.Call (.Name x p) (e::es) [] pos) (se r t):=by intro aA s σ H Q I h;refine pf (jT I l g f ?_ hn d);exact Bi (thn (y pos aA s σ H _ I h) λus S ⟨vs,H1,A,R,q1⟩=>o aA S σ H1 vs us Q A R q1) m a
end
end L2
namespace HT
section
variable{A:dj}{E:di}
def aI9{t:Addr}{ws:List bb}(ht:IsTup s.heap t vs.toArray)(y:IsTup s.heap b ws.toArray)(m:vs≠[])(F:ws=[]->Q (.ref t) s)(B:ws≠[]->Q (.ref s.heap.objs.size) { s with heap:=s.heap.push { cls:=.type "tuple",data:=.seq (vs++ws).toArray } })(hsz:vs.length+ws.length<=sizeLine):wpAny (model prog w) A (binaryOp .Add (.ref t) (.ref b)) Q E s:=by
 obtain⟨⟨cls,r,data,l⟩,ho,o,n,hd⟩:=id ht;obtain⟨⟨C,D,data2,S⟩,a,f,n2,d⟩:=id y;simp only at o hd f d;subst o hd f d;have e:vs.toArray++ws.toArray=(vs++ws).toArray:=by simp
 by_cases g:ws=[]
 . exact Bl #[_,ho,rfl] #[_,a,rfl] CU seq_tuple_add CV CW (CY _ _)
     (tuple_addW1 t b vs.toArray ws.toArray n n2 r D l S (by simpa using m) (by simp[g])) #[ho,a,F g]
 . refine Bl #[_,ho,rfl] #[_,a,rfl] CU seq_tuple_add CV CW (CY _ _)
     (tuple_addW2 t b vs.toArray ws.toArray n n2 r D l S (by simpa using m) (by simpa using g) (by rw[fo,fo];exact hsz)) #[ho,a,?_]
   rw[e];exact B g
def sIx(n d:Nat):Option Int->Nat|none=>d|some v=>if v<0 then(v+(n:Int)).toNat else min v.toNat n
def yY(n d:Nat):sIx n d none=d:=rfl
theorem o8(n d k:Nat):sIx n d (some (k:Int))=min k n:=by show(if(k:Int)<0 then((k:Int)+(n:Int)).toNat else min (k:Int).toNat n)=min k n;rw[ba (by lia),ph]
theorem NQ(n d:Nat)(hd:d<=n)(o:Option Int):sIx n d o<=n:=by cases o with|none=>exact hd|some v=>show(if v<0 then(v+(n:Int)).toNat else min v.toNat n)<=n;by_cases a:v<0;{rw[aK a];lia};rw[ba a];exact Nat.min_le_right _ _
theorem yZ(v:Int)(n d:Nat):(if v<0 then max (v+(n:Int)) 0 else min v (n:Int))=((sIx n d (some v):Nat):Int):=by show(if v<0 then max (v+(n:Int)) 0 else min v (n:Int))=(((if v<0 then(v+(n:Int)).toNat else min v.toNat n):Nat):Int);by_cases a:v<0;{simp only[aK a];lia};simp only[ba a];lia
theorem NR(lo hi:Option Int)(n:Nat):Builtin.Slice.sliceAdjust lo hi 1 (n:Int)=(((sIx n 0 lo:Nat):Int),((sIx n n hi:Nat):Int)):=by(have a:¬ ((1:Int)<0):=by lia);unfold Builtin.Slice.sliceAdjust;simp only[a,jd];refine th ?_ ?_;{cases lo with|none=>rfl|some v=>exact yZ v n 0};cases hi with|none=>rfl|some v=>exact yZ v n n
theorem NT(i j:Nat):Builtin.Slice.slicePlaces (i:Int) (j:Int) 1=j-i:=by(unfold Builtin.Slice.slicePlaces;have a:(1:Int) > 0:=by lia);simp only[a,pi,Int.ediv_one];split <;> lia
def y0{v:bb}{o:Option Int}{Q:Option Int->cc->Prop}(p:IsPart v o)(h:Q o s):wpAny (model prog w) A (Builtin.Slice.slicePartIndex v) Q E s:=by cases p with|none=>exact slicePart_none h|int i t=>exact slicePart_int h
def zA{S:Addr}{d V:bb}{lo hi:Option Int}{Q:Int×Int×Nat->cc->Prop}(hs:s.heap.IsSliceOf S d V .none)(pl:IsPart d lo)(f:IsPart V hi)(h:Q (((sIx n 0 lo:Nat):Int),1,sIx n n hi-sIx n 0 lo) s):wpAny (model prog w) A (Builtin.Slice.sliceApplied (.ref S) (pure (n:Int))) Q E s:=by exists os,a,g,fh,id hs;unfold Builtin.Slice.sliceApplied Builtin.Slice.sliceFields;refine bv (bv (pj a fh (x:=d) rfl (bv (pj a fh (x:=V) rfl (bv (pj a fh (x:=.none) rfl (cq ?_)))))));refine bv (slicePart_none ?_);show wpAny _ _ (if((1:Int)==0)=true then _ else _) _ _ s;rw[ba (by decide)];(refine bv (y0 pl (bv (y0 f (bv (cq ?_)))));show wpAny _ _ (match Builtin.Slice.sliceAdjust lo hi 1 (n:Int)with|(lo,hi)=>pure (lo,(1:Int),Builtin.Slice.slicePlaces lo hi 1)) _ _ s);rw[NR lo hi n];show wpAny _ _ (pure (((sIx n 0 lo:Nat):Int),(1:Int),Builtin.Slice.slicePlaces ((sIx n 0 lo:Nat):Int) ((sIx n n hi:Nat):Int) 1)) _ _ s;rw[NT];exact cq h
theorem NU(U:Array bb)(i k:Nat):((List.range k).filterMap λ(m:Nat)=>U[((i:Int)+(m:Int) * 1).toNat]?).toArray=((U.toList.drop i).take k).toArray:=by(have e:(λ(m:Nat)=>U[((i:Int)+(m:Int) * 1).toNat]?)=λm=>U[i+m]?:=by(funext m;have:((i:Int)+(m:Int) * 1).toNat=i+m:=by lia);rw[this]);rw[e];have:=pick_run U i k;rw[List.filterMap_map]at this;have a:((λx=>U[x]?) ∘ λx=>i+x)=λm=>U[i+m]?:=rfl;rw[a]at this;rw[this]
theorem aJE{t S:Addr}{o V:bb}{lo hi:Option Int}(ht:IsTup s.heap t items)(hs:s.heap.IsSliceOf S o V .none)(pl:IsPart o lo)(r:IsPart V hi)(y:¬ (sIx items.size 0 lo=0/\sIx items.size items.size hi=items.size))(h:Q (.ref s.heap.objs.size) { s with heap:=s.heap.push { cls:=.type "tuple",data:=.seq ((items.toList.drop (sIx items.size 0 lo)).take (sIx items.size items.size hi-sIx items.size 0 lo)).toArray } })(hsz:items.size<=sizeLine):wpAny (model prog w) A (getItem (.ref t) (.ref S)) Q E s:=by
 have a:sizeOk (.seq ((items.toList.drop (sIx items.size 0 lo)).take (sIx items.size items.size hi-sIx items.size 0 lo)).toArray):=by show((items.toList.drop (sIx items.size 0 lo)).take (sIx items.size items.size hi-sIx items.size 0 lo)).toArray.size<=sizeLine;rw[fo,pd,Bm,lc];lia
 have C:sIx items.size items.size hi<=items.size:=NQ _ _ (dm _) hi;exists os,d,g,fh,id hs;have l:s.TypeIs (.ref S) "slice":=#[os,d,g];unfold getItem
 try with_reducible refine il ?_
 first|refine bv (cq ?_)|skip
 refine bv (wpAny_sequenceKey ht.typeIs (by decide) ?_)
 refine bv (nA (name:=Str.ofString "__getitem__") ht.typeIs Bo
  (jp Bo ht.typeIs entry_tuple_getitem ?_ (args_tuple_getitem _ _)))
 show wpAny _ _ (Builtin.Tuple.tupleItemsOf (.ref t)>>=_) _ _ s;refine bv (tupleItemsOf_ ht ?_);refine bv (mw l ?_);rw[aK (by decide)]
 refine bv (zA hs pl r ?_);have f:¬ ((((sIx items.size 0 lo:Nat):Int)==0&&(1:Int)==1&&(sIx items.size items.size hi-sIx items.size 0 lo)==items.size)=true):=by intro q;rw[cw,cw]at q;have q1:((sIx items.size 0 lo:Nat):Int)=0:=eq_of_beq q.1.1;have B:sIx items.size items.size hi-sIx items.size 0 lo=items.size:=eq_of_beq q.2;exact y #[by lia,by lia]
 show wpAny _ _ (if(((sIx items.size 0 lo:Nat):Int)==0&&(1:Int)==1&&(sIx items.size items.size hi-sIx items.size 0 lo)==items.size)=true then _ else _) _ _ s;rw[ba f,NU]
 first
  |exact bv (m:=Builtin.Tuple.tupleExact _) (je (cq #[_,rfl,cq h]) a)
  |exact bv (m:=Builtin.Tuple.tupleExact _) (je (bv (cq (cq #[_,rfl,cq h]))) a)
  |exact bv (bv (m:=Builtin.Tuple.tupleExact _) (je (cq (cq #[_,rfl,cq h])) a))
  |exact bv (bv (m:=Builtin.Tuple.tupleExact _) (je (cq #[_,rfl,cq h]) a))
end
end HT
namespace L2
abbrev TO:=St->Hp->(Option Int->Hp->Prop)->Prop
def PO(X:Cx)(e:Option Expr)(t:TO):Prop :=
 ∀(aA:e7) (s:cc) (σ:St) (H:Hp) (Q:Option Int->Hp->Prop),Inv X aA σ H s->t σ H Q ->
  wpAny (model X.prog X.w) X.A (evalPart e X.env) (λu O=>∃o H',Inv X aA σ H' O/\IsPart u o/\Q o H') X.xe s
def zB:TO:=λ_ H Q=>Q none H
def o9(t:TE):TO:=λσ H Q=>t σ H λx H1=>∃i,x=.int i/\Q (some i) H1
section
variable{lo hi:Option Expr}{tl d:TO}
def NV:PO X none zB:=by intro aA s σ H Q I h;rw[evalPart_none];exact cq #[none,H,I,.none,h]
def NW(h:PE X e te):PO X (some e) (o9 te):=by intro aA s σ H Q I hw;rw[evalPart_some];refine thn (h aA s σ H _ I hw) λu S ⟨x,H1,a,r,q1⟩=>?_;exists i,rfl,q,q1;exists t,rfl,r;exact#[some i,H1,a,.int i t,q]
def qf(X:Cx)(r:V->Option Int->Option Int->Hp->VK->Prop):Prop :=
 ∀(aA:e7) (s:cc) (σ:St) (H:Hp) (x:V) (v f a:bb) (lo hi:Option Int) (S:Addr) (Q:VK),Inv X aA σ H s->aH x v->s.heap.IsSliceOf S f a .none->IsPart f lo->IsPart a hi->r x lo hi H Q ->
  ∃T id,typeLookup (.type T) "__getitem__"=pure (some (.builtin id))/\s.TypeIs v T/\wpAny (model X.prog X.w) X.A (getItem v (.ref S)) (EP X aA σ Q) X.xe s
def qf.or{r R:V->Option Int->Option Int->Hp->VK->Prop}(h:qf X r)(h':qf X R):qf X (λx lo hi H Q=>r x lo hi H Q\/R x lo hi H Q):=by intro aA s σ H x v vl vu lo hi sl Q I rx hs pl pu q;rcases q with q|q;{exact h aA s σ H x v vl vu lo hi sl Q I rx hs pl pu q};exact h' aA s σ H x v vl vu lo hi sl Q I rx hs pl pu q
def FA(r:V->Option Int->Option Int->Hp->VK->Prop)(te:TE)(tl d:TO):TE:=λσ H Q=>te σ H λx H1=>tl σ H1 λl f=>d σ f λu a=>r x l u a Q
def NX{r:V->Option Int->Option Int->Hp->VK->Prop}(F:qf X r)(K:PE X e te)(G:PO X lo tl)(D:PO X hi d):PE X (.Subscript e (.Slice lo hi none p2) pos) (FA r te tl d):=by intro aA s σ H Q I h;refine Subscript_ (thn (K aA s σ H _ I h) λv o ⟨x,H1,Y,R,q1⟩=>?_);refine wpAny_Slice (thn (G aA o σ H1 _ Y q1) λf m ⟨l,Z,W,C,y⟩=>thn (D aA m σ Z _ W y) λa S ⟨u,g,N,B,t⟩=>?_);rw[evalPart_none];refine cq ?_;have M:Inv X aA σ g { S with heap:=S.heap.push { cls:=.type "slice",data:=.fields (List.toArray [f,a,.none]) } }:=N.kept (t':=S.toks) λb ob q=>hps q;exists T,id,L,E,J,F aA { S with heap:=S.heap.push { cls:=.type "slice",data:=.fields (List.toArray [f,a,.none]) } } σ g x v f a l u S.heap.objs.size Q M R (Heap.IsSliceOf.new ..) C B t;show wpAny (model X.prog X.w) X.A (subscriptTail e (.Slice lo hi none p2) v (.ref S.heap.objs.size)) (EP X aA σ Q) X.xe { S with heap:=S.heap.push { cls:=.type "slice",data:=.fields (List.toArray [f,a,.none]) } };exact tail_any (ops:=[.ref S.heap.objs.size,v]) E L J (by with_unfolding_all rfl)
def iB(U:List V)(lo hi:Option Int):List V:=(U.drop (HT.sIx U.length 0 lo)).take (HT.sIx U.length U.length hi-HT.sIx U.length 0 lo)
theorem zC(U:List V)(lo hi:Option Int):(iB U lo hi).length<=U.length:=by unfold iB;rw[pd,Bm];lia
def DL(K:Fg):V->Option Int->Option Int->Hp->VK->Prop:=λx lo hi H Q=>∃a U,x=.ref a/\SqT K H a U /\
 ¬ (HT.sIx U.length 0 lo=0/\HT.sIx U.length U.length hi=U.length)/\∀p,H p=none->Q (.ref p) (upd H p (.tup (iB U lo hi)))
def NY:qf X (DL X.K):=by(intro aA s σ H x v vl vu lo hi sl Q I rx hs pl pu h;exists a,U,rfl,m,t,q,h;cases rx;exists its,r,l,g,I.tuple m;have f:its.toArray.size=U.length:=by rw[fo];exact r.length.symm);refine#["tuple",_,PyProof.Rows.slot_tuple_getitem.lookup,l.typeIs,?_];refine HT.aJE l hs pl pu (by rw[f];exact t) ?_ (by rw[f];exact g);rw[f];refine#[.ref s.heap.objs.size,_,I.laid (t':=s.toks) (o:=.tup (iB U lo hi)) (λb ob q=>hps q) (dm _) ?_,rfl,q _ (I.hok.fresh (dm _))];exact#[ii (zC U lo hi) g,_,(r.drop (HT.sIx U.length 0 lo)).take (HT.sIx U.length U.length hi-HT.sIx U.length 0 lo),fZ.new _ _]
def aL.nil_iff(r:aL U us):us=[]↔U=[]:=by cases r with|nil|cons _ _=>simp
end
def ixN(n:Nat)(i:Int):Option Nat:=if 0<=i then(if i<n then some i.toNat else none)else if -(n:Int)<=i then some (i+n).toNat else none
noncomputable def atI(U:List α)(i:Int):Option α:=(ixN U.length i).bind λj=>U[j]?
theorem zD{i:Int}(h:ixN n i=some j):seqIndex? i n=some j/\j<n /\ -(n:Int)<=i/\i<n:=by unfold ixN at h;by_cases h0:0<=i;{rw[aK h0]at h;by_cases a:i<n;{rw[aK a]at h;have e:i.toNat=j:=jx h;exact#[by rw[seqIndex_of h0 a,e],by lia,by lia,a]};rw[ba a]at h;cases h};rw[ba h0]at h;by_cases a:-(n:Int)<=i;{rw[aK a]at h;have e:(i+n).toNat=j:=jx h;exact#[by rw[seqIndex_neg (by lia) a,e],by lia,a,by lia]};rw[ba a]at h;cases h
def pA{U:List α}{i:Int}{v:α}(h:atI U i=some v):∃j,seqIndex? i U.length=some j/\U[j]? = some v/\j<U.length /\ -(U.length:Int)<=i/\i<U.length:=by unfold atI at h;cases e:ixN U.length i with|none=>rw[e]at h;cases h|some j=>rw[e]at h;exists g,f,d,a,zD e;exact#[j,g,h,f,d,a]
theorem c9{U:List α}{v:α}(h:U[j]? = some v):atI U (j:Int)=some v:=by(have a:j<U.length:=(mr.mp h).1;have e:ixN U.length (j:Int)=some j:=by unfold ixN;rw[aK (by lia),aK (by lia)];simp);unfold atI;rw[e];exact h
def m9(b:Expr):Prop:=∀o i,subscripted b false o i=operate [o,i] (getItem o i)
def mh(X:Cx)(r:R2):Prop :=
 ∀(value slice:Expr) (aA:e7) (s:cc) (σ:St) (H:Hp) (x y:V) (v u:bb) (Q:VK),Inv X aA σ H s->aH x v->aH y u->r x y H Q ->
  subscripted slice false v u=operate [v,u] (getItem v u)->wpAny (model X.prog X.w) X.A (subscriptTail value slice v u) (EP X aA σ Q) X.xe s
def NZ(X:Cx)(id:String)(r:V->List V->Hp->VK->Prop):Prop :=
 ∀(aA:e7) (s:cc) (σ:St) (H:Hp) (x:V) (U:List V) (v:bb) (us:List bb) (Q:VK),Inv X aA σ H s->aH x v->aL U us->r x U H Q ->
  wpAny (model X.prog X.w) X.A (call (.builtin id) (v::us)) (EP X aA σ Q) X.xe s
section
variable{a b:Expr}{tb:TE}
def mh.or{r R:R2}(h:mh X r)(h':mh X R):mh X (λx y H Q=>r x y H Q\/R x y H Q):=by intro value slice aA s σ H x y v u Q I rx ry q hs;rcases q with q|q;{exact h value slice aA s σ H x y v u Q I rx ry q hs};exact h' value slice aA s σ H x y v u Q I rx ry q hs
def tI{r:R2}(f:mh X r)(l:PE X a ta)(g:PE X b tb)(hs:m9 b):PE X (.Subscript a b pos) (uj r ta tb):=by intro aA s σ H Q I h;exact Subscript_ (tB l g I h λv u S x y o m d R q=>f a b aA S σ o x y v u Q m d R q (hs _ _))
def wy(K:Fg):R2:=λx y H Q=>∃p U i v,x=.ref p/\y=.int i/\fe K H p U/\atI U i=some v/\Q v H
def wz(K:Fg):R2:=λx y H Q=>∃p U i v,x=.ref p/\y=.int i/\SqT K H p U/\atI U i=some v/\Q v H
def xa:R2:=λx y H Q=>∃z i c,x=.str z/\y=.int i/\z.length<=sizeLine/\atI z.cps.toList i=some c/\Q (.str #[(List.toArray [c])]) H
theorem N0:mh X (wy X.K):=by
 intro value slice aA s σ H x y v u Q I rx ry h hs;exists p,U,i,z,rfl,rfl,m,A,q,h;cases rx;exists t,rfl,ry;exists its,r,g,F,I.list m;exists j,d,D,G,C,B,pA A;exists w,E,R,r.get D;have o:=r.length;have hn:=kU;have f:EP X aA σ Q w s:=#[z,H,I,R,q];by_cases h0:0<=i
 . (have l:i.toNat=j:=by rw[seqIndex_of h0 B]at d;exact jx d);exact item_listR g.isList h0 (by lia) (by rw[l];simpa using E) f hs
 . have l:(i+(its.toArray.size:Int)).toNat=j:=by
     rw[seqIndex_neg (by lia) C]at d
     rw[fo,<- o];exact jx d
   exact subscriptTail_builtinR (x:=w) g.isList.typeIs slot_list_getitem.lookup
    (wpAny_getItem_list_neg (Q:=λr O=>r=w/\EP X aA σ Q r O) g.isList (by lia) (by rw[fo] <;> lia) (by lia) (by rw[l];simpa using E) #[rfl,f]) hs
theorem N1:mh X (wz X.K):=by
 intro value slice aA s σ H x y v u Q I rx ry h hs;exists p,U,i,z,rfl,rfl,g,m,q,h;cases rx;exists t,rfl,ry;exists its,r,d,B,I.tuple g;exists j,A,o,F,D,C,pA m;exists w,E,R,r.get o;have l:=r.length;have hn:=kU;have f:EP X aA σ Q w s:=#[z,H,I,R,q];exact subscriptTail_builtinR (x:=w) d.typeIs slot_tuple_getitem.lookup
  (getItem_tuple (j:=j) (Q:=λr O=>r=w/\EP X aA σ Q r O) d (by lia) (by lia) (by rw[fo,<- l];exact A) (by simpa using E) #[rfl,f]) hs
theorem N2:mh X xa:=by
 intro value slice aA s σ H x y v u Q I rx ry h hs;exists z,i,c,rfl,rfl,A,g,q,h;exists t,rfl,rx;exists t',rfl,ry;exists j,d,o,B,m,l,pA g;have f:z.cps.toList.length=z.length:=by simp[Str.length]
 rw[f]at d m l;have hn:=kU;exact tail_any (typeIs_str s z t) slot_str_getitem.lookup (getItem_str (c:=c) (by
  have r:decide (i < -(2 ^ 63:Int))=false:=jw (by lia)
  have E:decide (i ≥ 2 ^ 63)=false:=jw (by lia)
  rw[r,E,Bool.or_false]) (by rw[d];simpa using o) #[.str #[(List.toArray [c])],H,I.tok _,#[_,rfl],q]) hs
def FB(K:Fg):R2:=λx y H Q=>wy K x y H Q\/wz K x y H Q\/xa x y H Q
def N3:mh X (FB X.K):=N0.or (N1.or N2)
def N4(its:List bb)(n j:Nat)(u:bb):Obj.mapSeq (·.setIfInBounds j u) { cls:=.type "list",data:=.seq its.toArray n }={ cls:=.type "list",data:=.seq (its.set j u).toArray n }:=by simp[Obj.mapSeq]
theorem Inv.lst{σ:St}{p:Addr}(I:Inv X aA σ H s)(h:H p=some (.lst U)):∃(its:List bb) (n:Nat),aL U its/\s.heap.get? p=some { cls:=.type "list",data:=.seq its.toArray n }/\U.length<=sizeLine:=by exists z,its,n,r,e,I.hok p _ h;exact#[its,n,r,e,z]
def Inv.lstUpd{σ:St}{p:Addr}{its':List bb}{N:Nat}{f:Obj->Obj}(I:Inv X aA σ H s)(h:H p=some (.lst U))(ho:s.heap.get? p=some { cls:=.type "list",data:=.seq its.toArray n })(d:f { cls:=.type "list",data:=.seq its.toArray n }={ cls:=.type "list",data:=.seq its'.toArray N })(r:aL ys its')(hz:ys.length<=sizeLine)(t:Nat):Inv X aA σ (upd H p (.lst ys)) {s with heap:=s.heap.update p f,toks:=t}:=by(have e:(s.heap.update p f).get? p=some { cls:=.type "list",data:=.seq its'.toArray N }:=by rw[pk f ho (by rw[d] <;> rfl),d]);refine I.write (x:=p) (e:=p) (by rw[h];trivial) (.inl rfl) (λb u g q=>(Bp _ _ (Ne.symm g)).trans q) #[_,e] ?_;exact#[hz,its',N,r,e]
def zE:V->V->V->Hp->(Hp->Prop)->Prop:=λo i v H Q=>∃p U k j,o=.ref p/\i=.int k/\H p=some (.lst U)/\ixN U.length k=some j/\Q (upd H p (.lst (U.set j v)))
theorem N5:DE X zE:=by
 intro aA s σ H o i v ov iv u Q I ro ri rv h;exists p,U,k,j,rfl,rfl,hp,A,q,h;cases ro;exists t,rfl,ri;exists its,n,r,ho,y,I.lst hp;exists d,B,l,g,zD A;have f:=r.length;have hn:=kU;have m:Inv X aA σ (upd H p (.lst (U.set j v))) {s with heap:=s.heap.update p (Obj.mapSeq (·.setIfInBounds j u))} :=
  I.lstUpd hp ho (N4 its n j u) (r.set rv j) (by rw[pq];exact y) s.toks
 by_cases h0:0<=k
 . (have hk:k.toNat=j:=by rw[seqIndex_of h0 g]at d;exact jx d);exact W.ki_setAt ho h0 (by lia) (by rw[fo,<- f];exact g) (by rw[hk];exact#[_,m,q])
 . have hk:(k+(its.toArray.size:Int)).toNat=j:=by
     rw[seqIndex_neg (by lia) l]at d
     rw[fo,<- f];exact jx d
   exact W.ki_setBack ho (by lia) (by rw[fo,<- f];exact l) (by lia) (by rw[hk];exact#[_,m,q])
theorem N6(lo hi:Option Int)(n:Nat):(sliceBounds lo hi none n).1=((HT.sIx n 0 lo:Nat):Int)/\(sliceBounds lo hi none n).2.1=((HT.sIx n n hi:Nat):Int)/\(sliceBounds lo hi none n).2.2=1:=by refine#[?_,?_,rfl];{cases lo with|none=>simp[sliceBounds,HT.sIx]|some i=>simp only[sliceBounds,HT.sIx,pr,show(1:Int) > 0 by decide,pi];by_cases h:i<0;{simp only[h,pi] <;> lia};simp only[h,jd] <;> lia};cases hi with|none=>simp[sliceBounds,HT.sIx]|some i=>simp only[sliceBounds,HT.sIx,pr,show(1:Int) > 0 by decide,pi];by_cases h:i<0;{simp only[h,pi] <;> lia};simp only[h,jd] <;> lia
def N7(its:List bb)(lo hi:Option Int):slicePick its.toArray lo hi none=((its.drop (HT.sIx its.length 0 lo)).take (HT.sIx its.length its.length hi-HT.sIx its.length 0 lo)).toArray:=by exists g,f,d,N6 lo hi its.toArray.size;unfold slicePick;rw[g,f,d];simp only[sliceRange_one,pick_run,fo] <;> rfl
def DM(K:Fg):V->Option Int->Option Int->Hp->VK->Prop:=λx lo d H Q=>∃a U,x=.ref a/\fe K H a U/\∀p,H p=none->Q (.ref p) (upd H p (.lst (iB U lo d)))
theorem N8:qf X (DM X.K):=by intro aA s σ H x v vl vu lo hi sl Q I rx hs pl pu h;exists a,U,rfl,l,q,h;cases rx;exists its,r,f,g,I.list l;have d:=r.length;refine#["list",_,slot_list_getitem.lookup,f.isList.typeIs,?_];refine wpAny_getItem_list_slice f.isList hs pl pu .none (by simp) ?_ (by rw[fo] <;> lia);rw[N7,<- d];refine#[.ref s.heap.objs.size,_,I.laid (t':=s.toks) (o:=.lst (iB U lo hi)) (λb ob q=>hps q) (dm _) ?_,rfl,q _ (I.hok.fresh (dm _))];exact#[ii (zC U lo hi) g,_,0,(r.drop (HT.sIx U.length 0 lo)).take (HT.sIx U.length U.length hi-HT.sIx U.length 0 lo),fi _ rfl]
def eV:V->Bool|.non|.bl _|.int _|.str _=>true|_=>false
noncomputable def lj:V->V->Bool|.non,.non=>true|.bl a,.bl b=>a==b|.bl a,.int b=>(if a then 1 else 0)==b|.int a,.bl b=>a==(if b then 1 else 0)|.int a,.int b|.str a,.str b=>a==b|_,_=>false
def N9{A:dj}{y x:V}{v:bb}(R:aH y u)(r:aH x v)(F:eV y=true)(f:eV x=true):SeqAt.EqAt A s u v (lj y x):=by
 cases y with
 |non=>cases R;cases x with|non=>cases r;exact SeqAt.EqAt.same _|bl b=>cases r;exact SeqAt.EqAt.none_bool b|int b=>exists t,rfl,r;exact SeqAt.EqAt.none_int b t|str b=>exists t,rfl,r;exact SeqAt.EqAt.none_str b t|_=>exact absurd (show false=true from f) gr
 |bl a=>cases R;cases x with|non=>cases r;exact SeqAt.EqAt.bool_none a|bl b=>cases r;exact SeqAt.EqAt.bool_bool a b|int b=>exists t,rfl,r;exact SeqAt.EqAt.bool_int a b t|str b=>exists t,rfl,r;exact SeqAt.EqAt.bool_str a b t|_=>exact absurd (show false=true from f) gr
 |int a=>exists t',rfl,R;cases x with|non=>cases r;exact SeqAt.EqAt.int_none a t'|bl b=>cases r;exact SeqAt.EqAt.int_bool a t' b|int b=>exists t,rfl,r;exact SeqAt.EqAt.int_int a t' b t|str b=>exists t,rfl,r;exact SeqAt.EqAt.int_str a t' b t|_=>exact absurd (show false=true from f) gr
 |str a=>exists t',rfl,R;cases x with|non=>cases r;exact SeqAt.EqAt.str_none a t'|bl b=>cases r;exact SeqAt.EqAt.str_bool a t' b|int b=>exists t,rfl,r;exact SeqAt.EqAt.str_int a t' b t|str b=>exists t,rfl,r;exact SeqAt.EqAt.str_str a t' b t|_=>exact absurd (show false=true from f) gr
 |_=>exact absurd (show false=true from F) gr
def jf(x:V)(u:bb):Bool:=match u with|.none=>lj .non x|.bool b=>lj (.bl b) x|.int i _=>lj (.int i) x|.str z _=>lj (.str z) x|_=>false
def tJ{x y:V}(r:aH y u)(f:eV y=true):jf x u=lj y x:=by cases y with|non|bl b=>cases r;rfl|int i|str z=>exists t,rfl,r;rfl|_=>exact absurd (show false=true from f) gr
theorem nE{x:V}:∀{U:List V}{us:List bb},aL U us->U.all eV=true->us.any (jf x)=U.any λy=>lj y x|_,_,.nil,_=>rfl|y::U,u::us,.cons r t,f=>by rw[jq,cw]at f;rw[Bq,Bq,tJ r f.1,nE t f.2]
theorem kY{A:dj}{s:cc}{x:V}{v:bb}(R:aH x v)(F:eV x=true):∀{U:List V}{us:List bb},aL U us->U.all eV=true->∀u∈us,SeqAt.EqAt A s u v (jf x u)|_,_,.nil,_=>λu d=>by cases d|y::U,u::us,.cons r t,f=>λg d=>by rw[jq,cw]at f;rcases dq.mp d with rfl|d;{rw[tJ r f.1];exact N9 r R f.1 F};exact kY R F t f.2 g d
def B6(x:V)(U:List V):Bool:=U.any λy=>lj y x
def DN(K:Fg)(neg:Bool):R2:=λx y H Q=>∃p U,y=.ref p/\(fe K H p U\/SqT K H p U)/\eV x=true/\U.all eV=true/\Q (.bl (if neg then !B6 x U else B6 x U)) H
def Oa:gp X (compareOp .In) (DN X.K false):=by intro aA s σ H x y v u Q I rx ry h;exists p,U,rfl,d,F,fs,q,h;cases ry;rcases d with d|d;{exists its,r,f,l,I.list d;refine SeqAt.in_listAt (jf x) f.isList (λw g=>kY rx F r fs w (by simpa using g)) #[.bl _,H,I,rfl,?_];rw[show its.toArray.any (jf x)=its.any (jf x) by simp,nE r fs];exact q};exists its,r,f,l,I.tuple d;refine SeqAt.in_tupleAt (jf x) f (λw g=>kY rx F r fs w (by simpa using g)) #[.bl _,H,I,rfl,?_];rw[show its.toArray.any (jf x)=its.any (jf x) by simp,nE r fs];exact q
def Ob:gp X (compareOp .NotIn) (DN X.K true):=by intro aA s σ H x y v u Q I rx ry h;exists p,U,rfl,d,F,fs,q,h;cases ry;rcases d with d|d;{exists its,r,f,l,I.list d;refine SeqAt.notIn_listAt (jf x) f.isList (λw g=>kY rx F r fs w (by simpa using g)) #[.bl _,H,I,rfl,?_];rw[show its.toArray.any (jf x)=its.any (jf x) by simp,nE r fs];exact q};exists its,r,f,l,I.tuple d;refine SeqAt.notIn_tupleAt (jf x) f (λw g=>kY rx F r fs w (by simpa using g)) #[.bl _,H,I,rfl,?_];rw[show its.toArray.any (jf x)=its.any (jf x) by simp,nE r fs];exact q
theorem Oc:eD X (.type "list") (λU H Q=>∃p ys,U=[.ref p]/\(fe X.K H p ys\/SqT X.K H p ys)/\∀l,H l=none->Q (.ref l) (upd H l (.lst ys))):=by
 intro aA s σ H U us Q I r h; obtain ⟨p, ys, rfl, f, q⟩ := h; obtain ⟨u, rfl, y⟩ := gP r; cases y; have F : ∀ (its : List bb), aL ys its → ys.length ≤ sizeLine → ∀ (h' : Heap) (C : Nat), (∀ b o', s.heap.get? b = some o' → h'.get? b = some o') →
     h'.get? s.heap.objs.size=some { cls:=.type "list",dict:=none,data:=.seq its.toArray C,slots:=#[] }->EP X aA σ Q (.ref s.heap.objs.size) {s with heap:=h'}:=λits R d h' C kp e=>
  #[.ref s.heap.objs.size,_,I.laid (t':=s.toks) kp (dm _) (show bK X.prog X.w _ h' _ (.lst ys)from#[d,its,C,R,e]),rfl,q _ (I.hok.fresh (dm _))]
 rcases f with f|f
 . exists its,R,m,d,I.list f;have g:=R.length;exists o,ho,t,n,hd,m.isList;exact call_list_seq p (.inl rfl) ho t hd (λh' C kp e=>F its R d h' C kp e) (by simp only[fo] <;> lia)
 . exists its,R,m,d,I.tuple f;have g:=R.length;exists o,ho,t,n,hd,m;exact call_list_seq p (.inr rfl) ho t hd (λh' C kp e=>F its R d h' C kp e) (by simp only[fo] <;> lia)
theorem Od:eD X (.type "tuple") (λU H Q=>∃p ys,U=[.ref p]/\((fe X.K H p ys/\∀l,H l=none->Q (.ref l) (upd H l (.tup ys)))\/(SqT X.K H p ys/\Q (.ref p) H))):=by
 intro aA s σ H U us Q I r h;exists p,ys,rfl,h,h;exists u,rfl,y,gP r;cases y;rcases h with⟨f,q⟩|⟨f,q⟩
 . exists its,R,d,g,I.list f;have m:=R.length;refine call_tuple_list d.isList (λh' kp=>?_) (by simp only[fo] <;> lia)
   have t:Inv X aA σ H {s with heap:=h'}:=I.kept (t':=s.toks) kp
   have A:Inv X aA σ (upd H h'.objs.size (.tup ys)) { s with heap:=h'.push { cls:=.type "tuple",data:=.seq its.toArray } }:=
    t.laid (t':=s.toks) (λb o e=>hps e) (dm _) (show bK X.prog X.w _ _ _ (.tup ys)from#[g,its,R,fZ.new _ _])
   exact#[.ref h'.objs.size,_,A,rfl,q _ (t.hok.fresh (dm _))]
 . exists its,R,d,g,I.tuple f;exact call_tuple_same d #[.ref p,H,I,rfl,q]
def FC(K:Fg)(T:String)(x:V)(H:Hp):Prop:=match x with
 |.str _=>T="str"|.int _=>T="int"| .ref p=>(T="list"/\∃ U,fe K H p U)\/(T="tuple"/\∃ o,K.lookup p=some o/\o.cls=.type "tuple"/\o.dict=none) ∨
     (T="dict" /\ ((∃kvs,H p=some (.dK kvs))\/∃kvs,H p=some (.dT kvs)))\/(T="set" /\ ∃S n,H p=some (.set S n))
 |_=>False
def Oe{σ:St}{T:String}{x:V}{v:bb}(I:Inv X aA σ H s)(r:aH x v)(ty:FC X.K T x H):s.TypeIs v T/\∀a,v=.ref a->∃ob,s.heap.get? a=some ob/\ob.dict=none:=by
 cases x with
 |str z=>exists t,rfl,r;cases(show T="str" from ty);exact#[typeIs_str s z t,λ_ e=>nomatch e]|int i=>exists t,rfl,r;cases(show T="int" from ty);exact#[typeIs_int s i t,λ_ e=>nomatch e]|ref p=>
  cases r;rcases ty with⟨rfl,U,hq⟩|⟨rfl,o,hk,hc,hd⟩|⟨rfl,hk⟩|⟨rfl,S,n,hk⟩
  . exists its,_,d,_,I.list hq;refine#[d.isList.typeIs,λa e=>?_];cases e;exists o,n,e,c,hd,_,d;exact#[o,e,hd]
  . refine#[#[o,I.kIn p o hk,hc],λa e=>?_];cases e;exact#[o,I.kIn _ o hk,hd]
  . have z:∃o,s.heap.get? p=some o/\o.ExactDict:=by
      rcases hk with⟨kvs,hk⟩|⟨kvs,hk⟩
      . exists _,_,_,_,o,_,_,e,ex,_,I.hok p _ hk;exact#[o,e,ex]
      . exists _,_,_,_,o,_,_,e,ex,_,I.hok p _ hk;exact#[o,e,ex]
    exists o,e,ex,z;refine#[#[o,e,ex.1],λa E=>?_];cases E;exact#[o,e,ex.2.1]
  . exists o,_,_,_,e,ex,_,I.hok p _ hk;refine#[#[o,e,ex.1],λa E=>?_];cases E;exact#[o,e,ex.2.1]
 |_=>exact False.elim ty
def FE(K:Fg)(T:String)(r:V->List V->Hp->VK->Prop)(d:TE)(t:TA):TE:=λσ H Q=>d σ H λx H1=>FC K T x H1/\t σ H1 λU f=>r x U f Q
variable{o:Expr}{es:List Expr}{d:TE}{t:TA}{name:Str}{T id:String}{r:V->List V->Hp->VK->Prop}
def xb(F:PlainAttrs T)(slot:Slot T name id)(y:typeOf (.builtin id)=pure (.type "method_descriptor"))(G:NZ X id r)(ho:PE X o d)(J:PA X (e::es) t)(l:attributeBase o name X.env (eval o X.env)=eval o X.env:=by rfl)(m:((backTo cpos (starEach (e::es) X.env)).all (λx=>!x.1)&&(backToKw cpos (keywordEach [] X.env)).all (λx=>x.1.isSome)&&decide ((e::es).length+([]:List Keyword).length+(if([]:List Keyword).isEmpty then 0 else 1)<30))=true:=by rfl)(g:(apos.endLine==cpos.line)=true:=by rfl)(hs:starEach (e::es) X.env=(false,eval e X.env)::starEach es X.env:=by rfl)(f:(backTo cpos (starEach es X.env)).any (·.1)=false:=by rfl):PE X (.Call (.Attribute o name apos) (e::es) [] cpos) (FE X.K T r d t):=by intro aA s σ H Q I h;refine wpAny_Call_method_late l m g rfl (thn (ho aA s σ H _ I h) λv C ⟨x,H1,B,R,ty,q1⟩=>?_);exists M,L,Oe B R ty;refine#[T,id,F,slot,y,M,L,?_];have A:=J cpos aA C σ H1 _ B q1;rw[hs]at A ⊢;refine CZ (by show(false||(backTo cpos (starEach es X.env)).any (·.1))=false;rw[f] <;> rfl) (C0 ?_);exact thn A λus S ⟨vs,V,N,D,E⟩=>G aA S σ V x vs v us Q N R D E
end
def Of(X:Cx)(id:String)(r:V->List V->Hp->VK->Prop):Prop :=
 ∀(aA:e7) (s:cc) (σ:St) (H:Hp) (x:V) (U:List V) (v:bb) (us:List bb) (Q:VK),Inv X aA σ H s->aH x v->aL U us->r x U H Q ->
  wpAny (model X.prog X.w) X.A (call (.builtin id) (v::us)) (EP X aA σ Q) X.xe s
def aL.one:∀{x:V}{us:List bb},aL [x] us->∃u,us=[u]/\aH x u|_,_,.cons r .nil=>#[_,rfl,r]
section
variable{σ:St}{l:Addr}
def Inv.lset{its':List bb}{f:Array bb->Array bb}(I:Inv X aA σ H s)(o:H l=some (.lst U))(e:s.heap.get? l=some { cls:=.type "list",data:=.seq its.toArray n })(g:f its.toArray=its'.toArray)(a:aL ys its')(hz:ys.length<=sizeLine):Inv X aA σ (upd H l (.lst ys)) {s with heap:=s.heap.update l (Obj.mapSeq f),toks:=t'}:=by have q:=PySem.IsL.update e f;rw[g]at q;refine I.write (x:=l) (e:=l) (by rw[o];exact trivial) (.inl rfl) (λb' u m d=>(Bp s.heap (Obj.mapSeq f) (Ne.symm m)).trans d) #[_,q] ?_;exact#[hz,its',_,a,q]
def Inv.lstM(I:Inv X aA σ H s)(a:H l=some (.lst U)):U.length<=sizeLine/\∃(its:List bb) (n:Nat),aL U its/\U.length=its.length/\s.heap.get? l=some { cls:=.type "list",data:=.seq its.toArray n }:=by exists z,its,n,r,e,I.hok l _ a;exact#[z,its,n,r,r.length,e]
end
def Og:V->List V->Hp->VK->Prop:=λx vs H Q=>∃l U y,x=.ref l/\vs=[y]/\H l=some (.lst U)/\U.length<sizeLine/\Q .non (upd H l (.lst (U++[y])))
theorem tK:Of X "list.append" Og:=by intro aA s σ H x vs v us Q I rx rv h;exists l,U,y,rfl,rfl,a,d,q,h;cases rx;exists u,rfl,R,rv.one;exists z,its,n,r,f,e,I.lstM a;refine call_meets F.slot_list_append #[_,e,rfl] F.entry_list_append (F.args_list_append_2 _ _) (PySem.list_append l its.toArray n u (by rw[fo];lia)) #[e,?_];refine#[.non,_,I.lset (its':=its++[u]) a e (by simp) (r.append (.cons R .nil)) ?_,rfl,q];rw[ik,nB];lia
section
variable{κ:Type}[DecidableEq κ]
noncomputable def dO(kvs:List (κ×V))(k:κ):Option V:=(kvs.find? λkv=>decide (kv.1=k)).map (·.2)
noncomputable def cX(kvs:List (κ×V))(k:κ)(v:V):List (κ×V) :=
 if(kvs.any λkv=>decide (kv.1=k))=true then kvs.map (λkv=>if kv.1=k then(kv.1,v)else kv)else kvs++[(k,v)]
def tL{p:κ×V}{r:List (κ×V)}{k:κ}(e:p.1=k):dO (p::r) k=some p.2:=by simp[dO,gu,e]
def tM{p:κ×V}{r:List (κ×V)}{k:κ}(e:¬ p.1=k):dO (p::r) k=dO r k:=by simp[dO,gu,e]
theorem zF(kvs:List (κ×V))(k:κ)(v:V):(cX kvs k v).length<=kvs.length+1:=by unfold cX;split;{rw[d3];lia};rw[ik,gg,pv];lia
def cO.isSome_eq{o:Option V}{u:Option bb}(r:cO o u):o.isSome=u.isSome:=by
 cases o with
 |none=>cases u with|none=>rfl|some _=>exact(show False from r).elim
 |some _=>cases u with|none=>exact(show False from r).elim|some _=>rfl
theorem cO.getD{o:Option V}{u:Option bb}{d:V}{d':bb}(r:cO o u)(R:aH d d'):aH (o.getD d) (u.getD d'):=by
 cases o with
 |none=>cases u with|none=>exact R|some _=>exact(show False from r).elim
 |some _=>cases u with|none=>exact(show False from r).elim|some _=>exact r
def KV.val{kvs:List (κ×V)}{vs:List (κ×bb)}(r:KV kvs vs)(k:κ):cO (dO kvs k) (valueAt vs k):=by unfold KV at r;induction r with|nil=>exact True.intro| @cons p q ps a h t f=>exists d,g,h;by_cases e:p.1=k;{have E:q.1=k:=d.symm.trans e;(have b:valueAt (q::a) k=some q.2:=by simp[valueAt,gu,E]);rw[tL e,b];exact g};have E:¬ q.1=k:=λz=>e (d.trans z);(have b:valueAt (q::a) k=valueAt a k:=by simp[valueAt,gu,E]);rw[tM e,b];exact f
theorem KV.any{kvs:List (κ×V)}{vs:List (κ×bb)}(r:KV kvs vs)(k:κ):(kvs.any λkv=>decide (kv.1=k))=vs.any λkv=>decide (kv.1=k):=by unfold KV at r;induction r with|nil=>rfl|cons h t a=>rw[Bq,Bq,a,h.1]
def KV.repl{kvs:List (κ×V)}{vs:List (κ×bb)}(r:KV kvs vs)(k:κ){y:V}(R:aH y u):KV (kvs.map λkv=>if kv.1=k then(kv.1,y)else kv) (vs.map λkv=>if kv.1=k then(kv.1,u)else kv):=by unfold KV at r ⊢;induction r with|nil=>exact .nil| @cons p q ps g h t d=>rw[dw,dw];refine .cons ?_ d;exists a,f,h;by_cases e:p.1=k;{rw[aK e,aK (a.symm.trans e)];exact#[a,R]};rw[ba e,ba (λz=>e (a.trans z))];exact#[a,f]
def KV.put{kvs:List (κ×V)}{vs:List (κ×bb)}(r:KV kvs vs)(k:κ){y:V}(R:aH y u):KV (cX kvs k y) (stored vs k u):=by unfold cX stored;rw[r.any k];by_cases e:(vs.any λkv=>decide (kv.1=k))=true;{rw[aK e,aK e];exact r.repl k R};rw[ba e,ba e];exact Paired.snoc r #[rfl,R]
def KV.keys{kvs:List (κ×V)}{vs:List (κ×bb)}(r:KV kvs vs):kvs.map (·.1)=vs.map (·.1):=by unfold KV at r;induction r with|nil=>rfl|cons h t a=>rw[dw,dw,a,h.1]
theorem KV.length{kvs:List (κ×V)}{vs:List (κ×bb)}(r:KV kvs vs):kvs.length=vs.length:=qv r
end
def jV{k:Key}(r:aH (kV k) u):(bZ P w).is k u=true:=by cases k with|inl i=>exists t,e,(show ∃t,u=Value.int i t from r);subst e;exact MJ P w i t|inr x=>exists t,e,(show ∃t,u=Value.str x t from r);subst e;exact MK P w x t
theorem zG{P:fc}{w:dh}:∀{ks:List Key}{us:List bb},aL (ks.map kV) us->ItemsAre (bZ P w) ks us|[],_,r=>by rw[oa]at r;cases r;exact .nil|k::ks,_,r=>by rw[dw]at r;cases r with|cons h t=>exact .cons (jV h) (zG t)
abbrev KT(H:Hp):List (List Key×V)->List (List Key×Addr×bb)->Prop:=Paired λp q=>p.1=q.1/\H q.2.1=some (.tup (p.1.map kV))/\aH p.2 q.2.2
def KT.val{kvs:List (List Key×V)}{U:List (List Key×Addr×bb)}(r:KT H kvs U)(k:List Key):cO (dO kvs k) ((atKey U k).map (·.2)):=by induction r with|nil=>exact True.intro| @cons p q ps a h t f=>exists d,_,g,h;by_cases e:p.1=k;{have E:q.1=k:=d.symm.trans e;(have b:atKey (q::a) k=some q.2:=by simp[atKey,gu,E]);rw[tL e,b];exact g};have E:¬ q.1=k:=λz=>e (d.trans z);(have b:atKey (q::a) k=atKey a k:=by simp[atKey,gu,E]);rw[tM e,b];exact f
section
variable{a:Addr}
def zH{u:HO}(ok:gh P w H h)(e:Rd H a u):bK P w H h a u:=e.ok ok
def kZ{kvs:List (Key×V)}(ok:gh P w H h)(e:Rd H a (.dK kvs)):kvs.length<=sizeLine/\(a==sysModules)=false/\∃vs,KV kvs vs/\h.DictOf (bZ P w) a vs :=
 show bK P w H h a (.dK kvs)from zH ok e
def tN{kvs:List (Key×V)}(ok:gh P w H h)(e:H a=some (.dK kvs)):kvs.length<=sizeLine/\(a==sysModules)=false/\∃vs,KV kvs vs/\h.DictOf (bZ P w) a vs:=kZ ok (.inl e)
def pB{ks:List Key}(ok:gh P w H h)(e:H a=some (.tup (ks.map kV))):(tupleKind (bZ P w)).is h ks a:=by exists _,its,r,o,g,f,_,n,d,(show bK P w H h a (.tup (ks.map kV))from ok a _ e);exact#[o,its.toArray,n,g,f,d,by simpa using zG r]
def pC{kvs:List (List Key×V)}(ok:gh P w H h)(e:Rd H a (.dT kvs)):kvs.length<=sizeLine/\(a==sysModules)=false/\∃U,KT H kvs U/\h.DictOfH (tupleKind (bZ P w)) a U:=by exists z,y,U,r,o,es,ep,E,D,C,B,A,(show bK P w H h a (.dT kvs)from zH ok e);(refine#[z,y,U,r,o,es,ep,E,D,C,B,λx d=>?_,A];have all:∀{l:List (List Key×V)}{m:List (List Key×Addr×bb)},KT H l m->∀x∈m,(tupleKind (bZ P w)).is h x.1 x.2.1:=by intro l m q;induction q with|nil=>intro x d;exact nomatch d| @cons p q ps F f t g=>intro x d;rcases dq.mp d with e|d;{subst e;exact pB ok (by rw[<- f.1];exact f.2.1)};exact g x d);exact all r x d
end
def iC(H:Hp)(a:Addr)(y:V)(r:Option V):Prop :=
 (∃kvs k,Rd H a (.dK kvs)/\y=kV k/\r=dO kvs k)\/∃kvs k b,Rd H a (.dT kvs)/\y=.ref b/\H b=some (.tup (k.map kV))/\r=dO kvs k
def Oh(H:Hp)(a:Addr)(y v:V)(H':Hp):Prop :=
 (∃kvs k,H a=some (.dK kvs)/\y=kV k/\kvs.length<sizeLine/\H'=upd H a (.dK (cX kvs k v))) \/
 ∃kvs k b,H a=some (.dT kvs)/\y=.ref b/\H b=some (.tup (k.map kV))/\kvs.length<sizeLine/\H'=upd H a (.dT (cX kvs k v))
section
variable{σ:St}{a:Addr}{y:V}{o:Option V}{A:dj}{E:di}
def Inv.big(I:Inv X aA σ H s):sysModules<s.heap.objs.size:=by have h:mainGlobals<s.heap.objs.size:=(I.mod.glob.keeps I.bk).lt;exact va (by decide) h
def Oi(t:A.units+1<cLine)(I:Inv X aA σ H s)(g:iC H a y (some v))(m:aH y u)(h:∀W O,Inv X aA σ H O->aH v W->Q W O):wpAny (model X.prog X.w) A (getItem (.ref a) u) Q E s:=by rcases g with⟨kvs,k,e,ey,l⟩|⟨kvs,k,b,e,ey,eb,l⟩;{subst ey;exists z,hd,vs,R,D,kZ I.hok e;exists W,d,r,cO.some_of (v:=v) (o:=valueAt vs k) (by rw[l];exact R.val k);exact wpAny_getItem_of (jV m) D.mapOf d (h W _ (I.tok _) r)};subst ey;cases(show u=Value.ref b from m);exists z,hd,U,R,D,pC I.hok e;exists W,d,r,cO.some_of (v:=v) (o:=(atKey U k).map (·.2)) (by rw[l];exact R.val k);exists p,hp,f,og.mp d;refine wpAny_getItem_heap (C1 t) (pB I.hok eb) D hp ?_;rw[f];exact h W _ (I.tok _) r
def DO(f:A.units+1<cLine)(I:Inv X aA σ H s)(g:iC H a y o)(R:aH y u)(h:∀O,Inv X aA σ H O->Q (.bool o.isSome) O):wpAny (model X.prog X.w) A (compareOp .In u (.ref a)) Q E s:=by rcases g with⟨kvs,k,e,ey,l⟩|⟨kvs,k,b,e,ey,eb,l⟩;{subst ey;exists z,hd,vs,r,d,kZ I.hok e;refine wpAny_in_of (jV R) hd d.mapOf ?_;rw[<- (r.val k).isSome_eq,<- l];exact h _ (I.tok _)};subst ey;cases(show u=Value.ref b from R);exists z,hd,U,r,d,pC I.hok e;refine wpAny_in_heap (C1 f) (pB I.hok eb) hd d ?_;have q:=(r.val k).isSome_eq;rw[vb]at q;rw[<- q,<- l];exact h _ (I.tok _)
def Oj(f:A.units+1<cLine)(I:Inv X aA σ H s)(g:iC H a y o)(R:aH y u)(h:∀O,Inv X aA σ H O->Q (.bool (!o.isSome)) O):wpAny (model X.prog X.w) A (compareOp .NotIn u (.ref a)) Q E s:=by rcases g with⟨kvs,k,e,ey,l⟩|⟨kvs,k,b,e,ey,eb,l⟩;{subst ey;exists z,hd,vs,r,d,kZ I.hok e;refine wpAny_notIn_of (jV R) hd d.mapOf ?_;rw[<- (r.val k).isSome_eq,<- l];exact h _ (I.tok _)};subst ey;cases(show u=Value.ref b from R);exists z,hd,U,r,d,pC I.hok e;refine wpAny_notIn_heap (C1 f) (pB I.hok eb) hd d ?_;have q:=(r.val k).isSome_eq;rw[vb]at q;rw[<- q,<- l];exact h _ (I.tok _)
def pD{ob:HO}(I:Inv X aA σ H s)(mu:wa (H a))(hs:Heap.SameBut a s.heap h')(d:∃q,h'.get? a=some q)(new:bK X.prog X.w (upd H a ob) h' a ob):Inv X aA σ (upd H a ob) {s with heap:=h',toks:=t'} :=
 I.write (x:=a) (e:=a) mu (.inl rfl) (λb q f z=>(hs.2 b f).trans z) d new
def tO{kvs:List (Key×V)}{vs:List (Key×bb)}(z:kvs.length<=sizeLine)(hd:(a==sysModules)=false)(r:KV kvs vs)(d:h'.DictOf (bZ P w) a vs):bK P w H' h' a (.dK kvs):=#[z,hd,vs,r,d]
end
def tP(i:Expr):Prop:=∀o a,subscripted i false o a=operate [o,a] (getItem o a)
def Ol{A:dj}{E:di}{slice:Expr}{T id:String}(t:typeLookup (.type T) "__getitem__"=pure (some (.builtin id)))(hs:tP slice)(h:wpAny (model prog w) A (eval value env) (λo f=>wpAny (model prog w) A (eval slice env) (λi S=>S.TypeIs o T/\wpAny (model prog w) A (getItem o i) Q E S) E f) E s):wpAny (model prog w) A (eval (.Subscript value slice pos) env) Q E s:=by
 refine Subscript_ (ij h (λo f l=>ij l (λi S a=>?_) λ_ _ x=>x) λ_ _ x=>x);exists m,a,a;unfold subscriptTail;refine bv ?_;rw[C3 m.not_modules];refine bv (oh m t ?_);have F:wpAny (model prog w) A (subscripted slice false o i) (λr d=>wpAny (model prog w) A (letTemporaryGo value o r>>=λ_=>pure r) Q E d) E S:=by rw[hs o i];exact C4 (ij a (λr d g=>bv (C5 (cq g))) λ_ _ x=>x)
 first
  |exact cq (bv F)
  |exact bv (cq (bv F))
  |exact bv F
def Om{σ:St}{a:Addr}{y:V}{o:Option V}(I:Inv X aA σ H s)(g:iC H a y o):s.TypeIs (.ref a) "dict":=by rcases g with⟨kvs,k,e,_,_⟩|⟨kvs,k,b,e,_,_,_⟩;{exists _,_,vs,_,d,kZ I.hok e;exact d.typeIs};exists _,_,U,_,d,pC I.hok e;exact d.typeIs
def On(h:Heap)(a:sysModules<h.objs.size):bK P w H (h.push { cls:=.type "dict",data:=.dict #[] }) h.objs.size (.dK []):=
 #[gw _,lr.mpr (Ne.symm (gj a)),[],.nil,C6 h]
def pE:List (TE×TE)->St->Hp->(List (V×V)->Hp->Prop)->Prop|[],_,H,Q=>Q [] H|(tk,tv)::r,σ,H,Q=>tk σ H λx H1=>tv σ H1 λy d=>pE r σ d λps a=>Q ((x,y)::ps) a
abbrev VV:List (V×V)->List (bb×bb)->Prop:=Paired λp q=>aH p.1 q.1/\aH p.2 q.2
def uk(X:Cx)(pos:Pos)(keys:List (Option Expr))(values:List Expr)(t:List (TE×TE)):Prop :=
 ∀(aA:e7) (s:cc) (σ:St) (H:Hp) (Q:List (V×V)->Hp->Prop),Inv X aA σ H s->pE t σ H Q ->
  wpAny (model X.prog X.w) X.A (evalPairs (pairTrees keys values X.env pos)) (λvs O=>∃ps H',Inv X aA σ H' O/\VV ps vs/\Q ps H') X.xe s
def Oo:uk X pos [] [] []:=λaA s σ H Q I h=>pairTrees_nil_walk #[[],H,I,.nil,h]
def Op{k v:Expr}{ks:List (Option Expr)}{vs:List Expr}{tk:TE}{t:List (TE×TE)}(hk:PE X k tk)(l:PE X v tv)(m:uk X pos ks vs t):uk X pos (some k::ks) (v::vs) ((tk,tv)::t):=λaA s σ H Q I h =>
 pairTrees_cons_walk (thn (hk aA s σ H _ I h) λu a ⟨x,H1,B,d,q1⟩=>thn (l aA a σ H1 _ B q1) λW S ⟨y,D,A,R,g⟩ =>
  thn (m aA S σ D _ A g) λws E ⟨ps,C,o,r,f⟩=>#[(x,y)::ps,C,o,.cons #[d,R] r,f])
def iW(kvs more:List (Key×V)):List (Key×V):=more.foldl (λa kv=>cX a kv.1 kv.2) kvs
def KV.merge:∀{more:List (Key×V)}{rs:List (Key×bb)}{kvs:List (Key×V)}{vs:List (Key×bb)},KV more rs->KV kvs vs->KV (iW kvs more) (merged vs rs):=by intro more rs kvs vs r;unfold KV at r;induction r generalizing kvs vs with|nil=>intro q;exact q| @cons p q ps d h t a=>(intro R;have e:KV (cX kvs p.1 p.2) (stored vs q.1 q.2):=by have:=R.put p.1 h.2;rw[<- h.1];exact this);exact a e
theorem zI:∀(more kvs:List (Key×V)),(iW kvs more).length<=kvs.length+more.length|[],kvs=>by show kvs.length<=kvs.length+0;lia|p::r,kvs=>by have d:=zI r (cX kvs p.1 p.2);have a:=zF kvs p.1 p.2;show(iW (cX kvs p.1 p.2) r).length<=_;rw[gg];lia
theorem zJ{P:fc}{w:dh}:∀{kvs:List (Key×V)}{ws:List (bb×bb)},VV (kvs.map λkv=>(kV kv.1,kv.2)) ws->∃rs,Carries (bZ P w) ws rs/\KV kvs rs|[],_,r=>by rw[oa]at r;cases r;exact#[[],True.intro,.nil]|p::kvs,_,r=>by rw[dw]at r;cases r with| @cons a b as bs h t=>exists rs,c,q,zJ (P:=P) (w:=w) t;exists d,B,b;exact#[(p.1,B)::rs,#[jV h.1,rfl,c],.cons #[rfl,h.2] q]
def xh(t:List (TE×TE)):TE:=λσ H Q=>∀p,H p=none->pE t σ (upd H p (.dK [])) λps a=>a p=some (.dK [])/\∃kvs:List (Key×V),ps=kvs.map (λkv=>(kV kv.1,kv.2))/\kvs.length<=15/\Q (.ref p) (upd a p (.dK (iW [] kvs)))
theorem Oq{keys:List (Option Expr)}{t:List (TE×TE)}(h:uk X pos keys values t)(d:keys.all (·.isSome)=true)(B:keys.length=values.length)(h0:keys≠[])(f:keys.length<=15):PE X (.Dict keys values pos) (xh t):=by(intro aA s σ H Q I q;have hn:=I.hok.fresh (dm s.heap.objs.size);have G:=I.laid (a:=s.heap.objs.size) (o:=.dK []) (h':=s.heap.push { cls:=.type "dict",data:=.dict #[] }) (t':=s.toks) (λ_ _ q=>hps q) (dm _) (On s.heap I.big);refine wpAny_Dict_walk (knd:=bZ X.prog X.w) d B h0 f (thn (h aA _ σ _ _ G (q _ hn)) λws S ⟨ps,J,g,r,e,kvs,ep,L,m⟩=>?_);subst ep;exists R,c,rk,zJ (P:=X.prog) (w:=X.w) r;exists z,hd,V,l,F,tN g.hok e;cases l;refine#[R,c,F,λh' D hs=>#[.ref s.heap.objs.size,_,?_,rfl,m]];have y:(iW [] kvs).length<=sizeLine:=by have E:=zI kvs [];rw[pv]at E;rw[dz];lia);have C:∃q,h'.get? s.heap.objs.size=some q:=let⟨q,_,_,A,_⟩:=D;#[q,A];exact pD g (by rw[e];exact True.intro) hs C (tO y hd (rk.merge .nil) D)
structure M1(X:Cx)(o:Expr)(m:Str)(apos:Pos)(e:Expr)(cpos:Pos):Prop where
 base:attributeBase o m X.env (eval o X.env)=eval o X.env
 few:((backTo cpos (starEach [e] X.env)).all (λx=>!x.1)&&(backToKw cpos (keywordEach [] X.env)).all (λx=>x.1.isSome)
  && decide (([e]:List Expr).length+([]:List Keyword).length+(if([]:List Keyword).isEmpty then 0 else 1)<30))=true
 line:(apos.endLine==cpos.line)=true
 trees:backTo cpos (starEach [e] X.env)=[(false,eval e X.env)]
structure M2(X:Cx)(o:Expr)(m:Str)(apos:Pos)(e f:Expr)(cpos:Pos):Prop where
 base:attributeBase o m X.env (eval o X.env)=eval o X.env
 few:((backTo cpos (starEach [e,f] X.env)).all (λx=>!x.1)&&(backToKw cpos (keywordEach [] X.env)).all (λx=>x.1.isSome)
  && decide (([e,f]:List Expr).length+([]:List Keyword).length+(if([]:List Keyword).isEmpty then 0 else 1)<30))=true
 line:(apos.endLine==cpos.line)=true
 trees:backTo cpos (starEach [e,f] X.env)=[(false,eval e X.env),(false,eval f X.env)]
end L2
namespace Att
open PySem.W PySem.Calls
def Os{P:Params}:∀(ns:List Int) (vs:List bb),WellAll P h vs (ns.map WData.int)->IntsAre vs ns:=by intro ns;induction ns with|nil=>intro vs w;rw[oa]at w;cases w;exact .nil|cons n ns d=>intro vs w;rw[dw]at w;cases w with|cons a b=>cases a;exact .cons _ _ (d _ b)
theorem Ot{l:OpenLaw}(hn:l.most=some n){P:Params}{args:List WData}{V:List bb}(f:l.row.toRowW.claim.pre args=true)(y:WellAll P h V args):∃a vs ns,V=[Value.ref a]/\args=[WData.list (ns.map WData.int)]/\h.get? a=some { cls:=.type "list",data:=.seq vs.toArray }/\IntsAre vs ns/\ns.length<=n:=by
 have A:WShape.hasAll [] args [.list .int]=true:=(pre_splitW f).1;have B:l.pre.holds [] {args:=args}=true:=(pre_splitW f).2;exists d,r,rfl,F,E,hasAllW_cons A;obtain rfl:=hasAllW_nil E;exists U,rfl,D,hasW_list F;exists ns,rfl,items_int D;have g:ns.length<=n:=by
  unfold OpenLaw.pre at B;have t:(WTm.not (.lt (.lit (.int (n:Int))) (.len (.arg 0)))).holds [] {args:=[.list (ns.map .int)]}=true:=by have t:=(holds_andW B).1;rw[hn]at t;exact t
  have o:=condW_of t (w_not (w_lt w_lit (w_len_list (w_arg rfl))));rw[d3]at o;refine Nat.le_of_not_lt λq=>?_;have q':(n:Int)<((ns.length:Nat):Int):=by lia
  first
   |(rw[ip q']at o;exact absurd o (by decide))
   |(simp at o;lia)
 cases y with|cons C W=>cases W;cases C with|list ho m=>exact#[_,_,ns,rfl,rfl,ho,Os ns _ m,g]
def Ou(l:OpenLaw)(args:List WData):l.row.toRowW.claim.post args (.bool true) args=true :=
 postW_of (r:=l.row.toRowW) (X:=(true==true))
  (show WShape.has [] (.bool true) .bool=true by first|rfl|decide|simp[WShape.has,WShape.arms,WShape.armsAll])
  (show(WTm.eq .res (.lit (.bool true))).value [] {args:=args,res:=some (.bool true),after:=args}=some (.bool (true==true))from w_eq_bool (w_res rfl) w_lit) rfl
def aKA{l:OpenLaw}{q:fc}{d:DefRec}(hn:l.most=some n)(A:d.params.defaults=[])(call:∀(w:dh) (s₀ S:cc) (mg M:fg) (fa:Addr) (o:Obj) (y cd D:bb) (a:Addr) (vs:List bb) (ns:List Int),Ground q loose [] XP w s₀ mg M S.heap->YP w S.heap->S.heap.get? fa=some o->o.data=.func (docDef d.name d.params d.body d.scope y cd D)->S.heap.CodeRec cd d.name->mg d.name=some (.ref fa)->S.heap.get? a=some { cls:=.type "list",data:=.seq vs.toArray }->IntsAre vs ns->ns.length<=n->S.gens=#[]->codeAny (model l.prog w) callerA (.call (.ref fa) #[[.ref a],[]]) (λr O=>r=.ok (.ret (.bool true))/\OldK S.heap O.heap/\O.os=S.os/\AllBare O.gens) S):WalkO q loose XP YP l.row.toRowW d [] (λf vs=>PySem.call f vs):=by intro w s₀ S mg M G Y fa o y cd D dV kV ho hd hcd hD hmg hg args vals as hpre hlay hrd hwl hlo;obtain rfl:dV=.none:=Dflts.none hD A;obtain rfl:kV=.none:=Dflts.noKw hD;exists a,vs,ns,rfl,rfl,m,g,t,Ot hn hpre hwl;refine enter_call (mz (call w s₀ S mg M fa o y cd D a vs ns G Y ho (fd_plain hd) hcd hmg m g t hg) λr O B=>?_);exists rfl,J,F,E,B;exact#[.inl #[.bool true,.bool true,[],rfl,λ_=>rfl,.bool true,Ou l _,λ_=>#[List.Pairwise.nil,λ_ C=>(nomatch C)]],J,F,E]
section
def DP(h:Heap)(L d:Addr):e7:=(List.range h.objs.size).filterMap λa=>if a=L\/a=d then none else(h.get? a).map λo=>(a,o)
end
end Att
namespace L2
noncomputable abbrev XW{K:Fg}(_:K.In h):Fg:=K
def nF(s:Stmt):Arguments:=match s with|.FunctionDef _ a _ _ _ _ _ _ _ _=>a|_=>{posonlyargs:=[],args:=[],vararg:=none,kwonlyargs:=[],kw_defaults:=[],kwarg:=none,defaults:=[]}
def gR(s:Stmt):List Stmt:=match s with|.FunctionDef _ _ b _ _ _ _ _ _ _=>b|_=>[]
def dG(s:Stmt):Scope:=match s with|.FunctionDef _ _ _ _ _ _ sc _ _ _=>sc|_=>{kind:=.function,names:=[],isGenerator:=false,isCoroutine:=false}
abbrev Ov:CXT:=λ_ _ _ _ _ _=>False
structure ol(K:Fg)(x qual:Str)(st:Stmt)(f:Addr)(fd:FuncData):Prop where
 ex:∃(oc:bb) (od:Option Addr) (kV doc pm:bb) (an:Option Addr) (cdv ct:bb) (osl:Array (Option bb)),
  fd=W.fnOf x qual (nF st) (gR st) (dG st) .none kV doc pm an cdv ct/\K.lookup f=some #[oc,od,.func fd,osl]/\W.codeIn K cdv qual=true
 kp:W.keepIn K (.ref f)=true
section
variable{K:Fg}
def Ow{f:Addr}{m:bb}{g an:Option Addr}{o:Array (Option bb)}{kV d a ct:bb}(l:K.lookup f=some #[m,g,.func (W.fnOf x qual (nF st) (gR st) (dG st) .none kV d a an cdv ct),o])(c:W.codeIn K cdv qual=true)(k:W.keepIn K (.ref f)=true):ol K x qual st f (W.fnOf x qual (nF st) (gR st) (dG st) .none kV d a an cdv ct):=#[#[m,g,kV,d,a,an,cdv,ct,o,rfl,l,c],k]
end
def aE(H H':Hp):Prop:=∀b o,H b=some o->H' b=some o
def aE.refl(H:Hp):aE H H:=λ_ _ h=>h
def aE.trans{H1 d:Hp}(a:aE H H1)(b:aE H1 d):aE H d:=λc o h=>b c o (a c o h)
def aE.free(e:aE H H'){l:Addr}(h:H' l=Option.none):H l=Option.none:=by cases q:H l with|none=>rfl|some o=>rw[e l o q]at h;cases h
def aE.seq{K:Fg}{a:Addr}(e:aE H H')(h:fe K H a U):fe K H' a U:=by rcases h with(h|⟨o,h⟩)|h;{exact .inl (.inl (e _ _ h))};{exact .inl (.inr #[o,e _ _ h])};exact .inr h
def N.ind{P:N->Prop}(hi:∀n,P (.i n))(hs:∀x,P (.s x))(ht:∀U,(∀x∈U,P x)->P (.t U))(k:N):P k :=
 N.rec (motive_1:=P) (motive_2:=λU=>∀x∈U,P x) hi hs ht (λ_ h=>nomatch h) (λa l g f x d=>by
  rcases dq.mp d with rfl|d
  . exact g
  . exact f x d) k
mutual
def N.eq:N->N->Bool|.i n,.i m=>n==m|.s x,.s y=>x==y|.t U,.t ys=>N.eqL U ys|_,_=>false
def N.eqL:List N->List N->Bool|[],[]=>true|x::U,y::ys=>N.eq x y&&N.eqL U ys|_,_=>false
end
theorem N.eqL_iff:∀{U ys:List N},(∀x∈U,∀y,N.eq x y=true↔x=y)->(N.eqL U ys=true↔U=ys)|[],[],_|[],_::_,_|_::_,[],_=>by simp[N.eqL]|x::U,y::ys,h=>by rw[N.eqL,cw,h x c6 y,N.eqL_iff λz a=>h z (df a),vc]
def N.eq_iff(k:N):∀y,N.eq k y=true↔k=y:=by induction k using N.ind with|hi n|hs x=>intro y;cases y <;> simp[N.eq]|ht U a=>intro y;cases y with|t ys=>rw[N.eq,N.eqL_iff a];simp|_=>simp[N.eq]
instance:DecidableEq N:=λa b=>decidable_of_iff _ (N.eq_iff a b)
mutual
def N.py:N->PyData|.i n=>.int n|.s x=>.str x|.t U=>.tuple (N.pyL U)
def N.pyL:List N->List PyData|[]=>[]|x::U=>N.py x::N.pyL U
end
mutual
def N.dp:N->Nat|.i _|.s _=>0|.t U=>N.dpL U+1
def N.dpL:List N->Nat|[]=>0|x::U=>max (N.dp x) (N.dpL U)
end
theorem N.dp_mem:∀{U:List N}{x:N},x∈U->x.dp<=N.dpL U|y::ys,x,h=>by rw[N.dpL];rcases dq.mp h with rfl|h;{lia};have:=N.dp_mem h;lia
theorem N.py_depthL:∀{U:List N},(∀x∈U,x.py.depth=x.dp)->PyData.depthAll (N.pyL U)=N.dpL U|[],_=>by simp[N.pyL,N.dpL,PyData.depthAll]|x::U,h=>by simp only[N.pyL,N.dpL,PyData.depthAll];rw[h x c6,N.py_depthL λz a=>h z (df a)]
def N.py_depth(k:N):k.py.depth=k.dp:=by induction k using N.ind with|hi n|hs x=>simp[N.py,N.dp,PyData.depth]|ht U a=>simp only[N.py,N.dp,PyData.depth];rw[N.py_depthL a]
theorem N.py_eqvL:∀{U ys:List N},(∀x∈U,∀y:N,PyData.eqv x.py y.py=decide (x=y))->PyData.eqvAll (N.pyL U) (N.pyL ys)=decide (U=ys)|[],[],_|[],_::_,_|_::_,[],_=>by simp[N.pyL,PyData.eqvAll]|x::U,y::ys,h=>by simp only[N.pyL,PyData.eqvAll];rw[h x c6 y,N.py_eqvL λz a=>h z (df a)];by_cases d:x=y <;> by_cases E:U=ys <;> simp[d,E]
def N.py_eqv(k:N):∀y:N,PyData.eqv k.py y.py=decide (k=y):=by
 induction k using N.ind with
 |hi n=>intro y;cases y with|i m=>simp only[N.py,PyData.eqv];by_cases e:n=m <;> simp[e]|s x|t U=>simp[N.py,PyData.eqv]
 |hs x=>intro y;cases y with|i m=>simp[N.py,PyData.eqv]|s z=>simp only[N.py,PyData.eqv];by_cases e:x=z <;> simp[e]|t U=>simp[N.py,PyData.eqv]
 |ht U a=>intro y;cases y with|i m|s z=>simp[N.py,PyData.eqv]|t ys=>simp only[N.py,PyData.eqv];rw[N.py_eqvL a];by_cases e:U=ys <;> simp[e]
mutual
def dg(h:Heap):N->bb->Prop|.i n,v=>∃t,v=.int n t|.s x,v=>(∃t,v=.str x t)/\PyData.strOk x=true|.t U,v=>∃a o items n,v=.ref a/\h.get? a=some o/\o.cls=.type "tuple" /\ o.data=.seq items n/\aV h U items.toList
def aV(h:Heap):List N->List bb->Prop|[],vs=>vs=[]|x::U,vs=>∃v us,vs=v::us/\dg h x v/\aV h U us
end
theorem aV.mem:∀{h:Heap}{U:List N}{vs:List bb},aV h U vs->∀v∈vs,∃x∈U,dg h x v|h,[],vs,q,v,a=>by rw[aV]at q;subst q;cases a|h,x::U,vs,q,v,a=>by rw[aV]at q;exists u,us,rfl,q1,d,q;rcases dq.mp a with rfl|a;{exact#[x,c6,q1]};exists y,f,e,d.mem v a;exact#[y,df f,e]
theorem aV.map:∀{h h':Heap}{U:List N}{vs:List bb},aV h U vs->(∀x∈U,∀v,dg h x v->dg h' x v)->aV h' U vs|h,h',[],vs,q,k=>by rw[aV]at q ⊢;exact q|h,h',x::U,vs,q,k=>by rw[aV]at q ⊢;exists u,us,e,q1,a,q;exact#[u,us,e,k x c6 u q1,a.map λy d=>k y (df d)]
def dg.keeps{d:Addr}{o:Obj}{es ep:_}(ho:h.get? d=some o)(hd:o.data=.dict es ep)(hs:Heap.SameBut d h h')(k:N):∀v,dg h k v->dg h' k v:=by induction k using N.ind with|hi n|hs x=>intro v q;rw[dg]at q ⊢;exact q|ht U r=>(intro v q;rw[dg]at q ⊢;exists a,l,items,n,e,m,t,f,hi,q;have g:a≠d:=by rintro rfl;obtain rfl:l=o:=jx (m.symm.trans ho);rw[hd]at f;exact nomatch f);exact#[a,l,items,n,e,(hs.2 a g).trans m,t,f,hi.map r]
theorem aV.readsL:∀{h:Heap}{U:List N}{vs:List bb},aV h U vs->(∀x∈U,∀v,dg h x v->(∃as,Reads h v x.py as)/\x.py.canLay0=true)->(∃as,ReadsAll h vs (N.pyL U) as)/\PyData.canLayAll0 (N.pyL U)=true|h,[],vs,q,k=>by rw[aV]at q;subst q;exact#[#[_,.nil],by simp[N.pyL,PyData.canLayAll0]]|h,x::U,vs,q,k=>by rw[aV]at q;exists u,us,rfl,q1,a,q;obtain⟨⟨as,R⟩,ca⟩:=k x c6 u q1;obtain⟨⟨bs,r⟩,C⟩:=a.readsL λy d=>k y (df d);exact#[#[_,.cons R r],by simp only[N.pyL,PyData.canLayAll0,ca,C,Bool.and_self]]
def dg.reads(k:N):∀v,dg h k v->(∃as,Reads h v k.py as)/\k.py.canLay0=true:=by induction k using N.ind with|hi n=>intro v q;rw[dg]at q;exists t,rfl,q;exact#[#[_,.int n t],rfl]|hs x=>intro v q;rw[dg]at q;obtain⟨⟨t,rfl⟩,hk⟩:=q;exact#[#[_,.str x t],by simpa only [N.py,PyData.canLay0]using hk]|ht U f=>intro v q;rw[dg]at q;exists a,o,items,n,rfl,l,g,d,hi,q;obtain⟨⟨as,r⟩,ca⟩:=hi.readsL f;exact#[#[_,.tuple l g d r],by simpa only [N.py,PyData.canLay0]using ca]
theorem aV.inj:∀{h:Heap}{U ys:List N}{vs:List bb},(∀x∈U,∀y v,dg h x v->dg h y v->x=y)->aV h U vs->aV h ys vs->U=ys|h,[],[],vs,_,_,_=>rfl|h,[],y::ys,vs,_,p,q=>by rw[aV]at p;subst p;rw[aV]at q;exists _,_,e,_,q;cases e|h,x::U,[],vs,_,p,q=>by rw[aV]at q;subst q;rw[aV]at p;exists _,_,e,_,p;cases e|h,x::U,y::ys,vs,k,p,q=>by rw[aV]at p q;exists u,us,rfl,p1,p2,p;exists _,_,e,q1,a,q;cases e;rw[k x c6 y _ p1 q1,aV.inj (λz d=>k z (df d)) p2 a]
theorem dg.inj(k:N):∀y v,dg h k v->dg h y v->k=y:=by
 induction k using N.ind with
 |hi n=>intro y v p q;rw[dg]at p;exists t,rfl,p;cases y with|i m=>rw[dg]at q;exists u,e,q;cases e;rfl|s x=>rw[dg]at q;obtain⟨⟨u,e⟩,_⟩:=q;cases e|t U=>rw[dg]at q;exists _,_,_,_,e,_,q;cases e
 |hs x=>intro y v p q;rw[dg]at p;obtain⟨⟨t,rfl⟩,_⟩:=p;cases y with|i m=>rw[dg]at q;exists u,e,q;cases e|s x=>rw[dg]at q;obtain⟨⟨u,e⟩,_⟩:=q;cases e;rfl|t U=>rw[dg]at q;exists _,_,_,_,e,_,q;cases e
 |ht U A=>intro y v p q;rw[dg]at p;exists a,o,items,n,rfl,B,E,hd,hi,p;cases y with|i m=>rw[dg]at q;exists u,e,q;cases e|s x=>rw[dg]at q;obtain⟨⟨u,e⟩,_⟩:=q;cases e|t ys=>rw[dg]at q;exists F,r,f,D,e,l,_,d,g,q;cases e;obtain rfl:o=r:=jx (B.symm.trans l);rw[hd]at d;injection d with C _;subst C;rw[aV.inj A hi g]
mutual
def N.dr:N->Nat|.i _|.s _=>1|.t U=>N.drL U+1
def N.drL:List N->Nat|[]=>0|x::U=>N.dr x+N.drL U
end
section
variable{A:dj}{E:di}
theorem zK:∀(U:List N) (y:N),N.drL (U++[y])=N.drL U+N.dr y|[],y=>by simp[N.drL]|x::U,y=>by rw[qy,N.drL,zK U y,N.drL,Bs]
theorem zL:∀(U:List N) (y:N),eM w (U++[y])=eM w U++[eC w y]|[],y=>by simp[eM]|x::U,y=>by rw[qy,eM,zL U y,eM,qy]
theorem zM(k:N):∀{A:dj}{E:di}{s:cc}{v:bb}{Q:Int->cc->Prop},A.units+k.dp<cLine->dg s.heap k v->Q (eC w k) {s with toks:=s.toks+k.dr} -> wpAny (model prog w) A (pyHash v) Q E s:=by
 induction k using N.ind with
 |hi n=>intro A E s v Q hu hk h;rw[dg]at hk;exists t,rfl,hk;rw[eC,N.dr]at h;exact wpAny_pyHash_int h|hs x=>intro A E s v Q hu hk h;rw[dg]at hk;obtain⟨⟨t,rfl⟩,_⟩:=hk;rw[eC,N.dr]at h;exact wpAny_pyHash_str h|ht U C =>
  intro A E s v Q hu hk h;rw[dg]at hk;exists a,o,items,n,rfl,ho,D,hd,hi,hk;rw[N.dp]at hu;have m:s.TypeIs (.ref a) "tuple":=#[o,ho,D];unfold pyHash
  first|unfold pyHashByItsType|skip
  first|refine bv (wpAny_cRoomFor_or (.inr (by lia)) ?_)|skip
  refine bv (oh m F.slot_tuple_hash.lookup ?_);show wpAny _ _ (if(some (Value.builtin "tuple.__hash__")==some Value.none)=true then _ else _) Q E s;rw[ba (by rw[beq_builtin_none];exact gr)]
  refine bv (oh m F.slot_tuple_hash.lookup ?_);show wpAny _ _ (callSpecialIfBoundUnlessNone? (.ref a) "__hash__" _>>=_) Q E s;refine bv (wpAny_callSpecialIfBoundUnlessNone?_slot m F.slot_tuple_hash (jp F.slot_tuple_hash m F.entry_tuple_hash ?_ (F.args_tuple_hash_1 _)));show wpAny _ _ (Builtin.Tuple.tupleItemsOf (.ref a)>>=_) _ _ s;refine bv (wpAny_tupleItemsOf ho hd ?_);refine bv ?_;rw[<- C7];refine vd _
   (λrest (b:Array Int) O=>∃done left,U=done++left/\aV s.heap left rest/\b.toList=eM w done/\O={s with toks:=s.toks+N.drL done})
   _ ?_ ?_ _ _ #[[],U,rfl,hi,by simp[eM],by simp[N.drL]]
  . rintro x rest b O ⟨done,left,e,hl,hb,rfl⟩;cases left with
    |nil=>rw[aV]at hl;cases hl|cons k ks =>
     rw[aV]at hl;exists _,_,y,G,r,hl;cases y;have B:k∈U:=by rw[e];simp
     refine bv (C k B (A:=A.in1) (by have:=N.dp_mem B;show A.units+1+_<_;lia) G ?_)
     have f:∃d l,U=d++l/\aV s.heap l rest/\(b.push (eC w k)).toList=eM w d/\({s with toks:=s.toks+N.drL done+k.dr}:cc)={s with toks:=s.toks+N.drL d} :=
      #[done++[k],ks,by rw[e];simp,r,by rw[zL,Array.toList_push,hb],by rw[zK,Bs]]
     first
      |exact cq f
      |exact bv (cq (cq f))
  . rintro b O ⟨done,left,e,hl,hb,rfl⟩;cases left with
    |cons k ks=>rw[aV]at hl;exists _,_,y,_,hl;cases y|nil =>
    rw[h5]at e;subst e;show wpAny _ _ (retInt (Builtin.Tuple.tupleHashOf b.toList)) _ _ _;rw[hb];refine wpAny_ret_mkInt ?_;show wpAny _ _ (if(decide (-(2:Int) ^ 63<=Builtin.Tuple.tupleHashOf (eM w U))&&decide (Builtin.Tuple.tupleHashOf (eM w U)<2 ^ 63))=true then _ else _) Q E _;rw[eC,N.dr]at h;unfold reduceHash at h;by_cases g:(decide (-(2:Int) ^ 63<=Builtin.Tuple.tupleHashOf (eM w U))&&decide (Builtin.Tuple.tupleHashOf (eM w U)<2 ^ 63))=true
    . rw[aK g];rw[aK g]at h;exact cq (by simpa[Bs]using h)
    . rw[ba g];rw[ba g]at h;exact bv (pz (cq (by simpa[Bs]using h)))
theorem xj{x y:N}{v:bb}{Q:Bool->cc->Prop}(f:A.units+x.dp<cLine)(d:dg s.heap x u)(a:dg s.heap y v)(h:Q (decide (x=y)) s):wpAny (model prog w) A (eqBool u v) Q E s:=by obtain⟨⟨as,R⟩,ca⟩:=dg.reads x u d;obtain⟨⟨bs,r⟩,C⟩:=dg.reads y v a;refine C8 x.py y.py A s u v as bs R r ca C (by rw[N.py_depth];have:=Bt x.dp y.py.depth;lia) prog w E Q ?_;rw[N.py_eqv];exact h
theorem Ox(k:N):∀{n:Nat}{v:bb}{Q:Bool->cc->Prop},k.dp<=n->dg s.heap k v->Q true s->wpAny (model prog w) A (eqIsQuiet n v) Q E s:=by induction k using N.ind with|hi m=>intro n v Q hn hk h;rw[dg]at hk;exists t,rfl,hk;rw[eqIsQuiet_byValue n rfl];exact cq h|hs x=>intro n v Q hn hk h;rw[dg]at hk;obtain⟨⟨t,rfl⟩,_⟩:=hk;rw[eqIsQuiet_byValue n rfl];exact cq h|ht U y=>intro n v Q hn hk h;rw[dg]at hk;exists a,o,items,c,rfl,ho,C,hd,hi,hk;rw[N.dp]at hn;cases n with|zero=>lia|succ n=>have l:s.TypeIs (.ref a) "tuple":=#[o,ho,C];unfold eqIsQuiet;refine bv (oh l F.slot_tuple_eq.lookup ?_);show wpAny _ _ (isInstance (.ref a) (.type "tuple")>>=_) _ _ s;refine bv (p7 l isSubtype_tuple_tuple ?_);simp only[Bu,io,jd];refine bv (Bv ho hd ?_);refine bv ?_;show wpAny _ _ (forIn items _ _) _ _ s;rw[<- C7];refine vd _ (λrest r O=>r.1=none/\O=s/\∀v∈rest,∃x∈U,dg s.heap x v) _ ?_ ?_ _ _ #[rfl,rfl,hi.mem];{rintro v rest r O ⟨f,rfl,hall⟩;exists x,g,B,hall v c6;refine bv (y x g (n:=n) (by have:=N.dp_mem g;lia) B ?_);simp only[Bu,io,jd];exact cq #[rfl,rfl,λu d=>hall u (df d)]};rintro⟨D,R⟩ O ⟨f,rfl,_⟩;simp only at f;subst f;exact cq h
end
noncomputable def k6(prog:fc)(w:dh):HeapKind prog w N where
 is:=λh k a=>dg h k (.ref a)/\k.dp<=8
 hash:=eC w
 draws:=N.dr
 room:=λA=>A.units+8<cLine
 inj:=λd f=>dg.inj _ _ _ d.1 f.1
 keeps:=λx ho hd hs=>#[dg.keeps ho hd hs _ _ x.1,x.2]
 pyHash:=λg hk h=>zM _ (by have:=hk.2;omega) hk.1 h
 eqBool:=λg d f h=>xj (by have:=d.2;omega) d.1 f.1 h
 quiet:=λhk h=>Ox _ hk.2 hk.1 h
def DQ(f:Addr)(o:Obj):HO:=.ext λh=>h.get? f=some o
end L2
namespace D3
inductive D where
 |non|bl (b:Bool)|int (i:Int)|str (x:Str)|tup (U:List D)|lst (U:List D)|dct (kvs:List (Key×D))|ty (n:String)|ob (a:Addr)|ins (c:Str) (fs:List (Str×D))|fn (x:Str)|exn (c:Str)|set (ks:List Key)|dtn (kvs:List (N×D))|dtf (kvs:List (N×D))|dcf (kvs:List (Key×D))|clo (f n:Str) (fs:List (Str×D))
inductive Md where|fz|fr|bo
 deriving DecidableEq
inductive Res where
 |ok (m:Md) (d:D)|exc (c:Str)|stuck
def xk(c:Addr)(y:V):HO:=.ext λh=>∃u,h.IsCell c (some u)/\aH y u
end D3
variable{y Kd No:D3.D}{R R1:List (L2.N×D3.D)}{pl lf:D3.D->D3.D->D3.D}{ds:List D3.D}{Φ:List D3.D->D3.Res}{m':D3.Md}{M:List (L2.Key×D3.D)}{Br:D3.D->Prop}{Bd:Int->D3.D->Prop}
namespace D3
def zN:Stmt->Str|.FunctionDef n _ _ _ _ _ _ _ _ _=>n|_=>""
def xl(K:Fg)(f0 n q:Str)(st:Stmt):Prop:=∃x qual st0 f fd,W.nsIn K mainGlobals f0=some (some (.ref f))/\ol K x qual st0 f fd/\(if n="" then(gR st0)[1]? else(gR st0).find? λs=>zN s==n)=some st/\q=qual++".<locals>."++zN st
def k7(as:List Addr)(H:Hp):Hp:=λb=>if b∈as then none else H b
def Oy{as:List Addr}{F:Hp}(h:aE F F'):aE (k7 as F) (k7 as F'):=λb o e=>by by_cases a:b∈as;{rw[show k7 as F b=none from aK a]at e;cases e};rw[show k7 as F b=F b from ba a]at e;rw[show k7 as F' b=F' b from ba a];exact h b o e
def Oz(cl:List (Str×Addr)):List Addr:=cl.filterMap λz=>cl.lookup z.1
def DR(fs:List (Str×D))(cl:List (Str×Addr)):Prop:=(∀x c,cl.lookup x=some c->x∈fs.map (·.1))/\∀x y c,cl.lookup x=some c->cl.lookup y=some c->x=y
def DS(a C:Addr):HO:=.ext λh=>∃o,h.get? a=some o/\o.cls=.ref C
mutual
def eh(K:Fg)(F:Hp):N->V->Prop|.i n,v=>v=.int n|.s x,v=>v=.str x/\x.length<=sizeLine/\PyData.strOk x=true|.t U,v=>∃a ys,v=.ref a/\SqT K F a ys/\bL K F U ys
def bL(K:Fg)(F:Hp):List N->List V->Prop|[],ys=>ys=[]|x::U,ys=>∃y zs,ys=y::zs/\eh K F x y/\bL K F U zs
end
def zO(S:Key->Bool)(ks:List Key):Prop:=ks.Nodup/\∀k,S k=true↔k∈ks
mutual
def aB(K:Fg)(F:Hp):D->V->Prop|.non,v=>v=.non|.bl b,v=>v=.bl b|.int i,v=>v=.int i|.str x,v=>v=.str x/\x.length<=sizeLine/\PyData.strOk x=true|.tup ds,v=>∃a U,v=.ref a/\SqT K F a U/\aD K F ds U|.lst ds,v=>∃a U,v=.ref a/\fe K F a U/\aD K F ds U|.dct kvs,v=>∃a U,v=.ref a/\F a=some (.dK U)/\aF K F kvs U|.ty n,v=>v=.ty n|.ob a,v=>v=.ref a|.ins c fs,v=>∃a C dx gs,v=.ref a/\W.nsIn K mainGlobals c=some (some (.ref C))/\F a=some (.ins C dx gs)/\dH K F fs gs|.fn x,v=>∃a,v=.ref a/\W.nsIn K mainGlobals x=some (some (.ref a))|.exn c,v=>∃a C,v=.ref a/\W.nsIn K mainGlobals c=some (some (.ref C))/\F a=some (DS a C)|.set ks,v=>∃a S,v=.ref a/\F a=some (.set S ks.length)/\zO S ks|.dtn kvs,v=>∃a U,v=.ref a/\F a=some (.dN U)/\aQ K F kvs U|.dtf kvs,v=>∃a o U,v=.ref a/\F a=some (.frz o (.dN U))/\aQ K F kvs U|.dcf kvs,v=>∃a o U,v=.ref a/\F a=some (.frz o (.dK U))/\aF K F kvs U|.clo f0 n fs,v=>∃f c name q st doc pm ct cl,xl K f0 n q st/\v=.ref f/\F f=some (DQ f (W.fnMade name q (nF st) (gR st) (dG st) cl doc pm c ct))/\F c=some (.crec q)/\DR fs cl/\iD K F fs cl
def aQ(K:Fg)(F:Hp):List (N×D)->List (N×Addr×V)->Prop|[],U=>U=[]|(k,d)::ds,U=>∃b y ys,U=(k,b,y)::ys/\(eh K F k (.ref b)/\k.dp<=8)/\aB K F d y/\aQ K F ds ys
def aD(K:Fg)(F:Hp):List D->List V->Prop|[],U=>U=[]|d::ds,U=>∃y ys,U=y::ys/\aB K F d y/\aD K F ds ys
def aF(K:Fg)(F:Hp):List (Key×D)->List (Key×V)->Prop|[],U=>U=[]|(k,d)::ds,U=>∃y ys,U=(k,y)::ys/\aB K F d y/\aF K F ds ys
def iD(K:Fg)(F:Hp):List (Str×D)->List (Str×Addr)->Prop|[],_=>True|(x,d)::ds,cl=>(∃a y,cl.lookup x=some a/\F a=some (xk a y)/\aB K (k7 (Oz cl) F) d y)/\iD K F ds cl
def dH(K:Fg)(F:Hp):List (Str×D)->List (Str×V)->Prop|[],U=>U=[]|(k,d)::ds,U=>∃y ys,U=(k,y)::ys/\aB K F d y/\dH K F ds ys
end
def aE.seqT{K:Fg}{a:Addr}(e:aE H H')(h:SqT K H a U):SqT K H' a U:=by rcases h with(h|⟨o,h⟩)|h;{exact .inl (.inl (e _ _ h))};{exact .inl (.inr #[o,e _ _ h])};exact .inr h
section
variable{K:Fg}{F:Hp}
theorem bL.map:∀{U:List N}{ys:List V},bL K F U ys->(∀x∈U,∀v,eh K F x v->eh K F' x v)->bL K F' U ys|[],_,h,_=>by simpa only [bL]using h|x::U,ys,h,k=>by simp only[bL]at h ⊢;exists y,zs,e,q,r,h;exact#[y,zs,e,k x c6 y q,r.map λz a=>k z (df a)]
def eh.mono(s:aE F F')(k:N):∀v,eh K F k v->eh K F' k v:=by induction k using N.ind with|hi n|hs x=>intro v h;simpa only [eh]using h|ht U d=>intro v h;simp only[eh]at h ⊢;exists a,ys,e,q,r,h;exact#[a,ys,e,aE.seqT s q,r.map d]
mutual
theorem aB.mono{F F':Hp}(s:aE F F'):∀(d:D) (v:V),aB K F d v->aB K F' d v|.non,_,h|.bl _,_,h|.int _,_,h|.str _,_,h=>by simpa only [aB]using h|.tup ds,v,h=>by simp only[aB]at h ⊢;exists a,U,e,q,r,h;exact#[a,U,e,aE.seqT s q,aD.mono s ds U r]|.lst ds,v,h=>by simp only[aB]at h ⊢;exists a,U,e,q,r,h;exact#[a,U,e,s.seq q,aD.mono s ds U r]|.dct ds,v,h=>by simp only[aB]at h ⊢;exists a,U,e,q,r,h;exact#[a,U,e,s _ _ q,aF.mono s ds U r]|.ty _,_,h|.ob _,_,h|.fn _,_,h=>by simpa only [aB]using h|.exn _,_,h=>by simp only[aB]at h ⊢;exists a,C,e,n,q,h;exact#[a,C,e,n,s _ _ q]|.set _,_,h=>by simp only[aB]at h ⊢;exists a,S,e,q,r,h;exact#[a,S,e,s _ _ q,r]|.dtn ds,v,h=>by simp only[aB]at h ⊢;exists a,U,e,q,r,h;exact#[a,U,e,s _ _ q,aQ.mono s ds U r]|.dtf ds,v,h=>by simp only[aB]at h ⊢;exists a,o,U,e,q,r,h;exact#[a,o,U,e,s _ _ q,aQ.mono s ds U r]|.dcf ds,v,h=>by simp only[aB]at h ⊢;exists a,o,U,e,q,r,h;exact#[a,o,U,e,s _ _ q,aF.mono s ds U r]|.clo f0 n fs,v,h=>by simp only[aB]at h ⊢;exists f,c,name,q,st,g,m,ct,cl,k,e,q1,l,o,r,h;exact#[f,c,name,q,st,g,m,ct,cl,k,e,s _ _ q1,s _ _ l,o,iD.mono s fs cl r]|.ins c fs,v,h=>by simp only[aB]at h ⊢;exists a,C,dx,G,e,n,q,r,h;exact#[a,C,dx,G,e,n,s _ _ q,dH.mono s fs G r]
theorem aD.mono{F F':Hp}(s:aE F F'):∀(ds:List D) (U:List V),aD K F ds U->aD K F' ds U|[],_,h=>by simpa only [aD]using h|d::ds,U,h=>by simp only[aD]at h ⊢;exists y,ys,e,q,r,h;exact#[y,ys,e,aB.mono s d y q,aD.mono s ds ys r]
theorem aF.mono{F F':Hp}(s:aE F F'):∀(ds:List (Key×D)) (U:List (Key×V)),aF K F ds U->aF K F' ds U|[],_,h=>by simpa only [aF]using h|(k,d)::ds,U,h=>by simp only[aF]at h ⊢;exists y,ys,e,q,r,h;exact#[y,ys,e,aB.mono s d y q,aF.mono s ds ys r]
theorem iD.mono{F F':Hp}(s:aE F F'):∀(fs:List (Str×D)) (cl:List (Str×Addr)),iD K F fs cl->iD K F' fs cl|[],_,h=>by simpa only [iD]using h|(x,d)::fs,cl,h=>by simp only[iD]at h ⊢;obtain⟨⟨a,y,e,q,r⟩,t⟩:=h;exact#[#[a,y,e,s _ _ q,aB.mono (Oy s) d y r],iD.mono s fs cl t]
theorem aQ.mono{F F':Hp}(s:aE F F'):∀(ds:List (N×D)) (U:List (N×Addr×V)),aQ K F ds U->aQ K F' ds U|[],_,h=>by simpa only [aQ]using h|(k,d)::ds,U,h=>by simp only[aQ]at h ⊢;exists b,y,ys,e,n,q,r,h;exact#[b,y,ys,e,#[eh.mono s k _ n.1,n.2],aB.mono s d y q,aQ.mono s ds ys r]
theorem dH.mono{F F':Hp}(s:aE F F'):∀(ds:List (Str×D)) (U:List (Str×V)),dH K F ds U->dH K F' ds U|[],_,h=>by simpa only [dH]using h|(k,d)::ds,U,h=>by simp only[dH]at h ⊢;exists y,ys,e,q,r,h;exact#[y,ys,e,aB.mono s d y q,dH.mono s ds ys r]
end
theorem dH.lookN:∀{ds:List (Str×D)}{U:List (Str×V)}{f:Str},dH K F ds U->ds.lookup f=none->U.lookup f=none|[],_,_,h,e=>by simp only[dH]at h;subst h;rfl|(k,d)::ds,_,f,h,e=>by simp only[dH]at h;exists y,ys,rfl,q,r,h;rw[iq]at e ⊢;split at e;{cases e};exact dH.lookN r e
theorem aD.length:∀{ds:List D}{U:List V},aD K F ds U->U.length=ds.length|[],_,h=>by simp only[aD]at h;subst h;rfl|d::ds,_,h=>by simp only[aD]at h;exists y,ys,rfl,_,r,h;rw[gg,gg,aD.length r]
theorem aD.get:∀{ds:List D}{U:List V}{i:Nat}{x:V},aD K F ds U->U[i]? = some x->∃d,ds[i]? = some d/\aB K F d x|[],_,_,_,h,e=>by simp only[aD]at h;subst h;simp at e|d::ds,_,0,_,h,e=>by simp only[aD]at h;exists y,ys,rfl,r,_,h;simp at e;subst e;exact#[d,rfl,r]|d::ds,_,i+1,_,h,e=>by simp only[aD]at h;exists y,ys,rfl,_,r,h;exists f,E,a,aD.get (i:=i) r (by simpa using e);exact#[f,by simpa using E,a]
theorem aD.get':∀{ds:List D}{U:List V}{i:Nat}{d:D},aD K F ds U->ds[i]? = some d->∃x,U[i]? = some x/\aB K F d x|[],_,_,_,h,e=>by simp at e|d::ds,_,0,_,h,e=>by simp only[aD]at h;exists y,ys,rfl,r,_,h;simp at e;subst e;exact#[y,rfl,r]|d::ds,_,i+1,_,h,e=>by simp only[aD]at h;exists y,ys,rfl,_,r,h;exists f,E,a,aD.get' (i:=i) r (by simpa using e);exact#[f,by simpa using E,a]
theorem aD.append:∀{ds es:List D}{U ys:List V},aD K F ds U->aD K F es ys->aD K F (ds++es) (U++ys)|[],_,_,_,h,r=>by simp only[aD]at h;subst h;exact r|d::ds,_,_,_,h,r=>by simp only[aD]at h;exists y,ys,rfl,q,t,h;show aD K F (d::(ds++_)) (y::(ys++_));simp only[aD];exact#[y,_,rfl,q,aD.append t r]
def aD.nil:aD K F [] []:=by simp only[aD]
def aD.cons{d:D}{ds:List D}{x:V}{U:List V}(h:aB K F d x)(r:aD K F ds U):aD K F (d::ds) (x::U):=by simp only[aD];exact#[x,U,rfl,h,r]
end
def Top(K:Fg)(F H:Hp)(a:Addr):D->Prop|.lst ds=>∃U,H a=some (.lst U)/\aD K F ds U|.dct ds=>∃U,H a=some (.dK U)/\aF K F ds U|.ins c fs=>∃C dx g,W.nsIn K mainGlobals c=some (some (.ref C))/\H a=some (.ins C dx g)/\dH K F fs g|.set ks=>∃S,H a=some (.set S ks.length)/\zO S ks|.dtn ds=>∃U,H a=some (.dN U)/\aQ K F ds U|_=>False
def Rp(K:Fg)(F H:Hp)(m:Md)(d:D)(v:V):Prop :=
 match m with|.fz=>aB K F d v|_=>∃a,v=.ref a/\F a=none/\Top K F H a d
inductive jW:Option HO->Prop
 |no:jW none
 |cr {q:Str}:jW (some (.crec q))
def iX{o:Option HO}(h:o=none):jW o:=h ▸ .no
structure aG(F H F' H':Hp):Prop where
 same:aE H H'
 fsame:aE F F'
 sub:aE F' H'
 new:∀a,F a=none -> ¬ jW (H a)->F' a=none
theorem aG.refl{F:Hp}(h:aE F H):aG F H F H:=#[aE.refl _,aE.refl _,h,λ_ h _=>h]
theorem aG.trans{F H1 g f:Hp}(a:aG F H F1 H1)(b:aG F1 H1 g f):aG F H g f :=
 #[a.same.trans b.same,a.fsame.trans b.fsame,b.sub,λx l d=>b.new x (a.new x l d) (by
  cases e:H x with|none=>exact absurd (iX e) d|some o=>rw[a.same x o e,<- e];exact d)]
def aG.laid{F:Hp}{p:Addr}(o:HO)(h:aE F H)(hp:H p=none):aG F H (upd F p o) (upd H p o):=by have f:F p=none:=h.free hp;refine#[λb u e=>?_,λb u e=>?_,λb u e=>?_,λa l g=>?_];{rw[aP (cI e hp)];exact e};{rw[aP (cI e f)];exact e};{by_cases d:b=p;{subst d;rw[a8]at e ⊢;exact e};rw[aP d]at e ⊢;exact h b u e};(have:a≠p:=by rintro rfl;exact g (iX hp));rw[aP this];exact l
def aG.fresh{F:Hp}{p:Addr}(o:HO)(h:aE F H)(hp:H p=none):aG F H F (upd H p o):=by refine#[λb u e=>?_,aE.refl _,λb u e=>?_,λa d _=>d];{rw[aP (cI e hp)];exact e};rw[aP (cI (h b u e) hp)];exact h b u e
def Top.step{K:Fg}{F:Hp}{a:Addr}{d:D}(st:aG F H F' H')(h:Top K F H a d):Top K F' H' a d:=by cases d with|lst ds|dct ds=>exists U,e,r,h;exact#[U,st.same _ _ e,r.mono st.fsame _ _]|ins c fs=>exists C,dx,g,n,e,r,h;exact#[C,dx,g,n,st.same _ _ e,r.mono st.fsame _ _]|set ks=>exists S,e,r,h;exact#[S,st.same _ _ e,r]|dtn ds=>exists U,e,r,h;exact#[U,st.same _ _ e,r.mono st.fsame _ _]|_=>exact h.elim
def Top.there{K:Fg}{F:Hp}{a:Addr}{d:D}(h:Top K F H a d):¬ jW (H a):=by cases d with|lst ds|dct ds=>exists U,e,r,h;rw[e];exact λz=>nomatch z|ins c fs=>exists C,dx,g,n,e,r,h;rw[e];exact λz=>nomatch z|set ks=>exists S,e,r,h;rw[e];exact λz=>nomatch z|dtn ds=>exists U,e,r,h;rw[e];exact λz=>nomatch z|_=>exact h.elim
theorem Rp.step{K:Fg}{F:Hp}{m:Md}{d:D}(st:aG F H F' H')(h:Rp K F H m d v):Rp K F' H' m d v:=by cases m with|fz=>exact aB.mono st.fsame d v h|fr|bo=>exists a,e,n,t,h;exact#[a,e,st.new a n t.there,t.step st]
def Rp.seqL{K:Fg}{F:Hp}{m:Md}(s:aE F H)(h:Rp K F H m (.lst ds) v):∃a U,v=.ref a/\fe K H a U/\aD K F ds U:=by cases m with|fz=>have h:aB K F (.lst ds) v:=h;simp only[aB]at h;exists a,U,e,q,r,h;exact#[a,U,e,s.seq q,r]|fr|bo=>exists a,e,n,U,q,r,h;exact#[a,U,e,fe.of q,r]
theorem Rp.seqT{K:Fg}{F:Hp}{m:Md}(s:aE F H)(h:Rp K F H m (.tup ds) v):∃a U,v=.ref a/\SqT K H a U/\aD K F ds U:=by cases m with|fz=>have h:aB K F (.tup ds) v:=h;simp only[aB]at h;exists a,U,e,q,r,h;exact#[a,U,e,aE.seqT s q,r]|fr|bo=>exists a,e,n,q,h;exact q.elim
def Rp.dict{K:Fg}{F:Hp}{m:Md}{ds:List (Key×D)}(s:aE F H)(h:Rp K F H m (.dct ds) v):∃a U,v=.ref a/\H a=some (.dK U)/\aF K F ds U:=by cases m with|fz=>have h:aB K F (.dct ds) v:=h;simp only[aB]at h;exists a,U,e,q,r,h;exact#[a,U,e,s _ _ q,r]|fr|bo=>exists a,e,n,U,q,r,h;exact#[a,U,e,q,r]
theorem Rp.ins{K:Fg}{F:Hp}{m:Md}{c:Str}{fs:List (Str×D)}(s:aE F H)(h:Rp K F H m (.ins c fs) v):∃a C dx g,v=.ref a/\W.nsIn K mainGlobals c=some (some (.ref C))/\H a=some (.ins C dx g)/\dH K F fs g:=by cases m with|fz=>have h:aB K F (.ins c fs) v:=h;simp only[aB]at h;exists a,C,dx,g,e,n,q,r,h;exact#[a,C,dx,g,e,n,s _ _ q,r]|fr|bo=>exists a,e,n,C,dx,g,z,q,r,h;exact#[a,C,dx,g,e,z,q,r]
theorem Rp.int{K:Fg}{F:Hp}{m:Md}{i:Int}(h:Rp K F H m (.int i) v):v=.int i:=by cases m with|fz=>have h:aB K F (.int i) v:=h;simpa only [aB]using h|fr|bo=>exists a,e,n,q,h;exact q.elim
theorem Rp.bl{K:Fg}{F:Hp}{m:Md}{i:Bool}(h:Rp K F H m (.bl i) v):v=.bl i:=by cases m with|fz=>have h:aB K F (.bl i) v:=h;simpa only [aB]using h|fr|bo=>exists a,e,n,q,h;exact q.elim
theorem Rp.non{K:Fg}{F:Hp}{m:Md}(h:Rp K F H m .non v):v=.non:=by cases m with|fz=>have h:aB K F .non v:=h;simpa only [aB]using h|fr|bo=>exists a,e,n,q,h;exact q.elim
theorem Rp.str{K:Fg}{F:Hp}{m:Md}(h:Rp K F H m (.str x) v):v=.str x/\x.length<=sizeLine/\PyData.strOk x=true:=by cases m with|fz=>have h:aB K F (.str x) v:=h;simpa only [aB]using h|fr|bo=>exists a,e,n,q,h;exact q.elim
theorem Rp.ty{K:Fg}{F:Hp}{m:Md}{n:String}(h:Rp K F H m (.ty n) v):v=.ty n:=by cases m with|fz=>have h:aB K F (.ty n) v:=h;simpa only [aB]using h|fr|bo=>exists a,e,n,q,h;exact q.elim
theorem Rp.ob{K:Fg}{F:Hp}{m:Md}{n:Addr}(h:Rp K F H m (.ob n) v):v=.ref n:=by cases m with|fz=>have h:aB K F (.ob n) v:=h;simpa only [aB]using h|fr|bo=>exists a,e,n,q,h;exact q.elim
def xm{K:Fg}{F:Hp}(i:String):Rp K F H .fz (.ty i) (.ty i):=by show aB K F _ _;simp only[aB]
def eW{K:Fg}{F:Hp}(i:Int):Rp K F H .fz (.int i) (.int i):=by show aB K F _ _;simp only[aB]
def cJ{K:Fg}{F:Hp}(i:Bool):Rp K F H .fz (.bl i) (.bl i):=by show aB K F _ _;simp only[aB]
def zP{K:Fg}{F:Hp}:Rp K F H .fz .non .non:=by show aB K F _ _;simp only[aB]
def pF{K:Fg}{F:Hp}(h:x.length<=sizeLine/\PyData.strOk x=true):Rp K F H .fz (.str x) (.str x):=by show aB K F _ _;simp only[aB,true_and];exact h
abbrev Rho:=List (Option (Bool×D))
structure aT(K:Fg)(F0 H0 F H:Hp)(σ:L2.St)(Y:Rho):Prop where
 st:aG F0 H0 F H
 slot:∀(i:Nat) (m:Bool) (d:D),Y[i]? = some (some (m,d))->∃v,σ[i]? = some (some v)/\Rp K F H (if m then .bo else .fz) d v/\(m=true->∀a,v=.ref a->H0 a=none)
 apart:∀(i j:Nat) (d d':D) (a:Addr),i≠j->Y[i]? = some (some (true,d))->Y[j]? = some (some (true,d'))->σ[i]? = some (some (.ref a))->σ[j]? = some (some (.ref a))->False
 len:σ.length=Y.length
theorem aT.step{K:Fg}{F:Hp}{Y:Rho}(r:aT K F0 H0 F H σ Y)(st:aG F H F' H'):aT K F0 H0 F' H' σ Y :=
 #[r.st.trans st,λi m d e=>by exists v,f,a,E,r.slot i m d e;exact#[v,f,a.step st,E],r.apart,r.len]
theorem aT.sub{K:Fg}{F:Hp}{Y:Rho}(r:aT K F0 H0 F H σ Y):aE F H:=r.st.sub
abbrev XE:=Str->L2.St->Hp->Prop
structure Cw where
 K:Fg
 F0:Hp
 H0:Hp
 EE:XE
def tG(C:Cw)(g:Rho->Res):TE:=λσ H Q=>∃Y F,aT C.K C.F0 C.H0 F H σ Y/\match g Y with|.ok m d=>∀v F' H',aG F H F' H'->Rp C.K F' H' m d v->(m=.fr->∀a,v=.ref a->H a=none)->Q v H'|.exc c=>∀F' H',aG F H F' H'->C.EE c σ H'|.stuck=>False
abbrev Cw.at(C:Cw)(X:Cx):Cw:={C with K:=X.K}
end D3
variable{g ga gb gc gi ge:D3.Rho->D3.Res}{C:D3.Cw}{Y ρ':D3.Rho}
namespace D3
def PV(C:Cw)(X:Cx)(e:Expr)(g:Rho->Res):Prop:=PE X e (tG (C.at X) g)
def PE.imp{t t':TE}(h:PE X e t)(i:∀σ H Q,t' σ H Q->t σ H Q):PE X e t':=λaA s σ H Q I q=>h aA s σ H Q I (i σ H Q q)
noncomputable def Res.thn(r:Res)(k:Md->D->Res):Res:=match r with|.ok m d=>k m d|.exc c=>.exc c|.stuck=>.stuck
@[simp]theorem Res.thn_ok(m:Md)(d:D)(k:Md->D->Res):(Res.ok m d).thn k=k m d:=rfl
@[simp]theorem Res.thn_exc(c:Str)(k:Md->D->Res):(Res.exc c).thn k=.exc c:=rfl
@[simp]theorem Res.thn_stuck(k:Md->D->Res):Res.stuck.thn k=.stuck:=rfl
def Res.of:Option (Md×D)->Res|some (m,d)=>.ok m d|none=>.stuck
@[simp]theorem Res.of_some(m:Md)(d:D):Res.of (some (m,d))=.ok m d:=rfl
@[simp]theorem Res.of_none:Res.of none=.stuck:=rfl
def aZ(C:Cw)(F H:Hp)(σ:L2.St)(r:Res)(Q:VK):Prop:=match r with|.ok m d=>∀v F' H',aG F H F' H'->Rp C.K F' H' m d v->(m=.fr->∀a,v=.ref a->H a=none)->Q v H'|.exc c=>∀F' H',aG F H F' H'->C.EE c σ H'|.stuck=>False
def aR{Q:VK}:tG C g σ H Q=∃Y F,aT C.K C.F0 C.H0 F H σ Y/\aZ C F H σ (g Y) Q:=by unfold tG aZ;rfl
def aZ.step{F H1:Hp}{r:Res}{Q:VK}(st:aG F H F1 H1)(h:aZ C F H σ r Q):aZ C F1 H1 σ r Q:=by cases r with|ok m d=>exact λv F' H' S f l=>h v F' H' (st.trans S) f λe a ea=>st.same.free (l e a ea)|exc c=>exact λF' H' S=>h F' H' (st.trans S)|stuck=>exact h
section
variable{a b:Expr}
def cR(Y:Rho)(i:Nat):Res:=match Y[i]? with|some (some (false,d))=>.ok .fz d|some (some (true,d))=>.ok .bo d|_=>.stuck
def OA(i:Nat)(h:PE X (.Name x pos) (f9 i)):PV C X (.Name x pos) (λY=>cR Y i):=by refine PE.imp h λσ H Q q=>?_;rw[aR]at q;exists Y,F,R,w,q;unfold cR at w;cases e:Y[i]? with|none=>rw[e]at w;exact w.elim|some o=>cases o with|none=>rw[e]at w;exact w.elim|some p=>exists m,d,p;exists v,E,r,_,R.slot i m d e;rw[e]at w;cases m with|false|true=>exact#[v,E,w v F H (.refl R.sub) r (by nofun)]
def jX(d:D)(h:PE X e (tC v))(r:∀F H,Rp X.K F H .fz d v):PV C X e (λ_=>.ok .fz d):=by refine PE.imp h λσ H Q q=>?_;rw[aR]at q;exists Y,F,R,w,q;exact w v F H (.refl R.sub) (r F H) (by nofun)
def OB{i j:_}:PV C X (.Constant (.int i) j pos) (λ_=>.ok .fz (.int i)):=jX _ MR λ_ _=>eW i
def xp{i j:_}:PV C X (.Constant (.bool i) j pos) (λ_=>.ok .fz (.bl i)):=jX _ wb λ_ _=>cJ i
def OC{j:_}:PV C X (.Constant .none j pos) (λ_=>.ok .fz .non):=jX _ MS λ_ _=>zP
def OD{j:_}(h:(decide (x.length<=sizeLine)&&PyData.strOk x)=true:=by decide +kernel):PV C X (.Constant (.str x) j pos) (λ_=>.ok .fz (.str x)) :=
 jX _ MT λ_ _=>pF (by rw[cw,fw]at h;exact h)
noncomputable def cu(f:Md->D->Md->D->Option (Md×D))(x y:Res):Res:=x.thn λm d=>y.thn λn e=>Res.of (f m d n e)
def e8(C:Cw)(X:Cx)(f:bb->bb->Sem bb)(l:Md->D->Md->D->Option (Md×D)):Prop :=
 ∃r:R2,gp X f r/\∀F H m x n y v u k d Q,aE F H->Rp X.K F H m x v->Rp X.K F H n y u->l m x n y=some (k,d) ->
  (∀V F' H',aG F H F' H'->Rp X.K F' H' k d V->(k=.fr->∀a,V=.ref a->H a=none)->Q V H')->r v u H Q
def k8{f:Md->D->Md->D->Option (Md×D)}{r:R2}(h:∀F H m x n y v u k d Q,aE F H->Rp C.K F H m x v->Rp C.K F H n y u->f m x n y=some (k,d)->(∀V F' H',aG F H F' H'->Rp C.K F' H' k d V->(k=.fr->∀a,V=.ref a->H a=none)->Q V H')->r v u H Q){Q:VK}(q:tG C (λY=>cu f (ga Y) (gb Y)) σ H Q):uj r (tG C ga) (tG C gb) σ H Q:=by unfold uj;rw[aR]at q ⊢;exists Y,F,R,w,q;refine#[Y,F,R,?_];cases ea:ga Y with|stuck|exc c=>simp only[cu,ea,Res.thn]at w;exact w|ok m d=>intro v F1 H1 s1 r1 _;rw[aR];refine#[Y,F1,R.step s1,?_];have W:=w.step s1;simp only[cu,ea,Res.thn]at W;cases o:gb Y with|stuck|exc c=>rw[o]at W;exact W|ok n e=>rw[o]at W;intro u A t S B _;have l:aZ C A t σ (Res.of (f m d n e)) Q:=aZ.step S W;cases E:f m d n e with|none=>rw[E]at l;exact l.elim|some G=>exists k,J,G;rw[E]at l;exact h A t m d n e v u k J Q S.sub (r1.step S) B E l
def xq{op:Operator}{φ}(o:e8 C X (binaryOp op) φ)(f:PV C X a ga)(d:PV C X b gb):PV C X (.BinOp a op b pos) (λY=>cu φ (ga Y) (gb Y)):=by exists r,m,l,o;exact PE.imp (wm m f d) λσ H Q q=>k8 l q
def k9{op:CmpOp}{φ}(o:e8 C X (compareOp op) φ)(l:PV C X a ga)(f:PV C X b gb)(d:behindInMarks op b=false):PV C X (.Compare a [op] [b] pos) (λY=>cu φ (ga Y) (gb Y)):=by exists r,t,m,o;exact PE.imp (Ny t l f d) λσ H Q q=>k8 m q
def im(f d:Md->D->Md->D->Option (Md×D)):Md->D->Md->D->Option (Md×D):=λm x n y=>(f m x n y).orElse λ_=>d m x n y
theorem e8.or{f:bb->bb->Sem bb}{φ ψ}(h:e8 C X f φ)(h':e8 C X f ψ):e8 C X f (im φ ψ):=by exists r,D,B,h;exists G,o,l,h';refine#[_,D.or o,λF H m x n y v u k d Q s A t e w=>?_];unfold im at e;cases E:φ m x n y with|none=>rw[E]at e;exact .inr (l F H m x n y v u k d Q s A t e w)|some p=>rw[E]at e;cases e;exact .inl (B F H m x n y v u k d Q s A t E w)
noncomputable def fI(c:Int->Int->Bool)(g:Int->Int->D):Md->D->Md->D->Option (Md×D):=λ_ x _ y=>match x,y with|.int i,.int j=>if c i j=true then some (.fz,g i j)else none|_,_=>none
def pG{f:bb->bb->Sem bb}{Cc:Int->Int->Prop}{c:Int->Int->Bool}{g:Int->Int->V}{g':Int->Int->D}(o:gp X f (rI Cc g))(B:∀i j,c i j=true->Cc i j)(A:∀F H i j,Rp X.K F H .fz (g' i j) (g i j)):e8 C X f (fI c g'):=by refine#[_,o,λF H m x n y v u k d Q s t r e w=>?_];unfold fI at e;split at e;{rename_i i j;cases t.int;cases r.int;split at e;{rename_i l;cases e;exact#[i,j,rfl,rfl,B i j l,w _ F H (.refl s) (A F H i j) (by nofun)]};cases e};cases e
def lC{f:bb->bb->Sem bb}{g:Int->Int->V}{g':Int->Int->D}(o:gp X f (oj g))(t:∀F H i j,Rp X.K F H .fz (g' i j) (g i j)):e8 C X f (fI (λ_ _=>true) g'):=by refine#[_,o,λF H m x n y v u k d Q s l r e w=>?_];unfold fI at e;split at e;{rename_i i j;cases l.int;cases r.int;rw[aK rfl]at e;cases e;exact#[i,j,rfl,rfl,w _ F H (.refl s) (t F H i j) (by nofun)]};cases e
def bits(i:Int):Bool:=decide (i.natAbs.log2<9000)
def OE:e8 C X (binaryOp .Add) (fI (λ_ _=>true) λi j=>.int (i+j)):=lC Nm λ_ _ i j=>eW _
def OF:e8 C X (binaryOp .Sub) (fI (λ_ _=>true) λi j=>.int (i-j)):=lC Nn λ_ _ i j=>eW _
theorem OG{i j:Int}(h:(bits i&&bits j)=true):IntMulOk i j:=by(rw[cw]at h;have b:∀{i:Int},bits i=true->Builtin.Int.intBits i<=2 ^ 20:=λ{i} h=>by unfold bits at h;have:=lh h;unfold Builtin.Int.intBits;split;{exact gw _};(have e:(2:Nat) ^ 20=1048576:=by decide);lia);exact IntMulOk.of_bits (b h.1) (b h.2)
def nh(i:Int):Bool:=decide (i.natAbs<2 ^ 63)
theorem zQ{i:Int}(h:nh i=true):Builtin.Int.intBits i<=64:=by have h:=lh h;unfold Builtin.Int.intBits;split;{exact gw _};rename_i d;have:i.natAbs.log2<63:=(Nat.log2_lt (by simpa using d)).mpr h;lia
def OH:e8 C X (binaryOp .Mult) (fI (λi j=>(bits i&&bits j)||(nh i||nh j)) λi j=>.int (i * j)) :=
 pG (Cc:=λi j=>IntMulOk i j) (B5 λ_ _ _ _ _ _ _ d q=>mul_int q d) (λi j h=>by
  rcases(jr _ _).mp h with h|h
  . exact OG h
  . rcases(jr _ _).mp h with h|h
    . exact IntMulOk.of_left (zQ h)
    . exact IntMulOk.of_right (zQ h)) λ_ _ i j=>eW _
def OI:e8 C X (binaryOp .Mod) (fI (λ_ j=>decide (0<j)) λi j=>.int (i % j)):=pG Np (λi j h=>lh h) λ_ _ i j=>eW _
theorem OJ:gp X (binaryOp .FloorDiv) (rI (λ_ j=>0<j/\bits j=true) λi j=>.int (i / j)):=B5 λi j _ _ _ _ _ d q=>by exists l,f,d;refine floordiv_int (by lia) ?_ (.inl (PyProof.noPylong_of_log2 (lh f)));rw[Int.fdiv_eq_ediv_of_nonneg i (by lia)];exact q
def OK:e8 C X (binaryOp .FloorDiv) (fI (λ_ j=>decide (0<j)&&bits j) λi j=>.int (i / j)):=pG OJ (λi j h=>by rw[cw,fw]at h;exact h) λ_ _ i j=>eW _
def OL:e8 C X (binaryOp .Pow) (fI (λi j=>decide (0<=j)&&decide (j<=1000000)&&decide (i.natAbs<2 ^ 64)) λi j=>.int (i ^ j.toNat)) :=
 pG Nq (λi j h=>by simp only[cw,fw]at h;exact#[h.1.1,h.1.2,h.2]) λ_ _ i j=>eW _
def OM:e8 C X (compareOp .Lt) (fI (λ_ _=>true) λi j=>.bl (decide (i<j))):=lC wq λ_ _ i j=>cJ _
def ON:e8 C X (compareOp .LtE) (fI (λ_ _=>true) λi j=>.bl (decide (i<=j))):=lC wr λ_ _ i j=>cJ _
def OO:e8 C X (compareOp .Gt) (fI (λ_ _=>true) λi j=>.bl (decide (j<i))):=lC wt λ_ _ i j=>cJ _
def OP:e8 C X (compareOp .GtE) (fI (λ_ _=>true) λi j=>.bl (decide (j<=i))):=lC wu λ_ _ i j=>cJ _
noncomputable def fS(c:Str->Str->Bool)(g:Str->Str->D):Md->D->Md->D->Option (Md×D):=λ_ x _ y=>match x,y with|.str i,.str j=>if c i j=true then some (.fz,g i j)else none|_,_=>none
def OQ{y:Str}(f:PyData.strOk x=true)(d:PyData.strOk y=true):PyData.strOk (x++y)=true:=by unfold PyData.strOk at *;show(x.cps++y.cps).all _=true;rw[Array.all_append,f,d];rfl
def OR:e8 C X (binaryOp .Add) (fS (λi j=>decide (i.length+j.length<=sizeLine)) λi j=>.str (i++j)):=by refine#[_,ND,λF H m x n y v u k d Q s l r e w=>?_];unfold fS at e;split at e;{rename_i i j;exists rfl,t,l.str;exists rfl,o,r.str;split at e;{rename_i f;cases e;have f:=lh f;exact#[i,j,rfl,rfl,f,w _ F H (.refl s) (pF #[by rw[strLen_append];exact f,OQ t.2 o.2]) (by nofun)]};cases e};cases e
def lD(i j:Str):Bool:=!(Builtin.Str.occurrences j i 0 j.length 1).isEmpty
def OS:e8 C X (compareOp .In) (fS (λ_ _=>true) λi j=>.bl (lD i j)):=by refine#[_,Nu,λF H m x n y v u k d Q s f r e w=>?_];unfold fS at e;split at e;{rename_i i j;exists rfl,o,f.str;exists rfl,l,r.str;rw[aK rfl]at e;cases e;exact#[i,j,rfl,rfl,w _ F H (.refl s) (cJ _) (by nofun)]};cases e
def OT:e8 C X (compareOp .NotIn) (fS (λ_ _=>true) λi j=>.bl (!lD i j)):=by refine#[_,Nx,λF H m x n y v u k d Q s f r e w=>?_];unfold fS at e;split at e;{rename_i i j;exists rfl,o,f.str;exists rfl,l,r.str;rw[aK rfl]at e;cases e;exact#[i,j,rfl,rfl,w _ F H (.refl s) (cJ _) (by nofun)]};cases e
end
section
variable{a b:Expr}
def aM:Res->Res|.ok .bo _=>.stuck|.ok _ d=>.ok .fz d|r=>r
def aG.freeze{F:Hp}{x:Addr}{o:HO}(st:aG F H F' H')(m:H x=none)(d:F' x=none)(ho:H' x=some o):aG F H (upd F' x o) H':=by refine#[st.same,λb u q=>?_,λb u q=>?_,λy r l=>?_];{rw[aP (cI (st.fsame b u q) d)];exact st.fsame b u q};{by_cases f:b=x;{subst f;rw[a8]at q;rw[<- q];exact ho};rw[aP f]at q;exact st.sub b u q};(have:y≠x:=by rintro rfl;exact l (iX m));rw[aP this];exact st.new y r l
def Top.freeze{K:Fg}{F:Hp}{x:Addr}{d:D}(f:F x=none)(h:Top K F H x d):∃o,H x=some o/\aB K (upd F x o) d (.ref x):=by(have s:∀o,aE F (upd F x o):=λo b u q=>by rw[aP (cI q f)];exact q);cases d with|lst ds=>exists U,q,r,h;refine#[_,q,?_];simp only[aB];exact#[x,U,rfl,fe.of a8,r.mono (s _) _ _]|dct ds=>exists U,q,r,h;refine#[_,q,?_];simp only[aB];exact#[x,U,rfl,a8,r.mono (s _) _ _]|ins c fs=>exists C,dx,G,n,q,r,h;refine#[_,q,?_];simp only[aB];exact#[x,C,dx,G,rfl,n,a8,r.mono (s _) _ _]|set ks=>exists S,q,r,h;refine#[_,q,?_];simp only[aB];exact#[x,S,rfl,a8,r]|dtn ds=>exists U,q,r,h;refine#[_,q,?_];simp only[aB];exact#[x,U,rfl,a8,r.mono (s _) _ _]|_=>exact h.elim
def aZ.frz{F:Hp}{r:Res}{Q:VK}(w:aZ C F H σ (aM r) Q):aZ C F H σ r Q:=by cases r with|exc c|stuck=>exact w|ok m d=>cases m with|fz=>exact w|bo=>exact(show False from w).elim|fr=>intro v F' H' st rp fr;exists x,rfl,n,t,rp;exists o,ho,r,t.freeze n;exact w (.ref x) (upd F' x o) H' (st.freeze (fr rfl x rfl) n ho) r (by nofun)
def eN(h:PV C X e g):PV C X e (λY=>aM (g Y)):=PE.imp h λσ H Q q=>by rw[aR]at q ⊢;exists Y,F,R,w,q;(try dsimp only at w);exact#[Y,F,R,w.frz]
def jY(C:Cw)(F H:Hp)(σ:L2.St)(r:Res)(Q:Bool->Hp->Prop):Prop:=match r with|.ok _ (.bl b)=>∀F' H',aG F H F' H'->Q b H'|.exc c=>∀F' H',aG F H F' H'->C.EE c σ H'|_=>False
def jY.step{F H1:Hp}{r:Res}{Q:Bool->Hp->Prop}(st:aG F H F1 H1)(h:jY C F H σ r Q):jY C F1 H1 σ r Q:=by
 cases r with
 |ok m d=>cases d with|bl b=>exact λF' H' S=>h F' H' (st.trans S)|_=>exact h
 |exc c=>exact λF' H' S=>h F' H' (st.trans S)|stuck=>exact h
def tT(C:Cw)(g:Rho->Res):TT:=λσ H Q=>∃Y F,aT C.K C.F0 C.H0 F H σ Y/\jY C F H σ (g Y) Q
def kr(C:Cw)(X:Cx)(e:Expr)(g:Rho->Res):Prop:=PT X e (tT (C.at X) g)
def ni(C:Cw)(X:Cx)(e:Expr)(g:Rho->Res):Prop:=PW X e (tT (C.at X) g)
def PT.imp{t t':TT}(h:PT X e t)(i:∀σ H Q,t' σ H Q->t σ H Q):PT X e t':=λaA s σ H Q I q=>h aA s σ H Q I (i σ H Q q)
def PW.imp{t t':TT}(h:PW X e t)(i:∀σ H Q,t' σ H Q->t σ H Q):PW X e t':=λW aA s σ H Q I q=>h W aA s σ H Q I (i σ H Q q)
def pH:D->Option Bool|.non=>some false|.bl b=>some b|.int i=>some (i != 0)|.str x=>some ((x.length:Int) != 0)|.tup ds|.lst ds|.dct ds=>some (!ds.isEmpty)|_=>none
def iY(r:Res):Res:=r.thn λ_ d=>match pH d with|some b=>.ok .fz (.bl b)|none=>.stuck
theorem aD.isEmpty{K:Fg}{F:Hp}(h:aD K F ds U):ds.isEmpty=U.isEmpty:=by cases ds with|nil=>simp only[aD]at h;subst h;rfl|cons d ds=>simp only[aD]at h;exists y,ys,rfl,_,h;rfl
theorem aF.isEmpty{K:Fg}{F:Hp}{ds:List (Key×D)}{U:List (Key×V)}(h:aF K F ds U):ds.isEmpty=U.isEmpty:=by cases ds with|nil=>simp only[aF]at h;subst h;rfl|cons d ds=>exists k,d,d;simp only[aF]at h;exists y,ys,rfl,_,h;rfl
def OU{K:Fg}{F:Hp}{m:Md}{d:D}{k:Bool}(s:aE F H)(h:Rp K F H m d v)(e:pH d=some k):tE K v H k:=by cases d with|non=>cases h.non;cases e;rfl|bl b=>cases h.bl;cases e;rfl|int i=>cases h.int;cases e;rfl|str x=>exists rfl,f,_,h.str;cases e;exact#[f,rfl]|tup ds=>exists a,U,rfl,q,r,h.seqT s;cases e;exact .inr (.inl #[U,q,by rw[r.isEmpty]])|lst ds=>exists a,U,rfl,q,r,h.seqL s;cases e;exact .inl #[U,q,by rw[r.isEmpty]]|dct ds=>exists a,U,rfl,q,r,h.dict s;cases e;exact .inr (.inr #[U,q,by rw[r.isEmpty]])|ty n|ob n|ins n|fn n|exn n|set n|dtn n|dtf n|dcf n|clo _ _=>cases e
def OV(h:PV C X e g)(l:∀W,isTrue e X.env W=(do let v <- W;standAt e.pos;holding [v] (truthy v)):=by intro _;rfl):kr C X e (λY=>iY (g Y)):=by refine PT.imp (NC h l) λσ H Q q=>?_;exists Y,F,R,w,q;(try dsimp only at w);rw[aR];refine#[Y,F,R,?_];cases f:g Y with|stuck|exc c=>rw[f]at w;exact w|ok m d=>(rw[f]at w;intro v F' H' st rp _;have w:jY (C.at X) F H σ (match pH d with|some b=>.ok .fz (.bl b)|none=>.stuck) Q:=w);cases E:pH d with|none=>rw[E]at w;exact w.elim|some k=>rw[E]at w;exact#[k,OU st.sub rp E,w F' H' st]
def lE{op:CmpOp}{φ}(o:e8 C X (compareOp op) φ)(f:∀m x n y k d,φ m x n y=some (k,d)->∃t,k=.fz/\d=.bl t)(T:PV C X a ga)(S:PV C X b gb)(N:behindInMarks op b=false):kr C X (.Compare a [op] [b] pos) (λY=>cu φ (ga Y) (gb Y)):=by exists r,W,V,o;refine PT.imp (Nz W T S N) λσ H Q q=>?_;exists Y,F,R,w,q;(try dsimp only at w);unfold yO;refine k8 V ?_;rw[aR];refine#[Y,F,R,?_];cases E:cu φ (ga Y) (gb Y)with|stuck|exc c=>rw[E]at w;exact w|ok m d=>(rw[E]at w;have:∃t,m=.fz/\d=.bl t:=by unfold cu at E;cases A:ga Y with|stuck|exc c=>rw[A]at E;cases E|ok D K=>cases G:gb Y with|stuck|exc c=>rw[A,G]at E;cases E|ok B J=>rw[A,G]at E;have E:Res.of (φ D K B J)=.ok m d:=E;cases l:φ D K B J with|none=>rw[l]at E;cases E|some L=>rw[l]at E;exists k,Z,L;cases E;exact f _ _ _ _ _ _ l);exists t,rfl,rfl,this;intro v F' H' st rp _;cases rp.bl;exact#[t,rfl,w F' H' st]
def eX(x:Res)(y:Res):Res:=x.thn λ_ d=>match d with|.bl true=>y|.bl false=>.ok .fz (.bl false)|_=>.stuck
def om(x:Res)(y:Res):Res:=x.thn λ_ d=>match d with|.bl true=>.ok .fz (.bl true)|.bl false=>y|_=>.stuck
def iZ(x:Res):Res:=x.thn λ_ d=>match d with|.bl b=>.ok .fz (.bl (!b))|_=>.stuck
def OW(f:kr C X a ga):kr C X (.UnaryOp .Not a pos) (λY=>iZ (ga Y)):=by refine PT.imp (MY f) λσ H Q q=>?_;exists Y,F,R,w,q;(try dsimp only at w);refine#[Y,F,R,?_];cases E:ga Y with|stuck|exc c=>rw[E]at w;exact w|ok m d=>rw[E]at w;cases d with|bl b|_=>exact w
def zR{op:BoolOp}(h:kr C X a ga):ni C X (.BoolOp op [a] pos) ga:=by cases op with|And=>exact MV h|Or=>exact MW h
def zS{Q:Bool->Hp->Prop}(q:tT C (λY=>eX (ga Y) (gb Y)) σ H Q):sX (tT C ga) (tT C gb) σ H Q:=by exists Y,F,R,w,q;(try dsimp only at w);refine#[Y,F,R,?_];cases E:ga Y with|stuck|exc c=>rw[E]at w;exact w|ok m d=>rw[E]at w;cases d with|bl b=>(intro F' H' st;cases b with|true=>rw[aK rfl];exact#[Y,F',R.step st,jY.step st w]|false=>rw[ba gr];exact w F' H' st)|_=>exact w
def xr{Q:Bool->Hp->Prop}(q:tT C (λY=>om (ga Y) (gb Y)) σ H Q):Fx (tT C ga) (tT C gb) σ H Q:=by exists Y,F,R,w,q;(try dsimp only at w);refine#[Y,F,R,?_];cases E:ga Y with|stuck|exc c=>rw[E]at w;exact w|ok m d=>rw[E]at w;cases d with|bl b=>(intro F' H' st;cases b with|true=>rw[aK rfl];exact w F' H' st|false=>rw[ba gr];exact#[Y,F',R.step st,jY.step st w])|_=>exact w
def OX{rest:List Expr}(f:kr C X a ga)(d:ni C X (.BoolOp .And (b::rest) pos) gb):ni C X (.BoolOp .And (a::b::rest) pos) (λY=>eX (ga Y) (gb Y)):=PW.imp (MX f d) λ_ _ _ q=>zS q
def OY{rest:List Expr}(f:kr C X a ga)(d:ni C X (.BoolOp .Or (b::rest) pos) gb):ni C X (.BoolOp .Or (a::b::rest) pos) (λY=>om (ga Y) (gb Y)):=PW.imp (wc f d) λ_ _ _ q=>xr q
def xu(h:ni C X e g):kr C X e g:=PW.pt h
def zT{op}(h:PV C X a ga):PV C X (.BoolOp op [a] pos) ga:=MZ h
def OZ{rest:List Expr}(l:PV C X a ga)(f:PV C X (.BoolOp .And (b::rest) pos) gb):PV C X (.BoolOp .And (a::b::rest) pos) (λY=>eX (ga Y) (gb Y)):=by refine PE.imp (M0 l f) λσ H Q q=>?_;unfold yG;rw[aR]at q ⊢;exists Y,F,R,w,q;(try dsimp only at w);refine#[Y,F,R,?_];cases E:ga Y with|stuck|exc c=>rw[E]at w;exact w|ok m d=>rw[E]at w;cases d with|bl k=>(intro v F' H' st rp _;cases rp.bl;refine#[k,rfl,?_];cases k with|true=>rw[aK rfl,aR];exact#[Y,F',R.step st,aZ.step st w]|false=>rw[ba gr];exact w (.bl false) F' H' st (cJ _) (by nofun))|_=>exact w.elim
def O0{rest:List Expr}(l:PV C X a ga)(f:PV C X (.BoolOp .Or (b::rest) pos) gb):PV C X (.BoolOp .Or (a::b::rest) pos) (λY=>om (ga Y) (gb Y)):=by refine PE.imp (we l f) λσ H Q q=>?_;unfold wd;rw[aR]at q ⊢;exists Y,F,R,w,q;(try dsimp only at w);refine#[Y,F,R,?_];cases E:ga Y with|stuck|exc c=>rw[E]at w;exact w|ok m d=>rw[E]at w;cases d with|bl k=>(intro v F' H' st rp _;cases rp.bl;refine#[k,rfl,?_];cases k with|true=>rw[aK rfl];exact w (.bl true) F' H' st (cJ _) (by nofun)|false=>rw[ba gr,aR];exact#[Y,F',R.step st,aZ.step st w])|_=>exact w.elim
def O1(f:PV C X a ga):PV C X (.UnaryOp .Not a pos) (λY=>iZ (ga Y)):=by refine PE.imp (M3 f) λσ H Q q=>?_;unfold yH;rw[aR]at q ⊢;exists Y,F,R,w,q;(try dsimp only at w);refine#[Y,F,R,?_];cases E:ga Y with|stuck|exc c=>rw[E]at w;exact w|ok m d=>rw[E]at w;cases d with|bl k=>intro v F' H' st rp _;cases rp.bl;exact#[k,rfl,w _ F' H' st (cJ _) (by nofun)]|_=>exact w.elim
def pI(x:Res):Res:=x.thn λ_ d=>match d with|.int i=>.ok .fz (.int (-i))|_=>.stuck
def O2(f:PV C X a ga):PV C X (.UnaryOp .USub a pos) (λY=>pI (ga Y)):=by refine PE.imp (wn Nt f) λσ H Q q=>?_;unfold Fz;rw[aR]at q ⊢;exists Y,F,R,w,q;(try dsimp only at w);refine#[Y,F,R,?_];cases E:ga Y with|stuck|exc c=>rw[E]at w;exact w|ok m d=>rw[E]at w;cases d with|int i=>intro v F' H' st rp _;cases rp.int;exact#[i,rfl,w _ F' H' st (eW _) (by nofun)]|_=>exact w.elim
def fm:Md->D->Md->D->Option (Md×D):=λ_ x _ y=>match x,y with|.lst ds,.int i|.tup ds,.int i=>(atI ds i).map λd=>(.fz,d)|.str z,.int i=>(atI z.cps.toList i).map λc=>(.fz,.str #[(List.toArray [c])])|_,_=>none
theorem aD.atI{K:Fg}{F:Hp}{i:Int}{d:D}(h:aD K F ds U)(e:atI ds i=some d):∃x,L2.atI U i=some x/\aB K F d x:=by unfold L2.atI at *;rw[h.length];cases q:ixN ds.length i with|none=>rw[q]at e;cases e|some j=>rw[q]at e;exact h.get' e
def O3{F:Hp}{m n k:Md}{x d:D}{u:V}{Q:VK}(s:aE F H)(A:Rp X.K F H m x v)(t:Rp X.K F H n y u)(e:fm m x n y=some (k,d))(w:∀o F' H',aG F H F' H'->Rp X.K F' H' k d o->(k=.fr->∀a,o=.ref a->H a=none)->Q o H'):FB X.K v u H Q:=by unfold fm at e;split at e;{rename_i ds i;cases t.int;exists p,U,rfl,B,r,A.seqL s;cases E:atI ds i with|none=>rw[E]at e;cases e|some N=>rw[E]at e;cases e;exists l,ex,f,r.atI E;exact .inl #[p,U,i,l,rfl,rfl,B,ex,w l F H (.refl s) f (by nofun)]};{rename_i ds i;cases t.int;exists p,U,rfl,B,r,A.seqT s;cases E:atI ds i with|none=>rw[E]at e;cases e|some N=>rw[E]at e;cases e;exists l,ex,f,r.atI E;exact .inr (.inl #[p,U,i,l,rfl,rfl,B,ex,w l F H (.refl s) f (by nofun)])};{rename_i z i;cases t.int;exists rfl,G,hk,A.str;cases E:atI z.cps.toList i with|none=>rw[E]at e;cases e|some c=>rw[E]at e;cases e;refine .inr (.inr #[z,i,c,rfl,rfl,G,E,w _ F H (.refl s) (pF #[?_,?_]) (by nofun)]);{show 1<=sizeLine;decide};exists j,_,J,_,pA E;unfold PyData.strOk at hk ⊢;rw[Array.all_eq_true_iff_forall_mem]at hk;have L:=hk c (by rw[<- CQ];exact u3 J);simpa using L};cases e
def xv(o:PV C X a ga)(l:PV C X b gb)(hs:m9 b:=by intro _ _;rfl):PV C X (.Subscript a b pos) (λY=>cu fm (ga Y) (gb Y)):=by exact PE.imp (tI N3 o l hs) λσ H Q q=>k8 (λF H m x n y v u k d Q s f r e w=>O3 s f r e w) q
def B7(C:Cw)(X:Cx):Option Expr->Option (Rho->Res)->Prop|none,none=>True|some e,some g=>PV C X e g|_,_=>False
def zU(C:Cw):Option (Rho->Res)->TO|none=>zB|some g=>o9 (tG C g)
def zV{e:Option Expr}{g:Option (Rho->Res)}(h:B7 C X e g):PO X e (zU (C.at X) g):=by
 cases e with
 |none=>cases g with|none=>exact NV|some g=>exact h.elim
 |some e=>cases g with|none=>exact h.elim|some g=>exact NW h
def fK(g:Option (Rho->Res))(Y:Rho)(k:Option Int->Res):Res:=match g with|none=>k none|some g=>(g Y).thn λ_ d=>match d with|.int i=>k (some i)|_=>.stuck
def pJ{F:Hp}{g:Option (Rho->Res)}{k:Option Int->Res}{Q:VK}{R:Option Int->Hp->Prop}(r:aT C.K C.F0 C.H0 F H σ Y)(w:aZ C F H σ (fK g Y k) Q)(h:∀i F' H',aG F H F' H'->aT C.K C.F0 C.H0 F' H' σ Y->aZ C F' H' σ (k i) Q->R i H'):zU C g σ H R:=by cases g with|none=>exact h none F H (.refl r.sub) r w|some g=>(show o9 (tG C g) σ H R;unfold o9;rw[aR];refine#[Y,F,r,?_];have w:aZ C F H σ ((g Y).thn λ_ d=>match d with|.int i=>k (some i)|_=>.stuck) Q:=w);cases E:g Y with|stuck|exc c=>rw[E]at w;exact w|ok m d=>rw[E]at w;intro v F' H' st rp _;cases d with|int i=>cases rp.int;exact#[i,rfl,h (some i) F' H' st (r.step st) (aZ.step st w)]|_=>exact(show False from w).elim
end
inductive bF where
 |ok (U:List (Md×D))|exc (c:Str)|stuck
def kt(K:Fg)(F H:Hp):List (Md×D)->List V->Prop|[],vs=>vs=[]|(m,d)::r,vs=>∃v us,vs=v::us/\Rp K F H m d v/\kt K F H r us
def bF.thn(r:bF)(k:List (Md×D)->Res):Res:=match r with|.ok U=>k U|.exc c=>.exc c|.stuck=>.stuck
@[simp]theorem bF.thn_ok(U:List (Md×D))(k:List (Md×D)->Res):(bF.ok U).thn k=k U:=rfl
end D3
variable{gs:D3.Rho->D3.bF}
namespace D3
@[simp]theorem bF.thn_exc(c:Str)(k:List (Md×D)->Res):(bF.exc c).thn k=.exc c:=rfl
@[simp]theorem bF.thn_stuck(k:List (Md×D)->Res):bF.stuck.thn k=.stuck:=rfl
def nG(C:Cw)(F H:Hp)(σ:L2.St)(r:bF)(Q:List V->Hp->Prop):Prop:=match r with|.ok U=>∀vs F' H',aG F H F' H'->kt C.K F' H' U vs->Q vs H'|.exc c=>∀F' H',aG F H F' H'->C.EE c σ H'|.stuck=>False
def nG.step{F H1:Hp}{r:bF}{Q:List V->Hp->Prop}(st:aG F H F1 H1)(h:nG C F H σ r Q):nG C F1 H1 σ r Q:=by cases r with|ok m=>exact λv F' H' S a=>h v F' H' (st.trans S) a|exc c=>exact λF' H' S=>h F' H' (st.trans S)|stuck=>exact h
def DT(C:Cw)(g:Rho->bF):TA:=λσ H Q=>∃Y F,aT C.K C.F0 C.H0 F H σ Y/\nG C F H σ (g Y) Q
def j3(C:Cw)(X:Cx)(es:List Expr)(g:Rho->bF):Prop:=PA X es (DT (C.at X) g)
def PA.imp{e:List Expr}{t t':TA}(h:PA X e t)(i:∀σ H Q,t' σ H Q->t σ H Q):PA X e t':=λp aA s σ H Q I q=>h p aA s σ H Q I (i σ H Q q)
def aU(x:Res)(y:bF):bF:=match x with
 |.ok m d=>(match y with|.ok r=>.ok ((m,d)::r)|.exc c=>.exc c|.stuck=>.stuck)
 |.exc c=>.exc c|.stuck=>.stuck
@[simp]theorem O4(m:Md)(d:D)(r:List (Md×D)):aU (.ok m d) (.ok r)=.ok ((m,d)::r):=rfl
section
variable{a b:Expr}{es:List Expr}
def pK:j3 C X [] (λ_=>.ok []):=PA.imp kX λσ H Q q=>by exists Y,F,R,w,q;exact w [] F H (.refl R.sub) rfl
def pL(t:PV C X e g)(o:j3 C X es gs)(hs:starEach (e::es) X.env=(false,eval e X.env)::starEach es X.env:=by rfl):j3 C X (e::es) (λY=>aU (g Y) (gs Y)):=by refine PA.imp (jU t o hs) λσ H Q q=>?_;unfold iA;exists Y,F,R,w,q;dsimp only at w;rw[aR];refine#[Y,F,R,?_];cases f:g Y with|stuck|exc c=>rw[f]at w;exact w|ok m d=>rw[f]at w;intro v F1 H1 s1 r1 _;refine#[Y,F1,R.step s1,?_];have W:=nG.step s1 w;cases E:gs Y with|stuck|exc c=>rw[E]at W;exact W|ok r=>rw[E]at W;intro vs B A S l;exact W (v::vs) B A S #[v,vs,rfl,r1.step S,l]
def cY:List (Md×D)->Option (List D)|[]=>some []|(.fz,d)::r=>(cY r).map (d :: ·)|_::_=>none
theorem kt.fz{K:Fg}{F H:Hp}:∀{U:List (Md×D)}{vs:List V}{ds:List D},kt K F H U vs->cY U=some ds->aD K F ds vs
 |[],_,_,h,e=>by cases e;rw[show _=[]from h];exact aD.nil|(.fz,d)::r,_,_,h,e=>by exists v,us,rfl,l,f,h;unfold cY at e;cases q:cY r with|none=>rw[q]at e;cases e|some m=>rw[q]at e;cases e;exact aD.cons l (kt.fz f q)
 |(.fr,d)::r,_,_,h,e|(.bo,d)::r,_,_,h,e=>by cases e
def fL(r:bF):Res:=r.thn λU=>match cY U with|some ds=>if ds.length<=sizeLine then .ok .fz (.tup ds)else .stuck|none=>.stuck
def jZ(r:bF):Res:=r.thn λU=>match cY U with|some ds=>if ds.length<=sizeLine then .ok .fr (.lst ds)else .stuck|none=>.stuck
def aB.tup_of{K:Fg}{F:Hp}{p:Addr}(hp:F p=none)(r:aD K F ds U):aB K (upd F p (.tup U)) (.tup ds) (.ref p):=by simp only[aB];exact#[p,U,rfl,SqT.of a8,r.mono (λb u q=>by rw[aP (cI q hp)];exact q) _ _]
def O5{x1}(h:j3 C X es gs):PV C X (.Tuple es x1 pos) (λY=>fL (gs Y)):=by refine PE.imp (NL h) λσ H Q q=>?_;unfold ww;rw[aR]at q;exists Y,F,R,w,q;refine#[Y,F,R,?_];cases d:gs Y with|stuck|exc c=>rw[d]at w;exact w|ok U=>(rw[d]at w;intro vs F1 H1 s1 r1;have W:aZ (C.at X) F1 H1 σ (match cY U with|some ds=>if ds.length<=sizeLine then .ok .fz (.tup ds)else .stuck|none=>.stuck) Q:=aZ.step s1 w);cases E:cY U with|none=>rw[E]at W;exact W.elim|some ds=>rw[E]at W;dsimp only at W;split at W;{rename_i f;have r:=r1.fz E;refine#[by rw[r.length];exact f,λp hp=>?_];exact W (.ref p) _ _ (aG.laid (.tup vs) s1.sub hp) (aB.tup_of (s1.sub.free hp) r) (by nofun)};exact W.elim
def O6(h:j3 C X es gs):PV C X (.List es pos) (λY=>jZ (gs Y)):=by refine PE.imp (NM h) λσ H Q q=>?_;unfold wx;rw[aR]at q;exists Y,F,R,w,q;refine#[Y,F,R,?_];cases d:gs Y with|stuck|exc c=>rw[d]at w;exact w|ok U=>(rw[d]at w;intro vs F1 H1 s1 r1;have W:aZ (C.at X) F1 H1 σ (match cY U with|some ds=>if ds.length<=sizeLine then .ok .fr (.lst ds)else .stuck|none=>.stuck) Q:=aZ.step s1 w);cases E:cY U with|none=>rw[E]at W;exact W.elim|some ds=>rw[E]at W;dsimp only at W;split at W;{rename_i f;have r:=r1.fz E;refine#[by rw[r.length];exact f,λp hp=>?_];refine W (.ref p) F1 _ (aG.fresh (.lst vs) s1.sub hp) #[p,rfl,s1.sub.free hp,vs,a8,r] λ_ a ea=>by cases ea;exact hp};exact W.elim
def gC:D->Option Key|.int i=>some (.inl i)|.str x=>some (.inr x)|_=>none
def nH{K:Fg}{F:Hp}{m:Md}{d:D}{k:Key}(e:gC d=some k)(r:Rp K F H m d v):v=kV k:=by cases d with|int i=>cases e;exact r.int|str x=>cases e;exact r.str.1|_=>cases e
def gT(X:Cx)(f:bb)(m:List (Md×D)->Option (Md×D)):Prop :=
 ∃r:List V->Hp->VK->Prop,eD X f r/\∀F H U vs k d Q,aE F H->kt X.K F H U vs->m U=some (k,d) ->
  (∀l F' H',aG F H F' H'->Rp X.K F' H' k d l->(k=.fr->∀a,l=.ref a->H a=none)->Q l H')->r vs H Q
def dP(d:List (Md×D)->Option (Md×D))(r:bF):Res:=r.thn λU=>Res.of (d U)
def zW{f:List (Md×D)->Option (Md×D)}{r:List V->Hp->VK->Prop}(h:∀F H U vs k d Q,aE F H->kt C.K F H U vs->f U=some (k,d)->(∀l F' H',aG F H F' H'->Rp C.K F' H' k d l->(k=.fr->∀a,l=.ref a->H a=none)->Q l H')->r vs H Q){Q:VK}(q:tG C (λY=>dP f (gs Y)) σ H Q):se r (DT C gs) σ H Q:=by unfold se;rw[aR]at q;exists Y,F,R,w,q;refine#[Y,F,R,?_];cases m:gs Y with|stuck|exc c=>rw[m]at w;exact w|ok U=>rw[m]at w;intro vs F1 H1 s1 r1;have W:aZ C F1 H1 σ (Res.of (f U)) Q:=aZ.step s1 w;cases E:f U with|none=>rw[E]at W;exact W.elim|some o=>exists k,d,o;rw[E]at W;exact h F1 H1 U vs k d Q s1.sub r1 E W
def zX{id:String}{φ}(o:gT X (.builtin id) φ)(t:Gl X x)(m:X.mg x=none)(l:bootBuiltins x=some (.builtin id))(B:j3 C X (e::es) gs)(hn:x ≠ "__name__":=by decide)(f:(x==("__debug__":Str))=false:=by decide)(A:starEach (e::es) X.env=(false,eval e X.env)::starEach es X.env:=by rfl)(d:(backTo pos (starEach es X.env)).any (·.1)=false:=by rfl):PV C X (.Call (.Name x p) (e::es) [] pos) (λY=>dP φ (gs Y)):=by exists r,E,D,o;exact PE.imp (yW E t m l B hn f A d) λσ H Q q=>zW D q
def eO:List (Md×D)->Option (Md×D)|[(_,.str z)]=>some (.fz,.int z.length)|[(_,.lst ds)]|[(_,.tup ds)]=>some (.fz,.int ds.length)|_=>none
def kt.one{K:Fg}{F:Hp}{m:Md}{d:D}{vs:List V}(h:kt K F H [(m,d)] vs):∃v,vs=[v]/\Rp K F H m d v:=by exists v,us,rfl,r,e,h;exact#[v,by rw[show us=[]from e],r]
def kt.two{K:Fg}{F:Hp}{m n:Md}{d e:D}{vs:List V}(h:kt K F H [(m,d),(n,e)] vs):∃v u,vs=[v,u]/\Rp K F H m d v/\Rp K F H n e u:=by exists v,us,rfl,r,l,f,rfl,o,e,h;exact#[v,l,by rw[show f=[]from e],r,o]
def O7:gT X (.builtin "len") eO:=by refine#[_,NE,λF H U vs k d Q s f e w=>?_];unfold eO at e;split at e;{rename_i m z;cases e;exists v,rfl,r,f.one;exists rfl,o,_,r.str;exact#[_,z.length,rfl,#[o,rfl],w _ F H (.refl s) (eW _) (by nofun)]};{rename_i m ds;cases e;exists v,rfl,r,f.one;exists a,U,rfl,q,l,r.seqL s;exact#[_,U.length,rfl,.inl #[U,q,rfl],by rw[l.length];exact w _ F H (.refl s) (eW _) (by nofun)]};{rename_i m ds;cases e;exists v,rfl,r,f.one;exists a,U,rfl,q,l,r.seqT s;exact#[_,U.length,rfl,.inr #[U,q,rfl],by rw[l.length];exact w _ F H (.refl s) (eW _) (by nofun)]};cases e
noncomputable def B8:D->Option String|.non=>some "NoneType" |.bl _=>some "bool" |.int _=>some "int" |.str _=>some "str" |.tup _=>some "tuple" |.lst _=>some "list" |.dct _=>some "dict" |_=>none
noncomputable def nI(t c:String):Option Bool:=if["int","bool","str","list","tuple","dict"].contains c=true then some (t==c||(t == "bool" && c == "int"))else none
def lF:List (Md×D)->Option (Md×D)
 |[(_,d),(_,.ty c)]=>match B8 d with|some t=>(nI t c).map λb=>(.fz,.bl b)|none=>none
 |_=>none
def O8{K:Fg}{d:D}{t c:String}{b:Bool}(ht:B8 d=some t)(e:nI t c=some b):W.kitOne K (.type t) (.type c)=some b:=by unfold nI at e;split at e;{rename_i l;simp only[List.contains_cons,List.contains_nil,Bool.or_false,jr,dc]at l;cases e;(have f:t="NoneType" \/ t="bool" \/ t="int" \/ t="str" \/ t="tuple" \/ t="list" \/ t="dict":=by cases d <;> cases ht <;> simp);rcases l with rfl|rfl|rfl|rfl|rfl|rfl <;> rcases f with rfl|rfl|rfl|rfl|rfl|rfl|rfl <;> rfl};cases e
def O9:gT X (.builtin "isinstance") lF:=by refine#[λvs H Q=>∃(F:Hp) (m:Md) (d:D) (v:V) (t c:String) (b:Bool),aE F H/\Rp X.K F H m d v/\vs=[v,.ty c]/\B8 d=some t/\nI t c=some b/\Q (.bl b) H,?_,?_];{intro aA s σ H U us Q I r h;exists F,m,d,v,t,c,b,sF,B,rfl,l,hb,q,h;exists u,Z,rfl,A,L,vals2 r;cases(show Z=Value.type c from L);have e:=O8 (K:=X.K) l hb;have f:∀tk,EP X aA σ Q (.bool b) {s with toks:=tk}:=λtk=>#[.bl b,H,I.tok _,rfl,q];cases d with|non=>cases B.non;cases l;cases(show u=Value.none from A);exact qz W.kitx_none I.kIn True.intro e (λz=>nomatch z) f|bl y=>cases B.bl;cases l;cases(show u=Value.bool y from A);exact qz W.kitx_bool I.kIn True.intro e (λz=>nomatch z) f|int i=>cases B.int;cases l;exists t,q,(show ∃t,u=Value.int i t from A);cases q;exact qz W.kitx_int I.kIn True.intro e (λz=>nomatch z) f|str y=>exists rfl,_,B.str;cases l;exists t,q,(show ∃t,u=Value.str y t from A);cases q;exact qz W.kitx_str I.kIn True.intro e (λz=>nomatch z) f|tup ds=>exists a,U,rfl,E,_,B.seqT sF;cases l;cases(show u=Value.ref a from A);obtain⟨its,_,⟨o,J,G,_⟩,_⟩:=I.tuple E;exact qz W.kitx_tuple I.kIn #[o,J,G] e (λz=>nomatch z) f|lst ds=>exists a,U,rfl,E,_,B.seqL sF;cases l;cases(show u=Value.ref a from A);obtain⟨its,_,⟨o,n,J,G,_⟩,_⟩:=I.list E;exact qz W.kitx_list I.kIn #[o,J,G] e (λz=>nomatch z) f|dct ds=>exists a,U,rfl,E,_,B.dict sF;cases l;cases(show u=Value.ref a from A);exists _,_,vs,_,p,(show bK X.prog X.w H s.heap a (.dK U)from I.hok a _ E);exists o,es,ep,J,G,_,p;exact qz W.kitx_dict I.kIn #[o,J,G.1] e (λz=>nomatch z) f|_=>cases l};intro F H U vs k d Q s rx e w;unfold lF at e;split at e;{rename_i m T n c;exists v,u,rfl,r1,r2,rx.two;cases r2.ty;cases N:B8 T with|none=>rw[N]at e;cases e|some t=>rw[N]at e;dsimp only at e;cases S:nI t c with|none=>rw[S]at e;cases e|some b=>rw[S]at e;cases e;exact#[F,m,T,v,t,c,b,s,r1,rfl,N,S,w _ F H (.refl s) (cJ _) (by nofun)]};cases e
def xw{T:String}(l:Gl X x)(f:X.mg x=none)(d:bootBuiltins x=some (.type T))(hn:x ≠ "__name__":=by decide)(hd:(x==("__debug__":Str))=false:=by decide):PV C X (.Name x pos) (λ_=>.ok .fz (.ty T)):=
 jX _ (MU (v:=.ty T) l f d rfl hn hd) λ_ _=>xm T
def Pa{y:Str}{t:Tok}(f:Gl X x)(d:X.mg x=some (.str y t))(h:(decide (y.length<=sizeLine)&&PyData.strOk y)=true:=by decide +kernel)(hd:(x==("__debug__":Str))=false:=by decide):PV C X (.Name x pos) (λ_=>.ok .fz (.str y)):=
 jX _ (sW (v:=.str y) f d #[t,rfl] hd) λ_ _=>pF (by rw[cw,fw]at h;exact h)
def Pb{y:Int}{t:Tok}(f:Gl X x)(d:X.mg x=some (.int y t))(hd:(x==("__debug__":Str))=false:=by decide):PV C X (.Name x pos) (λ_=>.ok .fz (.int y)):=
 jX _ (sW (v:=.int y) f d #[t,rfl] hd) λ_ _=>eW _
def xx:List D->Option (List Bool)|[]=>some []|.bl b::r=>(xx r).map (b :: ·)|_=>none
def Pc:List (Md×D)->Option (Md×D)|[(_,.lst ds)]=>(xx ds).map λbs=>(.fz,.bl (bs.all id))|_=>none
end
inductive aI where
 |nx (Y:Rho)|rt (m:Md) (d:D)|bk (Y:Rho)|ct (Y:Rho)|exc (c:Str) (Y:Rho)|stuck
def cS(C:Cw)(f:Hp)(r:aI)(E:f8):Prop:=match r with|.nx Y=>∀σ F H,aE f F->aT C.K C.F0 C.H0 F H σ Y->E.nx σ H|.bk Y=>∀σ F H,aE f F->aT C.K C.F0 C.H0 F H σ Y->E.bk σ H|.ct Y=>∀σ F H,aE f F->aT C.K C.F0 C.H0 F H σ Y->E.ct σ H|.exc c Y=>∀σ F H,aE f F->aT C.K C.F0 C.H0 F H σ Y->C.EE c σ H|.rt m d=>∀v F H,aG C.F0 C.H0 F H->Rp C.K F H m d v->(m=.fr->∀a,v=.ref a->C.H0 a=none)->E.rt v H|.stuck=>False
def cS.mono{F:Hp}{r:aI}{E:f8}(s:aE F F1)(w:cS C F r E):cS C F1 r E:=by cases r with|nx Y|bk Y|ct Y|exc c Y=>exact λσ F' H' z R=>w σ F' H' (s.trans z) R|rt m d|stuck=>exact w
def tH(C:Cw)(g:Rho->aI):TS:=λE σ H=>∃Y F,aT C.K C.F0 C.H0 F H σ Y/\cS C F (g Y) E
def ju(C:Cw)(X:Cx)(st:Stmt)(g:Rho->aI):Prop:=PS X st (tH (C.at X) g)
def kf(C:Cw)(X:Cx)(st:List Stmt)(g:Rho->aI):Prop:=ja X st (tH (C.at X) g)
def PS.imp{e:Stmt}{t t':TS}(h:PS X e t)(i:∀E σ H,t' E σ H->t E σ H):PS X e t':=λaA s σ H E I q=>h aA s σ H E I (i E σ H q)
def ja.imp{e:List Stmt}{t t':TS}(h:ja X e t)(i:∀E σ H,t' E σ H->t E σ H):ja X e t':=λaA s σ H E I q=>h aA s σ H E I (i E σ H q)
def aI.thn(r:aI)(k:Rho->aI):aI:=match r with|.nx Y=>k Y|r=>r
@[simp]theorem aI.thn_nx(Y:Rho)(k:Rho->aI):(aI.nx Y).thn k=k Y:=rfl
@[simp]theorem aI.thn_rt(m:Md)(d:D)(k:Rho->aI):(aI.rt m d).thn k=.rt m d:=rfl
@[simp]theorem aI.thn_bk(Y:Rho)(k:Rho->aI):(aI.bk Y).thn k=.bk Y:=rfl
@[simp]theorem aI.thn_ct(Y:Rho)(k:Rho->aI):(aI.ct Y).thn k=.ct Y:=rfl
@[simp]theorem aI.thn_exc(c:Str)(Y:Rho)(k:Rho->aI):(aI.exc c Y).thn k=.exc c Y:=rfl
@[simp]theorem aI.thn_stuck(k:Rho->aI):aI.stuck.thn k=.stuck:=rfl
section
variable{a b:Expr}{f A:Rho->aI}
def Pd:kf C X [] (λY=>.nx Y):=ja.imp M4 λE σ H q=>by exists Y,F,R,w,q;exact w σ F H (aE.refl _) R
def Pe{E:f8}(q:tH C (λY=>(f Y).thn A) E σ H):wg (tH C f) (tH C A) E σ H:=by exists Y,F,R,w,q;refine#[Y,F,R,?_];dsimp only at w;cases l:f Y with|nx ρ'=>rw[l]at w;exact λo F' H' z r=>#[ρ',F',r,cS.mono z w]|rt m d|bk ρ'|ct ρ'|exc c ρ'|stuck=>rw[l]at w;exact w
def Pf(l:ju C X st f)(d:kf C X sts A):kf C X (st::sts) (λY=>(f Y).thn A):=ja.imp (M5 l d) λE σ H q=>Pe q
def Res.thS(r:Res)(Y:Rho)(k:Md->D->aI):aI:=match r with|.ok m d=>k m d|.exc c=>.exc c Y|.stuck=>.stuck
@[simp]theorem Res.thS_ok(m:Md)(d:D)(Y:Rho)(k:Md->D->aI):(Res.ok m d).thS Y k=k m d:=rfl
@[simp]theorem Res.thS_exc(c:Str)(Y:Rho)(k:Md->D->aI):(Res.exc c).thS Y k=.exc c Y:=rfl
@[simp]theorem Res.thS_stuck(Y:Rho)(k:Md->D->aI):Res.stuck.thS Y k=.stuck:=rfl
def iE{F:Hp}{k:Md->D->aI}{E:f8}{Q:VK}(R:aT C.K C.F0 C.H0 F H σ Y)(w:cS C F ((g Y).thS Y k) E)(h:∀m d v F' H',cS C F' (k m d) E->aG F H F' H'->aT C.K C.F0 C.H0 F' H' σ Y->Rp C.K F' H' m d v->(m=.fr->∀a,v=.ref a->H a=none)->Q v H'):tG C g σ H Q:=by rw[aR];refine#[Y,F,R,?_];cases l:g Y with|stuck=>rw[l]at w;exact w|exc c=>rw[l]at w;exact λF' H' s=>w σ F' H' s.fsame (R.step s)|ok m d=>rw[l]at w;exact λv F' H' s r fr=>h m d v F' H' (cS.mono s.fsame w) s (R.step s) r fr
def Pg(l:PV C X e g)(hs:swapsWith e none pos.line X.env=pure false:=by rfl):ju C X (.Expr e pos) (λY=>(g Y).thS Y λ_ _=>.nx Y):=PS.imp (sY l hs) λE σ H q=>by exists Y,F,R,w,q;exact iE R w λm d v F' H' W s r o fr=>W σ F' H' (aE.refl _) r
noncomputable def lG(r:Res)(Y:Rho):aI:=r.thS Y λm d=>match m with|.bo=>.stuck|m=>.rt m d
def Ph(o:PV C X e g):ju C X (.Return (some e) pos) (λY=>lG (g Y) Y):=PS.imp (yK o) λE σ H q=>by exists Y,F,R,w,q;refine iE R w λm d v F' H' W s l r fr=>?_;cases m with|bo=>exact(show False from W).elim|fz=>exact W v F' H' l.st r (by nofun)|fr=>exact W v F' H' l.st r λ_ a ea=>R.st.same.free (fr rfl a ea)
def gU(Y:Rho)(i:Nat):aI:=match Y[i]? with|some (some (false,d))=>.rt .fz d|some (some (true,d))=>.rt .fr d|_=>.stuck
def Pj(i:Nat)(h:PE X (.Name x p) (f9 i)):ju C X (.Return (some (.Name x p)) pos) (λY=>gU Y i):=PS.imp (yK h) λE σ H q=>by exists Y,F,R,w,q;dsimp only at w;unfold gU at w;cases e:Y[i]? with|none=>rw[e]at w;exact w.elim|some o=>cases o with|none=>rw[e]at w;exact w.elim|some q=>exists m,d,q;exists v,l,r,t,R.slot i m d e;rw[e]at w;cases m with|false=>exact#[v,l,w v F H R.st r (by nofun)]|true=>exact#[v,l,w v F H R.st r λ_=>t rfl]
noncomputable def oo(t:Res)(Y:Rho)(x y:aI):aI:=t.thS Y λ_ d=>match d with|.bl true=>x|.bl false=>y|_=>.stuck
def Pk{s1 S:List Stmt}(o:kr C X c gc)(t:kf C X s1 f)(r:kf C X S A):ju C X (.If c s1 S pos) (λY=>oo (gc Y) Y (f Y) (A Y)):=by refine PS.imp (yL o t r) λE σ H q=>?_;exists Y,F,R,w,q;dsimp only at w;refine#[Y,F,R,?_];cases l:gc Y with|stuck=>rw[l]at w;exact w|exc c=>rw[l]at w;exact λF' H' s=>w σ F' H' s.fsame (R.step s)|ok m d=>rw[l]at w;cases d with|bl k=>(intro F' H' s;cases k with|true=>rw[aK rfl];exact#[Y,F',R.step s,cS.mono s.fsame w]|false=>rw[ba gr];exact#[Y,F',R.step s,cS.mono s.fsame w])|_=>exact w.elim
noncomputable def dA(Y:Rho)(i:Nat)(r:Res):aI:=r.thS Y λm d=>match m with|.fz=>.nx (Y.set i (some (false,d)))|.fr=>.nx (Y.set i (some (true,d)))|.bo=>.stuck
theorem aT.set{K:Fg}{F:Hp}{m:Bool}{d:D}(S:aT K F0 H0 F H σ Y)(s:aG F H F' H')(W:Rp K F' H' (if m then .bo else .fz) d v)(fr:m=true->∀a,v=.ref a->H a=none):aT K F0 H0 F' H' (σ.set i (some v)) (Y.set i (some (m,d))):=by have R:=S.step s;refine#[R.st,λj m' d' e=>?_,λj k V T a B G E q1 J=>?_,by rw[pq,pq];exact R.len];{by_cases N:j=i;{subst N;rw[ve]at e;by_cases o:j<Y.length;{rw[aK rfl,aK o]at e;cases e;refine#[v,by rw[ve,aK rfl,aK (by rw[R.len];exact o)],W,λz a ea=>S.st.same.free (fr z a ea)]};rw[aK rfl,ba o]at e;cases e};rw[jo (λz=>N z.symm)]at e ⊢;exact R.slot j m' d' e};(have L:∀(l:Nat) (d:D) (b:Addr),l≠i->Y[l]? = some (some (true,d))->σ[l]? = some (some (.ref b)) -> ¬ jW (H b):=λl d b o e q=>by exists u,q',r,_,S.slot l true d e;rw[q]at q';cases q';exists b',Z,_,t,r;cases Z;exact t.there);by_cases N:j=i;{subst N;rw[jo B]at E J;rw[ve]at G q1;by_cases o:j<Y.length;{rw[aK rfl,aK o]at G;rw[aK rfl,aK (by rw[R.len];exact o)]at q1;cases G;cases q1;exact L k T a (λz=>B z.symm) E J (iX (fr rfl a rfl))};rw[aK rfl,ba o]at G;cases G};by_cases hk:k=i;{subst hk;rw[jo (λz=>B z.symm)]at G q1;rw[ve]at E J;by_cases o:k<Y.length;{rw[aK rfl,aK o]at E;rw[aK rfl,aK (by rw[R.len];exact o)]at J;cases E;cases J;exact L j V a B G q1 (iX (fr rfl a rfl))};rw[aK rfl,ba o]at E;cases E};rw[jo (λz=>N z.symm)]at G q1;rw[jo (λz=>hk z.symm)]at E J;exact R.apart j k V T a B G E q1 J
def tQ{E:f8}(q:tH (C.at X) (λY=>dA Y i (g Y)) E σ H):mY (tG (C.at X) g) (mX i) E σ H:=by exists Y,F,R,w,q;dsimp only at w;refine iE R w λm d v F' H' W s l r fr=>?_;cases m with|bo=>exact(show False from W).elim|fz=>exact W _ F' H' (aE.refl _) (R.set (m:=false) s r (by nofun))|fr=>exact W _ F' H' (aE.refl _) (R.set (m:=true) s r λ_ a ea=>fr rfl a ea)
def Pm(hN:X.N.Nodup)(hi:X.N[i]? = some x)(d:Loc X.env.scope x)(m:PV C X e g)(hs:swapsWith e (some (.Name x pos')) pos.line X.env=pure false:=by rfl)(l:X.fn x=true\/X.env.scope.names.lookup x=some .local:=by first|exact .inl rfl|exact .inr rfl|assumption):ju C X (.Assign [.Name x pos'] e pos) (λY=>dA Y i (g Y)):=PS.imp (Nb hN hi d m hs l) λE σ H q=>tQ q
end
def PI.imp{t t':TI}(h:PI X tg e t)(i:∀σ H R,t' σ H R->t σ H R):PI X tg e t':=λaA s σ H R I q=>h aA s σ H R I (i σ H R q)
def PI.or{t t':TI}(h:PI X tg e t)(h':PI X tg e t'):PI X tg e (λσ H R=>t σ H R\/t' σ H R):=λaA s σ H R I q=>by rcases q with q|q;{exact h aA s σ H R I q};exact h' aA s σ H R I q
structure lH(K:Fg)(F:Hp)(J:It)(ds:List D):Prop where
 go:∀i H,aE F H->i<ds.length->J.go i H
 stop:∀i H,aE F H->ds.length<=i->J.stop i H
 yld:∀i Fc H x H',aE F Fc->aE Fc H->i<ds.length->J.yld i H x H'->∃F' d,ds[i]? = some d/\aG Fc H F' H'/\aB K F' d x
def xy(C:Cw)(F H:Hp)(σ:L2.St)(r:Res)(R:It->Hp->Prop):Prop:=match r with|.ok _ (.lst ds)=>∀J F' H',aG F H F' H'->lH C.K F' J ds->R J H'|.exc c=>∀F' H',aG F H F' H'->C.EE c σ H'|_=>False
def sg(C:Cw)(g:Rho->Res):TI:=λσ H R=>∃Y F,aT C.K C.F0 C.H0 F H σ Y/\xy C F H σ (g Y) R
def kz(C:Cw)(X:Cx)(tg e:Expr)(g:Rho->Res):Prop:=PI X tg e (sg (C.at X) g)
def gW(r:Res):Res:=r.thn λ_ d=>match d with|.lst ds|.tup ds=>.ok .fz (.lst ds)|_=>.stuck
def Pn{K:Fg}{F:Hp}{a:Addr}(l:SqT K F a U)(r:aD K F ds U):lH K F (DG K a) ds where
 go:=λi H s f=>by(have A:i<U.length:=by rw[r.length];exact f);exact#[U,U[i],aE.seqT s l,by simp[A]]
 stop:=λi H s f=>#[U,aE.seqT s l,by rw[r.length];exact f]
 yld:=λi Fc H x H' m S f y=>by exists rfl,y,y;have t:=y U (aE.seqT S (aE.seqT m l));exists d,e,o,r.get t;exact#[Fc,d,e,.refl S,o.mono m _ _]
def Po(h:PV C X e g):kz C X tg e (λY=>gW (aM (g Y))):=by
 have h:=eN h;refine PI.imp (PI.or (Ng h) (Nh h)) λσ H R q=>?_;exists Y,F,t,w,q;dsimp only at w;cases E:aM (g Y)with
 |stuck=>rw[E]at w;exact w.elim|exc c=>refine .inl ?_;unfold sZ;rw[aR];refine#[Y,F,t,?_];rw[E]at w ⊢;exact w|ok m d =>
  rw[E]at w;have G:m=.fz:=by cases h:g Y with|ok m' L=>rw[h]at E;cases m' <;> cases E <;> rfl|exc c|stuck=>rw[h]at E;cases E
  subst G;cases d with
  |lst ds =>
   refine .inl ?_; unfold sZ; rw [aR]; refine #[Y, F, t, ?_]; rw [E]; intro v F' H' st f _; have f : aB X.K F' (.lst ds) v := f; simp only [aB] at f; obtain ⟨a, U, rfl, l, r⟩ := f; exact #[a, rfl, #[U, st.sub.seq l], w _ F' H' st #[fun i H s o => by
       have J:i<U.length:=by rw[r.length];exact o
       exact#[U,U[i],s.seq l,by simp[J]],λi H s o=>#[U,s.seq l,by rw[r.length];exact o],λi Fc H x H' A S o y=>by
       exists rfl,y,y;have D:=y U (S.seq (A.seq l));exists d,e,B,r.get D;exact#[Fc,d,e,.refl S,B.mono A _ _]]]
  |tup ds=>refine .inr ?_;unfold wj;rw[aR];refine#[Y,F,t,?_];rw[E];intro v F' H' st f _;have f:aB X.K F' (.tup ds) v:=f;simp only[aB]at f;exists a,U,rfl,l,r,f;exact#[a,rfl,#[U,aE.seqT st.sub l],w _ F' H' st (Pn l r)]|_=>exact w.elim
def cC(lo hi:Int):List D:=(List.range (hi-lo).toNat).map λi=>.int (lo+(i:Nat))
def gD(r:bF):Res:=r.thn λU=>match U with|[(_,.int n)]=>if(decide (-(2 ^ 62)<=n)&&decide (n<2 ^ 62))=true then .ok .fz (.lst (cC 0 n))else .stuck|_=>.stuck
def Pp{K:Fg}{F:Hp}{lo hi:Int}:lH K F (ui lo (hi-lo).toNat) (cC lo hi) where
 go:=λi H s h=>by simpa[cC,ui]using h
 stop:=λi H s h=>by simpa[cC,ui]using h
 yld:=λi Fc H x H' a S h y=>by(exists rfl,rfl,y;have h':i<(hi-lo).toNat:=by simpa[cC]using h);refine#[Fc,.int (lo+i),?_,.refl S,by simp only[aB]];simp only[cC,h7,Bw h',ti]
def Pq{a:Expr}(l:Gl X "range")(f:X.mg "range"=none)(o:j3 C X [a] gs)(hs:starEach [a] X.env=[(false,eval a X.env)]:=by rfl):kz C X tg (.Call (.Name "range" p) [a] [] pos) (λY=>gD (gs Y)):=by refine PI.imp (Nj l f o hs) λσ H R q=>?_;exists Y,F,t,w,q;dsimp only at w;unfold yN;refine#[Y,F,t,?_];cases E:gs Y with|stuck|exc c=>rw[E]at w;exact w|ok U=>rw[E]at w;intro vs F' H' st rp;unfold gD at w;rw[bF.thn_ok]at w;split at w;{rename_i m n;split at w;{rename_i d;rw[cw,fw,fw]at d;exists v,rfl,r,rp.one;cases r.int;have:=Pp (K:=X.K) (F:=F') (lo:=0) (hi:=n);rw[Int.sub_zero]at this;exact#[n,rfl,d.1,d.2,w _ F' H' st this]};exact w.elim};exact w.elim
def FG(C:Cw)(X:Cx)(tg:Expr)(k:D->Rho->Option Rho):Prop:=∃t:TG,PG X tg t/\∀F H σ Y ρ' d v Q,aT X.K C.F0 C.H0 F H σ Y->aB X.K F d v->k d Y=some ρ' ->
 (∀a F' H',aE F F'->aT X.K C.F0 C.H0 F' H' a ρ'->Q a H')->t v σ H Q
def lI(i:Nat):D->Rho->Option Rho:=λd Y=>some (Y.set i (some (false,d)))
noncomputable def bH(k:D->Rho->Option Rho)(body:Rho->aI):List D->Rho->aI|[],Y=>.nx Y|d::ds,Y=>match k d Y with|none=>.stuck|some f=>match body f with|.nx a|.ct a=>bH k body ds a|.bk a=>.nx a|r=>r
def lJ(r:Res)(Y:Rho)(k:D->Rho->Option Rho)(body:Rho->aI):aI:=r.thS Y λ_ d=>match d with|.lst ds=>bH k body ds Y|_=>.stuck
theorem Pr{k:D->Rho->Option Rho}{G:Rho->aI}(hp:PassesOwn (model X.prog X.w) X.A X.env X.xe)(hc:X.calm=true)(hi:kz C X tg e g)(hg:FG C X tg k)(hb:kf C X body G)(hs:∀x,foldedSetIterable e X.env x=pure x:=by intro _;rfl):ju C X (.For tg e body [] pos) (λY=>lJ (g Y) Y k G):=by exists t,ht,hk,hg;refine PS.imp (Nl hp hc hi ht hb hs) λE σ H q=>?_;exists Y,F,RS,w,q;dsimp only at w;unfold wl;refine#[Y,F,RS,?_];cases er:g Y with|stuck=>rw[er]at w;exact w|exc c=>rw[er]at w;exact λF' H' s=>w σ F' H' s.fsame (RS.step s)|ok m d=>rw[er]at w;cases d with|lst ds=>(intro J F1 H1 s1 hJ;have w:cS (C.at X) F1 (bH k G ds Y) E:=cS.mono s1.fsame w;refine#[λi m o H'=>m=ds.length-i/\i<=ds.length/\∃ρ' F',aE F1 F'/\aT X.K C.F0 C.H0 F' H' o ρ'/\cS (C.at X) F' (bH k G (ds.drop i) ρ') E,#[ds.length,by simp,gw _,Y,F1,aE.refl _,RS.step s1,by simpa using w],?_];rintro i m o H' ⟨rfl,hi,ρ',F',sF,R',w'⟩;by_cases l:i<ds.length;{refine .inr #[hJ.go i H' (sF.trans R'.sub) l,λN S=>∃f B,aE F1 B/\aT X.K C.F0 C.H0 B S N f/\cS (C.at X) B (bH k G (ds.drop (i+1)) f) E,λN S ⟨f,B,a,b,c⟩=>#[ds.length-(i+1),by lia,rfl,l,f,B,a,b,c],λx S y=>?_];(exists B,d,ed,V,rd,hJ.yld i F' H' x S sF R'.sub l y;have hd:ds.drop i=d::ds.drop (i+1):=by rw[vf l];rw[gm l]at ed;cases ed;rfl);rw[hd]at w';unfold bH at w';cases ek:k d ρ' with|none=>rw[ek]at w';exact w'.elim|some r=>rw[ek]at w';dsimp only at w';refine hk B S o ρ' r d x _ (R'.step V) rd ek λaa F3 H3 z3 R3=>?_;have T:aE F1 F3:=(sF.trans V.fsame).trans z3;have W:=cS.mono (V.fsame.trans z3) w';refine#[r,F3,R3,?_];cases eb:G r with|nx f|ct f=>rw[eb]at W;exact λL F4 H4 Z R4=>#[f,F4,T.trans Z,R4,cS.mono Z W]|bk f=>rw[eb]at W;exact λL F4 H4 Z R4=>W L F4 H4 Z R4|rt m d|exc c f|stuck=>rw[eb]at W;exact W};(have ei:i=ds.length:=by lia);subst ei;refine .inl #[hJ.stop _ H' (sF.trans R'.sub) (dm _),?_];rw[tj]at w';exact w' o F' H' (aE.refl _) R')|_=>exact w.elim
end D3
namespace L2
theorem tR {env : Env} : ∀ (names : List (Str × NameKind)) (a : List (Str × Addr)), (∀ y ∈ names, y.2 = .free → ∃ c, env.cells.lookup y.1 = some c) → (∀ y c, a.lookup y = some c → env.cells.lookup y = some c) →
    ∃cl,(forIn names a λ(x:Str×NameKind) (cs:List (Str×Addr))=>(if x.2 == .free then(do let c <- cellOf env x.1;pure (ForInStep.yield ((x.1,c)::cs)))else pure (ForInStep.yield cs):Sem (ForInStep (List (Str×Addr)))))=pure cl /\
     (∀y c,cl.lookup y=some c->env.cells.lookup y=some c)/\(∀y c,a.lookup y=some c->cl.lookup y=some c)/\∀y,(y,NameKind.free)∈names->∃c,cl.lookup y=some c
 |[],a,_,l=>#[a,by rw[vg],l,λ_ _ h=>h,λ_ h=>by cases h]|(n,k)::r,a,h,l=>by
  rw[C9];by_cases hk:k=.free
  . subst hk;exists c,o,h (n,.free) c6 rfl;have D:cellOf env n=pure c:=by unfold cellOf;rw[o]
    have e:((if(NameKind.free==NameKind.free)=true then(do let c <- cellOf env n;pure (ForInStep.yield ((n,c)::a)))else pure (ForInStep.yield a)):Sem (ForInStep (List (Str×Addr))))=pure (ForInStep.yield ((n,c)::a)):=by rw[aK (by decide),D,q0]
    exists cl,B,A,E,t,tR (env:=env) r ((n,c)::a) (λy f=>h y (df f)) (λy m q=>by
     rw[iq]at q;cases d:y==n with|true=>rw[d]at q;cases q;rw[dc.mp d];exact o|false=>rw[d]at q;exact l y m q)
    refine#[cl,?_,A,λy m q=>?_,λy f=>?_]
    . dsimp only;rw[e,q0];exact B
    . cases d:y==n with|true=>have:=dc.mp d;subst this;have q':=l y m q;rw[o]at q';cases q';exact E y c (by rw[iq,d])|false=>exact E y m (by rw[iq,d];exact q)
    . rcases dq.mp f with z|z;{cases z;exact#[c,E n c (by rw[iq,oi])]};exact t y z
  . (have e:((if(k==NameKind.free)=true then(do let c <- cellOf env n;pure (ForInStep.yield ((n,c)::a)))else pure (ForInStep.yield a)):Sem (ForInStep (List (Str×Addr))))=pure (ForInStep.yield a):=by rw[ba (by simpa using hk)]);exists cl,B,A,E,t,tR (env:=env) r a (λy f=>h y (df f)) l;refine#[cl,?_,A,E,λy f=>?_];{dsimp only;rw[e,q0];exact B};rcases dq.mp f with z|z;{cases z;exact absurd rfl hk};exact t y z
def Ps(h:∀y∈scope.names,y.2=.free->∃c,env.cells.lookup y.1=some c):∃cl,closureFor scope env=pure cl/\(∀y c,cl.lookup y=some c->env.cells.lookup y=some c)/\∀y,(y,NameKind.free)∈scope.names->∃c,cl.lookup y=some c:=by exists cl,d,a,_,E,tR (env:=env) scope.names [] h (λy c q=>by simp at q);refine#[cl,?_,a,E];unfold closureFor;rw[bind_pure];exact d
def Pt(A:∀y∈scope.names,y.2 ≠ .cell)(h:(relabel scope env).names.lookup x=some .cell\/(relabel scope env).names.lookup x=some .free):(x,NameKind.free)∈scope.names:=by
 unfold relabel at h;dsimp only at h;have go:∀(l:List (Str×NameKind)),(∀y∈l,y.2 ≠ .cell)->((l.map λ(n,k)=>if(k==NameKind.free&&env.scope.kind == .function&&env.kindOf n==some .cell)then(n,NameKind.cell)else(n,k)).lookup x=some .cell\/(l.map λ(n,k)=>if(k==NameKind.free&&env.scope.kind == .function&&env.kindOf n==some .cell)then(n,NameKind.cell)else(n,k)).lookup x=some .free)->(x,NameKind.free)∈l:=by
  intro l
  induction l with
  |nil=>intro _ h;simp at h|cons y l m =>
   intro f h;exists n,k,y;rw[dw]at h;by_cases o:x=n
   . subst o;have hk:k=.free:=by
       by_cases hk:k=.free
       . exact hk
       . have e:(k==NameKind.free&&env.scope.kind == .function&&env.kindOf x==some .cell)=false:=by
           have:(k==NameKind.free)=false:=by simpa using hk
           rw[this];rfl
         simp only[e,io,jd,iq,oi]at h;rcases h with h|h
         . cases h;exact absurd rfl (f _ c6)
         . cases h;exact absurd rfl hk
     subst hk;exact c6
   . (have t:(x==n)=false:=by simpa using o);(have r:∀(kk:NameKind) (L:List (Str×NameKind)),((n,kk)::L).lookup x=L.lookup x:=λkk L=>by rw[iq,t]);by_cases a:(k==NameKind.free&&env.scope.kind == .function&&env.kindOf n==some .cell)=true;{dsimp only at h;rw[aK a,r]at h;exact df (m (λy d=>f y (df d)) h)};dsimp only at h;rw[ba a,r]at h;exact df (m (λy d=>f y (df d)) h)
 exact go scope.names A h
noncomputable def aY(X:Cx)(scope:Scope)(N:List Str)(cl:List (Str×Addr))(C:Addr)(fp:List Addr)(s3:cc)(a:Hp):Cx where
 prog:=X.prog
 w:=X.w
 K:=X.K
 mg:=X.mg
 base:=X.base
 A:=X.A
 N:=N
 s₀:=s3
 H₀:=a
 env:=compEnvC scope cl C X.env
 outer:=X.stack
 stack:=X.stack
 ex:=fp
 fn:=λ_=>false
 calm:=X.calm
 pn:=[]
 xe:=λ_ _=>False
def dQ(X:Cx)(cs:List Expr)(t:TT):Prop :=
 ∀(aA:e7) (s:cc) (σ:St) (H:Hp) (Q:Bool->Hp->Prop),Inv X aA σ H s->t σ H Q ->
  wpAny (model X.prog X.w) X.A (forIn cs true λc r=>if r=true then do let ok <- isTrue c X.env (eval c X.env);pure (ForInStep.yield ok)else pure (ForInStep.yield r)) (TP X aA σ Q) X.xe s
def zY:dQ X [] (λ_ H Q=>Q true H):=λaA s σ H Q I h=>by rw[vg];exact cq #[H,I,h]
theorem zZ{X:Cx}:∀cs:List Expr,(forIn cs false λc r=>if r=true then do let ok <- isTrue c X.env (eval c X.env);pure (ForInStep.yield ok)else pure (ForInStep.yield r):Sem Bool)=pure false|[]=>by rw[vg]|c::cs=>by rw[C9,ba gr,q0];exact zZ cs
def Pu{cs:List Expr}{t u:TT}(f:PT X c t)(d:dQ X cs u):dQ X (c::cs) (sX t u):=λaA s σ H Q I h=>by rw[C9,aK rfl];refine bv (bv (thn (f aA s σ H _ I h) λb S ⟨H1,a,q1⟩=>cq ?_));cases b with|true=>rw[aK rfl]at q1;exact d aA S σ H1 Q a q1|false=>rw[ba gr]at q1;dsimp only;rw[zZ];exact cq #[H1,a,q1]
def FH(comp tg iter:Expr)(ifs:List Expr)(a:Addr->Env->Sem Unit):Prop:=∀prog w (A:dj) it D env,A.under (.compLoop comp 0 it (.ref D) env)=A/\(model prog w).den (.compLoop comp 0 it (.ref D) env)=Sem.onRaise (do
 standAt iter.pos
 match <- pyNext it with
 |none=>pure (.done .next)|some v =>
  letOwnedTupleGo tg it v
  assign tg env v
  let mut ok:=true
  for c in ifs do
   if ok then ok <- isTrue c env (eval c env)
  if ok then
   a D env
  again (.compLoop comp 0 it (.ref D) env)) (λx=>do noteFrame x env;theTreesLotGoes x)
def Pv {prog : fc} {w : dh} {A : dj} {R : Result → cc → Prop} {s : cc} {comp t iter : Expr} {ifs : List Expr} {a : Addr → Env → Sem Unit} {it : bb} {D : Addr} {env : Env} (ht : FH comp t iter ifs a) (I : Nat → cc → Prop) (turn : ∀ n s, I n s → wpAny (model prog w) A (pyNext it) (fun r s1 => match r with
      |none=>R (.ok .next) s1| some v => wpAny (model prog w) A (letOwnedTupleGo t it v) (fun _ S => wpAny (model prog w) A (assign t env v) (fun _ l =>
          wpAny (model prog w) A (forIn ifs true λc r=>if r=true then do let ok <- isTrue c env (eval c env);pure (ForInStep.yield ok)else pure (ForInStep.yield r)) (λok s3 =>
           if ok=true then wpAny (model prog w) A (a D env) (λ_ f=>∃m,m<n/\I m f) (λ_ _=>False) s3
           else ∃ m, m < n ∧ I m s3) (fun _ _ => False) l) (fun _ _ => False) S) (fun _ _ => False) s1) (fun _ _ => False) s)
    (n:Nat) (h:I n s) :
    codeAny (model prog w) A (.compLoop comp 0 it (.ref D) env) R s:=by
 refine codeAny_loop rfl I (λn s E=>?_) n h;rw[(ht prog w A ..).1,(ht prog w A ..).2];refine wpAny_noted ?_;refine bv (nt (bv (ij (turn n s E) (λr s1 B=>?_) λ_ _ h'=>h'.elim)));cases r with|none=>exact cq B|some v=>refine bv (ij B (λ_ S d=>?_) λ_ _ h'=>h'.elim);refine bv (ij d (λ_ l G=>bv (ij G (λok s3 o=>?_) λ_ _ h'=>h'.elim)) λ_ _ h'=>h'.elim);cases ok with|false=>exact cq #[rfl,o]|true=>exact bv (ij o (λ_ f F=>cq #[rfl,F]) λ_ _ h'=>h'.elim)
def cD(aC:List Nat)(σ:St):St:=aC.map λi=>(σ[i]?).getD none
def pM(σ a:St):Prop:=σ.length=a.length/\∀(j:Nat) v,σ[j]? = some (some v)->a[j]? = some (some v)
def nJ(aC:List Nat)(k:Nat)(wi:TI)(gt:TG)(tt:TT)(te:TE):TE:=λσ H Q=>wi σ H λJ H1=>∀D,H1 D=none ->
 ∃W:Nat->Nat->List V->Hp->Prop,(∃m,W 0 m [] (upd H1 D (.lst [])))/\∀i m ys H,W i m ys H->H D=some (.lst ys) /\
  ((J.stop i H/\Q (.ref D) H)\/(J.go i H/\ys.length<sizeLine/\∀x H',J.yld i H x H'->gt x (cD aC σ++List.replicate k none) H' λa l=>pM (cD aC σ++List.replicate k none) a/\tt a l λb f =>
   if b=true then te a f λy d=>d D=some (.lst ys)/\∃m',m'<m/\W (i+1) m' (ys++[y]) (upd d D (.lst (ys++[y])))else ∃m',m'<m/\W (i+1) m' ys f))
def FI(aC:List Nat)(k:Nat)(wi:TI)(gt:TG)(tt:TT){d:Type}(O:List d->HO)(tb:St->Hp->Addr->List d->(List d->Hp->Prop)->Prop):TE:=λσ H Q=>wi σ H λJ H1=>∀D,H1 D=none ->
 ∃W:Nat->Nat->List d->Hp->Prop,(∃m,W 0 m [] (upd H1 D (O [])))/\∀i m ys H,W i m ys H->H D=some (O ys) /\
  ((J.stop i H/\Q (.ref D) H)\/(J.go i H/\ys.length<sizeLine/\∀x H',J.yld i H x H'->gt x (cD aC σ++List.replicate k none) H' λa o=>pM (cD aC σ++List.replicate k none) a/\tt a o λb f =>
   if b=true then tb a f D ys λzs l=>∃m',m'<m/\W (i+1) m' zs l else ∃m',m'<m/\W (i+1) m' ys f))
structure CK(X:Cx)(comp tg iter:Expr)(ifs:List Expr)(scope:Scope)(N:List Str){γ:Type}(a:List γ->HO)(mk:Sem bb)(act:Addr->Env->Sem Unit)(tb:St->Hp->Addr->List γ->(List γ->Hp->Prop)->Prop):Prop where
 cl:∃gs,clausesOf comp=#[tg,iter,ifs,0]::gs
 tn:FH comp tg iter ifs act
 st:∀{it acc env R s},codeAny (model X.prog X.w) X.A (.compLoop comp 0 it acc env) R s->wpAny (model X.prog X.w) X.A (pyIter it) (λit' O=>codeAny (model X.prog X.w) X.A (.compLoop comp 0 it' acc env) R O) (notedBy (model X.prog X.w) X.A env λx O=>R (.error x) O) s->codeAny (model X.prog X.w) X.A (.compStart comp 0 it acc env) R s
 nw:∀{aA σ H s R},Inv X aA σ H s->(∀O,O.heap.objs.size=s.heap.objs.size+1->(∀b o,s.heap.get? b=some o->O.heap.get? b=some o)->Inv X aA σ (upd H s.heap.objs.size (a [])) O->R (.ref s.heap.objs.size) O)->wpAny (model X.prog X.w) X.A mk R X.xe s
 ac:∀{cl C fp s3 H3 aA σ H s D ys K R},Inv (aY X scope N cl C fp s3 H3) aA σ H s->ys.length<sizeLine->tb σ H D ys K->(∀zs H' O,Inv (aY X scope N cl C fp s3 H3) aA σ H' O->K zs H'->R () O)->wpAny (model X.prog X.w) X.A (act D (compEnvC scope cl C X.env)) R (λ_ _=>False) s
def pN{comp:Expr}{γ:Type}{d:List γ->HO}{mk:Sem bb}{ci:Addr->Env->Sem Unit}{tb:St->Hp->Addr->List γ->(List γ->Hp->Prop)->Prop}{use:Option (bb->Sem Unit)}{QQ:di}{σ:St}{Q:VK}(hc:X.calm=true)(hi:PI X tg iter wi)(cH:∀y∈scope.names,y.2 ≠ .cell)(cV:scope.kind=.function)(d5:∀y∈scope.names,y.2=.local->scope.names.lookup y.1=some .local)(cW:∀y∈scope.names,y.2=.free->X.env.kindOf y.1=some .cell\/X.env.kindOf y.1=some .free)(dF:aJ.map some=aC.map λi=>X.N[i]?)(eA:∀y∈aJ,(y,NameKind.free)∈scope.names)(d9:∀y∈aJ,(relabel scope X.env).names.lookup y=some .cell\/(relabel scope X.env).names.lookup y=some .free)(hg:∀cl C fp S H3,PG (aY X scope (aJ++tgN) cl C fp S H3) tg gt)(hf:∀cl C fp S H3,dQ (aY X scope (aJ++tgN) cl C fp S H3) ifs tt)(k:CK X comp tg iter ifs scope (aJ++tgN) d mk ci tb)(hs:∀x,foldedSetIterable iter X.env x=pure x)(I:Inv X aA σ H s)(h:FI aC tgN.length wi gt tt d tb σ H Q)(bf:∀(D Z:Addr) (s6:cc) (V:Hp),(∃m,s6.heap.Ns Z m)->(∀L,Heap.SameBut Z s6.heap L->Inv X aA σ V {s6 with heap:=L})->V Z=none->X.s₀.heap.objs.size<=Z->Z≠X.env.locals->(∀x c,X.env.cells.lookup x=some c->c≠Z)->(∀p∈X.pn++aA,p.1≠Z)->Q (.ref D) V->compPost (model X.prog X.w) X.A X.xe use QQ (.ref D) Z (.ok .next) s6):wpAny (model X.prog X.w) X.A (comprehension comp scope X.env (firstIterPos [#[tg,iter,ifs,0]] pos) mk (firstAsync [#[tg,iter,ifs,0]]) (firstIter [#[tg,iter,ifs,0]] X.env) use) QQ X.xe s:=by
 exists cl,ar,l,ag,Ps (scope:=scope) (env:=X.env) λy hy hk=>I.ok.has y.1 (cW y hy hk);exists gs,cg,k.cl;refine wpAny_comprehension_free (use:=use) cg hs ar cV d5 (thn (hi aA s σ H _ I h) λv s1 h1=>thn h1 λck s2 B=>?_);exists it,fp,tn,J,H2,e,I2,T,ak,f2,q,B;subst e;have hn:H2 s2.heap.objs.size=none:=I2.hok.fresh (dm _);obtain⟨W,⟨m0,w0⟩,turn⟩:=q s2.heap.objs.size hn;refine k.nw I2 λS bj E t=>?_;generalize bq:upd H2 s2.heap.objs.size (d [])=H3 at t w0;have bh:∀b∈fp,b<s2.heap.objs.size:=λb f=>by exists o,eo,_,T.obj 0 _ ak b f;exact dv eo
 have bu:s2.heap.objs.size∉fp:=λf=>jn _ (bh _ f);refine wpAny_newFunctionEnv cH (by intro y hy;simp at hy) (λh4 az ay=>?_) cV
 try dsimp only at az ay ⊢
 have K:∀b o,S.heap.get? b=some o->h4.get? b=some o:=λb o e=>ay.extBut b o (gj (dv e)) (hps e);have aa:∀b∈fp,b∉h9 X.stack:=λb f z=>by exists _,f1,bz,_,f2 b f;rcases dq.mp (I2.stkSub b z)with q|q;{exact f1 q};exact bz q
 have am:(aY X scope (aJ++tgN) cl S.heap.objs.size fp S H3).Ok :=
  { mod:=t.ok.mod
    kind:=cV
    glob:=t.ok.glob
    blt:=t.ok.blt
    above:=dm _
    inj:=λx y c h1 B=>t.ok.inj x y c (l x c h1) (l y c B)
    has:=λx hx=>ag x (Pt cH hx)
    cab:=λx c z=>by cases z
    hd:=t.ok.hd
    frames:=t.ok.frames
    stk:=.inl rfl
    exf:=λb f=>#[gj (by show b<S.heap.objs.size;rw[bj];exact Bx (bh b f)),λx c e=>(f2 b f).2.2.2.2.1 x c (l x c e)]
    bs:=t.bs
    bsz:=ii t.ok.bsz t.sz
    noex:=λb o e f=>by exists _,_,_,f3,_,f2 b f;rcases f3 with z|z;{exact I2.ok.noex b o e z};exact absurd (dv (I2.ok.bs b o e).1) (Nat.not_lt.mpr z)
    exfs:=aa
    funs:=t.stack
    frf:=t.stkFree
    tabs:=t.ok.tabs.mono t.base.tbls }
 have G:aJ.length=aC.length:=by have:=congrArg List.length dF;simpa using this
 generalize ae:cD aC σ++List.replicate tgN.length none=σ0 at turn;have Ic:Inv (aY X scope (aJ++tgN) cl S.heap.objs.size fp S H3) [] σ0 H3 {S with heap:=h4,toks:=S.toks+([]:List (Str×bb)).length}:=by refine#[am,rfl,t.bare,Un.kept K,#[_,az,λi y v h1 B h3=>?_],λx c e=>?_,t.hok.fresh (dm _),λx c e=>t.freeC x c (l x c e),λp hp=>absurd (show p∈([]:e7)from hp) (by simp),t.hok.kept K,?_];{by_cases hi:i<aC.length;{(have ey:aJ[i]? = some y:=by have h1:(aJ++tgN)[i]? = some y:=h1;rw[mv (by rw[G];exact hi)]at h1;exact h1);(have hj:X.N[aC[i]]? = some y:=by(have e1:(aJ.map some)[i]? = (aC.map λi=>X.N[i]?)[i]?:=by rw[dF]);rw[h7,h7,ey,gm hi]at e1;simpa using e1.symm);(have ev:σ[aC[i]]? = some (some v):=by rw[<- ae,mv (by simpa[cD]using hi)]at B;unfold cD at B;rw[h7,gm hi]at B;simp only[ti,By]at B;cases z:σ[aC[i]]? with|none=>rw[z]at B;cases B|some o=>rw[z]at B;exact congrArg some B);have aw:=eA y (u3 ey);have bc:=cW _ aw rfl;exists m,_,hl,t.loc;exists u,ru,lk,hl aC[i] y v hj ev (by rcases bc with z|z;exact .inr (.inl z);exact .inr (.inr z));refine#[u,ru,.inr #[d9 y (u3 ey),?_]];rcases lk with⟨hk,_⟩|⟨_,c,ec,ic⟩;{rcases bc with z|z;{rw[show X.env.kindOf y=some .cell from z]at hk;cases hk};rw[show X.env.kindOf y=some .free from z]at hk;cases hk};exists c',bi,ag y aw;have:=l y c' bi;rw[ec]at this;cases this;exact#[c,bi,ic.keeps K]};rw[<- ae,nv (by simpa[cD]using hi),ny]at B;split at B <;> cases B};{exists v,q,t.cell x c (l x c e);exact#[v,q.keeps K]};rw[<- ae];show(cD aC σ++List.replicate tgN.length none).length=(aJ++tgN).length;simp[cD,G]
 have au:∀{H':Hp},(∀b∈fp,H' b=none)->∀b∈fp,cP (aY X scope (aJ++tgN) cl S.heap.objs.size fp S H3) [] H' b:=λhn b f =>
  #[hn b f,(am.exf b f).1,aa b f,.inl f,(am.exf b f).2,λp hp=>absurd (show p∈([]:e7)from hp) (by simp)]
 have loop:codeAny (model X.prog X.w) X.A (.compLoop comp 0 (.ref it) (.ref s2.heap.objs.size) (compEnvC scope cl S.heap.objs.size X.env)) (compPost (model X.prog X.w) X.A X.xe use QQ (.ref s2.heap.objs.size) S.heap.objs.size) {S with heap:=h4,toks:=S.toks+([]:List (Str×bb)).length}:=by
  refine Pv k.tn (λn O=>∃i ys H',Inv (aY X scope (aJ++tgN) cl S.heap.objs.size fp S H3) [] σ0 H' O/\tn i O.heap/\(∀b∈fp,H' b=none)/\W i n ys H') ?_ m0
   #[0,[],H3,Ic,T.keep _ _ _ ak (λb f o e=>K b o (E b o e)),λb f=>by rw[<- bq,aP (by intro z;rw[z]at f;exact bu f)];exact(f2 b f).1,w0]
  rintro n s5 ⟨i,ys,V,I5,st5,fr5,w5⟩;exists hD,hw,turn i n ys V w5;rcases hw with⟨stop,qq⟩|⟨go,hlen,step⟩
  . refine thn (T.done (aY X scope (aJ++tgN) cl S.heap.objs.size fp S H3) rfl rfl rfl hc i [] s5 σ0 V _ I5 (au fr5) st5 stop) λr s6 ⟨hr,I6⟩=>?_;subst hr;exists m,hm,_,id I6.loc;refine bf s2.heap.objs.size S.heap.objs.size s6 V #[m,hm] (λL F=>?_) I6.free t.sz (λz=>?_) (λx c ec z=>?_) (λp hp z=>?_) qq;rotate_left
    . obtain⟨m,⟨o,es,ep,ho,_⟩,_⟩:=id t.loc;rw[<- z]at ho;exact jn _ (dv ho)
    . exists v,o,ho,_,t.cell x c ec;rw[z]at ho;exact jn _ (dv ho)
    . have:=(t.pin p hp).1;rw[z]at this;exact jn _ (dv this)
    have u:=I6.base;have aq:∀b o,S.heap.get? b=some o->b≠S.heap.objs.size:=λb o e=>gj (dv e);have un:Un (h9 X.stack) fp H3 V S.heap L:=by refine#[λb o e n f hx=>F.extBut b o (aq b o e) (u.keep b o e n f hx),λb o e n f hx=>?_,u.free,λb o e hx=>?_,u.tups,u.frzs,u.tbls];{exists sl,q,u.slot b o e n f hx;exact#[sl,F.extBut b _ (aq b o e) q]};exists o',q,u.there b o e hx;exact#[o',F.extBut b _ (aq b o e) q]
    have hok : gh X.prog X.w V L := fun a o e => (I6.hok a o e).stay (fun b v f q => F.extBut b v (by
        intro z;have fr:=I6.free;rcases f with f|f
        . rw[f]at z;rw[z]at e;rw[show V S.heap.objs.size=none from fr]at e;cases e
        . rw[z,show V S.heap.objs.size=none from fr]at f;cases f) q) (λ_ q=>q) λ_ _ q=>q
    have bn:=I6.os;exists hh,g6,d6,t6,o6,s6;obtain rfl:o6=S.os:=bn;have I8:=t.call (h':=L) (g':=g6) (d':=d6) (t':=t6) (ch:=fp) un hok I6.bare λb f=>by exists _,f1,_,f3,f4,f5,f2 b f;exact#[f3,f1,f4,f5]
    exact I8
  . refine thn (T.item (aY X scope (aJ++tgN) cl S.heap.objs.size fp S H3) rfl rfl rfl hc i [] s5 σ0 V _ I5 (au fr5) st5 go) λr s6 ⟨u,hr,h6⟩=>?_;subst hr;refine thn h6 λ_ s7 ⟨x,H7,I7,r7,y7,aj,bw⟩=>?_;have cj:=I7.pinned (au bw) (T.obj _ _ aj);refine thn (hg cl S.heap.objs.size fp S H3 _ s7 σ0 H7 x u _ cj r7 (step x H7 y7)) λ_ s8 ⟨av,H8,I8,wk,q8⟩=>?_;have ah:∀{H':Hp}{O:cc}{m':Nat}{ai:List γ},Inv (aY X scope (aJ++tgN) cl S.heap.objs.size fp S H3) ([]++m5 fp s7.heap) av H' O->m'<n->W (i+1) m' ai H' ->
        ∃m,m<n/\∃i ys H',Inv (aY X scope (aJ++tgN) cl S.heap.objs.size fp S H3) [] σ0 H' O/\tn i O.heap/\(∀b∈fp,H' b=none)/\W i m ys H':=λ{H' O m' ai} I' hm w'=>by
      have pinned:∀b∈fp,∀o,s7.heap.get? b=some o->O.heap.get? b=some o/\H' b=none:=λb f o e=>by have:=I'.pin (b,o) (iz _ (iz _ (o3 f e)));exact#[this.1,this.2.1]
      refine#[m',hm,i+1,ai,H',I'.unpinned.weak wk.1 wk.2,T.keep _ _ _ aj λb f o e=>(pinned b f o e).1,λb f=>?_,w'];exists o,e,_,T.obj _ _ aj b f;exact(pinned b f o e).2
    refine thn (hf cl S.heap.objs.size fp S H3 _ s8 av H8 _ I8 q8) λb s9 ⟨H9,I9,q9⟩=>?_;cases b with|false=>rw[ba gr]at q9 ⊢;exists m',hm,w9,q9;exact ah I9 hm w9|true=>rw[aK rfl]at q9 ⊢;exact k.ac I9 hlen q9 λzs H' O I' ⟨m',hm,w'⟩=>ah I' hm w'
 exact k.st loop (T.self _ 0 _ _ _ (T.keep _ _ _ ak (λb f o e=>K b o (E b o e))) loop)
def FJ {X : Cx} {elt tg iter : Expr} {ifs : List Expr} {scope : Scope} {pos : Pos} {N : List Str} {te : TE} (l : ∀ cl C fp s3 H3, PE (aY X scope N cl C fp s3 H3) elt te) :
    CK X (.ListComp elt [#[tg,iter,ifs,0]] scope pos) tg iter ifs scope N .lst (newList []) (λD env=>do let _ <- call (.builtin "list.append") [.ref D,<- eval elt env]) (λσ H D ys K=>te σ H λy a=>a D=some (.lst ys)/\K (ys++[y]) (upd a D (.lst (ys++[y])))) where
 cl:=#[_,rfl]
 tn _ _ _ _ _ _:=#[rfl,rfl]
 st:=codeAny_compStart_list
 nw I h:=je (h _ (pc _ _) (λb o e=>hps e) (I.laid (t':=_) (λb u e=>hps e) (dm _) #[gw _,[],0,.nil,fi _ rfl]))
 ac {cl C fp s3 H3 _ σ _ _ D ys _ _} I hlen h w:=bv (thn (l cl C fp s3 H3 _ _ σ _ _ I h) λy S ⟨d,a,A,r,m,f⟩=>bv (thn (tK (X:=aY X scope N cl C fp s3 H3) _ S σ a (.ref D) [d] (.ref D) [y] (λv H'=>v=.non/\H'=upd a D (.lst (ys++[d]))) A rfl (.cons r .nil)
  #[D,ys,d,rfl,rfl,m,hlen,rfl,rfl]) λ_ B ⟨_,_,t,_,_,E⟩=>cq (w _ _ _ (E ▸ t) f)))
def Pw(r:X.calm=true)(hi:PI X tg iter wi)(K:∀y∈scope.names,y.2 ≠ .cell)(J:scope.kind=.function)(F:∀y∈scope.names,y.2=.local->scope.names.lookup y.1=some .local)(G:∀y∈scope.names,y.2=.free->X.env.kindOf y.1=some .cell\/X.env.kindOf y.1=some .free)(A:aJ.map some=aC.map λi=>X.N[i]?)(E:∀y∈aJ,(y,NameKind.free)∈scope.names)(B:∀y∈aJ,(relabel scope X.env).names.lookup y=some .cell\/(relabel scope X.env).names.lookup y=some .free)(f:∀cl C fp s3 H3,PG (aY X scope (aJ++tgN) cl C fp s3 H3) tg gt)(l:∀cl C fp s3 H3,dQ (aY X scope (aJ++tgN) cl C fp s3 H3) ifs tt)(o:∀cl C fp s3 H3,PE (aY X scope (aJ++tgN) cl C fp s3 H3) elt te)(hs:∀x,foldedSetIterable iter X.env x=pure x:=by intro _;rfl):PE X (.ListComp elt [#[tg,iter,ifs,0]] scope pos) (nJ aC tgN.length wi gt tt te):=by intro aA s σ H Q I h;rw[eval_ListComp];exact pN (use:=none) r hi K J F G A E B f l (FJ o) hs I h λD Z S L a t _ _ _ _ _ q=>by exists m,a,a;exact#[m,a,λd hs=>#[.ref D,L,t d hs,rfl,q]]
def Inv.dropped{σ:St}{f:Heap}{Z:Addr}(I:Inv X aA σ H s)(hs:Heap.SameBut Z s.heap f)(hz:H Z=none)(h0:X.s₀.heap.objs.size<=Z)(B:Z≠X.env.locals)(A:∀x c,X.env.cells.lookup x=some c->c≠Z)(r:∀p∈X.pn++aA,p.1≠Z):Inv X aA σ H {s with heap:=f}:=by
 have un:Un (h9 X.stack) [Z] H H s.heap f:=by have k:∀b o,s.heap.get? b=some o->b∉[Z]->f.get? b=some o:=λb o e l=>hs.extBut b o (λz=>l (by rw[z];exact c6)) e;exact#[λb o e _ _ m=>k b o e m,λb o e _ _ m=>#[o.slots,k b o e m],λ_ _ _ n _=>n,λb o e m=>#[o,k b o e m],λ_ _ q=>q,λ_ _ _ q=>q,λ_ ps q=>#[#[],by simpa using q]]
 have hok:gh X.prog X.w H f:=λa o e=>(I.hok a o e).stay (λb v l q=>hs.extBut b v (by
  rintro rfl;rcases l with l|l
  . rw[l,e]at hz;cases hz
  . rw[hz]at l;cases l) q) (λ_ q=>q) λ_ _ q=>q
 exists D,g,d,t,o,s;exact I.call (g':=g) (d':=d) (t':=t) (ch:=[Z]) un hok I.bare λb l=>by(obtain rfl:b=Z:=by simpa using l);exact#[.inr h0,B,A,r]
def Px{spos:Pos}(V:X.calm=true)(hi:PI X tg iter wi)(cH:∀y∈scope.names,y.2 ≠ .cell)(cV:scope.kind=.function)(d5:∀y∈scope.names,y.2=.local->scope.names.lookup y.1=some .local)(cW:∀y∈scope.names,y.2=.free->X.env.kindOf y.1=some .cell\/X.env.kindOf y.1=some .free)(dF:aJ.map some=aC.map λi=>X.N[i]?)(eA:∀y∈aJ,(y,NameKind.free)∈scope.names)(d9:∀y∈aJ,(relabel scope X.env).names.lookup y=some .cell\/(relabel scope X.env).names.lookup y=some .free)(K:∀cl C fp s3 H3,PG (aY X scope (aJ++tgN) cl C fp s3 H3) tg gt)(L:∀cl C fp s3 H3,dQ (aY X scope (aJ++tgN) cl C fp s3 H3) ifs tt)(T:∀cl C fp s3 H3,PE (aY X scope (aJ++tgN) cl C fp s3 H3) elt te)(hN:X.N.Nodup)(J:X.N[i]? = some x)(hk:X.env.scope.names.lookup x=some .local)(d:swapsWith (.ListComp elt [#[tg,iter,ifs,0]] scope pos) (some (.Name x pos')) spos.line X.env=pure true)(hs:∀x,foldedSetIterable iter X.env x=pure x:=by intro _;rfl):PS X (.Assign [.Name x pos'] (.ListComp elt [#[tg,iter,ifs,0]] scope pos) spos) (mY (nJ aC tgN.length wi gt tt te) (mX i)):=by intro aA s σ H En I h;rw[exec_Assign_Name_used _ _ _ _ d];refine bv (nt (bv ?_));show wpAny _ X.A (comprehension (.ListComp elt [#[tg,iter,ifs,0]] scope pos) scope X.env (firstIterPos [#[tg,iter,ifs,0]] pos) (newList []) (firstAsync [#[tg,iter,ifs,0]]) (firstIter [#[tg,iter,ifs,0]] X.env) (some (assign (.Name x pos') X.env))>>=_) _ _ s;refine bv (pN (use:=some (assign (.Name x pos') X.env)) V hi cH cV d5 cW dF eA d9 K L (FJ T) hs I (show nJ aC tgN.length wi gt tt te σ H _ from h) λD Z E H5 l W G h0 B t h3 q=>?_);exists m,l,l;have I6:=W E.heap (Heap.SameBut.refl _ _);refine wpAny_assign_Name (yE I6 hN J (.inl hk) (show aH (.ref D) (.ref D)from rfl) (λO I' o=>?_) (.inr hk));(exists a,S,r,o;have F:Z≠a:=by rcases r with rfl|r;{exact B};exact λz=>t x a r z.symm);exact#[m,l.sameBut S F,λaa f=>cq (cq #[_,H5,I'.dropped f G h0 B t h3,q])]
end L2
namespace D3
def cA(aC:List Nat)(Y:Rho):Rho:=aC.map λi=>match Y[i]? with|some (some (false,d))=>some (false,d)|_=>none
def cZ(k:D->Rho->Option Rho)(t e:Rho->Res)(a:Rho):List D->Option (List D)|[]=>some []|d::ds=>match k d a with|none=>none|some f=>match t f with|.ok _ (.bl true)=>((match aM (e f)with|.ok _ y=>(cZ k t e a ds).map (y :: ·)|_=>none))|.ok _ (.bl false)=>cZ k t e a ds|_=>none
def cF(src:Res)(Y:Rho)(aC:List Nat)(n:Nat)(k:D->Rho->Option Rho)(t e:Rho->Res):Res:=src.thn λ_ d=>match d with
 |.lst ds=>if ds.length<sizeLine then(match cZ k t e (cA aC Y++List.replicate n none) ds with|some ys=>.ok .fr (.lst ys)|none=>.stuck)else .stuck
 |_=>.stuck
abbrev Cw.nox(C:Cw):Cw:={C with EE:=λ_ _ _=>False}
theorem aG.upd{F:Hp}{x:Addr}{o:HO}(st:aG F H F' H')(d:H x=none)(a:F' x=none):aG F H F' (L2.upd H' x o) :=
 #[λb u q=>by rw[aP (cI q d)];exact st.same b u q,st.fsame,λb u q=>by rw[aP (cI q a)];exact st.sub b u q,st.new]
def Py:dQ X [] (tT (C.at X) λ_=>.ok .fz (.bl true)):=λaA s σ H Q I h=>by exists Y,F,R,w,h;exact zY aA s σ H Q I (w F H (.refl R.sub))
def Pz{cs:List Expr}(d:kr C X c ga)(a:dQ X cs (tT (C.at X) gb)):dQ X (c::cs) (tT (C.at X) λY=>eX (ga Y) (gb Y)):=λaA s σ H Q I h =>
 Pu d a aA s σ H Q I (zS h)
def tU{K:Fg}{F:Hp}(aC:List Nat)(n:Nat)(R:aT K F0 H0 F H σ Y):aT K F0 H0 F H (cD aC σ++List.replicate n none) (cA aC Y++List.replicate n none):=by(have l:∀(i:Nat) (m:Bool) (d:D),(cA aC Y++List.replicate n none)[i]? = some (some (m,d))->m=false/\∃v,(cD aC σ++List.replicate n none)[i]? = some (some v)/\aB K F d v:=λi m d e=>by by_cases f:i<aC.length;{rw[mv (by simpa[cA]using f)]at e;rw[mv (by simpa[cD]using f)];unfold cA at e;unfold cD;rw[h7,gm f]at e ⊢;simp only[ti,By]at e;cases z:Y[aC[i]]? with|none=>rw[z]at e;cases e|some o=>rw[z]at e;cases o with|none=>cases e|some q=>exists b,t,q;cases b with|true=>cases e|false=>cases e;exists v,E,r,_,R.slot _ _ _ z;exact#[rfl,v,by simp[E],r]};rw[nv (by simpa[cA]using f),ny]at e;split at e <;> cases e);refine#[R.st,λi m d e=>?_,λi j d t a _ E _ _ _=>?_,by simp[cD,cA]];{exists rfl,v,E,r,l i m d e;exact#[v,E,r,by nofun]};have:=(l i true d E).1;cases this
mutual
def aS:D->Option PyData|.non=>some .none|.bl b=>some (.bool b)|.int i=>some (.int i)|.str x=>some (.str x)|.tup ds=>(cG ds).map .tuple|.lst ds=>(cG ds).map .list|_=>none
def cG:List D->Option (List PyData)|[]=>some []|d::ds=>match aS d,cG ds with|some p,some ps=>some (p::ps)|_,_=>none
end
section
variable{F:Hp}
mutual
theorem pO(I:Inv X aA σ H s)(sF:aE F H):∀(d:D) (p:PyData) (v:V) (u:bb),aB X.K F d v->aH v u->aS d=some p->(∃as,Reads s.heap u p as)/\p.canLay0=true
 |.non,p,v,u,h,r,e=>by simp only[aB]at h;subst h;cases r;simp only[aS]at e;cases e;exact#[#[_,.none],rfl]|.bl b,p,v,u,h,r,e=>by simp only[aB]at h;subst h;cases r;simp only[aS]at e;cases e;exact#[#[_,.bool b],rfl]|.int i,p,v,u,h,r,e=>by simp only[aB]at h;subst h;exists t,rfl,r;simp only[aS]at e;cases e;exact#[#[_,.int i t],rfl]|.str x,p,v,u,h,r,e=>by simp only[aB]at h;exists rfl,_,hk,h;exists t,rfl,r;simp only[aS]at e;cases e;exact#[#[_,.str x t],by simpa only [PyData.canLay0]using hk]|.tup ds,p,v,u,h,r,e=>by simp only[aB]at h;exists a,U,rfl,q,l,h;cases r;simp only[aS]at e;cases ep:cG ds with|none=>rw[ep]at e;cases e|some ps=>rw[ep]at e;cases e;obtain⟨its,f,⟨o,G,E,n,B⟩,_⟩:=I.tuple (aE.seqT sF q);obtain⟨⟨as,m⟩,A⟩:=pP I sF ds ps U its l f ep;exact#[#[_,.tuple G E B (by simpa using m)],by simpa only [PyData.canLay0]using A]
 |.lst ds,p,v,u,h,r,e=>by simp only[aB]at h;exists a,U,rfl,q,l,h;cases r;simp only[aS]at e;cases ep:cG ds with|none=>rw[ep]at e;cases e|some ps=>rw[ep]at e;cases e;obtain⟨its,f,⟨o,n,G,E,_,B⟩,_⟩:=I.list (sF.seq q);obtain⟨⟨as,m⟩,A⟩:=pP I sF ds ps U its l f ep;exact#[#[_,.list G E B (by simpa using m)],by simpa only [PyData.canLay0]using A]
 |.dct _,p,v,u,h,r,e|.ty _,p,v,u,h,r,e|.ob _,p,v,u,h,r,e|.ins _ _,p,v,u,h,r,e|.fn _,p,v,u,h,r,e|.exn _,p,v,u,h,r,e|.set _,p,v,u,h,r,e|.dtn _,p,v,u,h,r,e|.dtf _,p,v,u,h,r,e|.dcf _,p,v,u,h,r,e|.clo _ _ _,p,v,u,h,r,e=>by simp only[aS]at e;cases e
theorem pP(I:Inv X aA σ H s)(sF:aE F H):∀(ds:List D) (ps:List PyData) (U:List V) (us:List bb),aD X.K F ds U->aL U us->cG ds=some ps->(∃as,ReadsAll s.heap us ps as)/\PyData.canLayAll0 ps=true|[],ps,U,us,h,r,e=>by simp only[aD]at h;subst h;cases r;simp only[cG]at e;cases e;exact#[#[_,.nil],rfl]|d::ds,ps,U,us,h,r,e=>by simp only[aD]at h;exists y,ys,rfl,hd,B,h;cases r with|cons A t=>simp only[cG]at e;cases E:aS d with|none=>rw[E]at e;cases e|some p=>cases l:cG ds with|none=>rw[E,l]at e;cases e|some a=>rw[E,l]at e;cases e;obtain⟨⟨as,o⟩,G⟩:=pO I sF d p y _ hd A E;obtain⟨⟨bs,m⟩,f⟩:=pP I sF ds a ys _ B t l;exact#[#[_,.cons o m],by simp only[PyData.canLayAll0,G,f,Bool.and_self]]
end
def FK(I:Inv X aA σ H s)(sF:aE F H){m:Md}{d:D}{p:PyData}(h:Rp X.K F H m d v)(r:aH v u)(e:aS d=some p):(∃as,Reads s.heap u p as)/\p.canLay0=true:=by cases m with|fz=>exact pO I sF d p v u h r e|_=>exists a,rfl,n,t,h;cases d with|lst ds=>(exists U,q,l,t;cases r;simp only[aS]at e;cases ep:cG ds with|none=>rw[ep]at e;cases e|some ps=>rw[ep]at e;cases e;obtain⟨its,f,⟨o,n,J,G,_,E⟩,_⟩:=I.list (fe.of q);obtain⟨⟨as,A⟩,B⟩:=pP I sF ds ps U its l f ep;exact#[#[_,.list J G E (by simpa using A)],by simpa only [PyData.canLay0]using B])|dct ds|ins _ _|set _|dtn _|dtf _|dcf _|clo _ _=>simp only[aS]at e;cases e|_=>exact t.elim
end
def fM(p:PyData):Bool:=decide (p.depth<=50)
noncomputable def ki(neg:Bool):Md->D->Md->D->Option (Md×D):=λ_ x _ y=>match aS x,aS y with|some p,some q=>if(fM p&&fM q)=true then some (.fz,.bl (if neg then !PyData.eqv p q else PyData.eqv p q))else none|_,_=>none
theorem FL{f:bb->bb->Sem bb}(J:X.A.units+64<cLine)(rule:∀(s:cc) (a b:bb) (l D:PyData) (as bs:List Addr) (Q:di),Reads s.heap a l as->Reads s.heap b D bs->l.canLay0=true->D.canLay0=true->X.A.units+min l.depth D.depth<cLine->Q (.bool (if neg then !PyData.eqv l D else PyData.eqv l D)) s->wpAny (model X.prog X.w) X.A (f a b) Q X.xe s):e8 C X f (ki neg):=by refine#[λx y H Q=>∃F m n d e p q,aE F H/\Rp X.K F H m d x/\Rp X.K F H n e y/\aS d=some p/\aS e=some q/\(fM p&&fM q)=true/\Q (.bl (if neg then !PyData.eqv p q else PyData.eqv p q)) H,?_,?_];{intro aA s σ H x y v u Q I rx ry h;exists F,m,n,d,e,p,q,sF,hd,t,ep,eq,hs,E,h;obtain⟨⟨as,o⟩,ca⟩:=FK I sF hd rx ep;obtain⟨⟨bs,r⟩,G⟩:=FK I sF t ry eq;rw[cw]at hs;have L:=lh hs.1;refine rule s v u p q as bs _ o r ca G (by have:=Bt p.depth q.depth;lia) #[.bl _,H,I,rfl,E]};intro F H m x n y v u k d Q s rx ry e w;unfold ki at e;split at e;{rename_i p q ep eq;split at e;{rename_i B;cases e;exact#[F,m,n,x,y,p,q,s,rx,ry,ep,eq,B,w _ F H (.refl s) (cJ _) (by nofun)]};cases e};cases e
def PB(f:X.A.units+64<cLine):e8 C X (compareOp .Eq) (ki false):=FL f λs a b m D as bs Q d r ca l hd q=>SeqAt.compareEq_reads d r ca l hd q
def PC(f:X.A.units+64<cLine):e8 C X (compareOp .NotEq) (ki true):=FL f λs a b m D as bs Q d r ca l hd q=>SeqAt.compareNe_reads d r ca l hd q
section
def FN:List D->Option (List Str)|[]=>some []|.str x::r=>(FN r).map (x :: ·)|_=>none
noncomputable def FP:Md->D->List (Md×D)->Option (Md×D):=λ_ x U=>match x,U with
 |.str z,[(_,.lst ds)]=>(match FN ds with|some ys=>if(ys.map (·.length)).sum+ys.length * z.length<=sizeLine then some (.fz,.str (Txt.join z ys))else none|none=>none)
 |_,_=>none
theorem FQ:∀{ys:List Str}{us:List bb},aL (ys.map V.str) us->StrsAre us ys|[],_,h=>by cases h;exact .nil|y::ys,_,h=>by cases h with|cons r t=>exists tk,rfl,r;exact .cons y tk (FQ t)
end
def ll(K:Fg)(mg:fg)(n:Nat)(Φ:List D->Res):Sp:=λvs H Q E=>vs.length=n/\∃F ds,aE F H/\aD K F ds vs/\match Φ ds with|.ok m d=>m ≠ .bo/\∀v F' H',aG F H F' H'->Rp K F' H' m d v->(m=.fr->∀a,v=.ref a->H a=none)->Q v H'|.exc c=>∀F' H' u,aG F H F' H'->mg c=some u->E u none H'|.stuck=>False
structure ul(P:fc)(w:dh)(K:Fg)(mg:fg)(base:Heap)(CX:CXT)(k:Nat)(x:Str)(n:Nat)(Φ:List D->Res):Prop where
 ex:∃f fd ps,bO P w K mg base CX k f fd ps (ll K mg n Φ)/\mg x=some (.ref f)/\W.keepIn K (.ref f)=true/\cQ K fd ps []
noncomputable def aW(n:Nat)(Φ:List D->Res)(r:bF):Res:=r.thn λU=>match cY U with
 |some ds=>if ds.length=n then(match Φ ds with|.ok .bo _=>.stuck|r=>r)else .stuck
 |none=>.stuck
def qg(CX:CXT)(C:Cw)(X:Cx):Prop:=∀(aA:e7) (σ:L2.St) (H:Hp) (s:cc) (e:bb) (O:cc),Inv X aA σ H s->CX X.stack H s (λu _ H'=>∃c,X.mg c=some u/\C.EE c σ H') e O->X.xe e O
section
variable{es:List Expr}
def tV{f:Addr}{ps:List Str}{Q:VK}{vs:List V}{E:XK}(F:bO X.prog X.w X.K X.mg X.base CX k f fd ps (ll X.K X.mg n Φ))(m:bG k X.A)(t:cQ X.K fd ps [])(l:∀e O,CX X.stack H s E e O->X.xe e O)(I:Inv X aA σ H s)(r:aL vs us)(h:ll X.K X.mg n Φ vs H Q E):wpAny (model X.prog X.w) X.A (call (.ref f) us) (EP X aA σ Q) X.xe s:=by(have o:(us++[]).length=ps.length:=by rw[h5,<- r.length];exact F.len _ _ _ _ h);have a:=t s us I.kIn o;rw[h5]at a;refine vh (mz (F.run X.A X.stack s H #[us,[]] us vs Q E m I.env0 a r h) λr O d=>?_);cases r with|error e=>exact l e O d|ok fl=>cases fl with|ret u=>exact I.after d|next|brk|cont=>exact False.elim d
def PD(F:ul X.prog X.w X.K X.mg X.base CX k x n Φ)(J:bG k X.A)(D:qg CX (C.at X) X)(N:Gl X x)(ha:j3 C X (e::es) gs)(l:(x==("__debug__":Str))=false:=by decide)(T:starEach (e::es) X.env=(false,eval e X.env)::starEach es X.env:=by rfl)(a:(backTo pos (starEach es X.env)).any (·.1)=false:=by rfl):PV C X (.Call (.Name x p) (e::es) [] pos) (λY=>aW n Φ (gs Y)):=by exists f,fd,ps,FF,L,hk,Z,F.ex;intro aA s σ H Q I h;rw[aR]at h;exists Y,F,R,w,h;refine pf (mW I N L ?_ l);refine Bz (h₀:=X.base) I.ok.mod.kin hk (thn (ha pos aA s σ H (λvs H1=>ll X.K X.mg n Φ vs H1 Q λu _ H'=>∃c,X.mg c=some u/\C.EE c σ H') I ?_) λus S ⟨vs,H1,o,r,q⟩=>#[o.kIn,tV FF J Z (λe O V=>D aA σ H1 S e O o V) o r q]) T a;refine#[Y,F,R,?_];cases B:gs Y with|stuck|exc c=>rw[B]at w;exact w|ok U=>rw[B]at w;intro vs F1 H1 S r1;have W:aZ (C.at X) F1 H1 σ (aW n Φ (.ok U)) Q:=aZ.step S w;unfold aW at W;rw[bF.thn_ok]at W;cases E:cY U with|none=>rw[E]at W;exact W.elim|some ds=>rw[E]at W;dsimp only at W;split at W;{rename_i hn;have t:=r1.fz E;refine#[by rw[t.length];exact hn,F1,ds,S.sub,t,?_];cases ep:Φ ds with|stuck=>rw[ep]at W;exact W|exc c=>rw[ep]at W;exact λF' H' u st G=>#[c,G,W F' H' st]|ok m d=>rw[ep]at W;cases m with|bo=>exact W.elim|fz|fr=>exact#[by decide,W]};exact W.elim
end
def DU:aI->Res|.nx _=>.ok .fz .non|.rt m d=>.ok m d|.exc c _=>.exc c|_=>.stuck
def eY(n:Nat)(ds:List D):Rho:=ds.map (λd=>some (false,d))++List.replicate (n-ds.length) none
def PF{K:Fg}{F:Hp}{N:List Str}{vs:List V}(s:aE F H)(r:aD K F ds vs):aT K F H F H (start N vs) (eY N.length ds):=by(have l:∀(i:Nat) (m:Bool) (d:D),(eY N.length ds)[i]? = some (some (m,d))->m=false/\∃v,(start N vs)[i]? = some (some v)/\aB K F d v:=λi m d e=>by unfold eY at e;unfold L2.start;by_cases f:i<ds.length;{rw[mv (by simpa using f),h7,gm f]at e;cases e;exists v,ev,o,r.get' (gm f);exact#[rfl,v,by rw[mv (by simpa[r.length]using f),h7,ev];rfl,o]};rw[nv (by simpa using f),ny]at e;split at e <;> cases e);refine#[.refl s,λi m d e=>?_,λi j d t a _ E _ _ _=>?_,by simp[L2.start,eY,r.length]];{exists rfl,v,E,o,l i m d e;exact#[v,E,o,by nofun]};have:=(l i true d E).1;cases this
def pQ(ns:List Int):List D:=[.lst (ns.map .int)]
theorem FR{K:Fg}{F:Hp}:∀ns:List Int,aD K F (ns.map D.int) (ns.map V.int)|[]=>aD.nil|n::ns=>aD.cons (by simp only[aB]) (FR ns)
def sj:Md->D->Md->D->Option (Md×D):=λ_ _ _ _=>none
abbrev xz:Md->D->Md->D->Option (Md×D):=im (fI (λ_ _=>true) λi j=>.int (i+j)) (fS (λi j=>decide (i.length+j.length<=sizeLine)) λi j=>.str (i++j))
abbrev DV:Md->D->Md->D->Option (Md×D):=fI (λ_ _=>true) λi j=>.int (i-j)
abbrev x0:Md->D->Md->D->Option (Md×D):=im (fI (λi j=>(bits i&&bits j)||(nh i||nh j)) λi j=>.int (i * j)) sj
abbrev DW:Md->D->Md->D->Option (Md×D):=fI (λ_ j=>decide (0<j)) λi j=>.int (i % j)
abbrev DX:Md->D->Md->D->Option (Md×D):=fI (λ_ j=>decide (0<j)&&bits j) λi j=>.int (i / j)
abbrev DY:Md->D->Md->D->Option (Md×D):=fI (λi j=>decide (0<=j)&&decide (j<=1000000)&&decide (i.natAbs<2 ^ 64)) λi j=>.int (i ^ j.toNat)
abbrev PH:Md->D->Md->D->Option (Md×D):=fI (λ_ _=>true) λi j=>.bl (decide (i<j))
abbrev PJ:Md->D->Md->D->Option (Md×D):=fI (λ_ _=>true) λi j=>.bl (decide (i<=j))
abbrev PL:Md->D->Md->D->Option (Md×D):=fI (λ_ _=>true) λi j=>.bl (decide (j<i))
abbrev PM:Md->D->Md->D->Option (Md×D):=fI (λ_ _=>true) λi j=>.bl (decide (j<=i))
abbrev FS:Md->D->Md->D->Option (Md×D):=im (ki false) sj
abbrev FT:Md->D->Md->D->Option (Md×D):=im (ki true) sj
abbrev PN:Md->D->Md->D->Option (Md×D):=fS (λ_ _=>true) λi j=>.bl (lD i j)
abbrev PP:Md->D->Md->D->Option (Md×D):=fS (λ_ _=>true) λi j=>.bl (!lD i j)
def kS(a:Md->D->Md->D->Option (Md×D)):Prop:=∀m x n y k d,a m x n y=some (k,d)->∃t,k=.fz/\d=.bl t
def pR{c:Int->Int->Bool}{g:Int->Int->Bool}:kS (fI c λi j=>.bl (g i j)):=λm x n y k d e=>by unfold fI at e;split at e;{split at e;{cases e;exact#[_,rfl,rfl]};cases e};cases e
def FU{c:Str->Str->Bool}{g:Str->Str->Bool}:kS (fS c λi j=>.bl (g i j)):=λm x n y k d e=>by unfold fS at e;split at e;{split at e;{cases e;exact#[_,rfl,rfl]};cases e};cases e
def nK{φ ψ}(h:kS φ)(h':kS ψ):kS (im φ ψ):=λm x n y k d e=>by unfold im at e;cases E:φ m x n y with|none=>rw[E]at e;exact h' _ _ _ _ _ _ e|some p=>rw[E]at e;cases e;exact h _ _ _ _ _ _ E
def FW:kS (ki neg):=λm x n y k d e=>by unfold ki at e;split at e;{split at e;{cases e;exact#[_,rfl,rfl]};cases e};cases e
def nL{f:bb->bb->Sem bb}:e8 C X f sj:=#[λ_ _ _ _=>False,λ_ _ _ _ _ _ _ _ _ _ _ _ h=>h.elim,λ_ _ _ _ _ _ _ _ _ _ _ _ _ _ e _=>by cases e]
def x5:e8 C X (binaryOp .Add) xz:=OE.or OR
def ya:e8 C X (binaryOp .Mult) x0:=OH.or nL
def DZ(a:X.A.units+64<cLine):e8 C X (compareOp .Eq) FS:=(PB a).or nL
def D0(a:X.A.units+64<cLine):e8 C X (compareOp .NotEq) FT:=(PC a).or nL
def sk(n N:Nat)(g:Rho->aI):List D->Res:=λds=>if ds.length=n then DU (g (eY N ds))else .stuck
def lK(scope sc:Scope):List (Str×NameKind):=scope.names.map λ(n,k)=>if(k == .free&&sc.kind == .function&&sc.names.lookup n==some .cell)then(n,.cell)else(n,k)
def PQ:bootBuiltins "len"=some (.builtin "len"):=by decide +kernel
def PR:bootBuiltins "isinstance"=some (.builtin "isinstance"):=by decide +kernel
def PU:bootBuiltins "int"=some (.type "int"):=by decide +kernel
def PX:bootBuiltins "bool"=some (.type "bool"):=by decide +kernel
def PY:bootBuiltins "str"=some (.type "str"):=by decide +kernel
def PZ:bootBuiltins "tuple"=some (.type "tuple"):=by decide +kernel
def P3:bootBuiltins "list"=some (.type "list"):=by decide +kernel
def FX:bootBuiltins "dict"=some (.type "dict"):=by decide +kernel
structure CI where
 name:Str
 ups:List Str
 flds:List Str
 meths:List (Str×Str×Nat)
def bW:Expr->Bool|.Starred ..=>false|_=>true
end D3
variable{cl:List D3.CI}
namespace D3
def lL:Expr->Bool|.Call (.Name x _) [] [] _=>x != "super" |_=>true
def bX{x:Expr}{es:List Expr}(h:bW x=true):starEach (x::es) env=(false,eval x env)::starEach es env:=by cases x <;> first|rfl|cases h
theorem j4(pos:Pos)(env:Env):∀{es:List Expr},(∀x∈es,bW x=true)->(backTo pos (starEach es env)).any (·.1)=false|[],_=>rfl|x::es,h=>by rw[bX (h x c6)];show((false||(backTo pos (starEach es env)).any (·.1))=false);rw[j4 pos env λy a=>h y (df a)];rfl
theorem nM(pos:Pos)(env:Env):∀{es:List Expr},(∀x∈es,bW x=true)->(backTo pos (starEach es env)).all (λx=>!x.1)=true|[],_=>rfl|x::es,h=>by rw[bX (h x c6)];show((true&&(backTo pos (starEach es env)).all (λx=>!x.1))=true);rw[nM pos env λy a=>h y (df a)];rfl
def pS{o:Expr}{n:Str}{w:Sem bb}(h:lL o=true):attributeBase o n env w=w:=by
 cases o with
 |Call f as ks pos=>cases f with|Name x p=>(cases as with|nil=>(cases ks with|nil=>show(if x != "super" || n == "__class__" || env.kindOf "super" != some .globalImplicit||env.kindOf "__class__" != some .free then w else _)=w;have:(x != ("super":Str))=true:=h;rw[aK (by rw[this];rfl)]|cons _ _=>rfl)|cons _ _=>rfl)|_=>rfl
 |_=>rfl
theorem P4 {o : Expr} {m : Str} {apos pos : Pos} {args : List Expr} {env : Env} (t : lL o = true) (l : ∀ x ∈ args, bW x = true) (hn : args.length < 30) (r : apos.endLine = pos.line) :
    eval (.Call (.Attribute o m apos) args [] pos) env=(do
     let d <- eval o env
     standAt apos.atName
     let(f,first) <- holding [d] (getMethod d m (do return (<- importBound o env).getD true))
     callWith pos f first (backTo pos (starEach args env)) (backToKw pos (keywordEach [] env))):=by
 have few:methodCallForm (args.length+([]:List Keyword).length) (backTo pos (starEach args env)) (backToKw pos (keywordEach [] env))=true:=by unfold methodCallForm;rw[nM pos env l];show(true&&true&&decide (args.length+0+0<30))=true;rw[ip (by lia)];rfl
 show(do
  let d <- attributeBase o m env (eval o env)
  standAt apos.atName
  methodCall o m apos pos env d (args.length+([]:List Keyword).length) (backTo pos (starEach args env)) (backToKw pos (keywordEach [] env)))=_
 rw[pS t];unfold methodCall;rw[few];have hp:methodCallPos true o env apos pos=pure pos:=by unfold methodCallPos;rw[aK (by rw[r];simp)]
 rw[hp];show(do
  let d <- eval o env
  standAt apos.atName
  let(f,first) <- holding [d] (getMethod d m (do return (<- importBound o env).getD true))
  let a <- pure pos
  callWith a f first (backTo pos (starEach args env)) (backToKw pos (keywordEach [] env)))=_
 simp only[q0]
structure FY(P:fc)(w:dh)(K:Fg)(mg:fg)(base:Heap)(CX:CXT)(k:Nat)(c m:Str)(n:Nat)(Φ:List D->Res):Prop where
 ex:∃C f fd ps,W.nsIn K mainGlobals c=some (some (.ref C))/\ng K C/\m7 K C m f/\bO P w K mg base CX k f fd ps (ll K mg n Φ)/\cQ K fd ps []
structure P5(K:Fg)(c f:Str):Prop where
 ex:∃C,W.nsIn K mainGlobals c=some (some (.ref C))/\ng K C/\tF K C f
def CI.meth(cl:List CI)(c m:Str):Option (Str×Nat):=match cl.find? (λi=>i.name==c)with|some i=>i.meths.lookup m|none=>none
def eE(cl:List CI)(Φ:Str->List D->Res)(m:Str)(o:Res)(as:bF):Res:=o.thn λa d=>match a,d with
 |.fz,.ins c fs=>(match CI.meth cl c m with|some (key,n)=>if fs.lookup m=none then aW n (Φ key) (aU (.ok .fz (.ins c fs)) as)else .stuck|none=>.stuck)
 |_,_=>.stuck
section
variable{o:Expr}{es:List Expr}{go:Rho->Res}{m:Str}{Φ:Str->List D->Res}
def P6(hM:∀c m key n,CI.meth cl c m=some (key,n)->FY X.prog X.w X.K X.mg X.base CX k c m n (Φ key))(hr:bG k X.A)(hx:qg CX (C.at X) X)(ho:PV C X o go)(ha:j3 C X es gs)(hb:lL o=true)(J:∀x∈es,bW x=true)(hn:es.length<30)(hl:apos.endLine=pos.line)(ak:es=[]->gs=λ_=>.ok []):PV C X (.Call (.Attribute o m apos) es [] pos) (λY=>eE cl Φ m (go Y) (gs Y)):=by
 intro aA s σ H Q I q;rw[aR]at q;exists Y,F,R,w,q;refine NK (pl:=(do return (<- importBound o X.env).getD true)) ho I ?_ (P4 hb J hn hl)
 show tG (C.at X) go σ H _;rw[aR];refine#[Y,F,R,?_];cases er:go Y with
 |stuck|exc c=>rw[er]at w;exact w|ok md d =>
  rw[er]at w;intro v F1 H1 s1 r1 _;have l:aZ (C.at X) F1 H1 σ (eE cl Φ m (.ok md d) (gs Y)) Q:=aZ.step s1 w;unfold eE at l;rw[Res.thn_ok]at l;cases md with
  |fr|bo=>exact l.elim|fz =>
  cases d with
  |ins c fs =>
   dsimp only at l;cases em:CI.meth cl c m with
   |none=>rw[em]at l;exact l.elim|some kn =>
    exists key,n,kn;rw[em]at l;dsimp only at l;split at l
    . rename_i aj;exists C',f',fd,ps,n1,ar,me,FO,am,(hM c m key n em).ex;have ah:=r1;exists a,C2,dx,aq,ev,n2,ea,rf,r1.ins s1.sub;rw[n1]at n2;cases n2;subst ev;refine#[a,C',dx,aq,f',rfl,ea,ar,me,rf.lookN aj,λN I1=>?_];have aa:∀(vs:List V) (us:List bb) (S:cc) (B t:Hp) (U:List (Md×D)),aG F1 H1 B t->kt X.K B t U vs->Inv X aA σ t S->aL vs us->gs Y=.ok U->wpAny (model X.prog X.w) X.A (call (.ref f') (.ref a::us)) (EP X aA σ Q) X.xe S:=by
        intro vs us S B t U G Z I2 rv L;rw[L]at l;have f:aZ (C.at X) B t σ (aW n (Φ key) (aU (.ok .fz (.ins c fs)) (.ok U))) Q:=aZ.step G l;rw[O4]at f;unfold aW at f;rw[bF.thn_ok]at f;have ag:kt X.K B t ((.fz,.ins c fs)::U) (.ref a::vs):=#[_,_,rfl,ah.step G,Z];cases ef:cY ((.fz,.ins c fs)::U)with|none=>rw[ef]at f;exact f.elim|some ds=>rw[ef]at f;dsimp only at f;split at f;{rename_i ai;have T:=ag.fz ef;refine tV (E:=λu _ H'=>∃c,X.mg c=some u/\C.EE c σ H') (vs:=.ref a::vs) (us:=.ref a::us) FO hr am (λe O hc=>hx aA σ t S e O I2 hc) I2 (.cons rfl rv) #[by rw[T.length];exact ai,B,ds,G.sub,T,?_];cases ep:Φ key ds with|stuck=>rw[ep]at f;exact f|exc c=>rw[ep]at f;exact λF' H' u st hu=>#[c,hu,f F' H' st]|ok m d=>rw[ep]at f;cases m with|bo=>exact f.elim|fz|fr=>exact#[by decide,f]};exact f.elim
      cases es with|nil=>(refine W.callWith_K0 (first:=[.ref a]) I1.kIn me.kp ?_;(have L:gs Y=.ok []:=by rw[ak rfl]);exact aa [] [] N F1 H1 [] (.refl s1.sub) rfl I1 .nil L)|cons e es=>refine Bz (first:=[.ref a]) (h₀:=X.base) I.ok.mod.kin me.kp (thn (ha pos aA N σ H1 (λvs t=>∃B U,aG F1 H1 B t/\kt X.K B t U vs/\gs Y=.ok U) I1 ?_) λus S ⟨vs,t,I2,r,B,U,ae,Z,L⟩=>#[I2.kIn,?_]) (bX (J e c6)) (j4 _ _ λy hy=>J y (df hy));{refine#[Y,F1,R.step s1,?_];cases L:gs Y with|stuck|exc c=>rw[L]at l;exact l|ok U=>exact λvs B t S Z=>#[B,U,S,Z,rfl]};exact aa vs us S B t U ae Z I2 r L
    . exact l.elim
  |_=>exact l.elim
end
def aT.mut{K:Fg}{F:Hp}{d d':D}{a:Addr}{o:HO}(R:aT K F0 H0 F H σ Y)(e:Y[i]? = some (some (true,d)))(ev:σ[i]? = some (some (.ref a)))(t:Top K F (upd H a o) a d'):aT K F0 H0 F (upd H a o) σ (Y.set i (some (true,d'))):=by
 exists v,J,rp,hn,R.slot i true d e;rw[ev]at J;cases J;have h0:H0 a=none:=hn rfl a rfl;exists a',ea,Z,tt,rp;cases ea;have hl:i<Y.length:=(mr.mp e).1;have st:aG F0 H0 F (upd H a o):=#[λb u q=>by rw[aP (cI q h0)];exact R.st.same b u q,R.st.fsame,λb u q=>by rw[aP (cI q Z)];exact R.st.sub b u q,R.st.new]
 refine#[st,λj m A E=>?_,λj l d1 A b L e1 E q1 q2=>?_,by rw[pq];exact R.len]
 . by_cases N:j=i;{subst N;rw[pb hl]at E;cases E;exact#[.ref a,ev,#[a,rfl,Z,t],λ_ b T=>by cases T;exact h0]};rw[jo (λz=>N z.symm)]at E;exists u,eu,W,hu,R.slot j m A E;refine#[u,eu,?_,hu];cases m with|false=>exact W|true=>(exists b,T,hb,tb,W;subst T;have f:b≠a:=λz=>by subst z;exact R.apart j i A d b N E e eu ev);refine#[b,rfl,hb,?_];cases A with|lst ds|dct ds=>exists U,q,r,tb;exact#[U,by rw[aP f];exact q,r]|ins c fs=>exists C,dx,gs,n,q,r,tb;exact#[C,dx,gs,n,by rw[aP f];exact q,r]|set ks=>exists S,q,r,tb;exact#[S,by rw[aP f];exact q,r]|dtn ds=>exists U,q,r,tb;exact#[U,by rw[aP f];exact q,r]|_=>exact tb.elim
 . have B:∀(l:Nat) (A:D),(Y.set i (some (true,d')))[l]? = some (some (true,A))->∃V,Y[l]? = some (some (true,V)):=λl A q=>by
     by_cases G:l=i
     . subst G;exact#[d,e]
     . rw[jo (λz=>G z.symm)]at q;exact#[A,q]
   exists V,q3,B j d1 e1;exists d4,q4,B l A E;exact R.apart j l V d4 b L q3 q4 q1 q2
def yb(f:Str)(v:D):List (Str×D)->List (Str×D)|[]=>[(f,v)]|(g,u)::r=>if g=f then(g,v)::r else(g,u)::yb f v r
structure tW(K:Fg)(mg:fg)(c:Str):Prop where
 ex:∃C,W.nsIn K mainGlobals c=some (some (.ref C))/\mg c=some (.ref C)/\W.makesIn K C=true/\W.findIn K (.ref C) "__init__"=some (some (.builtin "object.__init__"))/\W.keepIn K (.ref C)=true
def P7{C:Addr}(m:X.mg x=some (.ref C))(l:W.makesIn X.K C=true)(D:W.findIn X.K (.ref C) "__init__"=some (some (.builtin "object.__init__")))(B:W.keepIn X.K (.ref C)=true)(A:Gl X x)(f:(x==("__debug__":Str))=false):PE X (.Call (.Name x p) [] [] pos) (λσ H Q=>∀a dx,H a=none->H dx=none->dx≠a->Q (.ref a) (upd (upd H dx (.own a)) a (.ins C dx []))):=by(intro aA s σ H Q I h;refine pf (mW I A m ?_ f);refine W.callWith_K0 I.kIn B (vh (NH I.kIn l D (λself=>W.Looks.of_pure (W.oi_bind self)) ?_));have E:=Inv.made (C:=C) I;have d:=W.makes_of (M:=model X.prog X.w) I.kIn l;have r:((s.heap.push W.emptyDict).push (W.instObj C s.heap.objs.size)).get? (s.heap.objs.size+1)=some (W.instObj C s.heap.objs.size):=by have:=fi (s.heap.push W.emptyDict) (o:=W.instObj C s.heap.objs.size) rfl;rwa [pc]at this);have t:W.Looks (model X.prog X.w) ((s.heap.push W.emptyDict).push (W.instObj C s.heap.objs.size)) (typeOf (.ref (s.heap.objs.size+1))) (.ref C):=(W.Looks.ld r).andThen .now;have t2:W.Looks (model X.prog X.w) ((s.heap.push W.emptyDict).push (W.instObj C s.heap.objs.size)) (isInstance (.ref (s.heap.objs.size+1)) (.type "object")) true:=t.andThen (d.top.keeps λb o e=>hps (hps e));refine codeAny_call_builtin W.oi_plain W.entry_oi (@W.check_slot (model X.prog X.w) _ _ _ "object.__init__" "object" "__init__" (.ref (s.heap.objs.size+1)) [] [] _ W.oi_kind W.oi_split t2 (W.oi_args (.ref (s.heap.objs.size+1))) ?_);rw[W.oi_run];refine cq (And.intro rfl ⟨.ref (s.heap.objs.size+1),_,E,rfl,?_⟩);exact h (s.heap.objs.size+1) s.heap.objs.size (I.hok.fresh (p8 _)) (I.hok.fresh (dm _)) (gj (Nat.lt_succ_self _))
def P8{F:Hp}{a C:Addr}(s:aE F H)(f:H a=none)(hd:H dx=none)(d:dx≠a):aG F H F (upd (upd H dx (.own a)) a (.ins C dx [])):=by have S:=aG.fresh (.own a) s hd;refine S.trans (aG.fresh _ S.sub ?_);rw[aP (λz=>d z.symm)];exact f
def P9{c:Str}(M:tW X.K X.mg c)(l:Gl X c)(d:(c==("__debug__":Str))=false):PV C X (.Call (.Name c p) [] [] pos) (λ_=>.ok .fr (.ins c [])):=by(exists t,n,f,r,o,m,M.ex;refine PE.imp (P7 f r o m l d) λσ H Q q=>?_;rw[aR]at q;exists Y,F,R,w,q;intro a dx ha hd hne;refine w (.ref a) F _ (P8 R.sub ha hd hne) #[a,rfl,R.sub.free ha,t,dx,[],n,a8,?_] λ_ b E=>by cases E;exact ha);simp only[dH]
def Qa(K:Fg)(mg:fg)(c:Str)(n:Nat)(Φ:List D->Res):Sp:=λvs H Q E=>∃x us dx C H1 F ds,vs=.ref x::us/\us.length=n/\W.nsIn K mainGlobals c=some (some (.ref C)) /\
 H=upd (upd H1 dx (.own x)) x (.ins C dx [])/\H1 x=none/\H1 dx=none/\dx≠x/\aE F H1/\aD K F ds us/\match Φ ds with|.ok _ d=>∀F' H',aG F H1 F' H'->Rp K F' H' .fr d (.ref x)->Q .non H'|.exc c=>∀F' H' u,aG F H1 F' H'->mg c=some u->E u none H'|.stuck=>False
structure D1(P:fc)(w:dh)(K:Fg)(mg:fg)(base:Heap)(CX:CXT)(k:Nat)(c:Str)(n:Nat)(Φ:List D->Res):Prop where
 ex:∃C f fd ps,W.nsIn K mainGlobals c=some (some (.ref C))/\mg c=some (.ref C)/\Mk K C f/\bO P w K mg base CX k f fd ps (Qa K mg c n Φ)/\cQ K fd ps []
structure F8(K:Fg)(mg:fg)(cl:List CI)(c:Str):Prop where
 ex:∃C,mg c=some (.ref C)/\(∀t∈["NoneType","bool","int","str","tuple","list","dict"],W.kitOne K (.type t) (.ref C)=some false) /\
  ∀i∈cl,∃C',W.nsIn K mainGlobals i.name=some (some (.ref C'))/\ng K C'/\W.findIn K (.ref C') "__class__"=some (some (.builtin "object.__class__")) /\
   W.specialIn K (.builtin "object.__class__") "__get__"=some (some (.builtin "getset_descriptor.__get__"))/\W.takesIn K (.builtin "object.__class__")=some true/\W.mroIn K C' (.type "object")=some true /\
   W.kitOne K (.ref C') (.ref C)=some (i.ups.contains c)
section
variable{a b:Expr}
def gE:D->Bool|.non=>true|_=>false
def F9{K:Fg}{F:Hp}{m:Md}{d:D}(s:aE F H)(r:Rp K F H m d v):decide (v=.non)=gE d:=by
 cases d with
 |non=>cases r.non;rfl|bl _=>cases r.bl;rfl|int _=>cases r.int;rfl|str _=>cases r.str.1;rfl|tup _=>exists _,_,rfl,_,r.seqT s;rfl|lst _=>exists _,_,rfl,_,r.seqL s;rfl|dct _=>exists _,_,rfl,_,r.dict s;rfl|ty _=>cases r.ty;rfl|ob _=>cases r.ob;rfl|ins _ _=>exists _,_,_,_,rfl,_,r.ins s;rfl|fn _=>cases m with|fz=>have r:aB K F _ v:=r;simp only[aB]at r;exists _,rfl,_,r;rfl|fr|bo=>exists _,_,_,q,r;exact q.elim
 |exn _=>cases m with|fz=>have r:aB K F _ v:=r;simp only[aB]at r;exists _,_,rfl,_,r;rfl|fr|bo=>exists _,_,_,q,r;exact q.elim
 |set _|dtn _=>cases m with|fz=>have r:aB K F _ v:=r;simp only[aB]at r;exists _,_,rfl,_,r;rfl|fr|bo=>exists _,rfl,_,_,r;rfl
 |dtf _|dcf _=>cases m with|fz=>have r:aB K F _ v:=r;simp only[aB]at r;exists _,_,_,rfl,_,r;rfl|fr|bo=>exists _,rfl,_,_,r;rfl
 |clo _ _=>cases m with|fz=>have r:aB K F _ v:=r;simp only[aB]at r;exists _,_,_,_,_,_,_,_,_,_,rfl,_,r;rfl|fr|bo=>exists _,rfl,_,_,r;rfl
noncomputable def qh(neg:Bool):Md->D->Md->D->Option (Md×D):=λ_ x _ y=>match y with|.non=>some (.fz,.bl (if neg then !gE x else gE x))|_=>none
def Qb:e8 C X (compareOp .Is) (qh false):=by refine#[_,Nv,λF H m x n y v u k d Q s f r e w=>?_];unfold qh at e;split at e;{cases e;cases r.non;exact#[rfl,by rw[F9 s f];exact w _ F H (.refl s) (cJ _) (by nofun)]};cases e
def Qc:e8 C X (compareOp .IsNot) (qh true):=by refine#[_,Nw,λF H m x n y v u k d Q s f r e w=>?_];unfold qh at e;split at e;{cases e;cases r.non;exact#[rfl,by rw[F9 s f];exact w _ F H (.refl s) (cJ _) (by nofun)]};cases e
def Ga:kS (qh neg):=λm x n y k d e=>by unfold qh at e;split at e;{cases e;exact#[_,rfl,rfl]};cases e
theorem Qd:gp X (binaryOp .Add) (λx y H Q=>∃l b U ys,x=.ref l/\y=.ref b/\fe X.K H l U/\fe X.K H b ys/\U.length+ys.length<=sizeLine/\∀p,H p=none->Q (.ref p) (upd H p (.lst (U++ys)))):=by(intro aA s σ H x y v u Q I rx ry h;exists l,b,U,ys,rfl,rfl,N,V,L,q,h;cases rx;cases ry;exists its,A,p1,_,I.list N;exists d,t,p2,_,I.list V;obtain⟨⟨cls,W,data,J⟩,n,ho,E,T,hd⟩:=p1;obtain⟨⟨G,D,data2,S⟩,n2,f,r,B,m⟩:=p2;simp only at E hd r m;subst E hd r m;have e:its.toArray++d.toArray=(its++d).toArray:=by simp);have l1:=A.length;have Z:=t.length;refine Bl #[_,ho,rfl] #[_,f,rfl] noFill_list_add seq_list_add PySem.F.slot_list_add PySem.F.entry_list_add (PySem.F.args_list_add_2 _ _) (list_addW l b its.toArray d.toArray n n2 W D J S (by simp;lia)) #[ho,f,?_];rw[e];refine#[.ref s.heap.objs.size,_,I.laid (t':=s.toks) (o:=.lst (U++ys)) (λb ob q=>hps q) (dm _) ?_,rfl,q _ (I.hok.fresh (dm _))];exact#[by rw[ik];exact L,_,0,A.append t,fi _ rfl]
theorem Qe:gp X (binaryOp .Add) (λx y H Q=>∃l b U ys,x=.ref l/\y=.ref b/\SqT X.K H l U/\SqT X.K H b ys/\U.length+ys.length<=sizeLine/\(U=[]->Q (.ref b) H)/\(U≠[]->ys=[]->Q (.ref l) H)/\(U≠[]->ys≠[]->∀p,H p=none->Q (.ref p) (upd H p (.tup (U++ys))))):=by
 intro aA s σ H x y v u Q I rx ry h;exists l,b,U,ys,rfl,rfl,V,W,T,L,q1,J,h;cases rx;cases ry;exists its,B,p1,_,I.tuple V;exists d,A,p2,_,I.tuple W;have n1:=B.nil_iff;have n2:=A.nil_iff;have l1:=B.length;have l2:=A.length;by_cases f:its=[]
 . obtain⟨⟨cls,Z,data,G⟩,ho,E,n,hd⟩:=id p1;obtain⟨⟨F,D,data2,S⟩,m,t,N,r⟩:=id p2;simp only at E hd t r;subst E hd t r;exact Bl #[_,ho,rfl] #[_,m,rfl] CU seq_tuple_add CV CW (CY _ _)
     (tuple_addW0 l b its.toArray d.toArray n N Z D G S (by simp[f])) #[ho,m,#[.ref b,H,I,rfl,L (n1.mp f)]]
 . refine HT.aI9 p1 p2 f (λz=>#[.ref l,H,I,rfl,q1 (λw=>f (n1.mpr w)) (n2.mp z)]) (λz=>?_) (by lia);refine#[.ref s.heap.objs.size,_,I.laid (t':=s.toks) (o:=.tup (U++ys)) (λb ob q=>hps q) (dm _) ?_,rfl,J (λw=>f (n1.mpr w)) (λw=>z (n2.mpr w)) _ (I.hok.fresh (dm _))];exact#[by rw[ik];exact T,_,B.append A,fZ.new _ _]
noncomputable def pT:Md->D->Md->D->Option (Md×D):=λm x n y=>match x,y with|.lst U,.lst ys=>if U.length+ys.length<=sizeLine then some (.fr,.lst (U++ys))else none|.tup U,.tup ys=>if U.length+ys.length<=sizeLine then some (.fz,.tup (U++ys))else none|_,_=>none
def aD.nilIff{K:Fg}{F:Hp}(h:aD K F ds U):U=[]↔ds=[]:=by have:=h.length;constructor;{intro e;subst e;cases ds with|nil=>rfl|cons _ _=>simp at this};intro e;subst e;cases U with|nil=>rfl|cons _ _=>simp at this
def Qf:e8 C X (binaryOp .Add) pT:=by
 refine#[_,Qd.or Qe,λF H m x n y v u k d Q s o l e w=>?_];unfold pT at e;split at e
 . rename_i U ys;split at e;{rename_i A;cases e;exists a,us,rfl,q1,f,o.seqL s;exists b,vs,rfl,t,r,l.seqL s;refine .inl #[a,b,us,vs,rfl,rfl,q1,t,by rw[f.length,r.length];exact A,λp hp=>?_];exact w (.ref p) F _ (aG.fresh _ s hp) #[p,rfl,s.free hp,_,a8,f.append r] λ_ a ea=>by cases ea;exact hp};cases e
 . rename_i U ys;split at e
   . rename_i A;cases e;have ex:=o;have E:=l;exists a,us,rfl,q1,f,o.seqT s;exists b,vs,rfl,t,r,l.seqT s;have fz:∀{m:Md}{zs:List D}{c:Addr},Rp X.K F H m (.tup zs) (.ref c)->aB X.K F (.tup zs) (.ref c):=λ{m zs c} h=>by
       cases m with|fz=>exact h|fr|bo=>exists _,_,_,q,h;exact q.elim
     refine .inr #[a,b,us,vs,rfl,rfl,q1,t,by rw[f.length,r.length];exact A,λz=>?_,λ_ z=>?_,λ_ _ p hp=>?_]
     . have:U=[]:=f.nilIff.mp z;subst this;exact w (.ref b) F H (.refl s) (fz E) (by nofun)
     . have:ys=[]:=r.nilIff.mp z;subst this;rw[h5]at w;exact w (.ref a) F H (.refl s) (fz ex) (by nofun)
     . exact w (.ref p) _ _ (aG.laid (.tup (us++vs)) s hp) (aB.tup_of (s.free hp) (f.append r)) (by nofun)
   . cases e
 . cases e
def bY:D->Bool|.non|.bl _|.int _|.str _=>true|_=>false
noncomputable def kj:D->D->Bool|.non,.non=>true|.bl a,.bl b=>a==b|.bl a,.int b=>(if a then 1 else 0)==b|.int a,.bl b=>a==(if b then 1 else 0)|.int a,.int b|.str a,.str b=>a==b|_,_=>false
noncomputable def lM(neg:Bool):Md->D->Md->D->Option (Md×D):=λ_ x _ y=>match y with|.lst ys|.tup ys=>if(bY x&&ys.all bY)=true then some (.fz,.bl (if neg then !(ys.any λy=>kj y x)else(ys.any λy=>kj y x)))else none|_=>none
def k0:D->V|.non=>.non|.bl b=>.bl b|.int i=>.int i|.str x=>.str x|_=>.non
def pU{K:Fg}{F:Hp}{m:Md}{d:D}(h:bY d=true)(r:Rp K F H m d v):v=k0 d:=by cases d with|non=>exact r.non|bl _=>exact r.bl|int _=>exact r.int|str _=>exact r.str.1|_=>cases h
theorem pV{K:Fg}{F:Hp}:∀{ds:List D}{U:List V},ds.all bY=true->aD K F ds U->U=ds.map k0|[],_,_,r=>by simp only[aD]at r;exact r|d::ds,_,h,r=>by simp only[aD]at r;exists y,ys,rfl,l,f,r;rw[jq,cw]at h;rw[dw,pU (H:=F) (m:=.fz) h.1 l,pV h.2 f]
def pW{d:D}(h:bY d=true):eV (k0 d)=true:=by cases d <;> first|rfl|cases h
def Gb{x:D}(f:bY x=true)(d:bY y=true):lj (k0 x) (k0 y)=kj x y:=by cases x <;> cases y <;> first|rfl|(cases f;done)|(cases d;done)
theorem tX{x:D}(f:bY x=true):∀{ds:List D},ds.all bY=true->B6 (k0 x) (ds.map k0)=ds.any λy=>kj y x|[],_=>rfl|d::ds,h=>by rw[jq,cw]at h;show(lj (k0 d) (k0 x)||B6 (k0 x) (ds.map k0))=(kj d x||ds.any _);rw[Gb h.1 f,tX f h.2]
theorem pX:∀{ds:List D},ds.all bY=true->(ds.map k0).all eV=true|[],_=>rfl|d::ds,h=>by rw[jq,cw]at h;rw[dw,jq,pW h.1,pX h.2];rfl
def Gc{f:bb->bb->Sem bb}(o:gp X f (DN X.K neg)):e8 C X f (lM neg):=by refine#[_,o,λF H m x n y v u k d Q s B A e w=>?_];unfold lM at e;split at e;{rename_i ys;split at e;{rename_i l;rw[cw]at l;cases e;exists b,vs,rfl,t,r,A.seqL s;have ev:=pU l.1 B;have es:=pV l.2 r;subst ev;subst es;exact#[b,_,rfl,.inl t,pW l.1,pX l.2,by rw[tX l.1 l.2];exact w _ F H (.refl s) (cJ _) (by nofun)]};cases e};{rename_i ys;split at e;{rename_i l;rw[cw]at l;cases e;exists b,vs,rfl,t,r,A.seqT s;have ev:=pU l.1 B;have es:=pV l.2 r;subst ev;subst es;exact#[b,_,rfl,.inr t,pW l.1,pX l.2,by rw[tX l.1 l.2];exact w _ F H (.refl s) (cJ _) (by nofun)]};cases e};cases e
def Gd:kS (lM neg):=λm x n y k d e=>by unfold lM at e;split at e;{split at e;{cases e;exact#[_,rfl,rfl]};cases e};{split at e;{cases e;exact#[_,rfl,rfl]};cases e};cases e
def j5:List (Md×D)->Option (Md×D)|[(_,.lst ds)]|[(.fz,.tup ds)]=>some (.fz,.tup ds)|_=>none
def lN:List (Md×D)->Option (Md×D)|[(_,.lst ds)]|[(_,.tup ds)]=>some (.fr,.lst ds)|_=>none
def Ge(i:Int):Bool:=decide (i.natAbs.log2<1920)
def Qg:gT X (.type "tuple") j5:=by refine#[_,Od,λF H U vs k d Q s f e w=>?_];unfold j5 at e;split at e;{rename_i m ds;cases e;exists v,rfl,r,f.one;exists a,U,rfl,q,o,r.seqL s;exact#[a,U,rfl,.inl #[q,λl t=>w (.ref l) _ _ (aG.laid (.tup U) s t) (aB.tup_of (s.free t) o) (by nofun)]]};{rename_i ds;cases e;exists v,rfl,r,f.one;have A:=r;exists a,U,rfl,q,o,r.seqT s;exact#[a,U,rfl,.inr #[q,w (.ref a) F H (.refl s) A (by nofun)]]};cases e
def Qh:gT X (.type "list") lN:=by refine#[_,Oc,λF H U vs k d Q s t e w=>?_];unfold lN at e;split at e;{rename_i m ds;cases e;exists v,rfl,r,t.one;exists a,U,rfl,q,o,r.seqL s;exact#[a,U,rfl,.inl q,λl f=>w (.ref l) F _ (aG.fresh _ s f) #[l,rfl,s.free f,U,a8,o] λ_ a ea=>by cases ea;exact f]};{rename_i m ds;cases e;exists v,rfl,r,t.one;exists a,U,rfl,q,o,r.seqT s;exact#[a,U,rfl,.inr q,λl f=>w (.ref l) F _ (aG.fresh _ s f) #[l,rfl,s.free f,U,a8,o] λ_ a ea=>by cases ea;exact f]};cases e
end
def Qi{T:String}{φ}{es:List Expr}(o:gT X (.type T) φ)(t:Gl X x)(m:X.mg x=none)(l:bootBuiltins x=some (.type T))(A:j3 C X (e::es) gs)(hn:x ≠ "__name__")(d:(x==("__debug__":Str))=false)(a:∀x∈e::es,bW x=true):PV C X (.Call (.Name x p) (e::es) [] pos) (λY=>dP φ (gs Y)):=by exists r,D,B,o;exact PE.imp (yX D t m l A hn d (bX (a e c6)) (j4 _ _ λy f=>a y (df f))) λσ H Q q=>zW B q
section
variable{A:dj}{E:di}
theorem Qj{l:Addr}{Q:List bb->cc->Prop}(G:A.handled=none)(ht:s.heap.IsList l items)(h:∀h',Heap.ExtBut s.heap.objs.size s.heap h'->∀tk,Q items.toList {s with heap:=h',toks:=tk}):wpAny (model prog w) A (unpackItems (.ref l) items.size none) Q E s:=by(unfold unpackItems notIterableAtAll;refine bv (bv (oh ht.typeIs PySem.F.slot_list_iter.lookup ?_));refine cq ?_;dsimp only;rw[ba gr];refine bv (il (CP ht ?_));have m:l<s.heap.objs.size:=by exists o,e,_,ht;exact dv e);(have a:l≠s.heap.objs.size:=gj m;have keep:∀b o,s.heap.get? b=some o->(s.heap.push { cls:=Value.type "list_iterator",data:=Data.fields (List.toArray [Value.ref l,Value.int 0 0]) }).get? b=some o:=λb o q=>hps q;have d:(s.heap.push { cls:=Value.type "list_iterator",data:=Data.fields (List.toArray [Value.ref l,Value.int 0 0]) }).IsList l items:=by exists o,e,c,ht;exact#[o,keep l o e,c]);have t:(s.heap.push { cls:=Value.type "list_iterator",data:=Data.fields (List.toArray [Value.ref l,Value.int 0 0]) }).IsListIter s.heap.objs.size l 0:=#[_,fi _ rfl,rfl,rfl];refine bv (il (W.kun_draw a items.size 0 _ _ t d (by lia) λh' B f=>?_));(have L:List.take items.size (List.drop 0 items.toList)=items.toList:=by rw[BA];exact BB (by simp));rw[L];rw[ba (by simp)];(have r:h'.IsList l items:=by exists o,e,c,d;exact#[o,by rw[f.2 l a];exact e,c]);rw[lA]at B;refine bv (il ((Walks.list G s.heap.objs.size l a items).done _ _ _ #[B,r] λJ tk K=>?_));rw[ba (by simp)];refine cq (h J (λb o D e=>K b o (by simpa using D) ?_) tk);show h'.get? b=some o;rw[f.2 b D];exact keep b o e
def Qk{l:Addr}{Q:Unit->cc->Prop}(d:A.handled=none)(ht:s.heap.IsList l items)(hn:(assignEach elts env).length=items.size)(a:(assignEach elts env).findIdx? (·.1)=none)(h:∀h',Heap.ExtBut s.heap.objs.size s.heap h'->∀tk,wpAny (model prog w) A (assignInOrder ((assignEach elts env).map (·.2)) items.toList) Q E {s with heap:=h',toks:=tk}):wpAny (model prog w) A (assign (.Tuple elts k pos) env (.ref l)) Q E s:=by rw[assign_Tuple];refine bv (nt ?_);unfold unpack;rw[a,hn];exact bv (il (Qj d ht h))
def Ql{t S:Addr}{l V:bb}{lo hi:Option Int}(ht:IsTup s.heap t items)(hs:s.heap.IsSliceOf S l V .none)(pl:IsPart l lo)(m:IsPart V hi)(h0:HT.sIx items.size 0 lo=0)(o:HT.sIx items.size items.size hi=items.size)(h:Q (.ref t) s):wpAny (model prog w) A (getItem (.ref t) (.ref S)) Q E s:=by
 exists os,d,f,fh,id hs;have tS:s.TypeIs (.ref S) "slice":=#[os,d,f];unfold getItem
 try with_reducible refine il ?_
 first|refine bv (cq ?_)|skip
 refine bv (wpAny_sequenceKey ht.typeIs (by decide) (bv (nA (name:=Str.ofString "__getitem__") ht.typeIs Bo (jp Bo ht.typeIs entry_tuple_getitem ?_ (args_tuple_getitem _ _)))))
 show wpAny _ _ (Builtin.Tuple.tupleItemsOf (.ref t)>>=_) _ _ s;refine bv (tupleItemsOf_ ht (bv (mw tS ?_)));rw[aK (by decide)]
 refine bv (HT.zA hs pl m ?_);have a:(((HT.sIx items.size 0 lo:Nat):Int)==0&&(1:Int)==1&&(HT.sIx items.size items.size hi-HT.sIx items.size 0 lo)==items.size)=true:=by rw[h0,o];simp
 show wpAny _ _ (if(((HT.sIx items.size 0 lo:Nat):Int)==0&&(1:Int)==1&&(HT.sIx items.size items.size hi-HT.sIx items.size 0 lo)==items.size)=true then _ else _) _ _ s;rw[aK a];unfold Builtin.Tuple.tupleIsExact;refine bv (bv (mw ht.typeIs (cq ?_)));rw[aK (by decide)]
 refine bv (pz ?_)
 first
  |exact cq #[_,rfl,cq h]
  |exact#[_,rfl,cq h]
end
def D2(K:Fg):V->Option Int->Option Int->Hp->VK->Prop:=λx lo d H Q=>∃a U,x=.ref a/\SqT K H a U/\(HT.sIx U.length 0 lo=0/\HT.sIx U.length U.length d=U.length)/\Q x H
def Qm:qf X (D2 X.K):=by(intro aA s σ H x v vl vu lo hi sl Q I rx hs pl pu h;exists a,U,rfl,m,f,q,h;cases rx;exists its,r,l,o,I.tuple m;have d:its.toArray.size=U.length:=by rw[fo];exact r.length.symm);exact#["tuple",_,PyProof.Rows.slot_tuple_getitem.lookup,l.typeIs,Ql l hs pl pu (by rw[d];exact f.1) (by rw[d];exact f.2) #[.ref a,H,I,rfl,q]]
def yc(K:Fg)(n:Nat)(t:m6):TG:=λv σ H Q=>∃a U,v=.ref a/\(SqT K H a U\/fe K H a U)/\U.length=n/\t U σ H Q
def Qn{es:List Expr}{t:m6}(B:X.calm=true)(h:uh X es t)(hn:(assignEach es X.env).length=n)(d:(assignEach es X.env).findIdx? (·.1)=none):PG X (.Tuple es k pos) (yc X.K n t):=by intro aA s σ H v u Q I r l;exists a,U,E,f,A,l,l;rcases f with f|f;{exact M9 B h hn d aA s σ H v u Q I r #[a,U,E,f,A,l]};subst E;cases r;exists its,m,F,J,I.list f;refine Qk (I.ok.hd B) F.isList (by simp[hn,<- A,m.length]) d λh' D tk=>?_;have G:Inv X aA σ H {s with heap:=h',toks:=tk}:=I.kept (t':=tk) λb o e=>D b o (gj (dv e)) e;exact h aA _ σ H U _ Q G (by simpa using m) l
inductive Tg where
 |nm (i:Nat)|tp (ts:List Tg)
mutual
def aO:Tg->D->Rho->Option Rho|.nm i,d,Y=>some (Y.set i (some (false,d)))|.tp ts,d,Y=>match d with|.tup ds|.lst ds=>dR ts ds Y|_=>none
def dR:List Tg->List D->Rho->Option Rho|[],ds,Y=>if ds.isEmpty then some Y else none|t::ts,ds,Y=>match ds with|d::ds=>((match aO t d Y with|some a=>dR ts ds a|none=>none))|[]=>none
end
mutual
def dB:Tg->List Nat|.nm i=>[i]|.tp ts=>pY ts
def pY:List Tg->List Nat|[]=>[]|t::ts=>dB t++pY ts
end
mutual
def jg(K:Fg):Tg->TG|.nm i=>mX i|.tp ts=>yc K ts.length (i5 K ts)
def i5(K:Fg):List Tg->m6|[]=>wh|t::ts=>yM (jg K t) (i5 K ts)
end
end D3
variable{t:D3.Tg}
namespace D3
def lm(X:Cx)(tg:Expr)(t:Tg):Prop:=PG X tg (jg X.K t)
def j6(X:Cx)(T:List Expr)(ts:List Tg):Prop:=uh X T (i5 X.K ts)
def i6:Expr->Bool|.Starred ..=>false|_=>true
def tY{es:List Expr}(h:i6 e=true):assignEach (e::es) env=(false,assign e env)::assignEach es env:=by cases e <;> first|rfl|cases h
theorem tZ:∀{ts:List Tg}{ds:List D}{Y ρ':Rho},dR ts ds Y=some ρ'->ds.length=ts.length|[],ds,Y,ρ',e=>by simp only[dR]at e;split at e;{rename_i h;(have:ds=[]:=by simpa using h);subst this;rfl};cases e|t::ts,ds,Y,ρ',e=>by simp only[dR]at e;split at e;{split at e;{rw[gg,gg,tZ e]};cases e};cases e
mutual
theorem j7{K:Fg}{F0 H0:Hp}:∀(t:Tg) {F H:Hp}{σ:L2.St}{Y ρ':Rho}{d:D}{v:V}{Q:L2.St->Hp->Prop},aT K F0 H0 F H σ Y->aB K F d v->aO t d Y=some ρ'->(∀f,aT K F0 H0 F H f ρ'->f.length=σ.length->(∀j,j∉dB t->f[j]? = σ[j]?)->Q f H)->jg K t v σ H Q|.nm i,F,H,σ,Y,ρ',d,v,Q,R,r,e,w=>by simp only[aO]at e;cases e;simp only[jg];refine w _ (R.set (m:=false) (.refl R.sub) r (by nofun)) (by rw[pq]) λj A=>?_;simp only[dB,fj]at A;rw[jo (λz=>A z.symm)]|.tp ts,F,H,σ,Y,ρ',d,v,Q,R,r,e,w=>by simp only[aO]at e;split at e;{rename_i ds;simp only[aB]at r;exists a,U,rfl,o,l,r;simp only[jg];refine#[a,U,rfl,.inl (aE.seqT R.sub o),by rw[l.length];exact tZ e,t4 ts R l e ?_];simp only[dB]at w;exact w};{rename_i ds;simp only[aB]at r;exists a,U,rfl,o,l,r;simp only[jg];refine#[a,U,rfl,.inr (R.sub.seq o),by rw[l.length];exact tZ e,t4 ts R l e ?_];simp only[dB]at w;exact w};cases e
theorem t4{K:Fg}{F0 H0:Hp}:∀(ts:List Tg) {F H:Hp}{σ:L2.St}{Y ρ':Rho}{ds:List D}{vs:List V}{Q:L2.St->Hp->Prop},aT K F0 H0 F H σ Y->aD K F ds vs->dR ts ds Y=some ρ'->(∀a,aT K F0 H0 F H a ρ'->a.length=σ.length->(∀j,j∉pY ts->a[j]? = σ[j]?)->Q a H)->i5 K ts vs σ H Q|[],F,H,σ,Y,ρ',ds,vs,Q,R,r,e,w=>by simp only[dR]at e;split at e;{cases e;rename_i hd;(have:ds=[]:=by simpa using hd);subst this;simp only[aD]at r;simp only[i5];exact#[r,w σ R rfl λ_ _=>rfl]};cases e|t::ts,F,H,σ,Y,ρ',ds,vs,Q,R,r,e,w=>by simp only[dR]at e;split at e;{rename_i d ds';split at e;{rename_i o N;simp only[aD]at r;exists y,ys,rfl,B,A,r;simp only[i5];refine#[y,ys,rfl,j7 t R B N λm R1 E J=>t4 ts R1 A e λf R2 L G=>w f R2 (L.trans E) λj l=>?_];simp only[pY,ko,not_or]at l;rw[G j l.2,J j l.1]};cases e};cases e
end
def Qo(hN:X.N.Nodup)(hi:X.N[i]? = some x)(a:L2.Loc X.env.scope x)(d:X.fn x=true\/X.env.scope.names.lookup x=some .local):lm X (.Name x pos) (.nm i):=by unfold lm;simp only[jg];exact M6 hN hi a d
def Qp:j6 X [] []:=by unfold j6;simp only[i5];exact M7
def Qq{es:List Expr}{ts:List Tg}(d:lm X e t)(a:j6 X es ts)(hs:i6 e=true):j6 X (e::es) (t::ts):=by unfold j6;simp only[i5];exact M8 d a (by rw[tY hs];rfl)
def Qr{es:List Expr}(hs:∀e∈es,i6 e=true):(assignEach es env).length=es.length/\(assignEach es env).findIdx? (·.1)=none:=by induction es with|nil=>exact#[rfl,rfl]|cons e es a=>exists l,f,a λx d=>hs x (df d);rw[tY (hs e c6)];refine#[by rw[gg,gg,l],?_];rw[q5];simp[f]
def Qs{es:List Expr}{ts:List Tg}(d:X.calm=true)(h:j6 X es ts)(hs:∀e∈es,i6 e=true)(a:es.length=ts.length):lm X (.Tuple es k pos) (.tp ts):=by have st:=Qr (env:=X.env) hs;unfold lm;simp only[jg];exact Qn (n:=ts.length) d h (by rw[st.1,a]) st.2
def Qt(h:lm X tg t):FG C X tg (aO t) :=
 #[_,h,λF H σ Y ρ' d v Q R r e w=>j7 t R r e λa f _ _=>w a F H (aE.refl _) f]
def pZ(t:Tg)(Y:Rho)(r:Res):aI:=(aM r).thS Y λm d=>match m with|.fz=>(match aO t d Y with|some ρ'=>.nx ρ'|none=>.stuck)|_=>.stuck
def Qu(G:PV C X e g)(D:lm X tg t)(hs:swapsWithSole [tg] e pos.line X.env=pure false)(B:swappedStores [tg] e X.env=pure none)(f:i6 tg=true):ju C X (.Assign [tg] e pos) (λY=>pZ t Y (g Y)):=by
 refine PS.imp (Na (eN G) D hs B (by rw[tY f];rfl)) λL σ H A=>?_
 exists Y,F,R,w,A;unfold pZ at w;refine iE R w λm d v F' H' W s J o fr=>?_;cases m with
 |fr|bo=>exact(show False from W).elim|fz =>
 cases E:aO t d Y with|none=>rw[E]at W;exact(show False from W).elim|some ρ'=>rw[E]at W;have l:aB X.K F' d v:=o;exact j7 t J l E λa r _ _=>W a F' H' (aE.refl _) r
def nN{r:Res}{m:Md}{d:D}(h:aM r=.ok m d):m=.fz:=by cases r with|ok m' a=>cases m' <;> cases h <;> rfl|exc c|stuck=>cases h
theorem Gf{gt:Rho->Res}(aj:∀j∈dB t,aC.length<=j){Q:VK}(q:tG (C.at X) (λY=>cF (gi Y) Y aC tgN.length (aO t) gt ge) σ H Q):nJ aC tgN.length (sg (C.at X) gi) (jg X.K t) (tT (C.nox.at X) gt) (tG (C.nox.at X) λY=>aM (ge Y)) σ H Q:=by
 rw[aR]at q;exists Y,F,RS,w,q;unfold nJ;refine#[Y,F,RS,?_];cases er:gi Y with
 |stuck|exc c=>rw[er]at w;exact w|ok m d =>
  rw[er]at w;unfold cF at w;rw[Res.thn_ok]at w;split at w
  . rename_i ds;split at w
    . rename_i ar;split at w
      . rename_i T et;intro J F1 H1 s1 hJ Da hDa;have G:H Da=none:=s1.same.free hDa;have ah:F1 Da=none:=s1.sub.free hDa;have R0:=tU aC tgN.length RS;obtain⟨W,hW⟩:∃W:Nat->Nat->List V->Hp->Prop,∀i m ys H',W i m ys H'↔m=ds.length-i/\i<=ds.length/\H' Da=some (.lst ys)/\∃F' zs,aG F H F' H'/\aE F1 F'/\F' Da=none/\aD X.K F' zs ys/\zs.length<=i /\
          ∃rest,cZ (aO t) gt ge (cA aC Y++List.replicate tgN.length none) (ds.drop i)=some rest/\T=zs++rest:=#[_,λ_ _ _ _=>Iff.rfl]
        refine#[W,#[_,(hW ..).mpr #[rfl,gw _,a8,F1,[],s1.upd G ah,aE.refl _,ah,aD.nil,dm _,T,et,rfl]],λi m ys H' wi=>?_];exists rfl,am,hD,F',zs,st,sF,aa,rz,Z,rest,l,E,(hW ..).mp wi;refine#[hD,?_];by_cases f:i<ds.length
        . refine .inr #[hJ.go i H' (sF.trans st.sub) f,by rw[rz.length];lia,λv H2 y=>?_];exists F2,d,ed,o,rd,hJ.yld i F' H' v H2 sF st.sub f y;rw[show ds.drop i=d::ds.drop (i+1) by rw[vf f];rw[gm f]at ed;cases ed;rfl]at l;unfold cZ at l;have r:=o.same _ _ hD;have ag:F2 Da=none:=o.new _ aa (by rw[hD];exact λz=>nomatch z);split at l;{cases l};rename_i ai eg;refine j7 t ((R0.step st).step o) rd eg λaq R1 N B=>?_;refine#[#[N.symm,λj u ej=>?_],ai,F2,R1,?_];{by_cases hj:j∈dB t;{have:=aj j hj;rw[nv (by simpa[cD]using this),ny]at ej;split at ej <;> cases ej};rw[B j hj];exact ej};split at l;{rename_i mt ett;rw[ett];intro F3 H3 S;have D:=S.same _ _ r;have ae:F3 Da=none:=S.new _ ag (by rw[r];exact λz=>nomatch z);rw[aK rfl,aR];refine#[_,F3,R1.step S,?_];split at l;{rename_i me ye ee;cases nN ee;rw[ee];exists A,ak,rfl,og.mp l;intro u F4 H4 L ru _;exact#[L.same _ _ D,ds.length-(i+1),by lia,(hW ..).mpr #[rfl,f,a8,F4,zs++[ye],(((st.trans o).trans S).trans L).upd G (L.new _ ae (by rw[D];exact λz=>nomatch z)),((sF.trans o.fsame).trans S.fsame).trans L.fsame,L.new _ ae (by rw[D];exact λz=>nomatch z),aD.append (rz.mono ((o.fsame.trans S.fsame).trans L.fsame) _ _) (aD.cons ru aD.nil),by rw[ik];exact Nat.succ_le_succ Z,A,ak,by rw[E,js];rfl]]};cases l};{rename_i mt ett;rw[ett];intro F3 H3 S;rw[ba gr];exact#[ds.length-(i+1),by lia,(hW ..).mpr #[rfl,f,S.same _ _ r,F3,zs,(st.trans o).trans S,(sF.trans o.fsame).trans S.fsame,S.new _ ag (by rw[r];exact λz=>nomatch z),rz.mono (o.fsame.trans S.fsame) _ _,Nat.le_succ_of_le Z,rest,l,E]]};cases l
        . (have ei:i=ds.length:=by lia);subst ei;rw[tj]at l;cases l;rw[h5]at E;subst E;exact .inl #[hJ.stop _ H' (sF.trans st.sub) (dm _),w (.ref Da) F' H' st #[Da,rfl,aa,ys,hD,rz] λ_ a ea=>by cases ea;exact G]
      . exact w.elim
    . exact w.elim
  . exact w.elim
def Qv{gt:Rho->Res}(r:X.calm=true)(hi:kz C X tg iter gi)(L:∀y∈scope.names,y.2 ≠ .cell)(J:scope.kind=.function)(F:∀y∈scope.names,y.2=.local->scope.names.lookup y.1=some .local)(G:∀y∈scope.names,y.2=.free->X.env.kindOf y.1=some .cell\/X.env.kindOf y.1=some .free)(D:aJ.map some=aC.map λi=>X.N[i]?)(E:∀y∈aJ,(y,NameKind.free)∈scope.names)(B:∀y∈aJ,(relabel scope X.env).names.lookup y=some .cell\/(relabel scope X.env).names.lookup y=some .free)(f:∀j∈dB t,aC.length<=j)(l:∀cl A fp S a,lm (aY X scope (aJ++tgN) cl A fp S a) tg t)(m:∀cl A fp S a,dQ (aY X scope (aJ++tgN) cl A fp S a) ifs (tT (C.nox.at X) gt))(o:∀cl A fp S a,PV C.nox (aY X scope (aJ++tgN) cl A fp S a) elt ge)(hs:∀x,foldedSetIterable iter X.env x=pure x:=by intro _;rfl):PV C X (.ListComp elt [#[tg,iter,ifs,0]] scope pos) (λY=>cF (gi Y) Y aC tgN.length (aO t) gt ge):=by
 have d:aJ.length=aC.length:=by simpa using congrArg List.length D
 refine PE.imp (Pw (aJ:=aJ) (tgN:=tgN) (gt:=jg X.K t) (tt:=tT (C.nox.at X) gt) (te:=tG (C.nox.at X) λY=>aM (ge Y)) r hi L J F G D E B
  l m (λcl A fp S a=>eN (o cl A fp S a)) hs) λσ H Q q=>Gf f q
def Qw(fz:Bool){spos:Pos}{gt:Rho->Res}(B:X.calm=true)(hi:kz C X tg iter gi)(W:∀y∈scope.names,y.2 ≠ .cell)(V:scope.kind=.function)(L:∀y∈scope.names,y.2=.local->scope.names.lookup y.1=some .local)(T:∀y∈scope.names,y.2=.free->X.env.kindOf y.1=some .cell\/X.env.kindOf y.1=some .free)(G:aJ.map some=aC.map λi=>X.N[i]?)(D:∀y∈aJ,(y,NameKind.free)∈scope.names)(J:∀y∈aJ,(relabel scope X.env).names.lookup y=some .cell\/(relabel scope X.env).names.lookup y=some .free)(f:∀j∈dB t,aC.length<=j)(m:∀cl A fp S a,lm (aY X scope (aJ++tgN) cl A fp S a) tg t)(o:∀cl A fp S a,dQ (aY X scope (aJ++tgN) cl A fp S a) ifs (tT (C.nox.at X) gt))(r:∀cl A fp S a,PV C.nox (aY X scope (aJ++tgN) cl A fp S a) elt ge)(hN:X.N.Nodup)(l:X.N[i]? = some x)(hk:X.env.scope.names.lookup x=some .local)(d:swapsWith (.ListComp elt [#[tg,iter,ifs,0]] scope pos) (some (.Name x pos')) spos.line X.env=pure true)(hs:∀x,foldedSetIterable iter X.env x=pure x:=by intro _;rfl):ju C X (.Assign [.Name x pos'] (.ListComp elt [#[tg,iter,ifs,0]] scope pos) spos) (λY=>dA Y i (if fz=true then aM (cF (gi Y) Y aC tgN.length (aO t) gt ge)else cF (gi Y) Y aC tgN.length (aO t) gt ge)):=by
 refine PS.imp (Px (aJ:=aJ) (tgN:=tgN) (gt:=jg X.K t) (tt:=tT (C.nox.at X) gt) (te:=tG (C.nox.at X) λY=>aM (ge Y)) B hi W V L T G D J
  m o (λcl A fp S a=>eN (r cl A fp S a)) hN l hk d hs) λE σ H q=>Gf f ?_
 cases fz with|false=>exact tQ q|true=>have q:=tQ q;unfold mY at q;rw[aR]at q ⊢;exists Y,F,R,w,q;exact#[Y,F,R,aZ.frz w]
inductive oq(C:Cw)(X:Cx):List Expr->List (Rho->Res)->Prop where
 |nil:oq C X [] []
 |cons {e:Expr}{g:Rho->Res}{es:List Expr}{gs:List (Rho->Res)} (h:PV C X e g) (r:oq C X es gs):oq C X (e::es) (g::gs)
inductive lp(A:dj)(s:cc):List bb->List bb->Bool->Prop where
 |nn:lp A s [] [] false
 |nc {w:bb}{ws:List bb}:lp A s [] (w::ws) true
 |cn {v:bb}{vs:List bb}:lp A s (v::vs) [] false
 |eq {v w:bb}{vs ws:List bb}{b:Bool} (h:SeqAt.EqAt A s v w true) (r:lp A s vs ws b):lp A s (v::vs) (w::ws) b
 |ne {v w:bb}{vs ws:List bb}{b:Bool} (h:SeqAt.EqAt A s v w false) (l:∀(prog:fc) (w':dh) (E:di) (Q:di),Q (.bool b) s->wpAny (model prog w') A (richCompare .Lt v w) Q E s):lp A s (v::vs) (w::ws) b
section
open PySem.SeqAt
open PySem.AutoSeq1 (wpAny_loadPart')
open PySem.MeetsSeq PySem.MeetsSeq2 PySem.MeetsSeq3
theorem Qx(l b:Addr)(items a:Array bb)(n n2:Nat)(W J:Option Addr)(K S:Array (Option bb))(r:Bool):Meets (Builtin.«tuple.__lt__» #[[.ref l,.ref b],[]]) (λA R s=>s.heap.get? l=some { cls:=.type "tuple",dict:=W,data:=.seq items n,slots:=K }/\s.heap.get? b=some { cls:=.type "tuple",dict:=J,data:=.seq a n2,slots:=S }/\lp A.in1 s items.toList a.toList r/\R (.ok (.ret (.bool r))) s):=
 .of_wp λprog w A R s h=>by
  exists hp,g,d,tk,os,s;exists N,V,T,h,h;have f2:=AutoSeq1.sub_tuple_tuple
  wp_walk using wpAny_loadPart' N,wpAny_loadPart' V,vd _ (λrest b O=>b.1=none/\O=#[hp,g,d,tk,os]/\∃(vs ws:List bb),rest=vs.zip ws /\
   lp A.in1 #[hp,g,d,tk,os] vs ws r/\vs.length+a.size=ws.length+items.size) _
  case turn =>
   rintro⟨y,x⟩ rest b O ⟨o,rfl,vs,ws,hz,hvi,hlen⟩;cases hvi with|nn|nc=>rw[List.zip_nil_left]at hz;cases hz|cn=>rw[List.zip_nil_right]at hz;cases hz|eq D B=>(rw[tm]at hz;injection hz with m f;injection m with E F;subst E F;simp only[gg]at hlen;refine bv (D prog w _ _ ?_);wp_walk;exact#[rfl,rfl,_,_,f,B,by lia])|ne D B=>rw[tm]at hz;injection hz with m f;injection m with E F;subst E F;refine bv (D prog w _ _ ?_);have G:=B prog w;wp_walk using G;exact#[_,rfl,by simpa using h]
  case fin =>
   rintro⟨b1,Z⟩ O ⟨o,rfl,vs,ws,hz,hvi,hlen⟩;simp only at o;subst o;have L:r=decide (items.size<a.size):=by cases hvi with|nn=>simp only[pv]at hlen;exact(jw (by lia)).symm|nc=>simp only[pv,gg]at hlen;exact(ip (by lia)).symm|cn=>simp only[pv,gg]at hlen;exact(jw (by lia)).symm|eq D B|ne D B=>rw[tm]at hz;cases hz
   rw[L]at h
   wp_walk
   exact#[_,rfl,by simpa[Builtin.Tuple.tupleCompareSizes]using h]
  case h=>exact#[rfl,rfl,items.toList,a.toList,rfl,T,by simp[Nat.add_comm]]
end
section
variable{A:dj}{E:di}
def Qy{l:Addr}{a:Array bb}{r:Bool}(K:IsTup s.heap l items)(L:IsTup s.heap b a)(hi:lp (A.in1) s items.toList a.toList r)(J:A.units<cLine)(h:Q (.bool r) s):wpAny (model prog w) A (compareOp .Lt (.ref l) (.ref b)) Q E s:=by
 obtain⟨⟨cls,N,data,G⟩,ho,o,n,hd⟩:=id K;obtain⟨⟨B,D,data2,S⟩,d,m,n2,f⟩:=id L;simp only at o hd m f;subst o hd m f;exact richCompare_meets_room (op:=.Lt) #[_,ho,rfl] #[_,d,rfl] PySem.F.slot_tuple_lt PySem.F.entry_tuple_lt (PySem.F.args_tuple_lt_2 _ _) (Qx l b items a n n2 N D G S r)
  #[ho,d,hi,show Value.bool r≠Value.notImplemented/\Q (.bool r) s from#[(λx=>nomatch x),h]] J
end
section
open PySem.SeqAt
open PySem.AutoSeq1 (wpAny_loadPart')
open PySem.MeetsSeq PySem.MeetsSeq2 PySem.MeetsSeq3
variable{A:dj}{E:di}
def Qz{t:Addr}{U:Array bb}{x:bb}(hi:s.heap.IsTupleIter it t i)(ht:IsTup s.heap t U)(a:U[i]? = some x)(q:∀h',h'.IsTupleIter it t (i+1)->Heap.SameBut it s.heap h'->Q x {s with heap:=h'}):wpAny (model prog w) A (Builtin.SmallTypes.nextOf (.ref it)) Q E s:=by
 have ty:=hi.typeIs;exists o,ho,d,hd,hi;exists p,hp,_,n,hs,ht
 delta Builtin.SmallTypes.nextOf
 apply bv;apply nA (name:=Str.ofString "__next__") ty BC;refine jp BC ty Fp ?w (Fq _)
 case w =>
  refine bv (m:=field (.ref it) 0) (pj ho hd (x:=.ref t) rfl ?_);rw[show(Value.ref t==Value.none)=false from rfl,ba gr]
  refine bv (m:=field (.ref it) 1) (pj ho hd (x:=.int i 0) rfl ?_);apply bv;apply Bv hp hs;rw[ph];simp only[a];apply bv;apply q7 ho hd (by simp)
  refine cq #[x,rfl,cq (q _ #[_,pk _ ho (BD (p9 hd _)),?_,?_] (lw ..))]
  . rw[BE,d]
  . rw[p9 hd];simp[rawInt]
def Gg{t:Addr}{U:Array bb}(h0:A.handled=none)(hi:s.heap.IsTupleIter it t i)(ht:IsTup s.heap t U)(d:U[i]? = none)(q:∀h' e,Heap.ExtBut it s.heap h'->(∃o,h'.get? e=some o/\o.cls=.type "StopIteration")->E (.ref e) {s with heap:=h'}):wpAny (model prog w) A (Builtin.SmallTypes.nextOf (.ref it)) Q E s:=by
 have ty:=hi.typeIs;exists o,ho,f,hd,hi;exists p,hp,_,n,hs,ht
 delta Builtin.SmallTypes.nextOf
 apply bv;apply nA (name:=Str.ofString "__next__") ty BC;refine jp BC ty Fp ?w (Fq _)
 case w =>
  refine bv (m:=field (.ref it) 0) (pj ho hd (x:=.ref t) rfl ?_);rw[show(Value.ref t==Value.none)=false from rfl,ba gr]
  refine bv (m:=field (.ref it) 1) (pj ho hd (x:=.int i 0) rfl ?_);apply bv;apply Bv hp hs;rw[ph];simp only[d];apply bv;apply pz;apply bv;apply q7 ho hd (by simp)
  refine bv (m:=newExc (.type "StopIteration") []) ?_;simp only[newExc,newTuple];apply bv;refine je ?_ (by size_fits)
  apply bv (m:=firstArgMember _ _);refine vi (a:=.none) ?_ ?_
  . first|rfl|(unfold firstArgMember;rfl)
  refine je (hd:=by size_fits) ?_
  simp only[raiseNew];apply bv;apply wpAny_handled
  first|rw[show A.in1.handled=none from h0]|rw[h0]
  refine wpAny_throw ?_;exact q _ _ ((Heap.SameBut.extBut (lw ..)).push _ |>.push _) #[_,fi _ rfl,rfl]
def Gh{a:Addr}{U:Array bb}(x:IsTup h a U)(k:∀o,h.get? a=some o->h'.get? a=some o):IsTup h' a U:=by exists o,ho,r,x;exact#[o,k o ho,r]
end
def QA{its:List Addr}{n:Addr}(I:Inv X aA σ H s)(k:∀b o,b∉its->s.heap.get? b=some o->h'.get? b=some o)(l:∀b∈its,cP X aA H b)(hn:s.heap.objs.size<=n)(new:∃us,aL U us/\fZ h' n us.toArray)(hz:U.length<=sizeLine):Inv X aA σ (upd H n (.tup U)) {s with heap:=h',toks:=t'}:=by
 have fr:H n=none:=I.hok.fresh hn;have lt:∀{b o},s.heap.get? b=some o->b≠n:=λe z=>absurd (dv e) (by rw[z];exact Nat.not_lt.mpr hn)
 have N:∀{b u},H b=some u->b≠n:=λe z=>by rw[z,fr]at e;cases e
 have f:∀{b u},H b=some u->b∉its:=λe z=>by rw[(l _ z).1]at e;cases e
 refine I.call (g':=s.gens) (d':=s.drawn) (ch:=its) #[λb o e _ _ a=>k b o a e,λb o e _ _ a=>#[o.slots,k b o a e],λb o e h0 _=>by rw[aP (lt e)];exact h0,λb o e a=>#[o,k b o a e],
  λb u e=>by rw[aP (N e)];exact e,λb u v e=>by rw[aP (N e)];exact e,λb u e=>#[#[],by rw[aP (N e),e];simp]] (λb u e=>?_) I.bare λb d=>?_
 . by_cases d:b=n;{subst d;rw[a8]at e;cases e;exact#[hz,new]};rw[aP d]at e;refine(I.hok b u e).stay (λc v m q=>k c v ?_ q) (λc q=>?_) λc v q=>?_;{rcases m with z|z;{rw[z];exact f e};exact f z};{rw[aP (N q)];exact q};rw[aP (N q)];exact q
 . exists f0,f1,f2,f3,r,F,l b d;exact#[f3,f1,r,F]
def qC{its:List Addr}(I:Inv X aA σ H s)(k:∀b o,b∉its->s.heap.get? b=some o->h'.get? b=some o)(d:∀b∈its,cP X aA H b):Inv X aA σ H {s with heap:=h',toks:=t'}:=by
 have N:∀{b u},H b=some u->b∉its:=λe z=>by rw[(d _ z).1]at e;cases e
 refine I.call (g':=s.gens) (d':=s.drawn) (ch:=its) #[λb o e _ _ a=>k b o a e,λb o e _ _ a=>#[o.slots,k b o a e],λb o e h0 _=>h0,λb o e a=>#[o,k b o a e],
  λb u e=>e,λb u v e=>e,λb u e=>#[#[],by rw[e];simp]] (λb u e=>?_) I.bare λb l=>?_
 . refine(I.hok b u e).stay (λc v f q=>k c v ?_ q) (λ_ q=>q) λ_ _ q=>q;rcases f with z|z;{rw[z];exact N e};exact N z
 . exists f0,f1,f2,f3,m,F,d b l;exact#[f3,f1,m,F]
open PySem.AutoSeq1 (wpAny_loadPart')
def QB{A:dj}(m:A.handled=none)(it t:Addr)(f:t≠it)(items:Array bb):Draws prog w A it [it,t] items.size (λi v=>items[i]? = some v) (λi h=>h.IsTupleIter it t i/\IsTup h t items) where
 live:=λ_ _ st=>let⟨o,ho,_⟩:=st.1;#[o,ho]
 frame:=λ_ _ _ st hk=>#[st.1.at λo e=>hk it (by simp) o e,Gh st.2 λo e=>hk t (by simp) o e]
 item:=λi s Q E l st r=>by refine Qz st.1 st.2 (x:=items[i]) (by simp[l]) λh' d a=>?_;exact r _ h' s.toks (by simp[l]) #[d,Gh st.2 λo e=>a.extBut _ o f e] a
 done:=λs Q E st B=>Gg m st.1 st.2 (by simp) B
def QC(l:Addr)(items:Array bb):Meets (Builtin.«enumerate.__new__» #[[.type "enumerate",.ref l],[]]) (λ_ R s=>s.heap.IsTuple l items/\R (.ok (.ret (.ref (s.heap.push { cls:=.type "tuple_iterator",data:=.fields (List.toArray [.ref l,.int 0 0]) }).objs.size))) { s with heap:=(s.heap.push { cls:=.type "tuple_iterator",data:=.fields (List.toArray [.ref l,.int 0 0]) }).push { cls:=.type "enumerate",data:=.fields (List.toArray [.none,.bool false,.ref s.heap.objs.size,rawInt 0,.none,.none]) } }):=
 .of_wp λprog w A R s h=>by exists hp,g,d,tk,os,s;exists a,h,h;have f:=sub_enumerate;have a:Heap.IsTuple (Shared.heap #[hp,g,d,tk,os]) l items:=a;exists o,ho,m,n,hd,id a;wp_walk using wpAny_loadPart' ho;refine wpAny_stack_any λst=>cq ?_;split;{rename_i c _ _ _ _ _;cases(c==Value.type "enumerate");{wp_walk using wpAny_loadPart' ho,u1 a;exact#[_,rfl,h]};wp_walk using wpAny_loadPart' ho,u1 a;exact#[_,rfl,h]};wp_walk using wpAny_loadPart' ho,u1 a;exact#[_,rfl,h]
section
variable{A:dj}{E:di}
def QD{a:Addr}{us:Array bb}(l:s.heap.IsTuple a us)(q:∀g,IsEnum g (s.heap.objs.size+1) s.heap.objs.size 0 .none->g.IsTupleIter s.heap.objs.size a 0->(∀c u,s.heap.get? c=some u->g.get? c=some u)->Q (.ref (s.heap.objs.size+1)) {s with heap:=g}):wpAny (model prog w) A (call (.type "enumerate") [.ref a]) Q E s:=by let i0:Obj:={ cls:=.type "tuple_iterator",data:=.fields (List.toArray [.ref a,.int 0 0]) };let d:Obj:={ cls:=.type "enumerate",data:=.fields (List.toArray [.none,.bool false,.ref s.heap.objs.size,rawInt 0,.none,.none]) };(have Z:(s.heap.push i0).objs.size=s.heap.objs.size+1:=pc ..;have G:((s.heap.push i0).push d).get? (s.heap.objs.size+1)=some d:=by rw[<- Z];exact fi _ rfl);have m:((s.heap.push i0).push d).get? s.heap.objs.size=some i0:=hps (fi _ rfl);have up:∀c u,s.heap.get? c=some u->((s.heap.push i0).push d).get? c=some u:=λc u z=>hps (hps z);have f:(∃o,((s.heap.push i0).push d).get? (s.heap.objs.size+1)=some o/\o.cls=.type "enumerate")/\Q (.ref (s.heap.objs.size+1)) {s with heap:=(s.heap.push i0).push d}:=#[#[d,G,rfl],q _ G #[i0,m,rfl,rfl] up];rw[<- Z]at f;exact callType_new F.called_enumerate (by decide) (F.typeCall_enumerate_1 _) (F.newCall_enumerate_1 _) (λo=>F.args_object_init_2 o _) F.entry_enumerate_new (QC a us) #[l,f]
end
def um(S:Hp->List V->Prop):It :=
 #[fun i H => ∃ U x, S H U ∧ U[i]? = some x,
  λi H v H'=>∃p x,v=.ref p/\H p=none/\H'=upd H p (.tup [.int i,x])/\∀U,S H U->U[i]? = some x,
  λi H=>∃U,S H U/\U.length<=i]
section
variable{K:Fg}{a:Nat}
theorem Gj{Sq:Hp->List V->Prop}(e it l:Addr)(N:e≠it)(ae:e≠l)(aj:l≠it)(B:Nat->Heap->Prop)(At:Heap->Array bb->Prop)(L:∀i h,B i h->∃o,h.get? it=some o/\∀v,o.data ≠ .cell v)(keep:∀i h h',B i h->(∀o,h.get? it=some o->h'.get? it=some o)->B i h')(dr:∀A:dj,A.handled=none->∀items:Array bb,Draws P w A it [it,l] items.size (λi v=>items[i]? = some v) (λi h=>B i h/\At h items))(dn:∀(A:dj) (s:cc) (items:Array bb) (k:Nat) (Q E:di),A.handled=none->B k s.heap->At s.heap items->items[k]? = none->(∀h' x,Heap.ExtBut it s.heap h'->(∃o,h'.get? x=some o/\o.cls=.type "StopIteration")->E (.ref x) {s with heap:=h'})->wpAny (model P w) A (Builtin.SmallTypes.nextOf (.ref it)) Q E s)(look:∀(X:Cx) (aA:e7) (s:cc) (σ:L2.St) (H:Hp) (U:List V),X.prog=P->X.w=w->X.K=K->Inv X aA σ H s->Sq H U->∃us,aL U us/\At s.heap us.toArray)(inj:∀(X:Cx) (aA:e7) (s:cc) (σ:L2.St) (H:Hp) (U ys:List V),X.prog=P->X.w=w->X.K=K->Inv X aA σ H s->Sq H U->Sq H ys->ys=U):hZ P w K (.Tuple elts a pos) (um Sq) [e,it] e (λk h=>(∃f,IsEnum h e it k f)/\B k h) where
 mem:=by simp
 obj:=λk h st b r=>by obtain⟨⟨f,D⟩,J⟩:=st;simp only[dq,qa,jy]at r;rcases r with rfl|rfl;{exact#[_,D,λv e=>by cases e]};exists o,e,d,L k h J;exact#[o,e,d]
 keep:=λk h h' st q=>by obtain⟨⟨f,D⟩,J⟩:=st;exact#[#[f,q e (by simp) _ D],keep k h h' J λo e=>q it (by simp) o e]
 item:=by
  intro X Z W hK hc k aA s σ H E I hf st hg;obtain⟨⟨f,D⟩,J⟩:=st;exists U,x,S,hx,hg;exists us,r1,p1,look X aA s σ H U Z W hK I S;exists u,hu,ru,r1.get hx;have aa:k<us.toArray.size:=by rw[fo];exact(mr.mp hu).1
  refine wpAny_pyNext_enum_itemD (dr X.A.in1 (I.ok.hd hc) us.toArray) D #[J,p1] aa N (by simp[N,ae]) λx' h' tk G a1 a2 a3 a4 a5=>?_
  have:x'=u:=by rw[BF]at G;rw[hu]at G;exact(jx G).symm
  subst this;refine#[_,rfl,wpAny_letOwnedTupleGo_enum (s:={s with heap:=h',toks:=tk+1}) a1 λh2 b1 b2=>?_]
  have en:s.heap.objs.size≠e:=λq=>absurd (dv D) (by rw[<- q];exact jn _)
  have up:∀b o,b∉[e,it]->s.heap.get? b=some o->h2.get? b=some o:=λb o r z=>by simp only[dq,qa,jy,not_or]at r;exact b2.extBut _ _ r.1 (a5 b o r.1 r.2 z)
  have I2:=QA (t':=tk+1) (U:=[.int k,x]) I up hf (dm _) #[[.int k tk,x'],.cons #[tk,rfl] (.cons ru .nil),#[_,b2.extBut _ _ en a3,rfl,rfl,_,rfl]] (show 2<=sizeLine by decide +kernel)
  refine#[.ref s.heap.objs.size,_,I2,rfl,#[_,x,rfl,I.hok.fresh (dm _),rfl,λzs q=>by rw[inj X aA s σ H U zs Z W hK I S q];exact hx],?_,λb r=>?_]
  . (have ek:((k:Int)+1)=((k+1:Nat):Int):=by lia);rw[ek]at b1;exact#[#[x',b1],keep _ _ _ a2.1 λo z=>b2.extBut _ o N.symm z]
  . have ai:=r;obtain⟨o,z⟩:∃o,s.heap.get? b=some o:=by
      simp only[dq,qa,jy]at r;rcases r with rfl|rfl
      . exact#[_,D]
      . exists o,z,_,L _ _ J;exact#[o,z]
    rw[aP λq=>absurd (dv z) (by rw[q];exact jn _)]
    exact(hf b ai).1
 done:=by
  intro X Z W hK hc k aA s σ H E I hf st hg;obtain⟨⟨f,D⟩,J⟩:=st;exists U,S,hn,hg;exists us,r1,p1,look X aA s σ H U Z W hK I S;have e1:=r1.length;have te:s.TypeIs (.ref e) "enumerate":=#[_,D,rfl]
  delta pyNext
  apply bv;apply tu;apply nA (name:=Str.ofString "__next__") te F.slot_enumerate_next;refine jp F.slot_enumerate_next te F.entry_enumerate_next ?nx (F.args_enumerate_next_1 _);refine bv (m:=field (.ref e) 2) (pj D rfl (x:=.ref it) rfl ?_);refine bv (dn X.A.in1 s us.toArray k _ _ (I.ok.hd hc) J p1 (by simp;lia) λh' x ag G=>?_)
  exists o,ho,ah,G;refine bv (p7 (T:="StopIteration") (b:=true) #[o,ho,ah] isSubtype_stop ?_);refine cq #[rfl,qC (t':=s.toks) I (λb o r z=>ag b o (by
   simp only[dq,qa,jy,not_or]at r;exact r.2) z) hf]
 self:=λ_ _ _ _ _ st h=>by obtain⟨⟨f,D⟩,_⟩:=st;exact Db D h
def QE(e it l:Addr)(D:e≠it)(B:e≠l)(f:l≠it):hZ P w K (.Tuple elts a pos) (um λH=>fe K H l) [e,it] e (λk h=>(∃m,IsEnum h e it k m)/\h.IsListIter it l k) :=
 Gj e it l D B f (fun k h => h.IsListIter it l k) (fun h U => h.IsList l U) (fun i h st => by
     exists o,e,_,d,st;exact#[o,e,λv q=>by rw[d]at q;cases q]) (λi h h' st k=>st.at k) (λA G items=>Draws.list G it l f items)
  (λA s items k Q E G st N J q=>wpAny_nextOf_list_end G st N J q)
  (λX aA s σ H U S L F I q=>by
   subst F;exists us,r,p,_,I.list q;exact#[us,r,p.isList])
  (λX aA s σ H U ys S L F I q q'=>by subst F;exact I.list_inj q' q)
def QF(e it l:Addr)(D:e≠it)(B:e≠l)(f:l≠it):hZ P w K (.Tuple elts a pos) (um λH=>SqT K H l) [e,it] e (λk h=>(∃m,IsEnum h e it k m)/\h.IsTupleIter it l k) :=
 Gj e it l D B f (fun k h => h.IsTupleIter it l k) (fun h U => IsTup h l U) (fun i h st => by
     exists o,e,_,d,st;exact#[o,e,λv q=>by rw[d]at q;cases q]) (λi h h' st k=>st.at k) (λA G items=>QB G it l f items)
  (λA s items k Q E G st N J q=>Gg G st N J q)
  (λX aA s σ H U S L F I q=>by
   subst F;exists us,r,p,_,I.tuple q;exact#[us,r,p])
  (λX aA s σ H U ys S L F I q q'=>by subst F;exact I.tuple_inj q' q)
end
def QG:bootBuiltins ("enumerate":Str)=some (.type "enumerate"):=by first|rfl|decide +kernel|kernel_rfl
def Gk(K:Fg)(ta:TA):TI:=λσ H R=>ta σ H λvs H1=>∃a U,vs=[.ref a]/\((fe K H1 a U/\R (um λH=>fe K H a) H1)\/(SqT K H1 a U/\R (um λH=>SqT K H a) H1))
def QH{a:Expr}{ta:TA}{cx}{N:Pos}(V:Gl X "enumerate")(T:X.mg "enumerate"=none)(W:PA X [a] ta)(hs:starEach [a] X.env=[(false,eval a X.env)]:=by rfl):PI X (.Tuple elts cx N) (.Call (.Name "enumerate" p) [a] [] pos) (Gk X.K ta):=by intro aA s σ H R I h;refine Call_ (jT I V T QG (Bi (thn (W pos aA s σ H _ I h) λus S q1=>?_) (by rw[hs];rfl) (by rfl)));exists vs,H1,d,J,l,U,rfl,q,q1;cases J with|cons r G=>(cases G;cases r;have E:∀b:Addr,S.heap.objs.size<=b->cP X aA H1 b:=λb f=>d.fpOk f (d.hok.fresh f);have F:∀b:Addr,b∈[S.heap.objs.size+1,S.heap.objs.size]->cP X aA H1 b:=λb f=>by simp only[dq,qa,jy]at f;rcases f with rfl|rfl;{exact E _ (p8 _)};exact E _ (dm _));rcases q with⟨m,q⟩|⟨m,q⟩;{exists ls,_,p1,_,d.list m;(have L:l<S.heap.objs.size:=by exists o,n,e,_,id p1;exact dv e);refine call_enumerate_list p1.isList λh' A D Z B=>Db (s:={S with heap:=h'}) A ?_;exact#[_,[S.heap.objs.size+1,S.heap.objs.size],_,_,H1,rfl,d.kept (t':=S.toks) B,QE _ _ l (Nat.succ_ne_self _) (nq (Bx L)) (gj L),#[#[_,A],D],F,q]};exists ls,_,p1,_,d.tuple m;(have L:l<S.heap.objs.size:=by exists o,e,_,id p1;exact dv e);refine QD (show S.heap.IsTuple l ls.toArray from p1) λh' A D B=>Db (s:={S with heap:=h'}) A ?_;exact#[_,[S.heap.objs.size+1,S.heap.objs.size],_,_,H1,rfl,d.kept (t':=S.toks) B,QF _ _ l (Nat.succ_ne_self _) (nq (Bx L)) (gj L),#[#[_,A],D],F,q]
def i7:Nat->List D->List D|_,[]=>[]|i,d::ds=>.tup [.int i,d]::i7 (i+1) ds
theorem qD:∀{ds:List D}{i:Nat},(i7 i ds).length=ds.length|[],_=>rfl|d::ds,i=>by simp only[i7,gg,qD]
theorem Gm:∀{ds:List D}{j i:Nat}{d:D},ds[i]? = some d->(i7 j ds)[i]? = some (.tup [.int ((j+i:Nat):Int),d])|[],_,_,_,h=>by simp at h|x::ds,j,0,d,h=>by simp at h;subst h;rfl|x::ds,j,i+1,d,h=>by have:=Gm (ds:=ds) (j:=j+1) (i:=i) (by simpa using h);(have e:j+1+i=j+(i+1):=by lia);rw[e]at this;simpa[i7]using this
theorem Gn{K:Fg}{F:Hp}{l:Hp->List V->Prop}(d:∀H,aE F H->l H U)(r:aD K F ds U):lH K F (um l) (i7 0 ds) where
 go:=λi H s a=>by(rw[qD]at a;have A:i<U.length:=by rw[r.length];lia);exact#[U,U[i],d H s,by simp[A]]
 stop:=λi H s a=>by rw[qD]at a;exact#[U,d H s,by rw[r.length];lia]
 yld:=λi Fc H x H' f S a y=>by rw[qD]at a;exists p,u,rfl,hp,rfl,o,y;have ex:=o U (d H (f.trans S));exists B,E,m,r.get' (gm a);rw[ex]at E;cases E;refine#[_,_,Gm (gm a),aG.laid (.tup [.int i,u]) S hp,?_];refine aB.tup_of (S.free hp) ?_;simp only[aD];exact#[.int i,[u],rfl,by simp only[aB,lA],u,[],rfl,m.mono f _ _,rfl]
def qE(r:bF):Res:=r.thn λU=>match U with|[(.fz,.lst ds)]|[(.fz,.tup ds)]=>.ok .fz (.lst (i7 0 ds))|_=>.stuck
def QI{a:Expr}{cx}{f:Pos}(o:Gl X "enumerate")(m:X.mg "enumerate"=none)(B:j3 C X [a] gs)(hs:starEach [a] X.env=[(false,eval a X.env)]:=by rfl):kz C X (.Tuple elts cx f) (.Call (.Name "enumerate" p) [a] [] pos) (λY=>qE (gs Y)):=by refine PI.imp (QH o m B hs) λσ H R q=>?_;exists Y,F,D,w,q;dsimp only at w;unfold Gk;refine#[Y,F,D,?_];cases E:gs Y with|stuck|exc c=>rw[E]at w;exact w|ok U=>rw[E]at w;intro vs F' H' st rp;unfold qE at w;rw[bF.thn_ok]at w;split at w;{rename_i ds;exists v,rfl,r,rp.one;have r:aB X.K F' (.lst ds) v:=r;simp only[aB]at r;exists A,d,rfl,q1,l,r;exact#[A,d,rfl,.inl #[st.sub.seq q1,w _ F' H' st (Gn (λH s=>s.seq q1) l)]]};{rename_i ds;exists v,rfl,r,rp.one;have r:aB X.K F' (.tup ds) v:=r;simp only[aB]at r;exists A,d,rfl,q1,l,r;exact#[A,d,rfl,.inr #[aE.seqT st.sub q1,w _ F' H' st (Gn (λH s=>aE.seqT s q1) l)]]};exact w.elim
open PySem.Calls PySem.W
section
variable{K:Fg}{x D:Addr}{a:Obj}
def XX(h:Heap)(x:Addr)(a:Obj)(D:Addr):Prop:=h.get? x=some a/\a.cls=.ref D
structure D4(K:Fg)(D:Addr):Prop where
 ga:W.findIn K (.ref D) "__getattribute__"=some (some (.builtin "BaseException.__getattribute__"))
 gn:W.findIn K (.ref D) "__getattr__"=some none
 ca:W.findIn K (.ref D) "__class__"=some (some (.builtin "object.__class__"))
 bx:W.mroIn K D (.type "BaseException")=some true
 ob:W.mroIn K D (.type "object")=some true
 hn:W.specialIn K (.builtin "object.__class__") "__get__"=some (some (.builtin "getset_descriptor.__get__"))
 tk:W.takesIn K (.builtin "object.__class__")=some true
end
open PySem.Calls
structure mj(P:fc)(w:dh)(outer:List Env)(H:Hp)(s:cc)(H1:Hp)(B hp:Heap):Prop where
 un:Un (h9 outer) [] H H1 s.heap hp
 ok:gh P w H1 hp
 kb:∀b o,hp.get? b=some o->s.heap.get? b≠none->b∉h9 outer->B.get? b=some o
 kh:∀b u,H1 b=some u->∃o,hp.get? b=some o/\B.get? b=some o
 fr:∀b∈h9 outer,H b=none/\∃o,s.heap.get? b=some o/\∀vs,o.data ≠ .fields vs
section
variable{H1:Hp}{B:Heap}
def iF:b∉([]:List Addr):=by simp
theorem mj.slots(f:mj P w outer H s H1 B hp)(up:hp.UpToSlots h')(d:b∈h9 outer):∃o a S,s.heap.get? b=some o/\hp.get? b=some {o with slots:=a}/\h'.get? b=some {o with slots:=S}:=by exists hn,o,e,nf,f.fr b d;exists a,E,f.un.slot b o e hn d iF;exists S,l,up b _ E nf;exact#[o,a,S,e,E,l]
def mj.on(f:mj P w outer H s H1 B hp)(st:B.StaysIn h')(up:hp.UpToSlots h'):mj P w outer H s H1 B h' where
 un:={
  keep:=λb o e n d _=>st b o (f.kb b o (f.un.keep b o e n d iF) (by rw[e];exact λz=>nomatch z) d)
  slot:=λb o e n d _=>by exists l,F,S,r,_,E,f.slots up d;rw[e]at r;cases r;exact#[S,E]
  free:=f.un.free
  there:=λb o e _=>by by_cases d:b∈h9 outer;{exists l,F,S,r,_,E,f.slots up d;exact#[_,E]};exists l,m,f.un.there b o e iF;exact#[l,st b l (f.kb b l m (by rw[e];exact λz=>nomatch z) d)]
  tups:=f.un.tups
  frzs:=f.un.frzs
  tbls:=f.un.tbls }
 ok := fun a o e => (f.ok a o e).stay (fun b u d q => by
     have:∃A,H1 b=some A:=by rcases d with rfl|d;{exact#[o,e]};exact#[_,d]
     exists A,J,this;exists l,m,E,f.kh b A J;rw[q]at m;cases m;exact st b u E) (λ_ q=>q) λ_ _ q=>q
 kb:=λb o e ns d=>by cases r:s.heap.get? b with|none=>exact absurd r ns|some G=>exists l,m,f.un.there b G r iF;have E:=f.kb b l m ns d;have D:=st b l E;rw[e]at D;cases D;exact E
 kh:=λb u e=>by exists o,_,E,f.kh b u e;exact#[o,st b o E,E]
 fr:=f.fr
end
def fx(P:fc)(w:dh):CXT:=λouter H s E ev O=>∃(e C:Addr) (a:bb) (H1:Hp) (B:Heap),
 ev=.ref e/\O.os=s.os/\AllBare O.gens/\Heap.FlyingW B outer e (.ref C) a O.heap/\mj P w outer H s H1 B O.heap/\E (.ref C) none H1
section
variable{H1:Hp}{B:Heap}
def mj.inv(I:Inv X aA σ H s)(f:mj X.prog X.w X.stack H s H1 B O.heap)(ho:O.os=s.os)(a:AllBare O.gens):Inv X aA σ H1 O :=
 Inv.call' (ch:=[]) I ho f.un f.ok a (λb z=>absurd z iF)
def mj.out(I:Inv X aA σ H s)(f:mj X.prog X.w X.stack H s H1 B O.heap)(ho:O.os=s.os)(K:AllBare O.gens)(G:X.ex=[])(hs:X.stack=X.env::X.outer)(L:X.env.frame=some X.env.locals)(st:B.StaysIn h')(up:O.heap.UpToSlots h'):mj X.prog X.w X.outer X.H₀ X.s₀ H1 B h':=by have Z:=f.inv I ho K;have f1:=f.on st up;have d:=Z.base;rw[G]at d;have l:∀b o,X.s₀.heap.get? b=some o->∃m,s.heap.get? b=some m:=λb o e=>I.base.there b o e (by rw[G];exact iF);have N:∀b o,X.s₀.heap.get? b=some o->b≠X.env.locals:=λb o e z=>absurd (dv e) (by rw[z];exact Nat.not_lt.mpr I.ok.above);(have sub:∀b,b∉h9 X.outer->b≠X.env.locals->b∉h9 X.stack:=λb V T z=>by rcases dq.mp (I.stkSub b z)with q|q;{exact T q};exact V q);(have S:∀b,b∈h9 X.outer->b∈h9 X.stack:=λb a=>by rw[hs];unfold h9;rw[qw,L];exact df a);refine#[#[λb o e n a _=>?_,λb o e n a _=>?_,d.free,λb o e _=>?_,d.tups,d.frzs,d.tbls],f1.ok,λb o e ns a=>?_,f1.kh,λb a=>?_];{have r:=d.keep b o e n a iF;exists m,E,l b o e;exact st b o (f.kb b o r (by rw[E];exact λz=>nomatch z) (sub b a (N b o e)))};{exists sl,r,d.slot b o e n a iF;exists m,J,A,E,D,W,f.slots up (S b a);have q:=jx (r.symm.trans D);refine#[A,?_];rw[W];exists c1,d1,t1,l1,o;exists c2,d2,t2,l2,m;simp only[Obj.mk.injEq]at q;exists rfl,rfl,rfl,_,q;rfl};{exists m,E,l b o e;exact f1.un.there b m E iF};{cases E:X.s₀.heap.get? b with|none=>exact absurd E ns|some F=>exists m,r,l b F E;exact f1.kb b o e (by rw[r];exact λz=>nomatch z) (sub b a (N b F E))};exact#[I.ok.frf b a,(I.ok.funs.mem a).2]
def QJ(h:Heap)(l:List Env):Heap:=W.hideAll h (h9 l)
end
noncomputable def yd:List bb:=[.type "ValueError",.type "Exception",.type "BaseException",.type "object"]
def Go(K:Fg)(C:Addr):Prop:=W.excIn K C yd "ValueError.__new__"=true
section
variable{K:Fg}{N:List Str}{f:Addr}{A:dj}{E:XK}
def lO(mg:fg)(E:XK):XE:=λc _ H'=>∀u,mg c=some u->E u none H'
def Gp(m:C.EE=lO mg E):qg (fx P w) C (gQ (fx P w) P w K mg base N qual scope f cdv A outer s H E):=by intro aA σ H1 s1 ev O I h;exists e,J,r,G,B,rfl,ho,a,fl,o,c,l,d,h;rw[m]at d;have D:=I.ok.frames;refine wpAny_leaves_onW D rfl fl λh' F up=>?_;exact#[e,J,r,G,B,rfl,ho.trans I.os,a,F,o.out I ho a rfl rfl rfl F.1 up,d _ l]
end
structure HX where
 cls:Str
 slot:Option Nat
 g:Rho->aI
def t5(K:Fg)(mg:fg)(xt:Str->Str->Option Bool):Prop:=∀c x b,xt c x=some b->∃C a,W.nsIn K mainGlobals c=some (some (.ref C))/\mg c=some (.ref C)/\mg x=some (.ref a) /\
 W.mroIn K a (.type "BaseException")=some true/\W.typeIn K (.ref a)=some (.type "type")/\W.mroIn K C (.ref a)=some b
def qF(mg:fg)(n:Str)(cv:V):Prop:=(∃C,mg n=some (.ref C)/\cv=.ref C)\/(mg n=none/\n ≠ "__name__" /\ ∃T,bootBuiltins n=some (.type T)/\cv=.ty T)
def Gq:V->bb|.ref a=>.ref a|.ty T=>.type T|_=>.none
def t7(K:Fg)(mg:fg)(a:Str->Str->Option Bool):Prop:=∀c n b,a c n=some b->∃C cv,W.nsIn K mainGlobals c=some (some (.ref C))/\D4 K C/\qF mg n cv/\W.kitOne K (.ref C) (Gq cv)=some b
def QK{K:Fg}{f:Addr}{N ps:List Str}{g:Rho->aI}(F:ol K x qual st f fd)(S:m8 N ps (dG st))(a:∀(C:Cw) (cdv:bb),W.codeIn K cdv qual=true->∀(A:dj) (outer:List Env) (s:cc) (H:Hp) (E:XK),C.EE=lO mg E->bG k (A.deeper (envOfC qual (dG st) s.heap.objs.size f cdv))->kf C (gQ (fx P w) P w K mg base N qual (dG st) f cdv A outer s H E) (gR st) g):bO P w K mg base (fx P w) (k+1) f fd ps (ll K mg ps.length (sk ps.length N.length g)):=by(exists oc,od,kV,aa,pm,an,cdv,ct,J,rfl,L,l,F.ex;refine yV L l S (λvs H Q E h=>h.1) λA outer s H vs Q E V h=>?_;exists Z,F0,ds,sF,D,h,h;have B:ds.length=ps.length:=by rw[<- D.length];exact Z);let C:Cw:=#[K,F0,H,lO mg E];refine#[_,a C cdv l A outer s H E rfl V,eY N.length ds,F0,PF sF D,?_];unfold sk at h;rw[aK B]at h;cases o:g (eY N.length ds)with|nx Y=>rw[o]at h;exact λr F' H' _ R=>h.2 .non F' H' R.st zP (by nofun)|rt m d=>rw[o]at h;exact λv F' H' s G fr=>h.2 v F' H' s G fr|bk Y|ct Y=>rw[o]at h;exact h.elim|exc c Y=>rw[o]at h;exact λr F' H' _ R u T=>h F' H' u R.st T|stuck=>rw[o]at h;exact h.elim
noncomputable def eZ(Y:Rho)(i:Nat)(r:Res):aI:=match Y[i]? with
 |some (some (true,.lst ds))=>(aM r).thS Y λm d=>match m with|.fz=>if ds.length<sizeLine then .nx (Y.set i (some (true,.lst (ds++[d]))))else .stuck|_=>.stuck
 |_=>.stuck
def QL(i:Nat)(L:PE X (.Name x p) (f9 i))(V:PV C X e g)(hs:bW e=true)(f:ap.endLine=cp.line):ju C X (.Expr (.Call (.Attribute (.Name x p) "append" ap) [e] [] cp) pos) (λY=>eZ Y i (g Y)):=by
 have Z := xb (X := X) (o := .Name x p) (e := e) (es := []) (apos := ap) (cpos := cp) PySem.F.plainAttrs_list PySem.F.slot_list_append PySem.F.type_list_append tK L (jU (eN V) kX (bX hs)) (pS rfl) (by
     rw[nM _ _ (λy G=>by simp only[dq,qa,jy]at G;subst G;exact hs)];rfl) (dc.mpr f) (bX hs) rfl
 refine PS.imp (sY Z) λE σ H q=>?_;exists Y,F,R,w,q;dsimp only at w;unfold yJ FE;cases l:Y[i]? with
 |none=>unfold eZ at w;rw[l]at w;exact w.elim|some o =>
  cases o with
  |none=>unfold eZ at w;rw[l]at w;exact w.elim|some bd =>
   exists b,d0,bd;cases b with
   |false=>unfold eZ at w;rw[l]at w;exact w.elim|true =>
    cases d0 with
    |lst ds =>
     unfold eZ at w;rw[l]at w;dsimp only at w;exists v0,r,A,N,R.slot i true _ l;exists a,ea,T,U,J,D,A;subst ea;refine#[.ref a,r,.inl #[rfl,U,fe.of J],?_];unfold iA;refine iE R w λm d v F' H' W s R' K fr=>?_;cases m with
     |fr|bo=>exact(show False from W).elim|fz =>
     dsimp only at W;split at W
     . rename_i S;have B:H' a=some (.lst U):=s.same _ _ J;refine#[a,U,v,rfl,rfl,B,by rw[D.length];exact S,?_];exact W σ F' _ (aE.refl _) (R'.mut l r #[_,a8,aD.append (D.mono s.fsame _ _) (aD.cons K aD.nil)])
     . exact W.elim
    |_=>unfold eZ at w;rw[l]at w;exact w.elim
end D3
namespace L2
open D3
end L2
namespace D3
end D3
namespace PySem
open PySem.Sem (wp)
open Builtin
end PySem
namespace L2
end L2
namespace D3
open PySem.Calls
theorem aD.drop{K:Fg}{F:Hp}:∀(n:Nat) {ds:List D}{U:List V},aD K F ds U->aD K F (ds.drop n) (U.drop n)|0,_,_,h=>h|n+1,[],U,h=>by simp only[aD]at h;subst h;simp[aD]|n+1,d::ds,U,h=>by simp only[aD]at h;exists v,vs,rfl,_,t,h;exact aD.drop n t
theorem aD.take{K:Fg}{F:Hp}:∀(n:Nat) {ds:List D}{U:List V},aD K F ds U->aD K F (ds.take n) (U.take n)|0,_,_,_=>by simp[aD]|n+1,[],U,h=>by simp only[aD]at h;subst h;simp[aD]|n+1,d::ds,U,h=>by simp only[aD]at h;exists v,vs,rfl,r,t,h;simp only[List.take_succ_cons,aD];exact#[v,_,rfl,r,aD.take n t]
def eF(U:List D)(lo hi:Option Int):List D:=(U.drop (HT.sIx U.length 0 lo)).take (HT.sIx U.length U.length hi-HT.sIx U.length 0 lo)
def aD.cut{K:Fg}{F:Hp}(h:aD K F ds U)(lo hi:Option Int):aD K F (eF ds lo hi) (iB U lo hi):=by unfold eF iB;rw[h.length];exact(h.drop _).take _
def nO(n:Nat)(lo hi:Option Int):Bool:=HT.sIx n 0 lo==0&&HT.sIx n n hi==n
noncomputable def ot(x:Res)(lo hi:Option (Rho->Res))(Y:Rho):Res:=x.thn λm d=>match d with|.lst ds=>fK lo Y λl=>fK hi Y λh=>.ok .fr (.lst (eF ds l h))|.tup ds=>fK lo Y λl=>fK hi Y λh=>if(nO ds.length l h&&m != .fz)=true then .stuck else .ok .fz (.tup (eF ds l h))|_=>.stuck
section
variable{a:Expr}
def QM{lo hi:Option Expr}{gl G:Option (Rho->Res)}(ha:PV C X a ga)(Z:B7 C X lo gl)(hh:B7 C X hi G):PV C X (.Subscript a (.Slice lo hi none p2) pos) (λY=>ot (ga Y) gl G Y):=by refine PE.imp (NX (N8.or (NY.or Qm)) ha (zV Z) (zV hh)) λσ H Q q=>?_;unfold FA;rw[aR]at q ⊢;exists Y,F,R,w,q;(try dsimp only at w);refine#[Y,F,R,?_];cases T:ga Y with|stuck|exc c=>rw[T]at w;exact w|ok m d=>rw[T]at w;intro v F1 H1 s1 rp _;cases d with|lst ds=>have K:aZ (C.at X) F1 H1 σ (fK gl Y λl=>fK G Y λh=>.ok .fr (.lst (eF ds l h))) Q:=aZ.step s1 w;refine pJ (R.step s1) K λl F2 H2 B R2 J=>pJ R2 J λh L V S r W=>.inl ?_;exists p,U,rfl,E,o,((rp.step B).step S).seqL r.sub;exact#[p,U,rfl,E,λD f=>W (.ref D) L _ (aG.fresh _ r.sub f) #[D,rfl,r.sub.free f,_,a8,o.cut l h] λ_ a ea=>by cases ea;exact f]|tup ds=>((have K:aZ (C.at X) F1 H1 σ (fK gl Y λl=>fK G Y λh=>if(nO ds.length l h&&m != .fz)=true then .stuck else .ok .fz (.tup (eF ds l h))) Q:=aZ.step s1 w;refine pJ (R.step s1) K λl F2 H2 B R2 J=>pJ R2 J λh L V S r W=>.inr ?_;exists p,U,rfl,E,o,((rp.step B).step S).seqT r.sub;have N:nO ds.length l h=true↔HT.sIx U.length 0 l=0/\HT.sIx U.length U.length h=U.length:=by rw[o.length];unfold nO;simp);cases A:nO ds.length l h with|true=>(cases m with|fz=>rw[A,ba (by decide)]at W;(have e:=N.mp A;have ec:eF ds l h=ds:=by unfold eF;rw[<- o.length,e.1,e.2,o.length,BA,Nat.sub_zero];exact Dc);rw[ec]at W;exact .inr #[p,U,rfl,E,e,W (.ref p) L V (.refl r.sub) ((rp.step B).step S) (by nofun)]|fr|bo=>rw[A,aK (by decide)]at W;exact W.elim)|false=>rw[A,ba (by simp)]at W;refine .inl #[p,U,rfl,E,λz=>?_,λD f=>W (.ref D) _ _ (aG.laid (.tup (iB U l h)) r.sub f) (aB.tup_of (r.sub.free f) (o.cut l h)) (by nofun)];rw[N.mpr z]at A;cases A)|_=>exact(show False from w).elim
end
def bR(kvs:List (Key×D))(k:Key):Option D:=(kvs.find? λkv=>decide (kv.1=k)).map (·.2)
theorem aF.val{K:Fg}{F:Hp}:∀{kvs:List (Key×D)}{U:List (Key×V)} (k:Key),aF K F kvs U->match bR kvs k with|some d=>∃v,dO U k=some v/\aB K F d v|none=>dO U k=none
 |[],U,k,h=>by simp only[aF]at h;subst h;rfl|(a,d)::kvs,U,k,h=>by simp only[aF]at h;exists y,ys,rfl,r,t,h;by_cases e:a=k;{(have E:bR ((a,d)::kvs) k=some d:=by simp[bR,gu,e]);rw[E];exact#[y,tL e,r]};(have E:bR ((a,d)::kvs) k=bR kvs k:=by simp[bR,gu,e]);rw[E,tM (p:=(a,y)) e];exact aF.val k t
def D5:R2:=λx y H Q=>∃a v,x=.ref a/\iC H a y (some v)/\Q v H
def QN(l:X.A.units+1<cLine):mh X D5:=by
 intro value slice aA s σ H x y v u Q I rx ry h hsub;exists a,W,rfl,g,q,h;cases(show v=Value.ref a from rx)
 have d:s.TypeIs (.ref a) "dict":=Om I g;unfold subscriptTail;refine bv ?_;rw[C3 d.not_modules];refine bv (oh d PySem.F.slot_dict_getitem.lookup ?_);have f:wpAny (model X.prog X.w) X.A (subscripted slice false (.ref a) u) (λr S=>wpAny (model X.prog X.w) X.A (letTemporaryGo value (.ref a) r>>=λ_=>pure r) (EP X aA σ Q) X.xe S) X.xe s:=by rw[hsub];exact C4 (Oi l I g ry λz S m rz=>bv (C5 (cq #[W,H,m,rz,q])))
 first
  |exact cq (bv f)
  |exact bv (cq (bv f))
  |exact bv f
def qi:Md->D->Md->D->Option (Md×D):=λ_ x _ y=>match x,gC y with|.dct kvs,some k|.dcf kvs,some k=>(bR kvs k).map λd=>(.fz,d)|_,_=>none
def QO{K:Fg}{F:Hp}{m n:Md}{kvs:List (Key×D)}{k:Key}{u:V}(s:aE F H)(d:Rp K F H m (.dcf kvs) v)(f:Rp K F H n y u)(E:gC y=some k):∃a U,v=.ref a/\aF K F kvs U/\iC H a u (dO U k):=by cases m with|fz=>have d:aB K F (.dcf kvs) v:=d;simp only[aB]at d;exists a,o,U,rfl,l,r,d;exact#[a,U,rfl,r,.inl #[U,k,.inr #[o,s _ _ l],nH E f,rfl]]|fr|bo=>exists a,_,_,q,d;exact q.elim
def t8{K:Fg}{F:Hp}{m n:Md}{kvs:List (Key×D)}{k:Key}{u:V}(s:aE F H)(f:Rp K F H m (.dct kvs) v)(r:Rp K F H n y u)(E:gC y=some k):∃a U,v=.ref a/\H a=some (.dK U)/\aF K F kvs U/\iC H a u (dO U k):=by exists a,U,rfl,d,rk,f.dict s;exact#[a,U,rfl,d,rk,.inl #[U,k,.inl d,nH E r,rfl]]
section
variable{a:Expr}
def nj(neg:Bool):Md->D->Md->D->Option (Md×D):=λ_ x _ y=>match gC x,y with|some k,.dct kvs=>some (.fz,.bl (if neg then !(bR kvs k).isSome else(bR kvs k).isSome))|_,_=>none
def Gr{K:Fg}{F:Hp}{kvs:List (Key×D)}{U:List (Key×V)}(k:Key)(h:aF K F kvs U):(dO U k).isSome=(bR kvs k).isSome:=by have:=aF.val k h;cases e:bR kvs k with|none=>rw[e]at this;have this:dO U k=none:=this;rw[this];rfl|some d=>rw[e]at this;exists v,ev,_,this;rw[ev];rfl
def Gs(f:X.A.units+1<cLine):e8 C X (compareOp .In) (nj false):=by refine#[λx y H Q=>∃a o,y=.ref a/\iC H a x o/\Q (.bl o.isSome) H,?_,?_];{intro aA s σ H x y v u Q I rx ry h;exists a,o,rfl,g,q,h;cases(show u=Value.ref a from ry);exact DO f I g rx λS l=>#[.bl o.isSome,H,l,rfl,q]};intro F H m x n y v u k d Q s rx ry e w;unfold nj at e;split at e;{rename_i K kvs E;cases e;exists p,U,rfl,r,rk,g,t8 s ry rx E;exact#[p,_,rfl,g,by rw[Gr K rk];exact w _ F H (.refl s) (cJ _) (by nofun)]};cases e
def Gu(f:X.A.units+1<cLine):e8 C X (compareOp .NotIn) (nj true):=by refine#[λx y H Q=>∃a o,y=.ref a/\iC H a x o/\Q (.bl (!o.isSome)) H,?_,?_];{intro aA s σ H x y v u Q I rx ry h;exists a,o,rfl,g,q,h;cases(show u=Value.ref a from ry);exact Oj f I g rx λS l=>#[.bl (!o.isSome),H,l,rfl,q]};intro F H m x n y v u k d Q s rx ry e w;unfold nj at e;split at e;{rename_i K kvs E;cases e;exists p,U,rfl,r,rk,g,t8 s ry rx E;exact#[p,_,rfl,g,by rw[Gr K rk];exact w _ F H (.refl s) (cJ _) (by nofun)]};cases e
end
def fN(kvs:List (Key×D))(k:Key)(d:D):List (Key×D):=if(kvs.any λkv=>decide (kv.1=k))=true then kvs.map (λkv=>if kv.1=k then(kv.1,d)else kv)else kvs++[(k,d)]
theorem aF.keys{K:Fg}{F:Hp}:∀{kvs:List (Key×D)}{U:List (Key×V)},aF K F kvs U->U.map (·.1)=kvs.map (·.1)|[],U,h=>by simp only[aF]at h;subst h;rfl|(k,d)::kvs,U,h=>by simp only[aF]at h;exists y,ys,rfl,_,t,h;simp[aF.keys t]
theorem aF.snoc{K:Fg}{F:Hp}{k:Key}{d:D}{v:V}(r:aB K F d v):∀{kvs:List (Key×D)}{U:List (Key×V)},aF K F kvs U->aF K F (kvs++[(k,d)]) (U++[(k,v)])|[],U,h=>by simp only[aF]at h;subst h;simp only[tz,aF];exact#[v,[],rfl,r,rfl]|(f,l)::kvs,U,h=>by simp only[aF]at h;exists y,ys,rfl,a,t,h;simp only[qy,aF];exact#[y,_,rfl,a,aF.snoc r t]
theorem aF.repl{K:Fg}{F:Hp}{k:Key}{d:D}{v:V}(r:aB K F d v):∀{kvs:List (Key×D)}{U:List (Key×V)},aF K F kvs U->aF K F (kvs.map λkv=>if kv.1=k then(kv.1,d)else kv) (U.map λkv=>if kv.1=k then(kv.1,v)else kv)|[],U,h=>by simp only[aF]at h;subst h;simp[aF]|(l,m)::kvs,U,h=>by simp only[aF]at h;exists y,ys,rfl,f,t,h;have a:=aF.repl (k:=k) r t;by_cases e:l=k;{simp only[dw,e,pi,aF];exact#[v,_,rfl,r,a]};simp only[dw,e,jd,aF];exact#[y,_,rfl,f,a]
def aF.put{K:Fg}{F:Hp}{k:Key}{d:D}{kvs:List (Key×D)}{U:List (Key×V)}(h:aF K F kvs U)(r:aB K F d v):aF K F (fN kvs k d) (cX U k v):=by(have e:(U.any λkv=>decide (kv.1=k))=(kvs.any λkv=>decide (kv.1=k)):=by(have:=h.keys;have a:∀{f:Type} (l:List (Key×f)),(l.any λkv=>decide (kv.1=k))=(l.map (·.1)).any (λx=>decide (x=k)):=λl=>by rw[List.any_map];rfl);rw[a,a,this]);unfold fN cX;rw[e];split;{exact aF.repl r h};exact aF.snoc r h
def aF.len{K:Fg}{F:Hp}{kvs:List (Key×D)}{U:List (Key×V)}(h:aF K F kvs U):U.length=kvs.length:=by have:=congrArg List.length h.keys;simpa using this
section
variable{a b:Expr}
def QP(B:X.A.units+1<cLine)(G:PV C X a ga)(D:PV C X b gb)(hs:m9 b):PV C X (.Subscript a b pos) (λY=>cu qi (ga Y) (gb Y)):=by refine PE.imp (tI (QN B) G D hs) λσ H Q q=>k8 (λF H m x n y v u k d Q s o l e w=>?_) q;unfold qi at e;split at e;{rename_i kvs K f;exists p,U,rfl,L,rk,g,t8 s o l f;cases E:bR kvs K with|none=>rw[E]at e;cases e|some J=>rw[E]at e;cases e;have:=aF.val K rk;rw[E]at this;exists V,ev,r,this;rw[ev]at g;exact#[p,V,rfl,g,w V F H (.refl s) r (by nofun)]};{rename_i kvs K f;exists p,U,rfl,rk,g,QO s o l f;cases E:bR kvs K with|none=>rw[E]at e;cases e|some J=>rw[E]at e;cases e;have:=aF.val K rk;rw[E]at this;exists V,ev,r,this;rw[ev]at g;exact#[p,V,rfl,g,w V F H (.refl s) r (by nofun)]};cases e
def QR{op:CmpOp}(ho:op=if neg then .NotIn else .In)(d:X.A.units+1<cLine)(m:PV C X a ga)(l:PV C X b gb)(f:behindInMarks op b=false):PV C X (.Compare a [op] [b] pos) (λY=>cu (nj neg) (ga Y) (gb Y)):=by cases neg with|false=>subst ho;exact k9 (Gs d) m l f|true=>subst ho;exact k9 (Gu d) m l f
end
open PySem.SeqAt PySem.MeetsSeq
def QS{M:Model}{A:dj}{E:di}{a:Type}{r:Std.Legacy.Range}{f:Nat->a->Sem (ForInStep a)}{b:a}{Q:a->cc->Prop}(h:wpAny M A (forIn (List.range' r.start r.size r.step) b f) Q E s):wpAny M A (forIn r b f) Q E s:=by rw[Std.Legacy.Range.forIn_eq_forIn_range'];exact h
theorem QT(l:Addr)(items:Array bb)(n:Nat)(F:Option Addr)(S:Array (Option bb))(x:bb)(e:bb->Bool)(j:Nat)(J:j<items.size)(hit:e items[j]=true)(f:∀m (G:m<items.size),m<j->e items[m]=false):Meets (Builtin.«tuple.index» #[[.ref l,x],[]]) (λA R s=>s.heap.get? l=some #[.type "tuple",F,.seq items n,S]/\(∀y,y∈items->EqAt A.in1 s y x (e y))/\R (.ok (.ret (.int j s.toks))) {s with toks:=s.toks+1}):=
 .of_wp λprog w A R s h=>by exists hp,g,d,tk,os,s;exists r,B,h,h;wp_walk using wpAny_loadPart' r,QS;(rw[Nat.min_self];have E:(List.range' (Std.Legacy.Range.start [:items.size]) (Std.Legacy.Range.size [:items.size]) (Std.Legacy.Range.step [:items.size]))=List.range' 0 items.size 1:=by simp[Std.Legacy.Range.size]);rw[E];refine vd _ (λrest b O=>b=(none,())/\O=#[hp,g,d,tk,os]/\∃i,rest=List.range' i (items.size-i) 1/\i<=j) _ ?_ ?_ _ _ #[rfl,rfl,0,rfl,gw _];{rintro y rest b O ⟨rfl,rfl,i,hr,hi⟩;(have a:i<items.size:=by lia);(have hs:items.size-i=(items.size-(i+1))+1:=by lia);(rw[hs,List.range'_succ]at hr;cases hr;have o:items[y]? = some items[y]:=by simp[a]);dsimp only;rw[o];dsimp only;refine bv (B _ (Array.getElem_mem a) prog w _ _ ?_);by_cases D:y=j;{subst D;rw[hit,aK rfl];wp_walk;exact#[_,rfl,h]};rw[f y a (by lia),ba gr];exact cq #[rfl,rfl,y+1,rfl,by lia]};rintro b O ⟨rfl,rfl,i,hr,hi⟩;(have:(List.range' i (items.size-i) 1).length=0:=by rw[<- hr];rfl);simp at this;lia
def SqT.plain{a:Addr}(I:L2.Inv X aA σ H s)(h:SqT X.K H a U):∃its:List bb,aL U its/\fZ s.heap a its.toArray/\U.length<=sizeLine:=by rcases h with h|⟨o,its,n,hk,hc,hd,hs,hz,r⟩;{exists z,its,r,p,h.ok I.hok;exact#[its,r,p,z]};exact#[its.toList,r,#[o,I.kIn a o hk,hc,hd,n,by simpa using hs],by rw[r.length,lc];exact hz]
def Gv(K:Fg)(td ty:TE):TE:=λσ H Q=>td σ H λx H1=>∃a xs0,x=.ref a/\SqT K H1 a xs0/\ty σ H1 λy d=>∃U j,SqT K d a U/\eV y=true/\U.all eV=true/\U.findIdx? (λz=>lj z y)=some j/\Q (.int (j:Nat)) d
theorem Gw{y:V}:∀{U:List V}{us:List bb},aL U us->U.all eV=true->us.findIdx? (jf y)=U.findIdx? λz=>lj z y|_,_,.nil,_=>rfl|z::U,u::us,.cons r t,f=>by rw[jq,cw]at f;rw[q5,q5,tJ r f.1,Gw t f.2]
section
variable{o:Expr}{ty:TE}
def QU(ho:PE X o td)(he:PE X e ty)(m:M1 X o "index" apos e cpos):PE X (.Call (.Attribute o "index" apos) [e] [] cpos) (Gv X.K td ty):=by
 intro aA s σ H Q I h;refine wpAny_Call_method m.base m.few m.line PySem.F.plainAttrs_tuple PySem.F.slot_tuple_index PySem.F.type_tuple_index (thn (ho aA s σ H _ I h) λu Z E=>?_);exists x,H1,T,rx,a,V,rfl,hq,q1,E;cases(show u=Value.ref a from rx)
 obtain⟨D,_,⟨B,N,c0,d0,_⟩,_⟩:=SqT.plain T hq;refine#[#[B,N,c0],λb eb=>by cases eb;exact#[B,N,d0],?_]
 rw[m.trees];refine CZ rfl (C0 (Bk (thn (he aA Z σ H1 _ T q1) λiv s2 d=>CS ?_)));exists y,H2,S,ry,U,j,f,fy,fs,G,q2,d;obtain⟨its,r,⟨⟨cls,dd,data,W⟩,J,co,_,n,L⟩,E⟩:=SqT.plain S f;simp only at co L;subst co L;rw[<- Gw r fs]at G;exists jl,hit,l,List.findIdx?_eq_some_iff_getElem.mp G
 exact call_meets PySem.F.slot_tuple_index #[_,J,rfl] PySem.F.entry_tuple_index (PySem.F.args_tuple_index_2 _ _) (QT a its.toArray n dd W iv (jf y) j (by simpa using jl) (by simpa using hit) (λk hk A=>by
  have:=l k A
  simpa using this)) #[J,λw hw=>kY ry fy r fs w (by simpa using hw),#[.int (j:Nat),H2,S.tok _,#[_,rfl],q2]]
end
def nP(o r:Res):Res:=o.thn λ_ d=>match d with
 |.tup ds=>r.thn λ_ y=>if(bY y&&ds.all bY)=true then(match ds.findIdx? (λz=>kj z y)with|some j=>.ok .fz (.int (j:Nat))|none=>.stuck)else .stuck
 |_=>.stuck
theorem Gx{y:D}(a:bY y=true):∀{ds:List D},ds.all bY=true->(ds.map k0).findIdx? (λz=>lj z (k0 y))=ds.findIdx? λz=>kj z y|[],_=>rfl|d::ds,h=>by rw[jq,cw]at h;rw[dw,q5,q5,Gb h.1 a,Gx a h.2]
section
variable{o:Expr}{go:Rho->Res}
def QV(ho:PV C X o go)(L:PV C X e g)(m:M1 X o "index" apos e cpos):PV C X (.Call (.Attribute o "index" apos) [e] [] cpos) (λY=>nP (go Y) (g Y)):=by refine PE.imp (QU ho L m) λσ H Q q=>?_;unfold Gv;rw[aR]at q ⊢;exists Y,F,R,w,q;(try dsimp only at w);refine#[Y,F,R,?_];cases E:go Y with|stuck|exc c=>rw[E]at w;exact w|ok m d=>rw[E]at w;intro v F1 H1 s1 rp _;cases d with|tup ds=>((exists a,U,rfl,B,J,rp.seqT s1.sub;refine#[a,U,rfl,B,?_];rw[aR];refine#[Y,F1,R.step s1,?_];have l:aZ (C.at X) F1 H1 σ ((g Y).thn λ_ y=>if(bY y&&ds.all bY)=true then(match ds.findIdx? (λz=>kj z y)with|some j=>.ok .fz (.int (j:Nat))|none=>.stuck)else .stuck) Q:=aZ.step s1 w);cases D:g Y with|stuck|exc c=>rw[D]at l;exact l|ok n y=>rw[D]at l;intro u T G S r _;have W:=aZ.step S l;simp only[Res.thn]at W;split at W;{rename_i f;rw[cw]at f;have A:SqT X.K G a U:=aE.seqT S.same B;have ev:=pU f.1 r;have es:=pV f.2 J;subst ev;subst es;split at W;{rename_i j N;exact#[_,j,A,pW f.1,pX f.2,by rw[Gx f.1 f.2];exact N,W _ T G (.refl S.sub) (eW _) (by nofun)]};exact W.elim};exact W.elim)|_=>exact(show False from w).elim
end
def e9(kb:List (Key×D)):List (Key×D)->Option Bool|[]=>some true|(k,d)::r=>match bR kb k with|none=>some false|some e=>(match aS d,aS e with|some p,some q=>if(fM p&&fM q)=true then(e9 kb r).map λb=>PyData.eqv p q&&b else none|_,_=>none)
theorem Gy{aA:e7}{σ:L2.St}{F H:Hp}{s:cc}(hu:X.A.units+64<cLine)(I:L2.Inv X aA σ H s)(sF:aE F H){kb:List (Key×D)}{ys:List (Key×V)}{S:List (Key×bb)}(rb:aF X.K F kb ys)(f:KV ys S):∀{m:List (Key×D)}{U:List (Key×V)}{l:List (Key×bb)}{r:Bool},aF X.K F m U->KV U l->e9 kb m=some r->W.KeqHits X.A.in1 s S l r|[],U,l,r,h,kv,e=>by simp only[aF]at h;subst h;cases kv;cases e;exact .nil|(k,d)::m,U,l,r,h,kv,e=>by simp only[aF]at h;exists y,aa,rfl,ry,t,h;cases kv with|cons h1 t1=>rename_i q1 ae;exists k1,Z,q1;exists e1,r1,h1;dsimp only at e1 r1;subst e1;unfold e9 at e;have a:=aF.val k rb;have o:=f.val k;cases eg:bR kb k with|none=>rw[eg]at e a;cases e;have a:dO ys k=none:=a;rw[a]at o;exact .miss (cO.none_of o)|some ee=>rw[eg]at e a;exists v2,J,B,a;rw[J]at o;exists T,L,E,cO.some_of o;dsimp only at e;split at e;{rename_i p q ep eq;split at e;{rename_i hs;cases N:e9 kb m with|none=>rw[N]at e;cases e|some b=>rw[N]at e;cases e;rw[cw]at hs;have ag:=lh hs.1;obtain⟨⟨as,ra⟩,ca⟩:=pO I sF d p y Z ry r1 ep;obtain⟨⟨bs,G⟩,cb⟩:=pO I sF ee q v2 T B E eq;exact .hit L (C8 p q X.A.in1 s Z T as bs ra G ca cb (by show X.A.units+1+min p.depth q.depth<cLine;have:=Bt p.depth q.depth;lia)) (Gy hu I sF rb f t t1 N)};cases e};cases e
def j8(w:dh)(K:Fg):List (Str×Str)->List DictEntry->Prop|[],es=>es=[]|(z,f)::r,es=>∃t a es',es=#[PyData.keyHash w.params z,.str z t,.ref a]::es'/\W.nsIn K mainGlobals f=some (some (.ref a))/\j8 w K r es'
structure i8(w:dh)(K:Fg)(mg:fg)(x:Str)(tb:List (Str×Str)):Prop where
 ex:∃a ob es ep,mg x=some (.ref a)/\K.lookup a=some ob/\ob.ExactDict/\ob.data=.dict es ep/\j8 w K tb es.toList
 nd:(tb.map (·.1)).Nodup
theorem j8.pairs{P:fc}{w:dh}{K:Fg}:∀{tb:List (Str×Str)}{es:List DictEntry},j8 w K tb es->∃kvs:List (Key×bb),Pairs (bZ P w) es kvs/\kvs.map (·.1)=tb.map (λp=>.inr p.1)/\(∀e∈es,∃k,(bZ P w).is k e.key=true/\e.hash=(bZ P w).hash k)/\∀z f,tb.lookup z=some f->∃a,valueAt kvs (.inr z)=some (.ref a)/\W.nsIn K mainGlobals f=some (some (.ref a))|[],es,h=>by have h:es=[]:=h;subst h;refine#[[],.nil,rfl,λe h=>?_,λz f h=>?_];{cases h};cases h|(z,f)::r,es,h=>by(exists t,a,E,rfl,hn,D,h;exists kvs,p1,p2,B,A,j8.pairs (P:=P) D;have m:(bZ P w).is (.inr z) (.str z t)=true:=by show Value.isStrOf z (.str z t)=true;simp[Value.isStrOf]);refine#[(.inr z,.ref a)::kvs,.cons m rfl p1,by simp[p2],λe l=>?_,λZ F d=>?_];{rcases dq.mp l with rfl|l;{exact#[.inr z,m,rfl]};exact B e l};rw[iq]at d;unfold valueAt;by_cases e:Z=z;{subst e;rw[oi]at d;cases d;exact#[a,by simp[gu],hn]};have:(Z==z)=false:=lr.mpr e;rw[this]at d;exists G,q1,o,A Z F d;refine#[G,?_,o];unfold valueAt at q1;simp[gu];simpa[Ne.symm e]using q1
abbrev QW:=List (Str×Str)
abbrev QX:=List Str
def j9(tb:List (Str×Str))(r:Res):Res:=r.thn λ_ d=>match d with
 |.str z=>(match tb.lookup z with|some f=>.ok .fz (.fn f)|none=>.stuck)
 |_=>.stuck
def qG(Φ:Str->List D->Res)(fs:List Str)(n:Nat)(r:Res)(as:bF):Res:=match r with|.ok .fz (.fn f)=>if fs.contains f=true then aW n (Φ f) as else .stuck|_=>.stuck
section
variable{b:Expr}{es:List Expr}{tb:List (Str×Str)}
def QY(T:i8 X.w X.K X.mg x tb)(hg:Gl X x)(hb:PV C X b gb)(hs:tP b)(hd:(x==("__debug__":Str))=false):PV C X (.Subscript (.Name x p) b pos) (λY=>j9 tb (gb Y)):=by
 exists a,ob,es,ep,V,hk,xd,o,te,T.ex;intro aA s σ H Q I h;rw[aR]at h;exists Y,F,R,w,h;have r:=hb aA s σ H (λy A=>∃z f,y=.str z/\tb.lookup z=some f/\∀fa,W.nsIn X.K mainGlobals f=some (some (.ref fa))->Q (.ref fa) A) I (by
  rw[aR];refine#[Y,F,R,?_];cases B:gb Y with
  |stuck|exc c=>rw[B]at w;exact w|ok m d =>
   rw[B]at w;intro v F1 H1 s1 r1 _;have l:aZ (C.at X) F1 H1 σ (j9 tb (.ok m d)) Q:=aZ.step s1 w;unfold j9 at l;rw[Res.thn_ok]at l;cases d with|str z=>(dsimp only at l;cases E:tb.lookup z with|none=>rw[E]at l;exact l.elim|some f=>rw[E]at l;refine#[z,f,?_,E,λfa hf=>l (.ref fa) F1 H1 (.refl s1.sub) (by show aB _ _ _ _;simp only[aB];exact#[fa,rfl,hf]) (by nofun)];exact(nH (k:=.inr z) rfl r1))|_=>exact l.elim)
 refine Ol PySem.F.slot_dict_getitem.lookup hs (mW I hg V (thn r λiv S ⟨y,A,G,J,z,f,ey,E,q⟩=>?_) hd);subst ey;exists kvs,p1,p2,N,L,j8.pairs (P:=X.prog) te;have Z:S.heap.get? a=some ob:=G.kIn a ob hk
 have D:S.heap.DictOf (bZ X.prog X.w) a kvs:=#[ob,es,ep,Z,xd,o,λe he=>N e (by simpa using he),p1,by
  rw[p2];have:=T.nd;unfold List.Nodup at this ⊢;rw[ir]at this ⊢;exact this.imp λh z=>h (Sum.inr.inj z)]
 exists fa,v1,v2,L z f E;exact#[D.typeIs,wpAny_getItem_of (jV (k:=.inr z) J) D.mapOf v1 #[.ref fa,A,G.tok _,rfl,q fa v2]]
def QZ{fs:List Str}{Φ:Str->List D->Res}(F:∀f,fs.contains f=true->ul X.prog X.w X.K X.mg X.base CX k f n (Φ f))(hr:bG k X.A)(hx:qg CX (C.at X) X)(hv:PE X (.Name x p) (f9 i))(ha:j3 C X (e::es) gs)(he:starEach (e::es) X.env=(false,eval e X.env)::starEach es X.env)(o:(backTo pos (starEach es X.env)).any (·.1)=false):PV C X (.Call (.Name x p) (e::es) [] pos) (λY=>qG Φ fs n (cR Y i) (gs Y)):=by intro aA s σ H Q I h;rw[aR]at h;exists Y,G,R,w,h;unfold qG at w;split at w;rotate_left;{exact w.elim};rename_i f eg;split at w;rotate_left;{exact w.elim};(rename_i hf;exists fa,fd,ps,FF,hm,hk,hb,(F f hf).ex;have T:Y[i]? = some (some (false,.fn f)):=by unfold cR at eg;split at eg;{rename_i d q;cases eg;exact q};{cases eg};cases eg);(exists v,ev,l,_,R.slot i false (.fn f) T;have l:aB X.K G (.fn f) v:=l;simp only[aB]at l;exists a,rfl,na,l;have ea:a=fa:=by have:=li I.ok.mod.kin I.ok.mod.glob na;rw[hm]at this;cases this;rfl);subst ea;refine pf (thn (hv aA s σ H (λV H'=>V=.ref a/\H'=H) I #[.ref a,ev,rfl,rfl]) λu s0 ⟨V,H0,N,Z,e1,e2⟩=>?_);subst e1 e2;obtain rfl:u=Value.ref a:=Z;refine Bz (h₀:=X.base) N.ok.mod.kin hk (thn (ha pos aA s0 σ H0 (λvs H1=>ll X.K X.mg n (Φ f) vs H1 Q λu _ H'=>∃c,X.mg c=some u/\C.EE c σ H') N ?_) λus S ⟨vs,H1,B,r,q⟩=>#[B.kIn,tV FF hr hb (λe O hc=>hx aA σ H1 S e O B hc) B r q]) he o;refine#[Y,G,R,?_];cases L:gs Y with|stuck|exc c=>rw[L]at w;exact w|ok U=>rw[L]at w;intro vs F1 H1 S r1;have W:aZ (C.at X) F1 H1 σ (aW n (Φ f) (.ok U)) Q:=aZ.step S w;unfold aW at W;rw[bF.thn_ok]at W;cases E:cY U with|none=>rw[E]at W;exact W.elim|some ds=>rw[E]at W;dsimp only at W;split at W;{rename_i hn;have J:=r1.fz E;refine#[by rw[J.length];exact hn,F1,ds,S.sub,J,?_];cases ep:Φ f ds with|stuck=>rw[ep]at W;exact W|exc c=>rw[ep]at W;exact λF' H' u st hu=>#[c,hu,W F' H' st]|ok m d=>rw[ep]at W;cases m with|bo=>exact W.elim|fz|fr=>exact#[by decide,W]};exact W.elim
end
def qH:Key->D|.inl i=>.int i|.inr x=>.str x
def fO:Key->Bool|.inl _=>true|.inr x=>decide (x.length<=sizeLine)&&PyData.strOk x
def yf{k:Key}(h:(bZ P w).is k u=true):aH (kV k) u:=by cases k with|inl i=>have h:Value.isInt i u=true:=h;cases u <;> simp[Value.isInt]at h;subst h;exact#[_,rfl]|inr x=>have h:Value.isStrOf x u=true:=h;cases u <;> simp[Value.isStrOf]at h;subst h;exact#[_,rfl]
theorem Gz{K:Fg}{F:Hp}:∀{kvs:List (Key×D)}{U:List (Key×V)},aF K F kvs U->(kvs.all λkv=>fO kv.1)=true->aD K F (kvs.map λkv=>qH kv.1) (U.map λkv=>kV kv.1)|[],U,h,_=>by simp only[aF]at h;subst h;simp[aD]|(k,d)::kvs,U,h,a=>by simp only[aF]at h;exists y,ys,rfl,_,t,h;rw[jq,cw]at a;simp only[dw,aD];refine#[_,_,rfl,?_,Gz t a.2];cases k with|inl i=>simp only[qH,aB,kV]|inr x=>have A:(decide (x.length<=sizeLine)&&PyData.strOk x)=true:=a.1;rw[cw,fw]at A;show aB K F (.str x) (.str x);unfold aB;exact#[rfl,A]
def aT.frz{K:Fg}{F:Hp}(R:aT K F0 H0 F H σ Y){d:D}(e:Y[i]? = some (some (true,d))):∃F',aE F F'/\aT K F0 H0 F' H σ (Y.set i (some (false,d))):=by
 exists v,ev,W,hn,R.slot i true d e;exists x,rfl,nx,t,W;exists o,ho,r,t.freeze nx;have sm:aE F (upd F x o):=λb u q=>by rw[aP (cI q nx)];exact q
 have T:i<Y.length:=(mr.mp e).1;refine#[upd F x o,sm,R.st.freeze (hn rfl x rfl) nx ho,λj m N B=>?_,λj k G d2 a L e1 e2 q1 Z=>?_,by rw[pq];exact R.len]
 . by_cases l:j=i;{subst l;rw[pb T]at B;cases B;exact#[.ref x,ev,r,by nofun]};rw[jo (λz=>l z.symm)]at B;exists V,E,A,J,R.slot j m N B;refine#[V,E,?_,J];cases m with|false=>exact aB.mono sm _ _ A|true=>(exists a,rfl,na,t',A;have ax:a≠x:=λz=>by subst z;exact R.apart j i N d a l B e E ev);refine#[a,rfl,by rw[aP ax];exact na,?_];cases N with|lst ds|dct ds=>exists U,q,f,t';exact#[U,q,f.mono sm _ _]|ins c fs=>exists C,dx,gs,n,q,f,t';exact#[C,dx,gs,n,q,f.mono sm _ _]|set ks=>exists S,q,f,t';exact#[S,q,f]|dtn ds=>exists U,q,f,t';exact#[U,q,f.mono sm _ _]|_=>exact t'.elim
 . have own:∀{j:Nat}{G:D},(Y.set i (some (false,d)))[j]? = some (some (true,G))->Y[j]? = some (some (true,G)):=λ{j G} z=>by
     by_cases l:j=i
     . subst l;rw[pb T]at z;cases z
     . rw[jo (λy=>l y.symm)]at z;exact z
   exact R.apart j k G d2 a L (own e1) (own e2) q1 Z
def lP(Y:Rho)(i:Nat):aI:=match Y[i]? with|some (some (true,d))=>.nx (Y.set i (some (false,d)))|_=>.stuck
def Q0{g:Rho->aI}(h:kf C X sts g):kf C X sts (λY=>(lP Y i).thn g):=by refine ja.imp h λE σ H q=>?_;exists Y,F,R,w,q;dsimp only at w;unfold lP at w;split at w;{rename_i d e;exists F',sm,r,R.frz e;exact#[_,F',r,cS.mono sm w]};exact w.elim
def D6(w:dh):List Str->List (Int×bb)->Prop|[],l=>l=[]|x::U,l=>∃t r,l=(hashStr w x,.str x t)::r/\D6 w U r
def eG(w:dh):Bool:=w.params.followText "set-order"
def Q2(w:dh)(h:Heap)(a:Addr)(U:List Str):Prop:=∃o es ep t,h.get? a=some o/\o.ExactSet/\o.data=.set es ep t/\D6 w U es.toList/\U.Nodup/\U.length<scanBound/\t.fits es.size=true/\t.led = !eG w/\(U=[]\/t.plain=false)
def t9:plainId "set.update.loop"=true:=by decide +kernel
def GA:entryFor table "set.update.loop"=some Builtin.«set.update.loop»:=Dd (by kernel_rfl)
def Q3(a:bb):checkTypeCall "set" #[[a],[]]=pure ():=by kernel_rfl
def Q4(a:bb):checkBuiltinCall "set.__new__" #[[.type "set",a],[]]=pure ():=by kernel_rfl
def sob(w:dh):Obj:={ cls:=.type "set",dict:=none,data:=.set #[] 0 (.fresh 0 0 (!eG w)) }
section
variable{A:dj}{E:di}
def Q5(v:bb){Q1:di}(h:Q1 (.ref s.heap.objs.size) {s with heap:=s.heap.push (sob w)}):codeAny (model prog w) A (.call (.builtin "set.__new__") #[[.type "set",v],[]]) (wants Q1 E) s:=by refine codeAny_call_builtin_code (m4 PySem.F.plain_set_new _) (vi (Q4 v) (kq PySem.F.entry_set_new ?_));rw[mf PySem.F.plain_set_new _];have sub:=sub_set_self;exists hp,g,d,tk,os,s;unfold Builtin.«set.__new__» Builtin.Frozenset.newClass;dsimp only;wp_walk;refine BG (cq ?_);dsimp only;simp only[newObj];exact bv (wpAny_alloc (cq (cq h)))
def Q6{M:Model}{self v:bb}{Q:Unit->cc->Prop}(ty:s.TypeIs self "set")(q:Q () s):wpAny M A (checkBuiltinCall "set.__init__" #[[self,v],[]]) Q E s:=by unfold checkBuiltinCall;simp only[kind_set_init,split_set_init,sig_set_init];refine bv (p7 ty sub_set_self ?_);simp only[Bu,io,↓reduceIte];unfold Bind.checkArgs;dsimp only;refine bv (m:=Bind.printed "set" true _ _) (printed_name (by decide) (bv (m:=Bind.printed "*" false _ _) (printed_star (self:=self) rfl ty λsh=>?_)));have a:(if(Manifest.Receiver.self==Manifest.Receiver.none)=true then[self,v].length else[self,v].length-1)=1:=rfl;rw[a,oa,show Bind.check #[.positional,"set","*",.self,[#["iterable",.posOnly,false]]] "set" sh 1 []=pure ()from by kernel_rfl];exact cq q
end
def yg(m:Nat):Prop:=m=7\/m=15\/m=31
def Q7(w:dh)(h:Heap)(a:Addr)(U:List Str):Prop:=∃o es ep t,h.get? a=some o/\o.ExactSet/\o.data=.set es ep t/\D6 w U es.toList/\U.Nodup/\U.length<scanBound/\t.fits es.size=true/\t.led = !eG w/\(U=[]\/t.plain=false)/\yg t.mask/\t.dummies = #[]
section
variable{A:dj}{E:di}
def uA{Q:Bool->cc->Prop}(q:Q (eG w) s):wpAny (model prog w) A setsByText Q E s:=by unfold setsByText;exact bv (BG (cq q))
def Wide(h:Heap)(a:Addr)(n:Nat):Prop:=∀o es ep t,h.get? a=some o->o.data=.set es ep t->n<=t.mask
end
def lQ:Slot "set_iterator" "__next__" "set_iterator.__next__":=.of (owner:="set_iterator") (n:="__next__") (by rw[BH,BI];kernel_rfl) (by decide +kernel) (by decide +kernel) (by decide +kernel) (by first|exact .inl (by decide +kernel)|exact .inr (by decide +kernel)) (by rw[BJ];kernel_rfl)
def GB:entryFor table "set_iterator.__next__"=some Builtin.«set_iterator.__next__»:=Dd (by kernel_rfl)
def GC:Manifest.owners.lookup (String.ofList "rotareti_tes".toList.reverse)=some Manifest.sig_set_iterator:=by kernel_rfl
def GE(a:bb):argsOk "set_iterator.__next__" #[[a],[]]:=by unfold argsOk;rw[signature?_of (id:="set_iterator.__next__") (n:="__txen__".toList) (o:="rotareti_tes".toList) (by kernel_rfl) GC];kernel_rfl
def GH:Slot "set_iterator" "__iter__" "set_iterator.__iter__":=.of (owner:="set_iterator") (n:="__iter__") (by rw[BH,BI];kernel_rfl) (by decide +kernel) (by decide +kernel) (by decide +kernel) (by first|exact .inl (by decide +kernel)|exact .inr (by decide +kernel)) (by rw[BJ];kernel_rfl)
def Q8(a:bb):argsOk "set_iterator.__iter__" #[[a],[]]:=by unfold argsOk;rw[signature?_of (id:="set_iterator.__iter__") (n:="__reti__".toList) (o:="rotareti_tes".toList) (by kernel_rfl) GC];kernel_rfl
def Q9:entryFor table "set.__iter__"=some Builtin.«frozenset.__iter__»:=entryFor_alias (id':="frozenset.__iter__") (by kernel_rfl) rfl (by decide +kernel) (by kernel_rfl)
def Ra:entryFor table "set_iterator.__iter__"=some Builtin.«dict_keyiterator.__iter__»:=entryFor_alias (id':="dict_keyiterator.__iter__") (by kernel_rfl) rfl (by decide +kernel) (by kernel_rfl)
def ml(h:Heap)(I a:Addr)(f:bb)(i n ep:Nat):Prop:=∃o,h.get? I=some o/\o.cls=.type "set_iterator" /\ o.data=.fields (List.toArray [f,.int i 0,.ref a,.int n 0,.int ep 0])
def ml.ty{a:Addr}{f:bb}(x:ml s.heap I a f i n ep):s.TypeIs (.ref I) "set_iterator":=let⟨o,l,d,_⟩:=x;#[o,l,d]
def ml.at{a:Addr}{f:bb}(x:ml h I a f i n ep)(k:∀o,h.get? I=some o->h'.get? I=some o):ml h' I a f i n ep:=let⟨o,d,r⟩:=x;#[o,k o d,r]
section
variable{A:dj}{E:di}{a:Addr}{o:Obj}{es:Array (Int×bb)}{t:SetTable}
def Rb{f:bb}(x:ml s.heap I a f i n ep)(q:Q (.ref I) s):wpAny (model prog w) A (pyIter (.ref I)) Q E s:=by refine De x.ty GH (jp GH x.ty Ra ?_ (Q8 _));show wpAny _ _ (ret (.ref I)) _ _ s;exact cq #[_,rfl,"set_iterator",_,x.ty,lQ.lookup,q]
def Rc {l : Type} {m : Sem l} {f F : bb} {o : Obj} (h0 : s.heap.get? I = some o) (r : o.cls = .type "set_iterator") (hd : o.data = .fields (List.toArray [f, .int i 0, .ref a, .int n 0, .int ep 0])) {Q : l → cc → Prop}
    (q:∀h',Heap.SameBut I s.heap h'->ml h' I a F (i+1) n ep->wpAny (model prog w) A m Q E {s with heap:=h'}):wpAny (model prog w) A (do setField (.ref I) 0 F;setField (.ref I) 1 (rawInt (i+1));m) Q E s:=by
 refine bv (q7 h0 hd (by simp) ?_)
 have G:=pk (Obj.mapFields (·.setIfInBounds 0 F)) h0 (BD (p9 hd _));have d:=p9 hd (·.setIfInBounds 0 F);refine bv (q7 (s:={s with heap:=s.heap.update I (Obj.mapFields (·.setIfInBounds 0 F))}) G d (by simp) (q _ ((lw _ I _).trans (lw _ I _)) ?_))
 refine#[_,pk _ G (BD (p9 d _)),(BE ..).trans ((BE ..).trans r),?_];rw[p9 d];simp[rawInt]
def Re {P : PySem.Fin → cc → Prop} {Q : Option bb → cc → Prop} (d : A.handled = none) (q : ∀ h', (∀ b o, s.heap.get? b = some o → h'.get? b = some o) → Q none { s with heap := h' }) :
    wpAny (model prog w) A.in1 (do let e <- newExc (.type "StopIteration") [];raiseNew e) P (λe O=>wpAny (model prog w) A (do let c <- isInstance e (.type "StopIteration");if c=true then pure none else throw e) Q E O) s:=by
 refine bv ?_;simp only[newExc,newTuple];refine bv (je (bv (m:=firstArgMember _ _) (vi (a:=Value.none) (by first|rfl|(simp only[firstArgMember];rfl)) (je ?_ (by size_fits)))) (by size_fits))
 simp only[raiseNew];refine bv (wpAny_handled ?_);rw[show A.in1.handled=none from d]
 refine bv (cq (wpAny_throw (bv ?_)));exact p7 (T:="StopIteration") (b:=true) #[_,fi _ rfl,rfl] isSubtype_stop (cq (q _ λb o e=>hps (hps e)))
def Rf{K:Nat}{x:bb}{Q:Option bb->cc->Prop}(X:ml s.heap I a (.int k 0) i es.size ep)(ho:s.heap.get? a=some o)(hd:o.data=.set es ep t)(l:t.fits es.size=true)(hn:∀{F:dj}{D:di}{f:Option (bb×Nat)->cc->Prop},f (some (x,K)) s->wpAny (model prog w) F (setNext a k i ep) f D s)(q:∀h',Heap.SameBut I s.heap h'->ml h' I a (.int K 0) (i+1) es.size ep->Q (some x) {s with heap:=h'}):wpAny (model prog w) A (pyNext (.ref I)) Q E s:=by exists G,h0,r,d,id X;unfold pyNext;refine bv (tu (nA (name:=Str.ofString "__next__") X.ty lQ (jp lQ X.ty GB ?_ (GE _))));unfold Builtin.«set_iterator.__next__»;refine bv (m:=slotArgs _ _ _) (cq (bv (tA h0 d ?_)));dsimp only;refine bv (Df ho hd l ?_);simp only[ua,io,↓reduceIte,ph];refine bv (hn ?_);dsimp only;exact Rc h0 r d λh' S B=>cq #[_,rfl,cq (q h' S B)]
def Rg{Q:Option bb->cc->Prop}(r:A.handled=none)(X:ml s.heap I a (.int k 0) i es.size ep)(ho:s.heap.get? a=some o)(hd:o.data=.set es ep t)(B:t.fits es.size=true)(hn:∀{F:dj}{D:di}{l:Option (bb×Nat)->cc->Prop},l none s->wpAny (model prog w) F (setNext a k i ep) l D s)(q:∀h',(∀b o,b≠I->s.heap.get? b=some o->h'.get? b=some o)->Q none {s with heap:=h'}):wpAny (model prog w) A (pyNext (.ref I)) Q E s:=by exists G,h0,J,d,id X;unfold pyNext;refine bv (tu (nA (name:=Str.ofString "__next__") X.ty lQ (jp lQ X.ty GB ?_ (GE _))));unfold Builtin.«set_iterator.__next__»;refine bv (m:=slotArgs _ _ _) (cq (bv (tA h0 d ?_)));dsimp only;refine bv (Df ho hd B ?_);simp only[ua,io,↓reduceIte,ph];refine bv (hn ?_);dsimp only;refine bv (q7 h0 d (by simp) (Re r λh' K=>q h' λb f N e=>K b f ?_));exact(lw s.heap I _).extBut b f N e
end
section
variable{A:dj}{E:di}{a:Addr}
def Rh{Q:Bool->cc->Prop}(ty:s.TypeIs (.ref a) "set")(q:Q false s):wpAny (model prog w) A (Builtin.List.listLengthHint (.ref a)) Q E s:=by
 unfold Builtin.List.listLengthHint;refine bv (oh ty PySem.F.slot_set_len.lookup ?_);generalize d:("set.__len__":String)=j
 wp_delta
 rw[show splitId j=some ("set","__len__")from by subst d;decide +kernel]
 subst d;refine bv (p7 ty sub_set_self ?_);refine Dg (λx=>absurd x (by decide)) (λ_=>Dg (λ_=>?_) (λx=>absurd (by decide +kernel) x))
 exact bv (mw ty (cq q))
theorem Ri{items:List bb}{d:Array bb}(h:ItemsOf (λi v=>items[i]? = some v) d items.length):d.toList=items:=by apply List.ext_getElem?;intro j;by_cases m:j<items.length;{have f:d[j]? = some (d[j]'(by rw[h.1];exact m)):=BK _;rw[vj,f];exact(h.2 j _ f).symm};(have Z:d.toList.length=items.length:=by rw[lc];exact h.1);rw[BL (l:=d.toList) (by lia),BL (l:=items) (by lia)]
end
noncomputable def gy(x y:Str):Bool:=ltCps x.cps.toList y.cps.toList
def lR{y:Str}:gy x y=true↔x.cps.toList<y.cps.toList:=by unfold gy;rw[ltCps_eq,fw]
def qI(x:Str):gy x x=false:=by cases h:gy x x with|false=>rfl|true=>exact absurd (lR.mp h) (List.lt_irrefl _)
def uB{y:Str}(a:gy x y=true)(b:gy y z=true):gy x z=true:=lR.mpr (List.lt_trans (lR.mp a) (lR.mp b))
def uC{y:Str}(a:gy x y=false)(b:gy y x=false):x=y:=by
 have f:¬ x.cps.toList<y.cps.toList:=λh=>by rw[lR.mpr h]at a;cases a
 have d:¬ y.cps.toList<x.cps.toList:=λh=>by rw[lR.mpr h]at b;cases b
 have e:=List.le_antisymm (List.not_lt.mp d) (List.not_lt.mp f);cases x;cases y;exact congrArg Str.mk (Array.ext' e)
theorem GI:∀{l:List Str}{p:Str},risingS p l=true->∀x∈l,gy x p=false|y::l,p,h,x,d=>by have h:(!gy y p&&risingS y l)=true:=h;rw[cw,Dh]at h;rcases dq.mp d with rfl|d;{exact h.1};have a:=GI h.2 x d;cases q:gy x p with|false=>rfl|true=>cases f:gy p y with|true=>rw[uB q f]at a;cases a|false=>have:=uC f h.1;subst this;rw[q]at a;cases a
theorem GJ:∀{ys:List Str}{us:List bb},StrsAre us ys->aL (ys.map V.str) us|[],_,.nil=>.nil|_::ys,_,.cons y t h=>.cons #[t,rfl] (GJ h)
def Rj:bootBuiltins "set"=some (.type "set"):=by decide +kernel
def uD:bootBuiltins "sorted"=some (.builtin "sorted"):=by decide +kernel
def qj:List D->Option (List Str)|[]=>some []|.str x::ds=>(qj ds).map (x :: ·)|_::_=>none
theorem GK{K:Fg}{F:Hp}:∀{ds:List D}{U:List V}{ns:List Str},qj ds=some ns->aD K F ds U->U=ns.map V.str/\∀x∈ns,x.length<=sizeLine/\PyData.strOk x=true|[],U,ns,e,r=>by cases e;simp only[aD]at r;subst r;exact#[rfl,λx m=>by cases m]|d::ds,U,ns,e,r=>by cases d with|str x=>(simp only[qj]at e;cases q:qj ds with|none=>rw[q]at e;cases e|some ms=>rw[q]at e;cases e;simp only[aD]at r;exists v,vs,rfl,a,f,r;exists rfl,o,GK q f;simp only[aB]at a;exists rfl,A,a;exact#[rfl,λy l=>(dq.mp l).elim (λe=>by subst e;exact A) (o y)])|_=>cases e
theorem GL{K:Fg}{F:Hp}:∀{ns:List Str},(∀x∈ns,x.length<=sizeLine/\PyData.strOk x=true)->aD K F (ns.map .str) (ns.map V.str)|[],_=>by simp[aD]|x::ns,h=>by simp only[dw,aD,aB];exact#[_,_,rfl,#[rfl,h x c6],GL λy a=>h y (df a)]
abbrev LC(elt tg iter:Expr)(ifs:List Expr)(T B:Expr)(scope:Scope)(pos:Pos):Expr:=.ListComp elt [#[tg,iter,ifs,0],#[T,B,[],0]] scope pos
def yh(e B:Expr)(D:Addr)(env:Env):Sem Unit:=do
 let x <- eval B env
 standAt B.pos
 let x <- foldedSetIterable B env x
 let _ <- runOwn (.compStart e 1 (<- holding [x] (pyIter x)) (.ref D) env) env
def D7(wi:TI)(gt:TG)(te:TE):L2.St->Hp->Addr->List V->(List V->Hp->Prop)->Prop:=λσ H D ys K=>wi σ H λJ l=>∃W:Nat->Nat->List V->Hp->Prop,(∃m,W 0 m ys l)/\∀j m zs H,W j m zs H ->
 ((J.stop j H/\K zs H)\/(J.go j H/\∀y H',J.yld j H y H'->gt y σ H' λa f=>pM σ a/\te a f λv d=>d D=some (.lst zs)/\zs.length<sizeLine/\∃m',m'<m/\W (j+1) m' (zs++[v]) (upd d D (.lst (zs++[v])))))
def GN(elt:Expr)(a:bb)(env:Env):Sem Unit:=do let _ <- call (.builtin "list.append") [a,<- eval elt env]
section
variable{a d:Expr}
def Rk{A:dj}{R:Result->cc->Prop}{it f:bb}(h0:codeAny (model prog w) A (.compLoop (LC elt tg iter ifs a d scope pos) 1 it f env) R s)(h:wpAny (model prog w) A (pyIter it) (λl O=>codeAny (model prog w) A (.compLoop (LC elt tg iter ifs a d scope pos) 1 l f env) R O) (λ_ _=>False) s):codeAny (model prog w) A (.compStart (LC elt tg iter ifs a d scope pos) 1 it f env) R s:=by
 refine codeAny_of_tree ?_;show wpAny _ _ ((compStart (LC elt tg iter ifs a d scope pos) 1 it f env).onRaise (λx=>do noteFrame x env;standAt theWindowsPlace)) _ _ s
 refine wpAny_notedAt ?_;unfold compStart;show wpAny _ _ (ask>>=_) _ _ s;refine bv (BG (wpAny_ite ?_));split
 . first
     |exact bv (cq (cq (And.intro rfl h0)))
     |exact cq (And.intro rfl h0)
 . first
     |exact bv (pz (bv (nt (bv (ij h (λl O h'=>cq (And.intro rfl h')) λ_ _ x=>x.elim)))))
     |(refine bv (pz ?_);show wpAny _ _ (standAt _>>=_) _ _ s;exact bv (nt (bv (ij h (λl O h'=>cq (And.intro rfl h')) λ_ _ x=>x.elim))))
def yi {prog : fc} {w : dh} {A : dj} {R : Result → cc → Prop} {s : cc} {it : bb} {D : Addr} {env : Env} (I : Nat → cc → Prop) (turn : ∀ n s, I n s → wpAny (model prog w) A (pyNext it) (fun r s1 => match r with
      |none=>R (.ok .next) s1| some v => wpAny (model prog w) A (letOwnedTupleGo a it v) (fun _ S => wpAny (model prog w) A (assign a env v) (fun _ l =>
          wpAny (model prog w) A (GN elt (.ref D) env) (fun _ B => ∃ m, m < n ∧ I m B) (fun _ _ => False) l) (fun _ _ => False) S) (fun _ _ => False) s1) (fun _ _ => False) s)
    (n:Nat) (h:I n s):codeAny (model prog w) A (.compLoop (LC elt tg iter ifs a d scope pos) 1 it (.ref D) env) R s:=by
 refine codeAny_loop rfl I (λn s E=>?_) n h;show wpAny _ A ((do
  standAt d.pos
  match <- pyNext it with
  |none=>pure (.done .next)|some v =>
   letOwnedTupleGo a it v
   assign a env v
   GN elt (.ref D) env
   again (.compLoop (LC elt tg iter ifs a d scope pos) 1 it (.ref D) env):Sem PySem.Fin).onRaise (λx=>do noteFrame x env;theTreesLotGoes x)) _ _ s
 refine wpAny_noted (bv (nt (bv (ij (turn n s E) (λr s1 o=>?_) λ_ _ h'=>h'.elim))));cases r with|none=>exact cq o|some v=>exact bv (ij o (λ_ S f=>bv (ij f (λ_ l G=>bv (ij G (λ_ J F=>cq #[rfl,F]) λ_ _ h'=>h'.elim)) λ_ _ h'=>h'.elim)) λ_ _ h'=>h'.elim)
def Rl{N:List Str}(hc:X.calm=true)(hi:∀cl C fp s3 H3,PI (aY X scope N cl C fp s3 H3) a d wi)(hg:∀cl C fp s3 H3,PG (aY X scope N cl C fp s3 H3) a gt)(he:∀cl C fp s3 H3,PE (aY X scope N cl C fp s3 H3) elt te)(hs:∀env x,foldedSetIterable d env x=pure x):CK X (LC elt tg iter ifs a d scope pos) tg iter ifs scope N .lst (newList []) (yh (LC elt tg iter ifs a d scope pos) d) (D7 wi gt te) where
 cl:=#[_,rfl]
 tn _ _ _ _ _ _:=#[rfl,by simp only[yh,bind_assoc];rfl]
 st:=codeAny_compStart_list
 nw I h:=je (h _ (pc _ _) (λb o e=>hps e) (I.laid (t':=_) (λb u e=>hps e) (dm _) #[gw _,[],0,.nil,fi _ rfl]))
 ac {cl C fp s3 H3 aA σ H s D ys K R} I hlen h w:=by(refine bv (thn (hi cl C fp s3 H3 aA s σ H _ I h) λv bw az=>bv (nt (bv (vi (hs _ _) (bv (il (thn az λbz aq ay=>?_)))))));obtain⟨it,F,tn,J,bu,rfl,bn,T,E,aa,W,⟨m0,w0⟩,turn⟩:=ay;have S:∀{H':Hp},(∀b∈F,H' b=none)->∀b∈F,cP (aY X scope N cl C fp s3 H3) aA H' b:=λhn b m=>#[hn b m,(aa b m).2];have loop:codeAny (model X.prog X.w) X.A (.compLoop (LC elt tg iter ifs a d scope pos) 1 (.ref it) (.ref D) (compEnvC scope cl C X.env)) (λr s6=>match r with|.ok _=>R () s6|.error _=>False) aq:=by refine yi (λn O=>∃j zs H',Inv (aY X scope N cl C fp s3 H3) aA σ H' O/\tn j O.heap/\(∀b∈F,H' b=none)/\W j n zs H') ?_ m0 #[0,ys,bu,bn,E,λb m=>(aa b m).1,w0];rintro n s12 ⟨j,zs,H12,I12,st12,fr12,w12⟩;rcases turn j n zs H12 w12 with⟨stop,k⟩|⟨go,step⟩;{refine thn (T.done (aY X scope N cl C fp s3 H3) rfl rfl rfl hc j aA s12 σ H12 _ I12 (S fr12) st12 stop) λr V ⟨hr,bj⟩=>?_;subst hr;exact w zs H12 V bj k};refine thn (T.item (aY X scope N cl C fp s3 H3) rfl rfl rfl hc j aA s12 σ H12 _ I12 (S fr12) st12 go) λr V ⟨u,hr,aw⟩=>?_;subst hr;refine thn aw λ_ L ⟨y,ag,bi,au,ah,l,Z⟩=>?_;refine thn (hg cl C fp s3 H3 _ L σ ag y u _ (bi.pinned (S Z) (T.obj _ _ l)) au (step y ag ah)) λ_ am ⟨B,bq,bh,wk,av⟩=>?_;refine bv (thn (he cl C fp s3 H3 _ am B bq _ bh av) λv ak ⟨yv,G,bf,ar,hD,hl,m',hm,ai⟩=>?_);refine bv (thn (tK (X:=aY X scope N cl C fp s3 H3) _ ak B G (.ref D) [yv] (.ref D) [v] (λv H'=>v=.non/\H'=upd G D (.lst (zs++[yv]))) bf rfl (.cons ar .nil) #[D,zs,yv,rfl,rfl,hD,hl,rfl,rfl]) λ_ aj ⟨_,_,ae,_,_,bc⟩=>cq ?_);subst bc;(have pinned:∀b∈F,∀o,L.heap.get? b=some o->aj.heap.get? b=some o/\upd G D (.lst (zs++[yv])) b=none:=λb m o e=>by have:=ae.pin (b,o) (iz _ (iz _ (o3 m e)));exact#[this.1,this.2.1]);refine#[m',hm,j+1,_,_,ae.unpinned.weak wk.1 wk.2,T.keep _ _ _ l λb m o e=>(pinned b m o e).1,λb m=>?_,ai];exists o,e,_,T.obj _ _ l b m;exact(pinned b m o e).2);refine bv (wpAny_runOwn (mz (Rk loop (T.self _ 0 _ _ _ E loop)) λr s6 h6=>?_));cases r with|ok f=>exact cq h6|error e=>exact h6.elim
end
def lT:Rho->Res:=λ_=>.ok .fz (.bl true)
def i9(i j:Nat)(t G e:Rho->Res)(a:Rho):List D->Option (List D)|[]=>some []|d::ds=>match t (a.set i (some (false,d)))with|.ok _ (.bl true)=>((match G (a.set i (some (false,d)))with|.ok _ (.lst es)=>((match cZ (lI j) lT e (a.set i (some (false,d))) es with|some ys=>(i9 i j t G e a ds).map (ys ++ ·)|none=>none))|_=>none))|.ok _ (.bl false)=>i9 i j t G e a ds|_=>none
def lU(Y:Rho):Prop:=∀(i:Nat) (m:Bool) (d:D),Y[i]? = some (some (m,d))->m=false
def Rm(aC:List Nat)(Y:Rho)(n:Nat):lU (cA aC Y++List.replicate n none):=λi m d e=>by by_cases a:i<aC.length;{rw[mv (by simpa[cA]using a)]at e;unfold cA at e;rw[h7,gm a]at e;simp only[ti,By]at e;split at e;{cases e;rfl};cases e};rw[nv (by simpa[cA]using a),ny]at e;split at e <;> cases e
theorem lU.set(h:lU Y)(i:Nat)(d:D):lU (Y.set i (some (false,d))):=λk m a e=>by rw[ve]at e;split at e;{split at e <;> cases e;rfl};exact h k m a e
def aT.later{K:Fg}{F:Hp}(R:aT K F0 H0 F H σ Y)(A:lU Y)(st:aG F0 H0 F' H')(sF:aE F F'):aT K F0 H0 F' H' σ Y :=
 #[st,λi m d e=>by
  exists v,E,r,_,R.slot i m d e;cases A i m d e
  exact#[v,E,aB.mono sF _ _ r,by nofun],λi j d D a _ E _ _ _=>absurd (A _ _ _ E) (by decide),R.len]
theorem Rn{ag:Rho->Res}{o:L2.St}{ρ1:Rho}{F Z H3:Hp}{mi:Md}{es mid zs:List D}{l:Addr}{K:List V->Hp->Prop}(b0:aG (C.at X).F0 (C.at X).H0 F H)(R1:aT (C.at X).K (C.at X).F0 (C.at X).H0 Z H3 o ρ1)(af:lU ρ1)(hj:∀u,o[j]?≠some (some u))(ei:ag ρ1=.ok mi (.lst es))(E:cZ (lI j) lT ge ρ1 es=some mid)(st:aG F H Z H3)(ah:H l=none)(hD:H3 l=some (.lst ys))(hF:Z l=none)(rz:aD X.K Z zs ys)(ak:zs.length+mid.length<=sizeLine)(k:∀F' r H',aG F H F' H'->aE Z F'->F' l=none->H' l=some (.lst r)->aD X.K F' (zs++mid) r->K r H'):D7 (sg (C.nox.at X) ag) (jg X.K (.nm j)) (tG (C.nox.at X) λY=>aM (ge Y)) o H3 l ys K:=by refine#[ρ1,Z,R1,?_];rw[ei];intro J F4 H4 T hJ;obtain⟨W,hW⟩:∃W:Nat->Nat->List V->Hp->Prop,∀i m us H',W i m us H'↔m=es.length-i/\i<=es.length/\H' l=some (.lst us)/\∃F' ws,aG F H F' H'/\aE F4 F'/\F' l=none/\aD X.K F' ws us/\∃rest,cZ (lI j) lT ge ρ1 (es.drop i)=some rest/\zs++mid=ws++rest:=#[_,λ_ _ _ _=>Iff.rfl];refine#[W,#[_,(hW ..).mpr #[rfl,gw _,T.same _ _ hD,F4,zs,st.trans T,aE.refl _,T.new _ hF (by rw[hD];exact λz=>nomatch z),rz.mono T.fsame _ _,mid,E,rfl]],λi m us H5 wi=>?_];exists rfl,ai,L,F5,ws,S,a,ae,r5,rest,E,et,(hW ..).mp wi;by_cases f:i<es.length;{refine .inr #[hJ.go i H5 (a.trans S.sub) f,λv H6 y=>?_];exists F6,d,ed,A,rd,hJ.yld i F5 H5 v H6 a S.sub f y;rw[show es.drop i=d::es.drop (i+1) by rw[vf f];rw[gm f]at ed;cases ed;rfl]at E;(have E:(match aM (ge (ρ1.set j (some (false,d))))with|.ok _ y=>(cZ (lI j) lT ge ρ1 (es.drop (i+1))).map (y :: ·)|_=>none)=some rest:=E);have G:=A.same _ _ L;have aa:F6 l=none:=A.new _ ae (by rw[L];exact λz=>nomatch z);refine j7 (.nm j) (R1.later af (b0.trans (S.trans A)) (T.fsame.trans (a.trans A.fsame))) rd rfl λaj R6 len keep=>#[#[len.symm,λk u ek=>?_],?_];{rw[keep k (by rw[dB,fj];rintro rfl;exact hj u ek)];exact ek};rw[aR];refine#[_,F6,R6,?_];split at E;{rename_i me ye ee;cases nN ee;rw[ee];exists B,er,rfl,og.mp E;intro u F7 H7 N ru _;refine#[N.same _ _ G,?_,es.length-(i+1),by lia,(hW ..).mpr #[rfl,f,a8,F7,ws++[ye],((S.trans A).trans N).upd ah (N.new _ aa (by rw[G];exact λz=>nomatch z)),(a.trans A.fsame).trans N.fsame,N.new _ aa (by rw[G];exact λz=>nomatch z),aD.append (r5.mono (A.fsame.trans N.fsame) _ _) (aD.cons ru aD.nil),B,er,by rw[et,js];rfl]];have:=congrArg List.length et;rw[ik,ik,gg]at this;rw[r5.length];lia};cases E};(have ej:i=es.length:=by lia);subst ej;rw[tj]at E;cases E;rw[h5]at et;exact .inl #[hJ.stop _ H5 (a.trans S.sub) (dm _),k F5 us H5 S (T.fsame.trans a) ae L (et ▸ r5)]
def kA(src:Res)(Y:Rho)(aC:List Nat)(t G e:Rho->Res):Res:=src.thn λ_ d=>match d with
 |.lst ds=>(match i9 aC.length (aC.length+1) t G e (cA aC Y++List.replicate 2 none) ds with|some ys=>if ys.length<sizeLine then .ok .fr (.lst ys)else .stuck|none=>.stuck)
 |_=>.stuck
section
variable{r l:Expr}{gt f:Rho->Res}
theorem Ro{Q:VK}(q:tG (C.at X) (λY=>kA (gi Y) Y aC gt f ge) σ H Q):FI aC 2 (sg (C.at X) gi) (jg X.K (.nm aC.length)) (tT (C.nox.at X) gt) .lst (D7 (sg (C.nox.at X) f) (jg X.K (.nm (aC.length+1))) (tG (C.nox.at X) λY=>aM (ge Y))) σ H Q:=by
 rw[aR]at q;exists Y,F,RS,w,q;refine#[Y,F,RS,?_];cases er:gi Y with
 |stuck|exc c=>rw[er]at w;exact w|ok m d =>
  rw[er]at w;unfold kA at w;rw[Res.thn_ok]at w;split at w
  . rename_i ds;split at w
    . rename_i T et;split at w
      . rename_i ai;intro J F1 H1 s1 hJ Da hDa;have L:H Da=none:=s1.same.free hDa;have aa:F1 Da=none:=s1.sub.free hDa;have R0:=tU aC 2 RS;have ag:=Rm aC Y 2;have n0:∀(k:Nat) u,aC.length<=k->(cD aC σ++List.replicate 2 none)[k]?≠some (some u):=λk u hk z=>by
          rw[nv (by simpa[cD]using hk),ny]at z
          split at z <;> cases z
        generalize ar:cA aC Y++List.replicate 2 none=ρ0 at et R0 ag;generalize aq:cD aC σ++List.replicate 2 none=σ0 at R0 n0;obtain⟨W,hW⟩:∃W:Nat->Nat->List V->Hp->Prop,∀i m ys H',W i m ys H'↔m=ds.length-i/\i<=ds.length/\H' Da=some (.lst ys)/\∃F' zs,aG F H F' H'/\aE F1 F'/\F' Da=none/\aD X.K F' zs ys/\∃rest,i9 aC.length (aC.length+1) gt f ge ρ0 (ds.drop i)=some rest/\T=zs++rest:=#[_,λ_ _ _ _=>Iff.rfl];refine#[W,#[_,(hW ..).mpr #[rfl,gw _,a8,F1,[],s1.upd L aa,aE.refl _,aa,aD.nil,T,et,rfl]],λi m ys H' wi=>?_];exists rfl,au,hD,F',zs,st,sF,N,rz,rest,A,E,(hW ..).mp wi;refine#[hD,?_];by_cases o:i<ds.length
        . (have lz:zs.length+rest.length<sizeLine:=by rw[<- ik,<- E];exact ai);refine .inr #[hJ.go i H' (sF.trans st.sub) o,by rw[rz.length];lia,λv H2 y=>?_];exists F2,d,ed,B,rd,hJ.yld i F' H' v H2 sF st.sub o y;rw[show ds.drop i=d::ds.drop (i+1) by rw[vf o];rw[gm o]at ed;cases ed;rfl]at A;unfold i9 at A;have D:=B.same _ _ hD;have Z:F2 Da=none:=B.new _ N (by rw[hD];exact λz=>nomatch z);(have ae:=ag.set aC.length d;refine j7 (.nm aC.length) ((R0.step st).step B) rd rfl λah R1 len keep=>?_;generalize ρ0.set aC.length (some (false,d))=ρ1 at A R1 ae;have n1:∀u,ah[aC.length+1]?≠some (some u):=λu z=>by rw[keep _ (by rw[dB,fj];lia)]at z;exact n0 _ u (p8 _) z);refine#[#[len.symm,λk u ek=>?_],ρ1,F2,R1,?_];{rw[keep k (by rw[dB,fj];rintro rfl;exact n0 _ u (dm _) ek)];exact ek};split at A;{rename_i mt ett;rw[ett];intro F3 H3 S;rw[aK rfl];split at A;{rename_i mi es ei;split at A;{rename_i mid em;exists G,am,rfl,og.mp A;rw[ik]at lz;exact Rn RS.st (R1.step S) ae n1 ei em ((st.trans B).trans S) L (S.same _ _ D) (S.new _ Z (by rw[D];exact λz=>nomatch z)) (rz.mono (B.fsame.trans S.fsame) _ _) (by lia) λF4 av H4 s4 f4 aj ak r4=>#[ds.length-(i+1),by lia,(hW ..).mpr #[rfl,o,ak,F4,zs++mid,s4,((sF.trans B.fsame).trans S.fsame).trans f4,aj,r4,G,am,by rw[E,js]]]};cases A};cases A};{rename_i mt ett;rw[ett];intro F3 H3 S;rw[ba gr];exact#[ds.length-(i+1),by lia,(hW ..).mpr #[rfl,o,S.same _ _ D,F3,zs,(st.trans B).trans S,(sF.trans B.fsame).trans S.fsame,S.new _ Z (by rw[D];exact λz=>nomatch z),rz.mono (B.fsame.trans S.fsame) _ _,rest,A,E]]};cases A
        . (have ei:i=ds.length:=by lia);subst ei;rw[tj]at A;cases A;rw[h5]at E;subst E;exact .inl #[hJ.stop _ H' (sF.trans st.sub) (dm _),w (.ref Da) F' H' st #[Da,rfl,N,ys,hD,rz] λ_ a ea=>by cases ea;exact L]
      . exact w.elim
    . exact w.elim
  . exact w.elim
variable(B: X.calm = true)(hi: kz C X tg iter gi)(E: ∀ y ∈ scope.names, y.2 ≠ .cell)(F: scope.kind = .function)(G: ∀ y ∈ scope.names, y.2 = .local → scope.names.lookup y.1 = some .local)(J:∀y∈scope.names,y.2=.free->X.env.kindOf y.1=some .cell\/X.env.kindOf y.1=some .free)(K:aJ.map some=aC.map λi=>X.N[i]?)(L:∀y∈aJ,(y,NameKind.free)∈scope.names)(N:∀y∈aJ,(relabel scope X.env).names.lookup y=some .cell\/(relabel scope X.env).names.lookup y=some .free)(hn:tgN.length=2)(S:∀cl A fp s3 H3,lm (aY X scope (aJ++tgN) cl A fp s3 H3) tg (.nm aC.length))(T:∀cl A fp s3 H3,dQ (aY X scope (aJ++tgN) cl A fp s3 H3) ifs (tT (C.nox.at X) gt))(a:∀cl A fp s3 H3,kz C.nox (aY X scope (aJ++tgN) cl A fp s3 H3) l r f)(d:∀cl A fp s3 H3,lm (aY X scope (aJ++tgN) cl A fp s3 H3) l (.nm (aC.length+1)))(V:∀cl A fp s3 H3,PV C.nox (aY X scope (aJ++tgN) cl A fp s3 H3) elt ge)(hs:∀x,foldedSetIterable iter X.env x=pure x)(o:∀env x,foldedSetIterable r env x=pure x)
include B hi E F G J K L N hn S T a d V hs o
def Rq:PV C X (.ListComp elt [#[tg,iter,ifs,0],#[l,r,[],0]] scope pos) (λY=>kA (gi Y) Y aC gt f ge):=λaA s σ H Q I h=>by have h:=Ro h;rw[<- hn]at h;rw[eval_ListComp];show wpAny _ _ (comprehension _ scope X.env (firstIterPos [#[tg,iter,ifs,0]] pos) _ (firstAsync [#[tg,iter,ifs,0]]) (firstIter [#[tg,iter,ifs,0]] X.env) none) _ _ _;exact pN (use:=none) B hi E F G J K L N S T (Rl (wi:=sg (C.nox.at X) f) (gt:=jg X.K (.nm (aC.length+1))) (te:=tG (C.nox.at X) λY=>aM (ge Y)) B a d (λcl A fp s3 H3=>eN (V cl A fp s3 H3)) o) hs I h λD Z s6 H5 W hI _ _ _ _ _ q=>by exists m,W,W;exact#[m,W,λaa hs=>#[.ref D,H5,hI aa hs,rfl,q]]
end
open PySem.W
section
variable{lt:Nat->Nat->Bool}{cmp:Nat->Nat->(Bool->cc->Prop)->cc->Prop}{J:cc->Prop}
def Rr(lt:Nat->Nat->Bool)(p:Array Nat)(b:Nat):Prop:=∀i j,i<j->j<b->lt (p.getD i 0) (p.getD j 0)=true
def iG(n:Nat)(lt:Nat->Nat->Bool)(cmp:Nat->Nat->(Bool->cc->Prop)->cc->Prop)(J:cc->Prop):Prop:=∀i j s C,i<n->j<n->J s->(∀O,J O->C (lt i j) O)->cmp i j C s
end
def qJ(d:α):∀(l:List α),(List.range l.length).map (λi=>l.getD i d)=l:=λl=>by apply Di;{simp};intro i h1 h2;simp at h1;simp[h1]
theorem uE{α:Type}{K:Fg}{F:Hp}{f:α->D}{g:α->V}:∀{q:List α},(∀i∈q,aB K F (f i) (g i))->aD K F (q.map f) (q.map g)|[],_=>aD.nil|i::q,h=>aD.cons (h i c6) (uE λj a=>h j (df a))
theorem GO{α:Type}{g:α->V}{u:α->bb}:∀{q:List α},(∀i∈q,aH (g i) (u i))->aL (q.map g) (q.map u)|[],_=>.nil|i::q,h=>.cons (h i c6) (GO λj a=>h j (df a))
theorem GP:∀{U:List V}{us:List bb}{i:Nat},aL U us->i<U.length->aH (U.getD i .non) (us.getD i .none)
 |[],_,i,h,e=>by simp at e|x::U,_,0,h,e=>by cases h with|cons r t=>exact r
 |x::U,_,i+1,h,e=>by cases h with|cons r t=>have:=GP (i:=i) t (by simpa using e);simpa using this
open PySem.SeqAt PySem.MeetsSeq
def ou(o:Obj):Nat:=match o.data with|.dict _ ep=>ep|_=>0
def D8(d:Addr)(o:Obj)(U:List (Key×V)):It :=
 #[λi H=>H d=some (.frz o (.dK U))/\i<U.length,λi H x H'=>H'=H/\∃kv,U[i]? = some kv/\x=kV kv.1,λi H=>H d=some (.frz o (.dK U))/\U.length<=i]
def uF{d:Addr}{o:Obj}{U:List (Key×V)}(ok:gh P w H h)(hd:H d=some (.frz o (.dK U))):(d==sysModules)=false/\∃vs,KV U vs/\h.DictAt (bZ P w) d vs (ou o):=by(exists g,z,y,vs,r,f,ok d _ hd;exists ep,D,f.dictAt;refine#[y,vs,r,?_];exists l,es,G,c,a,rest,id D;rw[g]at G;cases G;have:ou o=ep:=by unfold ou;rw[a]);rw[this];exact D
def Rs{U:List (Key×V)}{vs:List (Key×bb)}(r:KV U vs){k:Key}{x:bb}(h:vs[i]? = some (k,x)):∃v,U[i]? = some (k,v):=by(have e:=r.keys;have:(U.map (·.1))[i]? = (vs.map (·.1))[i]?:=by rw[e]);rw[h7,h7,h]at this;cases q:U[i]? with|none=>rw[q]at this;cases this|some kv=>rw[q]at this;exists K,v,kv;simp at this;subst this;exact#[v,rfl]
theorem Rt{K:Fg}(d it:Addr)(o:Obj)(U:List (Key×V)):hZ P w K tg (D8 d o U) [it] it (λi h=>h.IsKeyIter it d i U.length (ou o)) where
 mem:=by simp
 obj:=λi h st b f=>by(have e:b=it:=by simpa using f);subst e;exists o,e,c,d,st;exact#[o,e,λv z=>by rw[d]at z;cases z]
 keep:=λi h h' st k=>st.at λo e=>k it (by simp) o e
 item:=by intro X B m D S i aA s σ H E I hf st hg;subst B m D;exists hd,N,hg;exists ns,vs,r,J,uF I.hok hd;exists f0,f1,f2,f3,G,F,hf it (by simp);(have lv:vs.length=U.length:=r.length.symm;have L:vs[i]? = some (vs[i]'(by lia)):=by simp[lv,N]);exists v,ev,Rs r (k:=(vs[i]'(by lia)).1) (x:=(vs[i]'(by lia)).2) L;refine wpAny_pyNext_dict_item (k:=(vs[i]'(by lia)).1) (v:=(vs[i]'(by lia)).2) (by rw[lv];exact st) J L λkey h' l a A=>?_;have I1:L2.Inv X aA σ H {s with heap:=h'}:=I.turned (t':=s.toks) (λb o f e=>A.extBut b o f e) f0 f1 f3 G F;rw[lv]at a;exists o1,W,c1,Z,id a;exact#[key,rfl,mZ (s:={s with heap:=h'}) W c1 Z (by decide) #[_,H,I1,yf l,#[rfl,_,ev,rfl],a,λb f=>(hf b f).1]]
 done:=by intro X B m D S i aA s σ H E I hf st hg;subst B m D;exists hd,N,hg;exists ns,vs,r,J,uF I.hok hd;exists f0,f1,f2,f3,G,F,hf it (by simp);have lv:vs.length=U.length:=r.length.symm;exact wpAny_pyNext_dict_end (I.ok.hd S) (by rw[lv];exact st) J (by simp;lia) λh' T=>#[rfl,I.turned (t':=s.toks) (λb o f e=>T b o f e) f0 f1 f3 G F]
 self:=λ_ _ _ _ _ st h=>Dj st h
end D3
namespace L2
open D3
end L2
namespace D3
abbrev D9(U:Array Nat):Prop:=U.toList.Pairwise (· < ·)
def yj(t:SetTable):Prop:=t.plain=false\/(t.dummies = #[]/\D9 t.place)
def yk(w:dh):List Int->List (Int×bb)->Prop|[],l=>l=[]|x::U,l=>∃t r,l=(hashInt x,.int x t)::r/\yk w U r
def Ru(w:dh)(h:Heap)(a:Addr)(U:List Int):Prop:=∃o es ep t,h.get? a=some o/\o.ExactSet/\o.data=.set es ep t/\yk w U es.toList/\U.Nodup/\U.length<scanBound/\t.fits es.size=true/\t.led = !eG w/\yj t
def Rv:isSubtype (.type "list") (.type "set")=pure false:=by rw[BJ];kernel_rfl
def Rx:isSubtype (.type "list") (.type "frozenset")=pure false:=by rw[BJ];kernel_rfl
section
variable{A:dj}{E:di}
def Ry{M:Model}{p:Addr}{Q:Bool->cc->Prop}(tp:s.TypeIs (.ref p) "list")(q:Q false s):wpAny M A (isInstance (.ref p) (.type "set") <||> isInstance (.ref p) (.type "frozenset")) Q E s:=by unfold orM;exact bv (p7 tp Rv (p7 tp Rx q))
end
def iH(Y:Rho)(i:Nat)(rk r:Res):aI:=match Y[i]? with
 |some (some (true,.lst ds))=>(aM r).thS Y λm d=>match m with|.fz=>(rk.thS Y λ_ K=>(match K with|.int k=>((match ixN ds.length k with|some j=>.nx (Y.set i (some (true,.lst (ds.set j d))))|none=>.stuck))|_=>.stuck))|_=>.stuck
 |_=>.stuck
theorem aD.set{K:Fg}{F:Hp}:∀{ds:List D}{U:List V}{j:Nat}{d:D}{v:V},aD K F ds U->aB K F d v->aD K F (ds.set j d) (U.set j v)|[],_,_,_,_,h,_=>by simp only[aD]at h;subst h;exact aD.nil|a::ds,_,0,_,_,h,r=>by simp only[aD]at h;exists y,ys,rfl,q,t,h;exact aD.cons r t|a::ds,_,j+1,_,_,h,r=>by simp only[aD]at h;exists y,ys,rfl,q,t,h;exact aD.cons q (aD.set t r)
section
variable{gk:Rho->Res}
def Rz(i:Nat)(hv:PE X (.Name x p) (f9 i))(hk:PV C X ke gk)(he:PV C X e g)(K:swapsWith e (some (.Subscript (.Name x p) ke sp)) pos.line X.env=pure false):ju C X (.Assign [.Subscript (.Name x p) ke sp] e pos) (λY=>iH Y i (gk Y) (g Y)):=by
 have h1:PS X (.Assign [.Subscript (.Name x p) ke sp] e pos) (λE σ H=>tG (C.at X) (λY=>aM (g Y)) σ H λv H1=>f9 i σ H1 λo A=>tG (C.at X) gk σ A λk V=>zE o k v V (λT=>E.nx σ T)):=by intro aA s σ H D I h;refine wpAny_Assign_Subscript (thn (eN he aA s σ H _ I h) λr s1 ⟨v,H1,I1,rv,q1⟩=>thn (hv aA s1 σ H1 _ I1 q1) λu S ⟨x,A,I2,rx,q2⟩=>thn (hk aA S σ A _ I2 q2) λiv s3 ⟨y,V,I3,ry,q3⟩=>?_) K;refine thn (N5 aA s3 σ V _ _ _ _ _ _ _ I3 rx ry rv q3) λ_ s4 ⟨T,I4,q4⟩=>?_;exact#[σ,T,I4,q4]
 refine PS.imp h1 λE σ H q=>?_;exists Y,F,R,w,q;dsimp only at w;cases f:Y[i]? with
 |none=>unfold iH at w;rw[f]at w;exact w.elim|some o =>
  cases o with
  |none=>unfold iH at w;rw[f]at w;exact w.elim|some bd =>
   exists b,d0,bd;cases b with
   |false=>unfold iH at w;rw[f]at w;exact w.elim|true =>
    cases d0 with
    |lst ds =>
     unfold iH at w;rw[f]at w;dsimp only at w;exists v0,l,J,aa,R.slot i true _ f;exists a,ea,ae,U,hh,Z,J;subst ea;refine iE R w λm d v F' H' B s R' rp fr=>?_;cases m with
     |fr|bo=>exact(show False from B).elim|fz =>
     dsimp only at B;refine#[.ref a,l,?_];refine iE R' B λm2 kd u F2 A W S R2 G _=>?_;cases kd with|int k=>(dsimp only at W;cases N:ixN ds.length k with|none=>rw[N]at W;exact W.elim|some j=>rw[N]at W;dsimp only at W;have L:A a=some (.lst U):=S.same _ _ (s.same _ _ hh);cases G.int;refine#[a,U,k,j,rfl,rfl,L,by rw[Z.length];exact N,?_];exact W σ F2 _ (aE.refl _) (R2.mut f l #[_,a8,aD.set (Z.mono (s.fsame.trans S.fsame) _ _) (aB.mono S.fsame _ _ rp)]))|_=>exact(show False from W).elim
    |_=>unfold iH at w;rw[f]at w;exact w.elim
end
def GQ:entryFor table "dict.update.loop"=some Builtin.«dict.update.loop»:=Dd (by kernel_rfl)
def qK:plainId "dict.update.loop"=true:=by decide +kernel
open PySem.Calls
end D3
namespace PySem
open PySem.Sem (wp)
end PySem
namespace L2
end L2
namespace D3
open PySem.Calls
def gX(Y:Rho):List ((Rho->Res)×(Rho->Res))->List (Key×D)->Res|[],A=>if A.length<=15 then .ok .fr (.dct (A.foldl (λa kv=>fN a kv.1 kv.2) []))else .stuck|(gk,G)::r,A=>(gk Y).thn λ_ f=>(aM (G Y)).thn λm d=>(match m,gC f with|.fz,some k=>gX Y r (A++[(k,d)])|_,_=>.stuck)
def uo(kv:Key×V):V×V:=(kV kv.1,kv.2)
theorem aF.snocX{K:Fg}{F:Hp}{k:Key}{d:D}{v:V}:∀{kvs:List (Key×D)}{U:List (Key×V)},aF K F kvs U->aB K F d v->aF K F (kvs++[(k,d)]) (U++[(k,v)])|[],U,h,r=>by simp only[aF]at h;subst h;show aF K F [(k,d)] [(k,v)];simp only[aF];exact#[v,[],rfl,r,rfl]|(a,f)::kvs,U,h,r=>by simp only[aF]at h;exists y,ys,rfl,q,t,h;show aF K F ((a,f)::(kvs++[(k,d)])) ((a,y)::(ys++[(k,v)]));simp only[aF];exact#[y,_,rfl,q,aF.snocX t r]
theorem aF.fold{K:Fg}{F:Hp}:∀{kvs:List (Key×D)}{U:List (Key×V)}{a:List (Key×D)}{b:List (Key×V)},aF K F kvs U->aF K F a b->aF K F (kvs.foldl (λa kv=>fN a kv.1 kv.2) a) (U.foldl (λA kv=>cX A kv.1 kv.2) b)|[],U,a,b,h,q=>by simp only[aF]at h;subst h;exact q|(k,d)::kvs,U,a,b,h,q=>by simp only[aF]at h;exists y,ys,rfl,r,t,h;exact aF.fold (kvs:=kvs) (U:=ys) t (q.put r)
theorem aF.lenX{K:Fg}{F:Hp}:∀{kvs:List (Key×D)}{U:List (Key×V)},aF K F kvs U->U.length=kvs.length|[],U,h=>by simp only[aF]at h;subst h;rfl|(k,d)::kvs,U,h=>by simp only[aF]at h;exists y,ys,rfl,_,t,h;rw[gg,gg,aF.lenX t]
theorem aF.monoX{K:Fg}{F F':Hp}(s:aE F F'):∀{kvs:List (Key×D)}{U:List (Key×V)},aF K F kvs U->aF K F' kvs U|[],U,h=>by simpa only [aF]using h|(k,d)::kvs,U,h=>by simp only[aF]at h ⊢;exists y,ys,e,r,t,h;exact#[y,ys,e,aB.mono s _ _ r,aF.monoX s t]
theorem GR{F H:Hp}{σ:L2.St}{Y:Rho}{p:Addr}{Q:VK}(hp:H p=none):∀(gs:List ((Rho->Res)×(Rho->Res))) (A:List (Key×D)) (U:List (Key×V)) (F1 H1:Hp),aT C.K C.F0 C.H0 F1 H1 σ Y->aG F H F1 H1->F1 p=none->H1 p=some (.dK [])->aF C.K F1 A U->aZ C F H σ (gX Y gs A) Q->pE (gs.map λg=>(tG C g.1,tG C λY=>aM (g.2 Y))) σ H1 (λps f=>f p=some (.dK [])/\∃kvs:List (Key×V),U.map uo++ps=kvs.map uo/\kvs.length<=15/\Q (.ref p) (upd f p (.dK (iW [] kvs))))|[],A,U,F1,H1,R,st,B,o,rk,w=>by unfold gX at w;show H1 p=some (.dK [])/\_;split at w;{rename_i hl;refine#[o,U,by rw[h5],by rw[rk.lenX];exact hl,?_];exact w (.ref p) F1 _ (st.upd hp B) #[p,rfl,B,_,a8,aF.fold rk (by simp only[aF])] λ_ a ea=>by cases ea;exact hp};exact w.elim|(gk,W)::r,A,U,F1,H1,R,st,B,o,rk,w=>by unfold gX at w;show tG C gk σ H1 _;rw[aR];refine#[Y,F1,R,?_];cases L:gk Y with|stuck=>rw[L]at w;exact w.elim|exc c=>rw[L]at w;exact λF' H' O=>w F' H' (st.trans O)|ok mk dk=>rw[L,Res.thn_ok]at w;intro u F2 f S r2 _;have m:f p=some (.dK []):=S.same _ _ o;have J:F2 p=none:=S.new p B (by rw[o];exact λz=>nomatch z);show tG C (λY=>aM (W Y)) σ f _;rw[aR];refine#[Y,F2,R.step S,?_];cases ev:aM (W Y)with|stuck=>rw[ev]at w;exact w.elim|exc c=>rw[ev]at w;exact λF' H' O=>w F' H' ((st.trans S).trans O)|ok md d=>rw[ev,Res.thn_ok]at w;have hm:md=.fz:=nN ev;subst hm;intro v F3 Z l r3 _;have E:Z p=some (.dK []):=l.same _ _ m;have G:F3 p=none:=l.new p J (by rw[m];exact λz=>nomatch z);cases N:gC dk with|none=>rw[N]at w;exact w.elim|some k=>(rw[N]at w;dsimp only at w;have eu:u=kV k:=nH N r2;subst eu;have T:=GR hp r (A++[(k,d)]) (U++[(k,v)]) F3 Z ((R.step S).step l) ((st.trans S).trans l) G E (aF.snocX (rk.monoX (S.fsame.trans l.fsame)) r3) w;have key:(λps f=>f p=some (HO.dK [])/\∃kvs:List (Key×V),(U++[(k,v)]).map uo++ps=kvs.map uo/\kvs.length<=15/\Q (.ref p) (upd f p (.dK (iW [] kvs))))=λps f=>f p=some (HO.dK [])/\∃kvs:List (Key×V),U.map uo++((kV k,v)::ps)=kvs.map uo/\kvs.length<=15/\Q (.ref p) (upd f p (.dK (iW [] kvs))):=by funext ps f;rw[jt,js];rfl);rw[key]at T;exact T
def RA{keys:List (Option Expr)}{gs:List ((Rho->Res)×(Rho->Res))}(h:uk X pos keys values (gs.map λg=>(tG (C.at X) g.1,tG (C.at X) λY=>aM (g.2 Y))))(a:keys.all (·.isSome)=true)(f:keys.length=values.length)(h0:keys≠[])(d:keys.length<=15):PV C X (.Dict keys values pos) (λY=>gX Y gs []):=by refine PE.imp (Oq h a f h0 d) λσ H Q q=>?_;rw[aR]at q;exists Y,F,R,w,q;intro p hp;have s0:aG F H F (upd H p (.dK [])):=aG.fresh _ R.sub hp;exact GR (C:=C.at X) hp gs [] [] F (upd H p (.dK [])) (R.step s0) s0 (R.sub.free hp) a8 (by simp only[aF]) w
theorem GS:∀{U ys:List Expr}{fs gs:List (Rho->Res)},oq C X U fs->oq C X ys gs->U.length=ys.length->uk X pos (U.map some) ys ((fs.zip gs).map λg=>(tG (C.at X) g.1,tG (C.at X) λY=>aM (g.2 Y)))|_,_,_,_,.nil,.nil,_=>Oo|_,_,_,_,.nil,.cons _ _,h|_,_,_,_,.cons _ _,.nil,h=>by simp at h|_,_,_,_,.cons hk rk,.cons a r,h=>Op hk (eN a) (GS rk r (by simpa using h))
theorem GT:∀{ks:List (Option Expr)},ks.all (·.isSome)=true->(ks.filterMap id).map some=ks|[],_=>rfl|none::_,h=>by simp at h|some x::ks,h=>by(have:ks.all (·.isSome)=true:=by simpa using h);show some x::(ks.filterMap id).map some=_;rw[GT this]
def RB{keys:List (Option Expr)}{fs gs:List (Rho->Res)}(hk:oq C X (keys.filterMap id) fs)(m:oq C X values gs)(a:keys.all (·.isSome)=true)(l:keys.length=values.length)(h0:keys≠[])(f:keys.length<=15):PV C X (.Dict keys values pos) (λY=>gX Y (fs.zip gs) []):=by(have e:=GT a;have d:(keys.filterMap id).length=values.length:=by rw[<- l,<- congrArg List.length e,d3]);have:=GS (pos:=pos) hk m d;rw[e]at this;exact RA this a l h0 f
theorem bL.is:∀{U:List N}{ys:List V}{us:List bb},(∀x∈U,∀v u,eh X.K H x v->aH v u->dg s.heap x u)->bL X.K H U ys->aL ys us->aV s.heap U us|[],ys,us,_,h,r=>by rw[bL]at h;subst h;cases r;rw[aV]|x::U,ys,us,k,h,r=>by rw[bL]at h;exists y,zs,rfl,m,l,h;cases r with|cons d a=>rw[aV];exact#[_,_,rfl,k x c6 _ _ m d,bL.is (λz f=>k z (df f)) l a]
theorem eh.is(I:L2.Inv X aA σ H s)(k:N):∀v u,eh X.K H k v->aH v u->dg s.heap k u:=by induction k using N.ind with|hi n=>intro v u h r;rw[eh]at h;subst h;exists t,rfl,r;rw[dg];exact#[t,rfl]|hs x=>intro v u h r;rw[eh]at h;exists rfl,_,hk,h;exists t,rfl,r;rw[dg];exact#[#[t,rfl],hk]|ht U l=>intro v u h r;rw[eh]at h;exists a,ys,rfl,m,A,h;cases r;obtain⟨its,f,⟨o,e,c,_,n,d⟩,_⟩:=SqT.plain I m;rw[dg];exact#[a,o,its.toArray,n,rfl,e,c,d,by simpa using bL.is l A f]
abbrev KN:=Paired (λ(p:N×Addr×V) (q:N×Addr×bb)=>p.1=q.1/\p.2.1=q.2.1/\aH p.2.2 q.2.2)
def dS(K:Fg)(H:Hp)(kvs:List (N×Addr×V)):Prop:=∀p∈kvs,eh K H p.1 (.ref p.2.1)/\p.1.dp<=8
noncomputable def fA(kvs:List (N×Addr×V))(k:N):Option V:=(kvs.find? λp=>decide (p.1=k)).map (·.2.2)
def dI(kvs:List (N×Addr×V))(k:N)(b:Addr)(v:V):List (N×Addr×V):=if(fA kvs k).isSome=true then kvs.map (λp=>if p.1=k then(p.1,p.2.1,v)else p)else kvs++[(k,b,v)]
def GU{p:N×Addr×V}{r:List (N×Addr×V)}{k:N}(e:p.1=k):fA (p::r) k=some p.2.2:=by simp[fA,gu,e]
def GW{p:N×Addr×V}{r:List (N×Addr×V)}{k:N}(e:¬ p.1=k):fA (p::r) k=fA r k:=by simp[fA,gu,e]
def KN.val{U:List (N×Addr×bb)}(r:KN kvs U)(k:N):cO (fA kvs k) ((atKey U k).map (·.2)):=by induction r with|nil=>exact True.intro| @cons p q ps a h t d=>by_cases e:p.1=k;{(have b:atKey (q::a) k=some q.2:=by simp[atKey,gu,h.1.symm.trans e]);rw[GU e,b];exact h.2.2};have E:¬ q.1=k:=λz=>e (h.1.trans z);(have b:atKey (q::a) k=atKey a k:=by simp[atKey,gu,E]);rw[GW e,b];exact d
def KN.repl{U:List (N×Addr×bb)}(r:KN kvs U)(k:N){y:V}(a:aH y u):KN (kvs.map λp=>if p.1=k then(p.1,p.2.1,y)else p) (U.map (putAt k u)):=by induction r with|nil=>exact .nil| @cons p q ps f h t d=>rw[dw,dw];refine .cons ?_ d;unfold putAt;by_cases e:p.1=k;{rw[aK e,aK (h.1.symm.trans e)];exact#[h.1,h.2.1,a]};rw[ba e,ba (λz=>e (h.1.trans z))];exact h
def KN.put{U:List (N×Addr×bb)}(r:KN kvs U)(k:N)(b:Addr){y:V}(a:aH y u):KN (dI kvs k b y) (storedH U k b u):=by(have e:(fA kvs k).isSome=(atKey U k).isSome:=by rw[(r.val k).isSome_eq,vb]);unfold dI storedH;rw[e];by_cases q:(atKey U k).isSome=true;{rw[aK q,aK q];exact r.repl k a};rw[ba q,ba q];exact Paired.snoc r #[rfl,rfl,a]
theorem uG(kvs:List (N×Addr×V))(k:N)(b:Addr)(v:V):(dI kvs k b v).length<=kvs.length+1:=by unfold dI;split;{rw[d3];lia};rw[ik];exact dm _
def dS.put{K:Fg}{k:N}(h:dS K H kvs)(hk:eh K H k (.ref b)/\k.dp<=8):dS K H (dI kvs k b v):=by unfold dI;split;{intro p hp;exists q,a,rfl,d7.mp hp;by_cases e:q.1=k;{rw[aK e];exact h q a};rw[ba e];exact h q a};intro p hp;rcases ko.mp hp with hp|hp;{exact h p hp};cases fj.mp hp;exact hk
def KN.is{U:List (N×Addr×bb)}{P:N->Addr->Prop}(r:KN kvs U)(h:∀p∈kvs,P p.1 p.2.1):∀x∈U,P x.1 x.2.1:=by induction r with|nil=>intro x a;cases a| @cons p q ps l d t f=>intro x a;rcases dq.mp a with e|a;{subst e;have:=h p c6;rw[d.1,d.2.1]at this;exact this};exact f (λp hp=>h p (df hp)) x a
def kB{a:Addr}(I:L2.Inv X aA σ H s)(e:Rd H a (.dN kvs))(hk:dS X.K H kvs):kvs.length<=sizeLine/\(a==sysModules)=false/\∃U,KN kvs U/\s.heap.DictOfH (k6 X.prog X.w) a U:=by exists z,y,U,r,o,es,ep,A,m,l,f,d,(show bK X.prog X.w H s.heap a (.dN kvs)from e.ok I.hok);exact#[z,y,U,r,o,es,ep,A,m,l,f,KN.is (P:=λk b=>(k6 X.prog X.w).is s.heap k b) r λp hp=>#[eh.is I _ _ _ (hk p hp).1 rfl,(hk p hp).2],d]
def gY(K:Fg)(H:Hp)(a:Addr)(y:V)(r:Option V):Prop:=∃kvs k b,Rd H a (.dN kvs)/\dS K H kvs/\y=.ref b/\(eh K H k (.ref b)/\k.dp<=8)/\r=fA kvs k
def ym(K:Fg)(H:Hp)(a:Addr)(y v:V)(H':Hp):Prop:=∃kvs k b,H a=some (.dN kvs)/\dS K H kvs/\y=.ref b/\(eh K H k (.ref b)/\k.dp<=8)/\kvs.length<sizeLine/\H'=upd H a (.dN (dI kvs k b v))
section
variable{a:Addr}{y d:V}{r:bb}{o:Option V}{A:dj}{E:di}
theorem nQ(f:A.units+64<cLine):(k6 X.prog X.w).room A.in1:=by show A.units+1+8<cLine;lia
def RC(G:A.units+64<cLine)(I:L2.Inv X aA σ H s)(g:gY X.K H a y (some v))(D:aH y u)(h:∀W O,L2.Inv X aA σ H O->aH v W->Q W O):wpAny (model X.prog X.w) A (getItem (.ref a) u) Q E s:=by exists kvs,k,b,e,hk,rfl,kb,l,g;cases D;exists z,hd,U,m,J,kB I e hk;exists W,F,f,cO.some_of (v:=v) (o:=(atKey U k).map (·.2)) (by rw[l];exact m.val k);exists p,hp,B,og.mp F;refine wpAny_getItem_heap (nQ G) (k:=k) #[eh.is I _ _ _ kb.1 rfl,kb.2] J hp ?_;rw[B];exact h W _ (I.tok _) f
def yn(B:A.units+64<cLine)(I:L2.Inv X aA σ H s)(g:gY X.K H a y o)(m:aH y u)(h:∀O,L2.Inv X aA σ H O->Q (.bool o.isSome) O):wpAny (model X.prog X.w) A (compareOp .In u (.ref a)) Q E s:=by exists kvs,k,b,e,hk,rfl,kb,l,g;cases m;exists z,hd,U,f,D,kB I e hk;refine wpAny_in_heap (nQ B) (k:=k) #[eh.is I _ _ _ kb.1 rfl,kb.2] hd D ?_;have q:=(f.val k).isSome_eq;rw[vb]at q;rw[<- q,<- l];exact h _ (I.tok _)
def RD(B:A.units+64<cLine)(I:L2.Inv X aA σ H s)(g:gY X.K H a y o)(m:aH y u)(h:∀O,L2.Inv X aA σ H O->Q (.bool (!o.isSome)) O):wpAny (model X.prog X.w) A (compareOp .NotIn u (.ref a)) Q E s:=by exists kvs,k,b,e,hk,rfl,kb,l,g;cases m;exists z,hd,U,f,D,kB I e hk;refine wpAny_notIn_heap (nQ B) (k:=k) #[eh.is I _ _ _ kb.1 rfl,kb.2] hd D ?_;have q:=(f.val k).isSome_eq;rw[vb]at q;rw[<- q,<- l];exact h _ (I.tok _)
def RE(G:A.units+64<cLine)(I:L2.Inv X aA σ H s)(g:gY X.K H a y o)(m:aH y u)(B:aH d r)(h:∀W O,L2.Inv X aA σ H O->aH (o.getD d) W->Q W O):wpAny (model X.prog X.w) A (call (.builtin "dict.get") [.ref a,u,r]) Q E s:=by exists kvs,k,b,e,hk,rfl,kb,l,g;cases m;exists z,hd,U,f,D,kB I e hk;refine call_meetsIn PySem.F.slot_dict_get D.typeIs PySem.F.entry_dict_get (PySem.F.args_dict_get_3 _ _ _) (meetsH_dict_get_default (k6 X.prog X.w) a b hd r) #[nQ G,k,U,#[eh.is I _ _ _ kb.1 rfl,kb.2],D,h _ _ (I.tok _) ?_];rw[l];exact(f.val k).getD B
theorem RF{Q:Unit->cc->Prop}(J:A.units+64<cLine)(I:L2.Inv X aA σ H s)(g:ym X.K H a y v H')(B:aH y u)(F:aH v r)(h:∀O,L2.Inv X aA σ H' O->Q () O):wpAny (model X.prog X.w) A (setItem (.ref a) u r) Q E s:=by
 exists kvs,k,b,e,hk,rfl,kb,l,rfl,g;cases B;exists z,hd,U,f,W,kB I (.inl e) hk;have G:U.length<=sizeLine:=by rw[<- qv f];exact z
 have L:(dI kvs k b v).length<=sizeLine:=by have:=uG kvs k b v;lia
 refine wpAny_setItem_heap (hsz:=G) (nQ J) (k:=k) #[eh.is I _ _ _ kb.1 rfl,kb.2] W λh' D hs=>h _ ?_;exists q,es,ep,m,V,T,S,_,N,D;exact pD I (by rw[e];exact True.intro) hs #[q,m] #[L,hd,_,f.put k b F,q,es,ep,m,V,T,S,N]
def RG(I:L2.Inv X aA σ H s)(g:gY X.K H a y o):s.TypeIs (.ref a) "dict":=by exists kvs,k,b,e,hk,_,g;exists _,_,U,_,D,kB I e hk;exact D.typeIs
end
open PySem.Calls
mutual
def nD:N->D|.i n=>.int n|.s x=>.str x|.t U=>.tup (nDL U)
def nDL:List N->List D|[]=>[]|x::U=>nD x::nDL U
end
mutual
def bV:D->Option N|.int i=>some (.i i)|.str x=>some (.s x)|.tup ds=>(cT ds).map .t|_=>none
def cT:List D->Option (List N)|[]=>some []|d::ds=>match bV d,cT ds with|some k,some ks=>some (k::ks)|_,_=>none
end
def bS(d:D):Option N:=match d with
 |.tup ds=>match cT ds with|some ks=>if(N.t ks).dp<=8 then some (.t ks)else none|none=>none
 |_=>none
section
variable{K:Fg}{F:Hp}
mutual
theorem GX:∀{d:D}{k:N}{v:V},bV d=some k->aB K F d v->eh K F k v|.int i,k,v,e,r|.str x,k,v,e,r=>by simp only[bV]at e;cases e;simpa only [aB,eh]using r|.tup ds,k,v,e,r=>by simp only[bV]at e;exists ks,E,rfl,og.mp e;simp only[aB]at r;exists a,U,rfl,l,f,r;rw[eh];exact#[a,U,rfl,l,nR E f]|.non,_,_,e,_|.bl _,_,_,e,_|.lst _,_,_,e,_|.dct _,_,_,e,_|.ty _,_,_,e,_|.ob _,_,_,e,_|.ins _ _,_,_,e,_|.fn _,_,_,e,_|.exn _,_,_,e,_|.set _,_,_,e,_|.dtn _,_,_,e,_|.dtf _,_,_,e,_|.dcf _,_,_,e,_|.clo _ _ _,_,_,e,_=>by simp only[bV]at e;cases e
theorem nR:∀{ds:List D}{ks:List N}{U:List V},cT ds=some ks->aD K F ds U->bL K F ks U|[],ks,U,e,r=>by simp only[cT]at e;cases e;simpa only [aD,bL]using r|d::ds,ks,U,e,r=>by simp only[cT]at e;simp only[aD]at r;exists y,ys,rfl,l,f,r;cases E:bV d with|none=>rw[E]at e;cases e|some k=>cases a:cT ds with|none=>rw[E,a]at e;cases e|some m=>rw[E,a]at e;cases e;rw[bL];exact#[y,ys,rfl,GX E l,nR a f]
end
def nT{d:D}{k:N}{m:Md}(e:bS d=some k)(r:Rp K F H m d v):∃b,v=.ref b/\eh K F k (.ref b)/\k.dp<=8:=by unfold bS at e;split at e;{rename_i ds;split at e;{rename_i ks E;split at e;{rename_i hd;cases e;cases m with|fz=>have r:aB K F (.tup ds) v:=r;have h:=GX (k:=.t ks) (by simp only[bV];rw[E];rfl) r;simp only[aB]at r;exists a,U,rfl,_,r;exact#[a,rfl,h,hd]|fr|bo=>exists a,_,_,q,r;exact q.elim};cases e};cases e};cases e
theorem GY:∀{U:List N}{ys:List V},(∀x∈U,∀v,eh K F x v->aB K F (nD x) v)->bL K F U ys->aD K F (nDL U) ys|[],ys,_,h=>by rw[bL]at h;subst h;rw[nDL];exact aD.nil|x::U,ys,k,h=>by rw[bL]at h;exists y,zs,rfl,f,d,h;rw[nDL];exact aD.cons (k x c6 y f) (GY (λz a=>k z (df a)) d)
def qL(k:N):∀v,eh K F k v->aB K F (nD k) v:=by induction k using N.ind with|hi n|hs x=>intro v h;rw[eh]at h;rw[nD];simpa only [aB]using h|ht U d=>intro v h;rw[eh]at h;exists a,ys,rfl,f,l,h;rw[nD];simp only[aB];exact#[a,ys,rfl,f,GY d l]
def a6(kvs:List (N×D))(k:N):Option D:=(kvs.find? λkv=>decide (kv.1=k)).map (·.2)
def cK(kvs:List (N×D))(k:N)(d:D):List (N×D):=if(a6 kvs k).isSome=true then kvs.map (λkv=>if kv.1=k then(kv.1,d)else kv)else kvs++[(k,d)]
def uH{p:N×D}{r:List (N×D)}{k:N}(e:p.1=k):a6 (p::r) k=some p.2:=by simp[a6,gu,e]
def uI{p:N×D}{r:List (N×D)}{k:N}(e:¬ p.1=k):a6 (p::r) k=a6 r k:=by simp[a6,gu,e]
theorem aQ.val:∀{kvs:List (N×D)}{U:List (N×Addr×V)} (k:N),aQ K F kvs U->match a6 kvs k with|some d=>∃v,fA U k=some v/\aB K F d v|none=>fA U k=none
 |[],U,k,h=>by simp only[aQ]at h;subst h;rfl|(a,d)::kvs,U,k,h=>by simp only[aQ]at h;exists b,y,ys,rfl,_,r,t,h;by_cases e:a=k;{rw[uH (p:=(a,d)) e];exact#[y,GU (p:=(a,b,y)) e,r]};rw[uI (p:=(a,d)) e,GW (p:=(a,b,y)) e];exact aQ.val k t
def aQ.hasK{kvs:List (N×D)}{U:List (N×Addr×V)}(k:N)(h:aQ K F kvs U):(fA U k).isSome=(a6 kvs k).isSome:=by have:=aQ.val k h;cases e:a6 kvs k with|none=>rw[e]at this;dsimp only at this;rw[this];rfl|some d=>rw[e]at this;exists v,ev,_,this;rw[ev];rfl
theorem aQ.keys:∀{kvs:List (N×D)}{U:List (N×Addr×V)},aQ K F kvs U->dS K F U|[],U,h=>by simp only[aQ]at h;subst h;intro p hp;cases hp|(a,d)::kvs,U,h=>by simp only[aQ]at h;exists b,y,ys,rfl,q,r,t,h;intro p hp;rcases dq.mp hp with rfl|hp;{exact q};exact t.keys p hp
theorem dS.mono{U:List (N×Addr×V)}(s:aE F F')(h:dS K F U):dS K F' U:=λp hp=>#[eh.mono s _ _ (h p hp).1,(h p hp).2]
theorem aQ.len:∀{kvs:List (N×D)}{U:List (N×Addr×V)},aQ K F kvs U->U.length=kvs.length|[],U,h=>by simp only[aQ]at h;subst h;rfl|(a,d)::kvs,U,h=>by simp only[aQ]at h;exists b,y,ys,rfl,q,r,t,h;rw[gg,gg,t.len]
theorem aQ.repl{k:N}{d:D}(a:aB K F d v):∀{kvs:List (N×D)}{U:List (N×Addr×V)},aQ K F kvs U->aQ K F (kvs.map λkv=>if kv.1=k then(kv.1,d)else kv) (U.map λp=>if p.1=k then(p.1,p.2.1,v)else p)|[],U,h=>by simp only[aQ]at h;subst h;simp only[aQ,oa]|(f,l)::kvs,U,h=>by simp only[aQ]at h;exists b,y,ys,rfl,q,r,t,h;rw[dw,dw];by_cases e:f=k;{rw[aK e,aK e];simp only[aQ];exact#[b,v,_,rfl,q,a,t.repl a]};rw[ba e,ba e];simp only[aQ];exact#[b,y,_,rfl,q,r,t.repl a]
theorem aQ.snoc{k:N}{d:D}(hk:eh K F k (.ref b)/\k.dp<=8)(a:aB K F d v):∀{kvs:List (N×D)}{U:List (N×Addr×V)},aQ K F kvs U->aQ K F (kvs++[(k,d)]) (U++[(k,b,v)])|[],U,h=>by simp only[aQ]at h;subst h;simp only[aQ,tz];exact#[b,v,[],rfl,hk,a,rfl]|(f,l)::kvs,U,h=>by simp only[aQ]at h;exists b',y,ys,rfl,q,r,t,h;rw[qy,qy];simp only[aQ];exact#[b',y,_,rfl,q,r,t.snoc hk a]
def aQ.put{k:N}{d:D}{kvs:List (N×D)}{U:List (N×Addr×V)}(hk:eh K F k (.ref b)/\k.dp<=8)(r:aB K F d v)(h:aQ K F kvs U):aQ K F (cK kvs k d) (dI U k b v):=by unfold cK dI;rw[h.hasK k];split;{exact h.repl r};exact h.snoc hk r
def asN:D->Option (List (N×D))|.dtn kvs|.dtf kvs=>some kvs|_=>none
theorem Rp.asN{m:Md}{d:D}{kvs:List (N×D)}(s:aE F H)(r:Rp K F H m d v)(e:asN d=some kvs):∃a U,v=.ref a/\Rd H a (.dN U)/\aQ K F kvs U:=by
 cases d with
 |dtn ks=>cases e;cases m with|fz=>have r:aB K F (.dtn _) v:=r;simp only[aB]at r;exists a,U,rfl,q,t,r;exact#[a,U,rfl,.inl (s _ _ q),t]|fr|bo=>exists a,rfl,_,U,q,t,r;exact#[a,U,rfl,.inl q,t]
 |dtf ks=>cases e;cases m with|fz=>have r:aB K F (.dtf _) v:=r;simp only[aB]at r;exists a,o,U,rfl,q,t,r;exact#[a,U,rfl,.inr #[o,s _ _ q],t]|fr|bo=>exists a,_,_,q,r;exact q.elim
 |_=>cases e
def qM{m n:Md}{x:D}{kvs:List (N×D)}{k:N}{u:V}(s:aE F H)(f:Rp K F H m x v)(ex:D3.asN x=some kvs)(r:Rp K F H n y u)(E:bS y=some k):∃a U,v=.ref a/\Rd H a (.dN U)/\aQ K F kvs U/\gY K H a u (fA U k):=by exists a,U,rfl,d,t,Rp.asN s f ex;exists b,rfl,hn,hd,nT E r;exact#[a,U,rfl,d,t,U,k,b,d,t.keys.mono s,rfl,#[eh.mono s _ _ hn,hd],rfl]
end
def Ea(K:Fg):R2:=λx y H Q=>∃a v,x=.ref a/\gY K H a y (some v)/\Q v H
def yo(l:X.A.units+64<cLine):mh X (Ea X.K):=by
 intro value slice aA s σ H x y v u Q I rx ry h hsub;exists a,W,rfl,g,q,h;cases(show v=Value.ref a from rx)
 have d:=RG I g;unfold subscriptTail;refine bv ?_;rw[C3 d.not_modules];refine bv (oh d PySem.F.slot_dict_getitem.lookup ?_);have f:wpAny (model X.prog X.w) X.A (subscripted slice false (.ref a) u) (λr S=>wpAny (model X.prog X.w) X.A (letTemporaryGo value (.ref a) r>>=λ_=>pure r) (EP X aA σ Q) X.xe S) X.xe s:=by rw[hsub];exact C4 (RC l I g ry λz S m rz=>bv (C5 (cq #[W,H,m,rz,q])))
 first
  |exact cq (bv f)
  |exact bv (cq (bv f))
  |exact bv f
noncomputable def eI:Md->D->Md->D->Option (Md×D):=λ_ x _ y=>match asN x,bS y with|some kvs,some k=>(a6 kvs k).map λd=>(.fz,d)|_,_=>none
def dU(neg:Bool):Md->D->Md->D->Option (Md×D):=λ_ x _ y=>match bS x,asN y with|some k,some kvs=>some (.fz,.bl (if neg then !(a6 kvs k).isSome else(a6 kvs k).isSome))|_,_=>none
def kC(a rk r:Res):Res:=a.thn λ_ f=>match asN f with
 |some kvs=>rk.thn λ_ D=>(aM r).thn λm d=>(match m,bS D with|.fz,some k=>.ok .fz ((a6 kvs k).getD d)|_,_=>.stuck)
 |none=>.stuck
noncomputable def dW(Y:Rho)(i:Nat)(rk r:Res):aI:=match Y[i]? with
 |some (some (true,.dtn kvs))=>(aM r).thS Y λm d=>match m with|.fz=>(rk.thS Y λ_ K=>(match bS K with|some k=>if kvs.length<sizeLine then .nx (Y.set i (some (true,.dtn (cK kvs k d))))else .stuck|none=>.stuck))|_=>.stuck
 |_=>.stuck
def yp:TE:=λ_ H Q=>∀p,H p=none->Q (.ref p) (upd H p (.dN []))
def RH:PE X (.Dict [] [] pos) yp:=λaA s σ H Q I h =>
 wpAny_Dict_empty #[.ref s.heap.objs.size,_,I.laid (a:=s.heap.objs.size) (o:=.dN []) (t':=s.toks) (λ_ _ q=>hps q) (dm _)
  #[gw _,lr.mpr (Ne.symm (gj I.big)),[],.nil,_,#[],0,fi _ rfl,#[rfl,rfl,rfl],rfl,rfl,qb],rfl,h _ (I.hok.fresh (dm _))]
section
variable{a b o f:Expr}{go gf:Rho->Res}
def RI:PV C X (.Dict [] [] pos) (λ_=>.ok .fr (.dtn [])):=by refine PE.imp RH λσ H Q q=>?_;rw[aR]at q;exists Y,F,R,w,q;intro p hp;exact w (.ref p) F _ (aG.fresh _ R.sub hp) #[p,rfl,R.sub.free hp,[],a8,by simp[aQ]] λ_ a ea=>by cases ea;exact hp
def RJ(L:X.A.units+64<cLine)(S:PV C X a ga)(N:PV C X b gb)(hs:m9 b):PV C X (.Subscript a b pos) (λY=>cu eI (ga Y) (gb Y)):=by refine PE.imp (tI (yo L) S N hs) λσ H Q q=>k8 (λF H m x n y v u k d Q s G D e w=>?_) q;unfold eI at e;split at e;{rename_i kvs K l E;exists p,U,rfl,T,rk,g,qM s G l D E;have r:=aQ.val K rk;cases B:a6 kvs K with|none=>rw[B]at e;cases e|some W=>rw[B]at e r;cases e;exists V,ev,J,r;rw[ev]at g;exact#[p,V,rfl,g,w V F H (.refl s) J (by nofun)]};cases e
def GZ(B:X.A.units+64<cLine):e8 C X (compareOp .In) (dU false):=by refine#[λx y H Q=>∃a o,y=.ref a/\gY X.K H a x o/\Q (.bl o.isSome) H,?_,?_];{intro aA s σ H x y v u Q I rx ry h;exists a,o,rfl,g,q,h;cases(show u=Value.ref a from ry);exact yn B I g rx λS D=>#[.bl o.isSome,H,D,rfl,q]};intro F H m x n y v u k d Q s rx ry e w;unfold dU at e;split at e;{rename_i r kvs l E;cases e;exists p,U,rfl,G,rk,g,qM s ry E rx l;exact#[p,_,rfl,g,by rw[rk.hasK r];exact w _ F H (.refl s) (cJ _) (by nofun)]};cases e
def G0(B:X.A.units+64<cLine):e8 C X (compareOp .NotIn) (dU true):=by refine#[λx y H Q=>∃a o,y=.ref a/\gY X.K H a x o/\Q (.bl (!o.isSome)) H,?_,?_];{intro aA s σ H x y v u Q I rx ry h;exists a,o,rfl,g,q,h;cases(show u=Value.ref a from ry);exact RD B I g rx λS D=>#[.bl (!o.isSome),H,D,rfl,q]};intro F H m x n y v u k d Q s rx ry e w;unfold dU at e;split at e;{rename_i r kvs l E;cases e;exists p,U,rfl,G,rk,g,qM s ry E rx l;exact#[p,_,rfl,g,by rw[rk.hasK r];exact w _ F H (.refl s) (cJ _) (by nofun)]};cases e
def RK{op:CmpOp}(ho:op=if neg then .NotIn else .In)(d:X.A.units+64<cLine)(r:PV C X a ga)(m:PV C X b gb)(l:behindInMarks op b=false):PV C X (.Compare a [op] [b] pos) (λY=>cu (dU neg) (ga Y) (gb Y)):=by cases neg with|false=>subst ho;exact k9 (GZ d) r m l|true=>subst ho;exact k9 (G0 d) r m l
def yq(H:Hp)(a:Addr):Prop:=∃kvs,Rd H a (.dN kvs)
def G1{a:Addr}(I:L2.Inv X aA σ H s)(d:yq H a):s.TypeIs (.ref a) "dict" /\ ∀b,Value.ref a=.ref b->∃ob,s.heap.get? b=some ob/\ob.dict=none:=by exists kvs,e,d;exists _,_,U,_,ob,es,ep,m,l,_,(show bK X.prog X.w H s.heap a (.dN kvs)from e.ok I.hok);exact#[#[ob,m,l.1],λb q=>by cases q;exact#[ob,m,l.2.1]]
def G2(K:Fg)(td ty tx:TE):TE:=λσ H Q=>td σ H λx H1=>∃a,x=.ref a/\yq H1 a/\ty σ H1 λy l=>tx σ l λz d=>∃o,gY K d a y o/\Q (o.getD z) d
def RL{ty tx:TE}(L:X.A.units+64<cLine)(ho:PE X o td)(T:PE X e ty)(N:PE X f tx)(m:M2 X o "get" apos e f cpos):PE X (.Call (.Attribute o "get" apos) [e,f] [] cpos) (G2 X.K td ty tx):=by
 intro aA s σ H Q I h;refine wpAny_Call_method m.base m.few m.line PySem.F.plainAttrs_dict PySem.F.slot_dict_get PySem.F.type_dict_get (thn (ho aA s σ H _ I h) λu B ⟨x,H1,l,E,a,ex,d,q1⟩=>?_);subst ex;obtain rfl:u=Value.ref a:=E;refine#[(G1 l d).1,(G1 l d).2,?_];rw[m.trees];refine CZ rfl (C0 (Bk (thn (T aA B σ H1 _ l q1) λiv S ⟨y,H2,Z,D,J⟩ =>
  Bk (thn (N aA S σ H2 _ Z J) λfv s3 ⟨z,H3,W,rz,ov,g,G⟩=>CS ?_))))
 exact RE L W g D rz λw' s4 V r=>#[_,H3,V,r,G]
def RM(hu:X.A.units+64<cLine)(ho:PV C X o go)(he:PV C X e ge)(hf:PV C X f gf)(m:M2 X o "get" apos e f cpos):PV C X (.Call (.Attribute o "get" apos) [e,f] [] cpos) (λY=>kC (go Y) (ge Y) (gf Y)):=by
 refine PE.imp (RL hu ho he (eN hf) m) λσ H Q q=>?_;unfold G2;rw[aR]at q ⊢;exists Y,F,R,w,q;refine#[Y,F,R,?_];unfold kC at w;cases ea:go Y with
 |stuck|exc c=>rw[ea]at w;exact w|ok ma da=>rw[ea,Res.thn_ok]at w;intro v F1 H1 s1 r1 _;have l:=aZ.step s1 w;cases en:asN da with|none=>rw[en]at l;exact l.elim|some kvs=>rw[en]at l;dsimp only at l;exists a,U,rfl,hh,rk,Rp.asN s1.sub r1 en;refine#[a,rfl,#[U,hh],?_];rw[aR];refine#[Y,F1,R.step s1,?_];cases L:ge Y with|stuck|exc c=>rw[L]at l;exact l|ok mk dk=>rw[L,Res.thn_ok]at l;intro y F2 H2 D r2 _;have B:=aZ.step D l;rw[aR];refine#[Y,F2,(R.step s1).step D,?_];cases J:aM (gf Y)with|stuck|exc c=>rw[J]at B;exact B|ok md d=>rw[J,Res.thn_ok]at B;intro z V T S r3 _;have W:=aZ.step S B;have hm:md=.fz:=nN J;subst hm;cases E:bS dk with|none=>rw[E]at W;exact W.elim|some k=>rw[E]at W;dsimp only at W;exists a',Z,K,aa,G,g,qM S.sub ((r1.step D).step S) en (r2.step S) E;cases K;refine#[_,g,?_];have r:=aQ.val k G;cases N:a6 kvs k with|none=>rw[N]at r W;dsimp only at r;rw[r];exact W z V T (.refl S.sub) r3 (by nofun)|some d'=>rw[N]at r W;exists v',ev,rv,r;rw[ev];exact W v' V T (.refl S.sub) rv (by nofun)
def uJ(K:Fg)(td ty tv:TE):TS:=λD σ H=>tv σ H λv H1=>td σ H1 λx l=>ty σ l λy d=>∃a H4,x=.ref a/\ym K d a y v H4/\D.nx σ H4
def G3{i:Expr}{ty:TE}(J:X.A.units+64<cLine)(ho:PE X o td)(hi:PE X i ty)(G:PE X value tv)(hs:swapsWith value (some (.Subscript o i pos')) pos.line X.env=pure false):PS X (.Assign [.Subscript o i pos'] value pos) (uJ X.K td ty tv):=by intro aA s σ H D I h;refine wpAny_Assign_Subscript (thn (G aA s σ H _ I h) λr d ⟨v,H1,V,B,q1⟩=>thn (ho aA d σ H1 _ V q1) λu S ⟨x,Z,T,m,F⟩=>thn (hi aA S σ Z _ T F) λiv s3 ⟨y,H3,N,l,a,W,ex,g,E⟩=>?_) hs;subst ex;obtain rfl:u=Value.ref a:=m;exact RF J N g l B λs4 L=>#[σ,W,L,E]
end
section
variable{gk:Rho->Res}
def RN(i:Nat)(V:X.A.units+64<cLine)(T:PE X (.Name x p) (f9 i))(hk:PV C X ke gk)(he:PV C X e g)(D:swapsWith e (some (.Subscript (.Name x p) ke sp)) pos.line X.env=pure false):ju C X (.Assign [.Subscript (.Name x p) ke sp] e pos) (λY=>dW Y i (gk Y) (g Y)):=by
 refine PS.imp (G3 V T hk (eN he) D) λE σ H q=>?_;exists Y,F,R,w,q;dsimp only at w;unfold uJ;unfold dW at w;split at w
 . rename_i kvs K;exists v0,f,B,Z,R.slot i true _ K;exists a,ea,aa,U,hh,rk,B;subst ea;refine iE R w λm d v F' H' l s R' L fr=>?_;cases m with
   |fr|bo=>exact(show False from l).elim|fz =>
   dsimp only at l;refine#[.ref a,f,?_];refine iE R' l λm2 N u F2 H2 W S R2 o _=>?_;cases J:bS N with|none=>rw[J]at W;exact W.elim|some k=>rw[J]at W;dsimp only at W;split at W;{rename_i hl;have G:H2 a=some (.dN U):=S.same _ _ (s.same _ _ hh);exists b,rfl,hn,hd,nT J o;have r:=rk.mono (s.fsame.trans S.fsame) _ _;refine#[a,_,rfl,#[U,k,b,G,r.keys.mono S.sub,rfl,#[eh.mono S.sub _ _ hn,hd],by rw[rk.len];exact hl,rfl],?_];exact W σ F2 _ (aE.refl _) (R2.mut K f #[_,a8,aQ.put #[hn,hd] (aB.mono S.fsame _ _ L) r])};exact W.elim
 . exact w.elim
end
open PySem.W
structure jh(lt:Nat->Nat->Bool):Prop where
 ntr:∀{i j k},lt i j=false->lt j k=false->lt i k=false
 asy:∀{i j},lt i j=true->lt j i=false
def jh.irr{lt:Nat->Nat->Bool}(O:jh lt)(i:Nat):lt i i=false:=by cases e:lt i i with|false=>rfl|true=>have:=O.asy e;rw[e]at this;cases this
structure PW(n:Nat)(p:Array Nat):Prop where
 size:p.size=n
 below:∀k,p.getD k 0<n
def PW.perm{p q:Array Nat}(h:PW n p)(e:q.Perm p):PW n q:=by refine#[by rw[e.size_eq,h.size],λk=>?_];simp only[rc];cases z:q[k]? with|none=>have:=h.below p.size;simp only[rc,Array.getElem?_size]at this;exact this|some v=>have d:v∈p.toList:=(Dk.mp e).mem_iff.mp (by rw[CQ];exact Array.mem_of_getElem? z);exists i,a,List.getElem?_of_mem d;have:=h.below i;rw[vj]at a;simp only[rc,a]at this;exact this
section
variable{lt:Nat->Nat->Bool}{cmp:Nat->Nat->(Bool->cc->Prop)->cc->Prop}{J:cc->Prop}
def ji(lt:Nat->Nat->Bool)(p:Array Nat)(b:Nat):Prop:=∀i j,i<j->j<b->lt (p.getD j 0) (p.getD i 0)=false
def ly(lt:Nat->Nat->Bool)(p:Array Nat)(b:Nat):Prop:=∀i j,i<j->j<b->lt (p.getD i 0) (p.getD j 0)=false
def yr(lt:Nat->Nat->Bool)(p:Array Nat)(a b:Nat):Prop:=∀i j,a<=i->i<b->a<=j->j<b->lt (p.getD i 0) (p.getD j 0)=false
theorem ji.more(O:jh lt){p:Array Nat}{m:Nat}(h:ji lt p m)(l:1<=m)(e:lt (p.getD m 0) (p.getD (m-1) 0)=false):ji lt p (m+1):=λi j d o=>by by_cases a:j<m;{exact h i j d a};(have:j=m:=by lia);subst this;by_cases f:i=j-1;{rw[f];exact e};exact O.ntr e (h i (j-1) (by lia) (by lia))
theorem ly.more(O:jh lt){p:Array Nat}{m:Nat}(h:ly lt p m)(l:1<=m)(e:lt (p.getD (m-1) 0) (p.getD m 0)=false):ly lt p (m+1):=λi j d o=>by by_cases a:j<m;{exact h i j d a};(have:j=m:=by lia);subst this;by_cases f:i=j-1;{rw[f];exact e};exact O.ntr (h i (j-1) (by lia) (by lia)) e
def jA{p:Array Nat}(a b:Nat)(d:b<=p.size)(k:Nat):(kas_rev p a b).getD k 0=if a<=k/\k<b then p.getD (a+b-1-k) 0 else p.getD k 0:=by simp only[rc];unfold kas_rev;rw[getElem?_mirror_all d];split <;> rfl
def qN{p:Array Nat}(f:PW n p)(a b:Nat):PW n (kas_rev p a b)/\(kas_rev p a b).Perm p:=by have d:(kas_rev p a b).Perm p:=mirror_perm _ _ _ _;exact#[f.perm d,d]
theorem uK(l:jh lt)(B:iG n lt cmp J){p:Array Nat}(r:PW n p):∀(f m:Nat) (s:cc) (Q:Nat->cc->Prop),m+f=n->1<=m->ji lt p m->J s->(∀m' O,m<=m'->m'<=n->ji lt p m'->(m'<n->lt (p.getD m' 0) (p.getD (m'-1) 0)=true)->J O->Q m' O)->(kas_asc p f m).kasWp cmp Q s|0,m,s,Q,e,D,u,A,q=>q m s (dm _) (by lia) u (λz=>by lia) A|f+1,m,s,Q,e,D,u,A,q=>by refine B _ _ s _ (r.below m) (r.below (m-1)) A λO o=>?_;cases E:lt (p.getD m 0) (p.getD (m-1) 0)with|true=>exact q m O (dm _) (by lia) u (λ_=>E) o|false=>exact uK l B r f (m+1) O Q (by lia) (by lia) (u.more l D E) o λm' S a b c d e=>q m' S (by lia) b c d e
theorem ly.turn{p:Array Nat}{a m:Nat}(hp:m<=p.size)(d:ly lt p m)(e:yr lt p a m):ly lt (kas_rev p a m) m:=λi j o l=>by rw[jA a m hp,jA a m hp];by_cases r:a<=i;{rw[aK #[r,by lia],aK #[by lia,l]];exact e _ _ (by lia) (by lia) (by lia) (by lia)};rw[ba (by lia)];by_cases f:a<=j;{rw[aK #[f,l]];exact d _ _ (by lia) (by lia)};rw[ba (by lia)];exact d i j o l
theorem qO(l:jh lt)(F:iG n lt cmp J)(D:Array Nat):∀(f m q:Nat) (p:Array Nat) (s:cc) (Q:Array Nat×Nat×Nat->cc->Prop),PW n p->p.Perm D->m+f=n->q+1<=m->ly lt p m->yr lt p (m-(q+1)) m->J s->(∀E m' q' O,PW n E->E.Perm D->q'+1<=m'->1<=m'->m'<=n->ly lt E m'->yr lt E (m'-(q'+1)) m'->J O->Q (E,m',q') O)->(kas_desc f p m q).kasWp cmp Q s|0,m,q,p,s,Q,o,B,e,T,u,W,S,k=>k p m q s o B T (by lia) (by lia) u W S|f+1,m,q,p,s,Q,o,B,e,T,u,W,S,k=>by unfold kas_desc;refine F _ _ s _ (o.below m) (o.below (m-1)) S λO A=>?_;have sz:=o.size;cases ec:lt (p.getD m 0) (p.getD (m-1) 0)with|true=>(have e1:=l.asy ec;have one:∀(r:Array Nat),yr lt r (m+1-(0+1)) (m+1):=λr i j a b c d=>by(have:i=j:=by lia);subst this;exact l.irr _);dsimp only;rw[aK rfl];by_cases Z:q > 0;{rw[aK Z];exists K,L,qN o (m-(q+1)) m;refine qO l F D f (m+1) 0 _ O Q K (L.trans B) (by lia) (by lia) ?_ (one _) A k;refine(u.turn (by lia) W).more l (by lia) ?_;rw[jA _ _ (by lia),jA _ _ (by lia),aK #[by lia,by lia],ba (by lia)];exact l.ntr (W _ (m-1) (by lia) (by lia) (by lia) (by lia)) e1};rw[ba Z];exact qO l F D f (m+1) 0 p O Q o B (by lia) (by lia) (u.more l (by lia) e1) (one _) A k|false=>dsimp only;rw[ba gr];refine F _ _ O _ (o.below (m-1)) (o.below m) A λV G=>?_;cases ed:lt (p.getD (m-1) 0) (p.getD m 0)with|true=>dsimp only;rw[aK rfl];exact k p m q V o B T (by lia) (by lia) u W G|false=>dsimp only;rw[ba gr];refine qO l F D f (m+1) (q+1) p V Q o B (by lia) (by lia) (u.more l (by lia) ed) (λi j a b c d=>?_) G k;by_cases hi:i<m;{by_cases N:j<m;{exact W i j (by lia) hi (by lia) N};(have:j=m:=by lia);subst this;exact l.ntr (W i (j-1) (by lia) hi (by lia) (by lia)) ed};(have:i=m:=by lia);subst this;by_cases N:j<i;{exact l.ntr ec (W (i-1) j (by lia) (by lia) (by lia) N)};(have:j=i:=by lia);subst this;exact l.irr _
theorem G4(a:jh lt)(F:iG n lt cmp J){p:Array Nat}(A:PW n p){m:Nat}(K:1<=m)(N:m<=n)(d:ly lt p m){Q:Nat×Array Nat->cc->Prop}(G:J s)(q:∀m' l O,1<=m'->m'<=n->PW n l->l.Perm p->ji lt l m'->J O->Q (m',l) O):(kas_tail3 m n p).kasWp cmp Q s:=by unfold kas_tail3;rw[KasT.kasWp_bind];exists f,o,qN A 0 m;have sz:=A.size;refine uK a F f (n-m) m s _ (by lia) K (λi j E T=>?_) G λD S V L B _ r=>q D _ S (by lia) L f o B r;rw[jA _ _ (by lia),jA _ _ (by lia),aK #[by lia,by lia],aK #[by lia,by lia]];exact d _ _ (by lia) (by lia)
theorem G5(f:jh lt)(V:iG n lt cmp J){p:Array Nat}(pp:PW n p){m:Nat}(hm:m<n)(d:ly lt p (m+1)){Q:Nat×Array Nat->cc->Prop}(hJ:J s)(q:∀m' r O,1<=m'->m'<=n->PW n r->r.Perm p->ji lt r m'->J O->Q (m',r) O):(kas_descPart m n p).kasWp cmp Q s:=by unfold kas_descPart;rw[KasT.kasWp_bind];refine qO f V p (n-(m+1)) (m+1) 0 p s _ pp (BM _) (by lia) (by lia) d (λi j a b c d=>?_) hJ λr m' q' O l o h1 h2 Z d' e' A=>?_;{(have:i=j:=by lia);subst this;exact f.irr _};dsimp only;have sz:=l.size;by_cases W:q' > 0;{rw[aK W];exists L,N,qN l (m'-(q'+1)) m';exact G4 f V L h2 Z (d'.turn (by lia) e') A λT p2 S K G F E D B=>q T p2 S K G F ((E.trans N).trans o) D B};rw[ba W];exact G4 f V l h2 Z d' A λT p2 S K G F E D B=>q T p2 S K G F (E.trans o) D B
theorem RO(f:jh lt)(E:iG n lt cmp J)(hn:2<=n){p:Array Nat}(l:PW n p){Q:Nat×Array Nat->cc->Prop}(hJ:J s)(q:∀m' A O,1<=m'->m'<=n->PW n A->A.Perm p->ji lt A m'->J O->Q (m',A) O):(kas_count n p).kasWp cmp Q s:=by
 unfold kas_count;rw[KasT.kasWp_bind];have sz:=l.size;refine uK f E l (n-1) 1 s _ (by lia) (dm _) (λi j L h2=>by lia) hJ λm S a b u d o=>?_
 by_cases N:m=n
 . rw[aK (by simpa using N)];exact q m p S a b l (BM _) u o
 . rw[ba (by simpa using N)]
   have T:=f.asy (d (by lia))
   by_cases L:m > 1
   . rw[aK L];refine E _ _ S _ (l.below 0) (l.below (m-1)) o λs2 r=>?_;cases ec:lt (p.getD 0 0) (p.getD (m-1) 0)with|true=>dsimp only;rw[aK rfl];exact q m p s2 a b l (BM _) u r|false=>(dsimp only;rw[ba gr];exists F,G,qN l 0 m;have ge:∀i,i<m->lt (p.getD i 0) (p.getD 0 0)=false:=λi D=>by by_cases h0:i=0;{rw[h0];exact f.irr _};exact u 0 i (by lia) D);(have le:∀i,i<m->lt (p.getD (m-1) 0) (p.getD i 0)=false:=λi D=>by by_cases h0:i=m-1;{rw[h0];exact f.irr _};exact u i (m-1) (by lia) (by lia));have all:yr lt p 0 m:=λi j _ D _ B=>f.ntr (f.ntr (ge i D) ec) (le j B);refine G5 f E F (by lia) (ly.more f (ly.turn (by lia) (λi j K B=>all i j (by lia) (by lia) (by lia) B) all) (by lia) ?_) r λm2 p2 s3 x1 x2 x3 Z W V=>q m2 p2 s3 x1 x2 x3 (Z.trans G) W V;rw[jA _ _ (by lia),jA _ _ (by lia),aK #[by lia,by lia],ba (by lia)];exact f.ntr (all _ (m-1) (by lia) (by lia) (by lia) (by lia)) T
   . rw[ba L];have e1:m=1:=by lia
     subst e1
     exact G5 f E l (by lia) (λi j K B=>by
      have:i=0/\j=1:=by lia
      rw[this.1,this.2];exact T) o q
theorem uL(d:jh lt)(D:iG n lt cmp J){p:Array Nat}(A:PW n p){k:Nat}(hk:k<n)(u:ji lt p k):∀(f l r:Nat) (s:cc) (Q:Nat->cc->Prop),l<=r->r<=k->r-l<=f->J s->(∀i,i<l->lt (p.getD k 0) (p.getD i 0)=false)->(∀i,r<=i->i<k->lt (p.getD i 0) (p.getD k 0)=false)->(∀l' O,l'<=k->(∀i,i<l'->lt (p.getD k 0) (p.getD i 0)=false)->(∀i,l'<=i->i<k->lt (p.getD i 0) (p.getD k 0)=false)->J O->Q l' O)->(kas_place p k f l r).kasWp cmp Q s|0,l,r,s,Q,S,F,N,B,a,b,q=>q l s (by lia) a (λi G=>b i (by lia)) B|f+1,l,r,s,Q,S,F,N,B,a,b,q=>by unfold kas_place;by_cases m:l ≥ r;{rw[aK m];exact q l s (by lia) a (λi G=>b i (by lia)) B};rw[ba m];refine D _ _ s _ (A.below k) (A.below ((l+r) / 2)) B λO o=>?_;cases E:lt (p.getD k 0) (p.getD ((l+r) / 2) 0)with|true=>refine uL d D A hk u f l ((l+r) / 2) O Q (by lia) (by lia) (by lia) o a (λi L K=>?_) q;by_cases e:i=(l+r) / 2;{rw[e];exact d.asy E};exact d.ntr (u _ i (by lia) K) (d.asy E)|false=>refine uL d D A hk u f ((l+r) / 2+1) r O Q (by lia) F (by lia) o (λi L=>?_) b q;by_cases e:i=(l+r) / 2;{rw[e];exact E};exact d.ntr E (u i _ (by lia) (by lia))
theorem G6(d:jh lt)(F:iG n lt cmp J):∀(f k:Nat) (p:Array Nat) (s:cc) (Q:Array Nat->cc->Prop),k+f=n->PW n p->ji lt p k->J s->(∀m O,PW n m->m.Perm p->ji lt m n->J O->Q m O)->(kas_bin f p k).kasWp cmp Q s|0,k,p,s,Q,e,r,u,D,q=>by(have:k=n:=by lia);subst this;exact q p s r (BM _) u D|f+1,k,p,s,Q,e,r,u,D,q=>by unfold kas_bin;rw[KasT.kasWp_bind];refine uL d F r (by lia) u k 0 k s _ (gw _) (dm _) (by lia) D (λi h=>by lia) (λi G o=>by lia) λl L T a b B=>?_;have E:(bubble p k (k-l)).Perm p:=bubble_perm _ _ _;have g:=getElem?_bubble (xs:=p) (src:=k) (by rw[r.size];lia) (k-l) (by lia);refine G6 d F f (k+1) _ L Q (by lia) (r.perm E) (λi j A V=>?_) B λm S x y z w=>q m S x (y.trans E) z w;(have N:k-(k-l)=l:=by lia);(rw[N]at g;have K:∀i,(bubble p k (k-l)).getD i 0=if i=l then p.getD k 0 else if l<i/\i<=k then p.getD (i-1) 0 else p.getD i 0:=λi=>by simp only[rc];rw[g i];split;{rfl};split <;> rfl);rw[K i,K j];by_cases G:i<l;{rw[ba (show ¬ i=l by lia),ba (show ¬ (l<i/\i<=k) by lia)];by_cases o:j=l;{rw[aK o];exact a i G};rw[ba o];split;{exact u i (j-1) (by lia) (by lia)};exact u i j A (by lia)};by_cases o:i=l;{rw[aK o,ba (show ¬ j=l by lia),aK (show l<j/\j<=k by lia)];exact b (j-1) (by lia) (by lia)};rw[ba o,aK (show l<i/\i<=k by lia),ba (show ¬ j=l by lia),aK (show l<j/\j<=k by lia)];exact u (i-1) (j-1) (by lia) (by lia)
theorem RP(d:jh lt)(r:iG n lt cmp J)(hn:2<=n){Q:Array Nat->cc->Prop}(F:J s)(q:∀p O,PW n p->p.Perm (List.toArray (List.range n))->ji lt p n->J O->Q p O):(kas_sort n).kasWp cmp Q s:=by(unfold kas_sort;rw[KasT.kasWp_bind];have B:PW n (List.toArray (List.range n)):=by refine#[by simp,λk=>?_];simp only[rc,BF,Bw];by_cases hk:k<n;{simp[hk]};simp[hk];lia);refine RO d r hn B F λm p S a b f o u l=>?_;by_cases h:m<n;{rw[aK h];(have E:max m 1=m:=by lia);rw[E];exact G6 d r (n-m) m p S Q (by lia) f u l λD A x y z w=>q D A x (y.trans o) z w};rw[ba h];(have E:m=n:=by lia);subst E;exact q p S f o u l
end
def eP:Nat:=64
def kD:eP<=1000000:=by decide
def nU:64<=eP:=dm _
section
variable{A:dj}{E:di}{κ:SortKind}{ks:List bb}{lt:Nat->Nat->Bool}
def G7(d:jh lt)(D:ks.length=vs.length)(o:2<=vs.length)(K:vs.length<eP)(ask:∀i j (C:Bool->cc->Prop),i<vs.length->j<vs.length->C (lt i j) s->wpAny (model prog w) A (keyLt' κ (ks.getD i .none) (ks.getD j .none)) C (λ_ _=>False) s){Q:SortSt->cc->Prop}(q:∀p S,PW vs.length p->p.Perm (List.toArray (List.range vs.length))->ji lt p vs.length->arrOf S=p.map (kas_item (ks.toArray.zip vs.toArray))->failedOf S=none->Q S s):wpAny (model prog w) A ((sortRuns').run (SortSt.mk' κ (ks.toArray.zip vs.toArray) #[] 7 none)) (λr O=>Q r.2 O) E s:=by
 have a:iG vs.length lt (kas_ask prog w A κ ks) (λf=>f=s):=λi j f C J F L q=>by subst L;unfold kas_ask;exact ask i j _ J F (q _ rfl)
 exact kat_run (G:=λp f=>f=s/\PW vs.length p/\p.Perm (List.toArray (List.range vs.length))/\ji lt p vs.length) D o K (λp S f Z W V T=>by
  exists rfl,m,l,B,T;exact q p S m l B W V) (RP d a o rfl λp f m l B N=>#[N,m,l,B])
end
mutual
def ltN:N->N->Bool|.i n,.i m=>decide (n<m)|.i _,.s _|.i _,.t _=>true|.s _,.i _=>false|.s x,.s y=>gy x y|.s _,.t _=>true|.t _,.i _|.t _,.s _=>false|.t U,.t ys=>bC U ys
def bC:List N->List N->Bool|[],[]=>false|[],_::_=>true|_::_,[]=>false|x::U,y::ys=>if x=y then bC U ys else ltN x y
end
mutual
def ft:N->N->Bool|.i _,.i _|.s _,.s _=>true|.t U,.t ys=>cM U ys|.i _,.s _|.i _,.t _|.s _,.i _|.s _,.t _|.t _,.i _|.t _,.s _=>false
def cM:List N->List N->Bool|[],_|_::_,[]=>true|x::U,y::ys=>if x=y then cM U ys else ft x y
end
theorem G8:∀(U:List N),bC U U=false|[]=>by rw[bC]|x::U=>by rw[bC,aK rfl,G8 U]
def kE(k:N):ltN k k=false:=by cases k with|i n=>rw[ltN];simp|s x=>rw[ltN];exact qI x|t U=>rw[ltN];exact G8 U
theorem G9:∀{U ys:List N},(∀x∈U,∀y,ltN x y=false->ltN y x=false->x=y)->bC U ys=false->bC ys U=false->U=ys|[],[],_,_,_=>rfl|[],_::_,_,h,_|_::_,[],_,_,h=>by rw[bC]at h;cases h|x::U,y::ys,k,d,a=>by rw[bC]at d a;by_cases e:x=y;{subst e;rw[aK rfl]at d a;rw[G9 (λz f=>k z (df f)) d a]};rw[ba e]at d;rw[ba (λz=>e z.symm)]at a;exact absurd (k x c6 y d a) e
theorem qP(k:N):∀y,ltN k y=false->ltN y k=false->k=y:=by
 induction k using N.ind with
 |hi n=>intro y d a;cases y with|i m=>(rw[ltN]at d a;have:n=m:=by have l:=Dl d;have A:=Dl a;lia);rw[this]|s x|t U=>rw[ltN]at d;cases d
 |hs x=>intro y d a;cases y with|i m=>rw[ltN]at a;cases a|s z=>rw[ltN]at d a;rw[uC d a]|t U=>rw[ltN]at d;cases d
 |ht U f=>intro y d a;cases y with|i m|s z=>rw[ltN]at a;cases a|t ys=>rw[ltN]at d a;rw[G9 f d a]
theorem Ha:∀{U ys zs:List N},(∀x∈U,∀y z,ltN x y=true->ltN y z=true->ltN x z=true)->bC U ys=true->bC ys zs=true->bC U zs=true|[],[],_,_,h,_|[],_::_,[],_,_,h=>by rw[bC]at h;cases h|[],_::_,_::_,_,_,_=>by rw[bC]|_::_,[],_,_,h,_|_::_,_::_,[],_,_,h=>by rw[bC]at h;cases h|x::U,y::ys,z::zs,k,d,a=>by rw[bC]at d a ⊢;by_cases f:x=y;{subst f;rw[aK rfl]at d;by_cases E:x=z;{rw[aK E]at a ⊢;exact Ha (λz m=>k z (df m)) d a};rw[ba E]at a ⊢;exact a};rw[ba f]at d;by_cases E:y=z;{subst E;rw[ba f];exact d};rw[ba E]at a;have o:=k x c6 y z d a;by_cases l:x=z;{rw[<- l]at a;have:=k x c6 y x d a;rw[kE]at this;cases this};rw[ba l];exact o
theorem uM(k:N):∀y z,ltN k y=true->ltN y z=true->ltN k z=true:=by
 induction k using N.ind with
 |hi n=>intro y z d a;cases z with|i l=>(cases y with|i m=>rw[ltN]at d a ⊢;have B:=lh d;have A:=lh a;exact ip (by lia)|s x|t U=>rw[ltN]at a;cases a)|s x|t U=>rw[ltN]
 |hs x=>intro y z d a;cases y with|i m=>rw[ltN]at d;cases d|s o=>(cases z with|i l=>rw[ltN]at a;cases a|s f=>rw[ltN]at d a ⊢;exact uB d a|t U=>rw[ltN])|t U=>cases z with|i l|s f=>rw[ltN]at a;cases a|t U=>rw[ltN]
 |ht U r=>intro y z d a;cases y with|i m|s o=>rw[ltN]at d;cases d|t ys=>cases z with|i l|s f=>rw[ltN]at a;cases a|t zs=>rw[ltN]at d a ⊢;exact Ha r d a
def nV{a b:N}(h:ltN a b=true):ltN b a=false:=by cases e:ltN b a with|false=>rfl|true=>have:=uM a b a h e;rw[kE]at this;cases this
def nW{a b c:N}(f:ltN a b=false)(d:ltN b c=false):ltN a c=false:=by cases e:ltN a c with|false=>rfl|true=>cases E:ltN b a with|true=>have:=uM b a c E e;rw[d]at this;cases this|false=>have:=qP a b f E;subst this;rw[e]at d;cases d
def gG(l:List N):Prop:=l.Pairwise λx y=>ltN y x=false
def lV(x:N):List N->List N|[]=>[x]|y::l=>if ltN y x=true then y::lV x l else x::y::l
def dC(l:List N):List N:=l.foldr lV []
theorem uN(x:N):∀(l:List N),(lV x l).Perm (x::l)|[]=>jz _|y::l=>by unfold lV;split;{exact((uN x l).cons y).trans (List.Perm.swap x y l)};exact jz _
theorem jB:∀(l:List N),(dC l).Perm l|[]=>jz _|x::l=>(uN x (dC l)).trans ((jB l).cons x)
theorem Hb{x:N}:∀{l:List N},gG l->gG (lV x l)|[],_=>qc _ _|y::l,h=>by unfold lV;split;{rename_i e;refine gx.mpr #[λz a=>?_,Hb (gx.mp h).2];rcases dq.mp ((uN x l).mem_iff.mp a)with rfl|a;{exact nV e};exact(gx.mp h).1 z a};rename_i e;(have e:ltN y x=false:=by simpa using e);refine gx.mpr #[λz a=>?_,h];rcases dq.mp a with rfl|a;{exact e};exact nW ((gx.mp h).1 z a) e
theorem lW:∀(l:List N),gG (dC l)|[]=>List.Pairwise.nil|x::l=>Hb (lW l)
theorem uO:∀{l l':List N},gG l->gG l'->l.Perm l'->l=l'|[],l',_,_,p=>p.symm.eq_nil.symm|x::l,[],_,_,p=>p.eq_nil|x::l,y::l',h,h',p=>by(have f:=gx.mp h;have d:=gx.mp h';have E:x=y:=by(have a:ltN y x=false:=by rcases dq.mp (p.mem_iff.mpr c6)with e|e;{rw[e];exact kE _};exact f.1 y e);(have b:ltN x y=false:=by rcases dq.mp (p.mem_iff.mp c6)with e|e;{rw[e];exact kE _};exact d.1 x e);exact qP x y b a);subst E;rw[uO f.2 d.2 p.cons_inv]
def uP{l l':List N}(h:gG l')(p:l'.Perm l):l'=dC l:=uO h (lW l) (p.trans (jB l).symm)
theorem RQ{A:dj}{x y:N}{v:bb}(m:A.units+x.dp<cLine)(f:dg s.heap x u)(d:dg s.heap y v):SeqAt.EqAt A s u v (decide (x=y)):=by obtain⟨⟨as,a⟩,ca⟩:=dg.reads x u f;obtain⟨⟨bs,r⟩,l⟩:=dg.reads y v d;have:=C8 x.py y.py A s u v as bs a r ca l (by rw[N.py_depth];have:=Bt x.dp y.py.depth;lia);rw[N.py_eqv]at this;exact this
theorem uQ{A:dj}:∀{U ys:List N}{us vs:List bb},(∀x∈U,∀(y:N) (u v:bb),dg s.heap x u->dg s.heap y v->ft x y=true->∀(prog:fc) (W:dh) (E:di) (Q:di),Q (.bool (ltN x y)) s->wpAny (model prog W) A (compareOp .Lt u v) Q E s)->A.units+N.dpL U<cLine->aV s.heap U us->aV s.heap ys vs->cM U ys=true->lp A s us vs (bC U ys)|[],[],us,vs,_,_,d,a,_=>by rw[aV]at d a;subst d;subst a;rw[bC];exact .nn|[],y::ys,us,vs,_,_,d,a,_=>by rw[aV]at d;rw[aV]at a;subst d;exists v,ws,rfl,_,a;rw[bC];exact .nc|x::U,[],us,vs,_,_,d,a,_=>by rw[aV]at d;rw[aV]at a;subst a;exists v,ws,rfl,_,d;rw[bC];exact .cn|x::U,y::ys,us,vs,k,o,d,a,ok=>by rw[aV]at d a;exists u,us,rfl,p1,p2,d;exists v,vs,rfl,q1,l,a;rw[N.dpL]at o;rw[cM]at ok;have e:=RQ (A:=A) (by lia) p1 q1;rw[bC];by_cases f:x=y;{rw[ip f]at e;rw[aK f]at ok ⊢;exact .eq e (uQ (λz m=>k z (df m)) (by lia) p2 l ok)};rw[jw f]at e;rw[ba f]at ok ⊢;exact .ne e λprog W E Q q=>k x c6 y u v p1 q1 ok prog W E Q q
theorem yt(k:N):∀{A:dj}{E:di}{y:N}{u v:bb}{Q:di}{prog:fc}{w:dh},A.units+k.dp+1<cLine->dg s.heap k u->dg s.heap y v->ft k y=true->Q (.bool (ltN k y)) s->wpAny (model prog w) A (compareOp .Lt u v) Q E s:=by
 induction k using N.ind with
 |hi n=>intro A E y u v Q prog w hu h1 h2 ok q;cases y with|i m=>rw[dg]at h1 h2;exists t,rfl,h1;exists t',rfl,h2;rw[ltN]at q;exact lt_int q|s x|t U=>rw[ft]at ok;cases ok
 |hs x=>intro A E y u v Q prog w hu h1 h2 ok q;cases y with|s z=>rw[dg]at h1 h2;obtain⟨⟨t,rfl⟩,_⟩:=h1;obtain⟨⟨t',rfl⟩,_⟩:=h2;rw[ltN]at q;unfold gy at q;rw[ltCps_eq]at q;exact lt_str q|i m|t U=>rw[ft]at ok;cases ok
 |ht U D=>intro A E y u v Q prog w hu h1 h2 ok q;cases y with|i m|s x=>rw[ft]at ok;cases ok|t ys=>rw[dg]at h1 h2;exists a,o,its,n,rfl,F,c1,K,B,h1;exists b,l,d,r,rfl,G,c2,J,L,h2;rw[ltN]at q;rw[ft]at ok;rw[N.dp]at hu;exact Qy #[o,F,c1,n,K] #[l,G,c2,r,J] (uQ (A:=A.in1) (λx f y u v p1 p2 ok prog W E Q q=>D x f (by have:=N.dp_mem f;show A.units+1+_+1<_;lia) p1 p2 ok q) (by show A.units+1+_<_;lia) B L ok) (by lia) q
def fP(h:Heap)(vs:List bb)(ks:List N):Prop:=vs.length=ks.length/\∀i,i<ks.length->dg h (ks.getD i (.i 0)) (vs.getD i .none)
def dJ:N->Bool|.t (.t _::_)=>true|_=>false
structure kG(ks:List N)(p:List Nat):Prop where
 perm:p.Perm (List.range ks.length)
 up:gG (p.map λi=>ks.getD i (.i 0))
def kG.eq{p:List Nat}(h:kG ks p):(p.map λi=>ks.getD i (.i 0))=dC ks:=by refine uP h.up ?_;have:=h.perm.map λi=>ks.getD i (.i 0);rw[qJ]at this;exact this
def dg.kept(k:N):∀{v:bb},dg h k v->(∀a o,h.get? a=some o->o.cls=.type "tuple"->h'.get? a=some o)->dg h' k v:=by induction k using N.ind with|hi n|hs x=>intro v q _;rw[dg]at q ⊢;exact q|ht U f=>intro v q kp;rw[dg]at q ⊢;exists a,o,its,n,e,m,d,hd,hi,q;exact#[a,o,its,n,e,kp a o m d,d,hd,hi.map λx l v q=>f x l q kp]
def Hc(ks:List N):Prop:=∀x∈ks,∀y∈ks,ft x y=true
section
variable{A:dj}{E:di}
theorem Hd{F:Bool}{Q:Bool->cc->Prop}:∀{U ys:List N}{us vs:List bb}{i:Nat},A.units+N.dpL U+1<cLine->aV s.heap U us->aV s.heap ys vs->cM U ys=true->F=decide (us.length<vs.length)->Q (bC U ys) s->KatLex prog w A false F Q (us.zip vs) i s|[],[],us,vs,i,_,d,a,_,e,q=>by rw[aV]at d a;subst d;subst a;subst e;rw[bC]at q;exact q|[],y::ys,us,vs,i,_,d,a,_,e,q=>by rw[aV]at d;rw[aV]at a;subst d;exists v,zs,rfl,_,a;subst e;rw[bC]at q;exact q|x::U,[],us,vs,i,_,d,a,_,e,q=>by rw[aV]at d;rw[aV]at a;subst a;exists v,zs,rfl,_,d;subst e;rw[bC]at q;exact q|x::U,y::ys,us,vs,i,m,d,a,ok,e,q=>by rw[aV]at d a;exists u,us,rfl,p1,p2,d;exists v,vs,rfl,q1,l,a;rw[N.dpL]at m;rw[cM]at ok;rw[bC]at q;rw[tm];refine kat_cons (xj (by lia) p1 q1 (kat_go (λh=>?_) λh=>?_));{have f:=lh h;rw[aK f]at ok q;exact kat_yes (Hd (by lia) p2 l ok (by subst e;simp) q)};have f:=Dl h;rw[ba f]at ok q;exact kat_no (kat_one _ _ (yt x (by lia) p1 q1 ok q))
theorem RR{x y:N}{v:bb}{Q:Bool->cc->Prop}(r:A.units+x.dp<cLine)(D:dJ x=true)(F:dJ y=true)(l:dg s.heap x u)(f:dg s.heap y v)(ok:ft x y=true)(q:Q (ltN x y) s):wpAny (model prog w) A (keyLt' (tuples' false) u v) Q E s:=by cases x with|i n|s z=>cases D|t U=>cases y with|i n|s z=>cases F|t ys=>rw[dg]at l f;exists a,o,its,n,rfl,B,c1,K,m,l;exists b,S,d,T,rfl,G,c2,J,L,f;rw[ft]at ok;rw[ltN]at q;rw[N.dp]at r;exact kat_lt B K G J (Hd (by lia) m L ok (by simp) q)
theorem He:∀{vs:List bb}{ks:List N},fP s.heap vs ks->(∀k∈ks,dJ k=true)->∃fs:List bb,KatTups s.heap vs fs/\fs.length=ks.length/\∀f∈fs,Looks (model prog w) s.heap (typeOf f) (.type "tuple")
 |[],[],_,_=>#[[],trivial,rfl,λf d=>nomatch d]|[],_::_,h,_|_::_,[],h,_=>by have:=h.1;simp at this|v::vs,k::ks,h,r=>by
  have h0:=h.2 0 (by simp)
  have h0:dg s.heap k v:=by simpa using h0
  have tail:fP s.heap vs ks:=#[by simpa using h.1,λi S=>by
   have:=h.2 (i+1) (by simpa using S)
   simpa using this]
  exists fs,G,D,K,He tail λt J=>r t (df J);have F:=r k c6;unfold dJ at F;split at F
  . rename_i ys zs;rw[dg]at h0;exists a,o,its,n,rfl,V,c1,Z,l,h0;rw[aV]at l;exists f,us,W,p1,_,l;rw[dg]at p1;exists b,B,m,n2,rfl,T,c2,d2,_,p1;have f0:its[0]? = some (.ref b):=by
      have:its.toList[0]? = some (.ref b):=by rw[W];rfl
      simpa using this
    refine#[.ref b::fs,#[#[a,o,its,n,rfl,V,c1,Z,f0],G],by simp[D],λf d=>?_]
    rcases dq.mp d with rfl|d
    . have L:Looks (model prog w) s.heap (typeOf (.ref b)) B.cls:=(Looks.ld T).andThen .now;rw[c2]at L;exact L
    . exact K f d
  . cases F
theorem yu{Q:SortKind->cc->Prop}(h:fP s.heap vs ks)(f:∀k∈ks,dJ k=true)(l:0<ks.length)(q:Q (tuples' false) s):wpAny (model prog w) A (keyKind' vs.toArray) Q E s:=by exists fs,a,d,K,He (prog:=prog) (w:=w) h f;exact kat_kind (T:=.type "tuple") a (by lia) K rfl q
def yw(ks:List N):jh λi j=>ltN (ks.getD i (.i 0)) (ks.getD j (.i 0)):=#[λa b=>nW a b,λa=>nV a]
def RT{p:Array Nat}(l:PW ks.length p)(m:p.Perm (List.toArray (List.range ks.length)))(u:ji (λi j=>ltN (ks.getD i (.i 0)) (ks.getD j (.i 0))) p ks.length):kG ks p.toList:=by refine#[by simpa using Dk.mp m,?_];unfold gG;rw[ir];refine List.pairwise_iff_getElem.mpr λi j f a d=>?_;rw[lc]at f a;have:=u i j d (by rw[<- l.size];exact a);simpa[Array.getD,f,a]using this
theorem fP.kept(q:fP h vs ks)(kp:∀a o,h.get? a=some o->o.cls=.type "tuple"->h'.get? a=some o):fP h' vs ks:=#[q.1,λi d=>dg.kept _ (q.2 i d) kp]
theorem Hf{a:Addr}{P:PySem.Fin->cc->Prop}(hu:A.units+13<cLine)(ho:s.heap.get? a=some (seqObj "list" vs.toArray n))(K:fP s.heap vs ks)(Z:∀k∈ks,k.dp<=12)(ok:Hc ks)(F:ks.length<=1\/∀k∈ks,dJ k=true)(m:ks.length<eP)(h:∀p,kG ks p->P (.done (.ret .none)) {s with heap:=sortedHeap s.heap a vs (p.map λi=>vs.getD i .none).toArray}):wpAny (model prog w) A (Builtin.«list.sort» #[[.ref a],[]]) P E s:=by
 have T:ks.length<1000000:=hB m kD;have lv:=K.1;have la:a<s.heap.objs.size:=dv ho;rw[list_sort_plain];refine bv (vk ho rfl (bv (qd ho rfl ?_ (by rw[fo,dz];lia) (gw _))))
 obtain⟨V,l⟩:∃c,(s.heap.update a (Obj.mapSeq λ_=>(#[]:Array bb))).get? a=some (seqObj "list" #[] c):=#[_,vm ho λ_=>#[]];refine bv (vp l rfl (bv (wpAny_newTuple (bv (re (il ?_) (gw _))) (by show vs.length<=_;rw[dz];lia))))
 have d:(((s.heap.update a (Obj.mapSeq λ_=>(#[]:Array Value))).push (seqObj "tuple" vs.toArray 0)).push (seqObj "list" #[] 0)).get? a=some (seqObj "list" #[] V):=hps (hps l);have f:fP (((s.heap.update a (Obj.mapSeq λ_=>(#[]:Array Value))).push (seqObj "tuple" vs.toArray 0)).push (seqObj "list" #[] 0)) vs ks:=K.kept λb o e c=>by(have N:b≠a:=λz=>by rw[z,ho]at e;cases e;have c:Value.type "list"=.type "tuple":=c;injection c with c;exact absurd c (by decide));exact hps (hps ((Dm _ _ _ _ N).trans e))
 have r:=h;show wpAny (model prog w) A _ P E { s with heap:=((s.heap.update a (Obj.mapSeq λ_=>(#[]:Array bb))).push (seqObj "tuple" vs.toArray 0)).push (seqObj "list" #[] 0) }
 dsimp only;by_cases hs:vs.toArray.size<2
 . rw[aK hs,aK hs];rw[fo]at hs;refine bv (cq ?_);rw[StateT.run_pure];refine bv (cq ?_);have L:kG ks (List.range ks.length):=#[jz _,by
     rw[qJ]
     match ks,lv with|[],_=>exact List.Pairwise.nil|[t],_=>exact qc _ _|_::_::_,lv=>simp at lv;lia]
   have ev:((List.range ks.length).map λi=>vs.getD i Value.none).toArray=(arrOf (SortSt.mk' general' (vs.toArray.zip vs.toArray) #[] 7 none)).map (·.2):=by rw[<- lv,qJ];show vs.toArray=(vs.toArray.zip vs.toArray).map (·.2);apply Array.ext;{simp};intro i h1 h2;simp
   have W:=r _ L;rw[ev]at W;refine bv (vp d rfl (bv (qd d rfl ?_ (gw _) (by rw[<- ev,fo,d3,rg,dz];lia))))
   simp only[ua,io,jd];exact cq W
 . rw[ba hs,ba hs];rw[fo]at hs;have F:∀k∈ks,dJ k=true:=F.resolve_left (by lia)
   refine bv (yu (s:={ s with heap:=((s.heap.update a (Obj.mapSeq λ_=>(#[]:Array bb))).push (seqObj "tuple" vs.toArray 0)).push (seqObj "list" #[] 0) }) f F (by lia) ?_)
   refine bv (ij (G7 (ks := vs) (vs := vs) (κ := tuples' false) (yw ks) rfl (by lia) (by lia) (fun i j C G D q => by
       have G:i<ks.length:=by lia
       have D:j<ks.length:=by lia
       have B:ks.getD i (.i 0)∈ks:=by simp[G]
       have J:ks.getD j (.i 0)∈ks:=by simp[D]
       exact RR (by have:=Z _ B;lia) (F _ B) (F _ J) (f.2 i G) (f.2 j D) (ok _ B _ J) q)
    (Q:=λS O=>O=_/\∃p:Array Nat,PW ks.length p/\p.Perm (List.toArray (List.range ks.length))/\ji (λi j=>ltN (ks.getD i (.i 0)) (ks.getD j (.i 0))) p ks.length/\arrOf S=p.map (kas_item (vs.toArray.zip vs.toArray))/\failedOf S=none)
    λp S a1 a2 a3 a4 a5=>#[rfl,p,by rw[<- lv];exact a1,by rw[<- lv];exact a2,by rw[<- lv];exact a3,a4,a5]) ?_ λ_ _ e=>e)
   rintro⟨⟨⟩,S⟩ O ⟨rfl,p,pp,pe,u,ea,ef⟩;have W:=r _ (RT pp pe u);have ev:=kat_snds (vs:=vs) rfl ea;rw[<- ev]at W;refine bv (vp d rfl (bv (qd d rfl ?_ (gw _) (by rw[ev,fo,d3,lc,pp.size,dz];lia))))
   rw[ef];simp only[ua,io,jd];exact cq W
theorem uR{l:Addr}{Q:List bb->cc->Prop}(d:IsTup s.heap l vs.toArray)(hz:vs.length<=sizeLine)(h:Q vs { s with heap:=(s.heap.push (seqObj "list" #[] 0)).update s.heap.objs.size (Obj.mapSeq (·++vs.toArray)) }):wpAny (model prog w) A (collect (.ref l)) Q E s:=by exists o,ho,f,n,hd,id d;have a:=Heap.get?_push_of_some (seqObj "list" #[] 0) ho;have G:(s.heap.push (seqObj "list" #[] 0)).get? s.heap.objs.size=some (seqObj "list" #[] 0):=fi _ rfl;unfold collect;refine bv (BN (kq entry_proto_collect' ?_));show wpAny _ _ (do let l' <- newList [];again (.builtin "list.__iadd__" #[[l',.ref l],[]])) _ _ s;refine bv (re (cq #[Code.quiet_builtin _ (by decide +kernel),kq entry_list_iadd' ?_]));show wpAny (model prog w) _ (Builtin.List.listExtendWith (.ref s.heap.objs.size) (.ref l) (.ref s.heap.objs.size)) _ _ _;unfold Builtin.List.listExtendWith;refine bv (mw (T:="tuple") (s:={ s with heap:=s.heap.push (seqObj "list" #[] 0) }) #[o,a,f] ?_);rw[aK (by rw[show(Value.type "tuple" == Value.type "tuple")=true from rfl,Bool.or_true])];refine bv (vk (s:={ s with heap:=s.heap.push (seqObj "list" #[] 0) }) a hd (bv (vk (xs:=#[]) (n:=0) G rfl ?_)));rw[ba (by simp)];refine bv (qd (xs:=#[]) (n:=0) G rfl (cq ?_) (gw _) (by show(#[]++vs.toArray).size<=sizeLine+1;simp only[Array.size_append,fo,pv];lia));(show wpAny (model prog w) A (do match(<- load s.heap.objs.size).data with|.seq U _=>pure U.toList|_=>unsupported "internal:collect") Q E _);refine bv (tf (vm G _) ?_);show wpAny _ A (pure ((#[]:Array bb)++vs.toArray).toList) Q E _;rw[show((#[]:Array bb)++vs.toArray).toList=vs by simp];exact cq h
theorem RU{l:Addr}(L:A.units+64<cLine)(d:s.heap.IsList l vs.toArray\/IsTup s.heap l vs.toArray)(B:fP s.heap vs ks)(K:∀k∈ks,k.dp<=12)(ok:Hc ks)(J:ks.length<=1\/∀k∈ks,dJ k=true)(a:ks.length<eP)(h:∀p,kG ks p->Q (.ref (s.heap.objs.size+1)) {s with heap:=sortedAll s.heap vs (p.map λi=>vs.getD i .none).toArray}):wpAny (model prog w) A (call (.builtin "sorted") [.ref l]) Q E s:=by
 have F:ks.length<1000000:=hB a kD;have lv:=B.1;refine Dn kind_sorted plain_sorted entry_sorted (args_sorted1 (.ref l)) ?_;unfold Builtin.«sorted»;have col:∀{R:List bb->cc->Prop}{D:di},R vs { s with heap:=(s.heap.push (seqObj "list" #[] 0)).update s.heap.objs.size (Obj.mapSeq (·++vs.toArray)) }->wpAny (model prog w) A.in1 (collect (.ref l)) R D s:=λ{R D} r=>by rcases d with d|d;{exact collect_list d r (by rw[dz];lia)};exact uR d (by rw[dz];lia) r
 refine bv (m:=checkCount "sorted" 1 1 [Value.ref l].length) (cq (bv (col (bv (re ?_ (by rw[dz];lia))))))
 have Z:((s.heap.push (seqObj "list" #[] 0)).update s.heap.objs.size (Obj.mapSeq (·++vs.toArray))).objs.size=s.heap.objs.size+1:=(BO ..).trans (ub ..);have G:(((s.heap.push (seqObj "list" #[] 0)).update s.heap.objs.size (Obj.mapSeq (·++vs.toArray))).push (seqObj "list" vs.toArray 0)).get? (s.heap.objs.size+1)=some (seqObj "list" vs.toArray 0):=Z ▸ fi _ rfl;have f:fP (((s.heap.push (seqObj "list" #[] 0)).update s.heap.objs.size (Obj.mapSeq (·++vs.toArray))).push (seqObj "list" vs.toArray 0)) vs ks:=B.kept λb o e _=>
  hps ((Dm _ _ _ _ (gj (dv e))).trans (hps e))
 show wpAny _ _ _ _ _ { s with heap:=((s.heap.push (seqObj "list" #[] 0)).update s.heap.objs.size (Obj.mapSeq (·++vs.toArray))).push (seqObj "list" vs.toArray 0) }
 rw[Z];exact bv (il (jp BP #[_,G,rfl] BQ (Hf (A:=A.in1.in1) (by show A.units+1+1+13<_;lia) (s:={ s with heap:=((s.heap.push (seqObj "list" #[] 0)).update s.heap.objs.size (Obj.mapSeq (·++vs.toArray))).push (seqObj "list" vs.toArray 0) }) G f K ok J a λp W=>#[_,rfl,cq #[_,rfl,h p W]]) (args_list_sort _)))
end
theorem Hg:∀{h:Heap}{ks:List N}{us:List bb},aV h ks us->fP h us ks|h,[],us,q=>by rw[aV]at q;subst q;exact#[rfl,λi a=>by simp at a]|h,k::ks,us,q=>by rw[aV]at q;exists u,us,rfl,q1,d,q;exists l,r,Hg d;refine#[by simp[l],λi a=>?_];cases i with|zero=>simpa using q1|succ i=>have:=r i (by simpa using a);simpa using this
theorem bL.nth{K:Fg}{F:Hp}:∀{ks:List N}{vs:List V},bL K F ks vs->vs.length=ks.length/\∀i,i<ks.length->eh K F (ks.getD i (.i 0)) (vs.getD i .non)|[],vs,q=>by rw[bL]at q;subst q;exact#[rfl,λi a=>by simp at a]|k::ks,vs,q=>by rw[bL]at q;exists u,us,rfl,q1,d,q;exists l,r,bL.nth d;refine#[by simp[l],λi a=>?_];cases i with|zero=>simpa using q1|succ i=>have:=r i (by simpa using a);simpa using this
theorem fB:∀(ks:List N),nDL ks=ks.map nD|[]=>by rw[nDL];rfl|k::ks=>by rw[nDL,fB ks];rfl
def mm(ks:List N):Bool:=ks.all (λk=>decide (k.dp<=12))&&(decide (ks.length<=1)||ks.all dJ)&&ks.all (λx=>ks.all λy=>ft x y)&&decide (ks.length<eP)
def kH(l:List Str):Prop:=l.Pairwise λx y=>gy y x=false
def lX(x:Str):List Str->List Str|[]=>[x]|y::l=>if gy y x=true then y::lX x l else x::y::l
def eQ(l:List Str):List Str:=l.foldr lX []
def RV{y:Str}(h:gy x y=true):gy y x=false:=by cases e:gy y x with|false=>rfl|true=>have:=uB h e;rw[qI]at this;cases this
def RW{a b c:Str}(f:gy a b=false)(d:gy b c=false):gy a c=false:=by have:=nW (a:=.s a) (b:=.s b) (c:=.s c) (by rw[ltN];exact f) (by rw[ltN];exact d);rw[ltN]at this;exact this
theorem uS(x:Str):∀(l:List Str),(lX x l).Perm (x::l)|[]=>jz _|y::l=>by unfold lX;split;{exact((uS x l).cons y).trans (List.Perm.swap x y l)};exact jz _
theorem uT:∀(l:List Str),(eQ l).Perm l|[]=>jz _|x::l=>(uS x (eQ l)).trans ((uT l).cons x)
theorem Hh{x:Str}:∀{l:List Str},kH l->kH (lX x l)|[],_=>qc _ _|y::l,h=>by unfold lX;split;{rename_i e;refine gx.mpr #[λz a=>?_,Hh (gx.mp h).2];rcases dq.mp ((uS x l).mem_iff.mp a)with rfl|a;{exact RV e};exact(gx.mp h).1 z a};rename_i e;(have e:gy y x=false:=by simpa using e);refine gx.mpr #[λz a=>?_,h];rcases dq.mp a with rfl|a;{exact e};exact RW ((gx.mp h).1 z a) e
theorem Hi:∀(l:List Str),kH (eQ l)|[]=>List.Pairwise.nil|x::l=>Hh (Hi l)
theorem Hj:∀{l l':List Str},kH l->kH l'->l.Perm l'->l=l'|[],l',_,_,p=>p.symm.eq_nil.symm|x::l,[],_,_,p=>p.eq_nil|x::l,y::l',h,h',p=>by(have f:=gx.mp h;have d:=gx.mp h';have E:x=y:=by(have a:gy y x=false:=by rcases dq.mp (p.mem_iff.mpr c6)with e|e;{rw[e];exact qI _};exact f.1 y e);(have b:gy x y=false:=by rcases dq.mp (p.mem_iff.mp c6)with e|e;{rw[e];exact qI _};exact d.1 x e);exact uC b a);subst E;rw[Hj f.2 d.2 p.cons_inv]
def RX{l l':List Str}(h:kH l')(p:l'.Perm l):l'=eQ l:=Hj h (Hi l) (p.trans (uT l).symm)
theorem Hk:∀{l:List Str},sortedS l=true->kH l|[],_=>.nil|x::l,h=>by refine gx.mpr #[λy a=>GI (show risingS x l=true from h) y a,Hk ?_];cases l with|nil=>rfl|cons y l=>have h:(!gy y x&&risingS y l)=true:=h;rw[cw]at h;exact h.2
section
variable{A:dj}{E:di}
theorem RY{l:Addr}{ns:List Str}(a:s.heap.IsList l vs.toArray\/IsTup s.heap l vs.toArray)(sa:StrsAre vs ns)(d:vs.length<64)(h:∀(out:Array bb) ys,StrsAre out.toList ys->ys.Perm ns->sortedS ys=true->Q (.ref (s.heap.objs.size+1)) {s with heap:=sortedAll s.heap vs out}):wpAny (model prog w) A (call (.builtin "sorted") [.ref l]) Q E s:=by(refine Dn kind_sorted plain_sorted entry_sorted (args_sorted1 (.ref l)) ?_;unfold Builtin.«sorted»;have col:∀{R:List bb->cc->Prop}{f:di},R vs { s with heap:=(s.heap.push (seqObj "list" #[] 0)).update s.heap.objs.size (Obj.mapSeq (·++vs.toArray)) }->wpAny (model prog w) A.in1 (collect (.ref l)) R f s:=λ{R f} r=>by rcases a with a|a;{exact collect_list a r (by rw[dz];lia)};exact uR a (by rw[dz];lia) r);refine bv (m:=checkCount "sorted" 1 1 [Value.ref l].length) (cq (bv (col (bv (re ?_ (by rw[dz];lia))))));have Z:((s.heap.push (seqObj "list" #[] 0)).update s.heap.objs.size (Obj.mapSeq (·++vs.toArray))).objs.size=s.heap.objs.size+1:=(BO ..).trans (ub ..);have G:(((s.heap.push (seqObj "list" #[] 0)).update s.heap.objs.size (Obj.mapSeq (·++vs.toArray))).push (seqObj "list" vs.toArray 0)).get? (s.heap.objs.size+1)=some (seqObj "list" vs.toArray 0):=Z ▸ fi _ rfl;show wpAny _ _ _ _ _ { s with heap:=((s.heap.push (seqObj "list" #[] 0)).update s.heap.objs.size (Obj.mapSeq (·++vs.toArray))).push (seqObj "list" vs.toArray 0) };rw[Z];refine bv (il (jp BP #[_,G,rfl] BQ (list_sort_treeK strKind_oneLt (s:={ s with heap:=((s.heap.push (seqObj "list" #[] 0)).update s.heap.objs.size (Obj.mapSeq (·++vs.toArray))).push (seqObj "list" vs.toArray 0) }) G sa.keysOf (λv1 v2 r e=>keyKind_strs (by rw[<- e];exact sa)) d λS p1 p2=>#[_,rfl,?_]) (args_list_sort _)));exists zs,D,B,o,sorted_out_str sa p1 p2;exact cq #[_,rfl,h _ zs D B o]
end
def yx(K:Fg):List V->Hp->VK->Prop:=λU H Q=>∃(p:Addr) (vs:List V) (ks:List N),U=[.ref p]/\(fe K H p vs\/SqT K H p vs)/\bL K H ks vs/\mm ks=true/\∀l q,H l=none->kG ks q->Q (.ref l) (upd H l (.lst (q.map λi=>vs.getD i .non)))
def uU{p:Addr}{vs:List V}(I:L2.Inv X aA σ H s)(h:fe X.K H p vs\/SqT X.K H p vs):∃its:List bb,aL vs its/\(s.heap.IsList p its.toArray\/IsTup s.heap p its.toArray):=by rcases h with h|h;{exists its,r,pl,_,I.list h;exact#[its,r,.inl pl.isList]};exists its,r,pl,_,SqT.plain I h;exact#[its,r,.inr pl.isTup]
theorem RZ(D:X.A.units+64<cLine):eD X (.builtin "sorted") (yx X.K):=by
 intro aA s σ H U us Q I r h;exists p,vs,ks,rfl,hp,hn,ok,q,h;exists u,rfl,B,gP r;cases B;exists its,l,pl,uU I hp;unfold mm at ok;simp only[cw,jr,fw,fq]at ok;obtain⟨⟨⟨L,J⟩,N⟩,d⟩:=ok;have G:_<1000000:=hB d kD;have S:its.length=vs.length:=l.length.symm;have lv:=hn.nth.1;have ta:fP s.heap its ks:=Hg (bL.is (λx _ v u a b=>eh.is I x v u a b) hn l);refine RU D pl ta L N J d λw W=>?_;exists e,F,sortedAll_at s.heap its (w.map λi=>its.getD i .none).toArray;have m:w.length=ks.length:=by rw[W.perm.length_eq,rg]
 have le:(w.map λi=>vs.getD i V.non).length<=sizeLine:=by rw[d3,m,dz];lia
 have f:aL (w.map λi=>vs.getD i V.non) (w.map λi=>its.getD i Value.none):=GO λi E=>GP l (by
  have:=W.perm.mem_iff.mp E;rw[pa]at this;lia)
 exact#[.ref (s.heap.objs.size+1),_,I.laid (t':=s.toks) (λb o e=>sortedAll_old e) (p8 _) (show bK X.prog X.w _ _ _ (.lst (w.map λi=>vs.getD i V.non))from#[le,_,e,f,F]),rfl,q _ w (I.hok.fresh (p8 _)) W]
def yy(K:Fg):List V->Hp->VK->Prop:=λU H Q=>∃(p:Addr) (ns:List Str),U=[.ref p]/\(fe K H p (ns.map V.str)\/SqT K H p (ns.map V.str))/\ns.length<64/\∀l,H l=none->Q (.ref l) (upd H l (.lst ((eQ ns).map V.str)))
theorem R5:eD X (.builtin "sorted") (yy X.K):=by intro aA s σ H U us Q I r h;exists p,ns,rfl,hp,m,q,h;exists u,rfl,a,gP r;cases a;exists its,d,pl,uU I hp;have sa:=FQ d;have l:its.length=ns.length:=sa.length;refine RY pl sa (by rw[l];exact m) λout ys f py S=>?_;(exists e,A,sortedAll_at s.heap its out;have E:ys=eQ ns:=RX (Hk S) py;have le:((eQ ns).map V.str).length<=sizeLine:=by rw[d3,<- E,py.length_eq,dz];lia);exact#[.ref (s.heap.objs.size+1),_,I.laid (t':=s.toks) (λb o e=>sortedAll_old e) (p8 _) (show bK X.prog X.w _ _ _ (.lst ((eQ ns).map V.str))from#[le,out.toList,e,by rw[<- E];exact GJ f,by simpa using A]),rfl,q _ (I.hok.fresh (p8 _))]
def eD.or{f:bb}{d a:List V->Hp->VK->Prop}(m:eD X f d)(l:eD X f a):eD X f (λU H Q=>d U H Q\/a U H Q):=λaA s σ H U us Q I r h=>by rcases h with h|h;{exact m aA s σ H U us Q I r h};exact l aA s σ H U us Q I r h
def seqD:D->Option (List D)|.lst ds|.tup ds=>some ds|_=>none
def eJ:List (Md×D)->Option (Md×D)
 |[(_,d)]=>match seqD d with|some ds=>(match qj ds with|some ns=>if ns.length<64 then some (.fr,.lst ((eQ ns).map .str))else none|none=>match cT ds with|some ks=>if mm ks=true then some (.fr,.lst (nDL (dC ks)))else none|none=>none)|none=>none
 |_=>none
theorem Rp.seqD{K:Fg}{F:Hp}{m:Md}{d:D}(s:aE F H)(e:D3.seqD d=some ds)(r:Rp K F H m d v):∃a U,v=.ref a/\(fe K H a U\/SqT K H a U)/\aD K F ds U:=by cases d with|lst es=>cases e;exists a,U,rfl,q,f,r.seqL s;exact#[a,U,rfl,.inl q,f]|tup es=>cases e;exists a,U,rfl,q,f,r.seqT s;exact#[a,U,rfl,.inr q,f]|_=>cases e
def R7(G:X.A.units+64<cLine):gT X (.builtin "sorted") eJ:=by refine#[_,eD.or R5 (RZ G),λF H U vs k d Q s D e w=>?_];unfold eJ at e;split at e;{rename_i m N;exists v,rfl,r,D.one;split at e;{rename_i ds L;exists a,U,rfl,q,B,Rp.seqD s L r;split at e;{rename_i ns en;split at e;{rename_i o;cases e;exists rfl,K,GK en B;exact .inl #[a,ns,rfl,q,o,λl f=>w (.ref l) F _ (aG.fresh _ s f) #[l,rfl,s.free f,_,a8,GL λx E=>K x ((uT ns).mem_iff.mp E)] λ_ a ea=>by cases ea;exact f]};cases e};split at e;{rename_i ks en;split at e;{rename_i o;cases e;have hn:=nR en B;refine .inr #[a,U,ks,rfl,q,hn.map (λx _ v z=>eh.mono s x v z),o,λl p f W=>w (.ref l) F _ (aG.fresh _ s f) #[l,rfl,s.free f,_,a8,?_] λ_ a ea=>by cases ea;exact f];rw[<- W.eq,fB,gv];refine uE λi J=>?_;have:=W.perm.mem_iff.mp J;rw[pa]at this;exact qL _ _ (hn.nth.2 i this)};cases e};cases e};cases e};cases e
section
variable{A:dj}{E:di}{d:Addr}{o:Obj}{es:Array DictEntry}
def Hl(f:(d==sysModules)=false)(ho:s.heap.get? d=some o)(l:o.ExactDict)(hd:o.data=.dict es ep)(q:Q (.ref s.heap.objs.size) { s with heap:=s.heap.push { cls:=.type "dict_keyiterator",data:=.fields (List.toArray [.ref d,.int 0 0,.int es.size 0,.int ep 0]) } }):wpAny (model prog w) A (pyIter (.ref d)) Q E s:=by have a:s.TypeIs (.ref d) "dict":=#[o,ho,l.1];refine De a F.slot_dict_iter (jp F.slot_dict_iter a F.entry_dict_iter ?_ (F.args_dict_iter_1 (.ref d)));unfold Builtin.«dict.__iter__» Builtin.Dict.dictSlotNone;refine bv (bv (wpAny_notOrdered_dict a (cq ?_)));show wpAny (model prog w) _ (Builtin.Dict.showsAll d>>=_) _ _ s;unfold Builtin.Dict.showsAll;rw[ba (λz=>by rw[f]at z;cases z)];refine bv (cq (bv (Do ho hd (bv (Dp ho hd ?_)))));refine bv (je (cq #[.ref s.heap.objs.size,rfl,"dict_keyiterator",_,#[_,fi _ rfl,rfl],F.slot_dict_keyiterator_next.lookup,?_]));simpa[rawInt]using q
theorem Hm{e:DictEntry}{Q:Option bb->cc->Prop}(hit:s.heap.IsKeyIter it d i es.size ep)(ho:s.heap.get? d=some o)(hd:o.data=.dict es ep)(B:es[i]? = some e)(q:∀h',h'.IsKeyIter it d (i+1) es.size ep->Heap.SameBut it s.heap h'->Q (some e.key) {s with heap:=h'}):wpAny (model prog w) A (pyNext (.ref it)) Q E s:=by
 exists D,f,r,a,id hit;exists m,rfl,CM.mp B;unfold pyNext;refine bv (tu (nA (name:=Str.ofString "__next__") hit.typeIs BR (jp BR hit.typeIs Fs ?_ (Ft (.ref it)))));refine bv (cq (bv (bv ?_)))
 first|refine bv (BS hit.typeIs (cq (bv (tA f a ?_))))|refine bv (BU hit.typeIs (cq (bv (tA f a ?_))))
 simp only[show Builtin.Dict_items.ownsTuple "dict_keyiterator"=false by decide,io,jd]
 show wpAny _ _ (if(Value.ref d==Value.none)=true then _ else _) _ _ s;rw[ba (λ(z:(Value.ref d==Value.none)=true)=>gr z)];refine bv (cq (bv (Do ho hd ?_)));rw[ba (by simp)]
 refine bv (cq (bv (Dp ho hd ?_)));rw[ba (by simp)]
 refine cq ?_;simp only[show ¬ ((i:Int)<0)from by lia,jd,ph,BK m]
 refine bv ?_
 first|refine bv (BS hit.typeIs (cq (bv (Dq hit.typeIs ?_))))|refine bv (BU hit.typeIs (cq (bv (Dq hit.typeIs ?_))))
 show wpAny _ _ (setField (.ref it) 1 (rawInt ((i:Int)+1))>>=_) _ _ s;refine bv (q7 f a (by simp) ?_)
 have l:(s.heap.update it (Obj.mapFields (·.setIfInBounds 1 (rawInt ((i:Int)+1))))).IsKeyIter it d (i+1) es.size ep :=
  #[_,pk _ f (BD (p9 a _)),(BE ..).trans r,by rw[p9 a];simp[rawInt]]
 refine bv (il (bv (Dq (s:={s with heap:=s.heap.update it (Obj.mapFields (·.setIfInBounds 1 (rawInt ((i:Int)+1))))}) l.typeIs ?_)))
 show wpAny _ _ (pure es[i].key) _ _ _;exact cq (cq #[_,rfl,cq (q _ l (lw ..))])
end
theorem Hn{A:dj}{E:di}{d:Addr}{o:Obj}{es:Array DictEntry}{Q:Option bb->cc->Prop}(B:A.handled=none)(hit:s.heap.IsKeyIter it d i es.size ep)(ho:s.heap.get? d=some o)(hd:o.data=.dict es ep)(hi:es.size<=i)(q:∀h',Heap.ExtBut it s.heap h'->Q none {s with heap:=h'}):wpAny (model prog w) A (pyNext (.ref it)) Q E s:=by exists D,f,r,l,id hit;unfold pyNext;refine bv (tu (nA (name:=Str.ofString "__next__") hit.typeIs BR (jp BR hit.typeIs Fs ?_ (Ft (.ref it)))));refine bv (cq (bv (bv ?_)));(first|refine bv (BS hit.typeIs (cq (bv (tA f l ?_))))|refine bv (BU hit.typeIs (cq (bv (tA f l ?_)))));simp only[show Builtin.Dict_items.ownsTuple "dict_keyiterator"=false by decide,io,jd];show wpAny _ _ (if(Value.ref d==Value.none)=true then _ else _) _ _ s;rw[ba (λ(z:(Value.ref d==Value.none)=true)=>gr z)];refine bv (cq (bv (Do ho hd ?_)));rw[ba (by simp)];refine bv (cq (bv (Dp ho hd ?_)));rw[ba (by simp)];refine cq ?_;simp only[show ¬ ((i:Int)<0)from by lia,jd,ph,Array.getElem?_eq_none hi];refine bv ?_;(first|refine bv (BS hit.typeIs (cq ?_))|refine bv (BU hit.typeIs (cq ?_)));show wpAny (model prog w) _ (setField (.ref it) 0 .none>>=_) _ _ s;refine bv (q7 f l (by simp) ?_);show wpAny (model prog w) _ (newExc (.type "StopIteration") []>>=_) _ _ _;refine bv ?_;simp only[newExc,newTuple];refine bv (je (bv (m:=firstArgMember _ _) (vi (a:=Value.none) (by first|rfl|(simp only[firstArgMember];rfl)) (je ?_ (by size_fits)))) (by size_fits));simp only[raiseNew];refine bv (wpAny_handled ?_);rw[show A.in1.handled=none from B];refine bv (cq (wpAny_throw ?_));refine bv (p7 (b:=true) (T:="StopIteration") #[_,fi _ rfl,rfl] isSubtype_stop ?_);exact cq (q _ (((lw ..).extBut.push _).push _))
def Eb(d:Addr)(o:Obj)(U:List (N×Addr×V)):It :=
 #[λi H=>H d=some (.frz o (.dN U))/\i<U.length,λi H x H'=>H'=H/\∃p,U[i]? = some p/\x=.ref p.2.1,λi H=>H d=some (.frz o (.dN U))/\U.length<=i]
def KN.nth{U:List (N×Addr×bb)}(r:KN kvs U):U.length=kvs.length/\∀(i:Nat) (p:N×Addr×V),kvs[i]? = some p->∃u,U[i]? = some (p.1,p.2.1,u):=by induction r with|nil=>exact#[rfl,λi p h=>by simp at h]| @cons a b as bs h t d=>refine#[by simp[d.1],λi p hp=>?_];cases i with|zero=>(have hp:a=p:=by simpa using hp);subst hp;refine#[b.2.2,?_];rw[h.1,h.2.1];rfl|succ i=>have:=d.2 i p (by simpa using hp);simpa using this
def qQ{d:Addr}{o:Obj}{U:List (N×Addr×V)}(ok:gh P w H h)(hd:H d=some (.frz o (.dN U))):(d==sysModules)=false/\∃es,h.get? d=some o/\o.ExactDict/\o.data=.dict es (ou o)/\es.size=U.length/\∀(i:Nat) (p:N×Addr×V),U[i]? = some p->∃e,es[i]? = some e/\e.key=.ref p.2.1:=by exists g,z,y,vs,r,D,es,ep,f,B,A,a,E,ok d _ hd;rw[g]at f;cases f;exists l,n,KN.nth r;refine#[y,es,g,B,by unfold ou;rw[A],by rw[<- lc,a,d3,l],λi p hp=>?_];exists u,m,n i p hp;refine#[yC w (p.1,p.2.1,u),?_,rfl];rw[<- vj,a,h7,m];rfl
theorem R8{K:Fg}(d it:Addr)(o:Obj)(U:List (N×Addr×V)):hZ P w K tg (Eb d o U) [it] it (λi h=>h.IsKeyIter it d i U.length (ou o)) where
 mem:=by simp
 obj:=λi h st b f=>by(have e:b=it:=by simpa using f);subst e;exists o,e,c,d,st;exact#[o,e,λv z=>by rw[d]at z;cases z]
 keep:=λi h h' st k=>st.at λo e=>k it (by simp) o e
 item:=by intro X A l B J i aA s σ H E I hf st hg;subst A l B;exists hd,r,hg;exists ns,es,g,L,G,sz,n,qQ I.hok hd;exists f0,f1,f2,f3,D,F,hf it (by simp);exists e,S,ke,n i U[i] (by simp[r]);rw[<- sz]at st;refine Hm st g G S λh' a m=>?_;have I1:L2.Inv X aA σ H {s with heap:=h'}:=I.turned (t':=s.toks) (λb o f e=>m.extBut b o f e) f0 f1 f3 D F;rw[sz]at a;exists o1,W,c1,Z,id a;refine#[e.key,rfl,mZ (s:={s with heap:=h'}) W c1 Z (by decide) #[.ref U[i].2.1,H,I1,ke,#[rfl,U[i],by simp[r],rfl],a,λb f=>(hf b f).1]]
 done:=by intro X A l B J i aA s σ H E I hf st hg;subst A l B;exists hd,r,hg;exists ns,es,g,L,G,sz,n,qQ I.hok hd;exists f0,f1,f2,f3,D,F,hf it (by simp);exact Hn (I.ok.hd J) (by rw[sz];exact st) g G (by lia) λh' T=>#[rfl,I.turned (t':=s.toks) (λb o f e=>T b o f e) f0 f1 f3 D F]
 self:=λ_ _ _ _ _ st h=>Dj st h
def Ho(tl:TE):TI:=λσ H R=>tl σ H λx H1=>∃d o U,x=.ref d/\H1 d=some (.frz o (.dN U))/\R (Eb d o U) H1
def yz{l:Expr}(m:PE X l tl):PI X tg l (Ho tl):=by intro aA s σ H R I h;refine thn (m aA s σ H _ I h) λv S ⟨x,H1,a,r,q1⟩=>?_;exists d,o,U,e,hd,q,q1;subst e;cases r;exists ns,es,g,f,D,sz,n,qQ a.hok hd;refine Hl ns g f D ?_;rw[sz];have B:L2.Inv X aA σ H1 { S with heap:=S.heap.push { cls:=.type "dict_keyiterator",data:=.fields (List.toArray [.ref d,.int 0 0,.int U.length 0,.int (ou o) 0]) } }:=a.kept (t':=S.toks) λb o e=>hps e;(refine#[S.heap.objs.size,[S.heap.objs.size],_,_,_,rfl,B,R8 d _ o U,#[_,fi _ rfl,rfl,rfl],λb A=>?_,q];have e:b=S.heap.objs.size:=by simpa using A);subst e;exact a.fpOk (dm _) (a.hok.fresh (dm _))
theorem aQ.nth{K:Fg}{F:Hp}:∀{kvs:List (N×D)}{U:List (N×Addr×V)},aQ K F kvs U->∀(i:Nat) (p:N×Addr×V),U[i]? = some p->∃d,kvs[i]? = some (p.1,d)/\eh K F p.1 (.ref p.2.1)|[],U,h,i,p,e=>by simp only[aQ]at h;subst h;simp at e|(k,d)::kvs,U,h,i,p,e=>by simp only[aQ]at h;exists b,y,ys,rfl,q,r,t,h;cases i with|zero=>(have e:(k,b,y)=p:=by simpa using e);subst e;exact#[d,rfl,q.1]|succ i=>have:=t.nth i p (by simpa using e);simpa using this
def R9{K:Fg}{F:Hp}{a:Addr}{o:Obj}{kvs:List (N×D)}{U:List (N×Addr×V)}(l:F a=some (.frz o (.dN U)))(r:aQ K F kvs U):lH K F (Eb a o U) (kvs.map λkv=>nD kv.1) where
 go:=λi H s f=>#[s _ _ l,by rw[r.len];simpa using f]
 stop:=λi H s f=>#[s _ _ l,by rw[r.len];simpa using f]
 yld:=λi Fc H x H' m S f y=>by exists rfl,p,hp,rfl,y;exists d,hd,hn,r.nth i p hp;exact#[Fc,nD p.1,by rw[h7,hd];rfl,.refl S,qL _ _ (eh.mono m _ _ hn)]
def qR(r:Res):Res:=r.thn λ_ d=>match d with|.dtf kvs=>.ok .fz (.lst (kvs.map λkv=>nD kv.1))|_=>.stuck
def Sa(h:PV C X e g):kz C X tg e (λY=>qR (g Y)):=by refine PI.imp (yz h) λσ H R q=>?_;exists Y,F,A,w,q;dsimp only at w;unfold Ho;rw[aR];refine#[Y,F,A,?_];unfold qR at w;cases E:g Y with|stuck=>rw[E]at w;exact w.elim|exc c=>rw[E]at w;exact w|ok m d=>rw[E,Res.thn_ok]at w;intro v F' H' st f _;cases d with|dtf kvs=>(cases m with|fz=>have f:aB X.K F' (.dtf kvs) v:=f;simp only[aB]at f;exists a,o,U,rfl,l,r,f;exact#[a,o,U,rfl,st.sub _ _ l,w _ F' H' st (R9 l r)]|fr|bo=>exists a,_,_,q,f;exact q.elim)|_=>exact w.elim
def nX(Y:Rho)(i:Nat):aI:=match Y[i]? with|some (some (true,.dtn kvs))=>.nx (Y.set i (some (false,.dtf kvs)))|some (some (true,.dct kvs))=>.nx (Y.set i (some (false,.dcf kvs)))|_=>.stuck
def aT.nfrz{K:Fg}{F:Hp}{d0 d1:D}{a:Addr}{v:HO}(R:aT K F0 H0 F H σ Y)(e:Y[i]? = some (some (true,d0)))(ev:σ[i]? = some (some (.ref a)))(V:F a=none)(h0:H0 a=none)(r:aE F (upd F a v)->aB K (upd F a v) d1 (.ref a)):aE F (upd F a v)/\aT K F0 H0 (upd F a v) (upd H a v) σ (Y.set i (some (false,d1))):=by(have sm:aE F (upd F a v):=λb u q=>by rw[aP (cI q V)];exact q);(have N:i<Y.length:=(mr.mp e).1;have own:∀{j:Nat}{l:D},(Y.set i (some (false,d1)))[j]? = some (some (true,l))->j≠i/\Y[j]? = some (some (true,l)):=λ{j l} z=>by by_cases f:j=i;{subst f;rw[pb N]at z;cases z};rw[jo (λy=>f y.symm)]at z;exact#[f,z]);refine#[sm,#[λb u q=>?_,λb u q=>?_,λb u q=>?_,λb q1 G=>?_],λj m l A=>?_,λj k d1 d2 b L e1 e2 q1 G=>R.apart j k d1 d2 b L (own e1).2 (own e2).2 q1 G,by rw[pq];exact R.len];{rw[aP (cI q h0)];exact R.st.same b u q};{rw[aP (cI (R.st.fsame b u q) V)];exact R.st.fsame b u q};{by_cases T:b=a;{subst T;rw[a8]at q ⊢;exact q};rw[aP T]at q ⊢;exact R.sub b u q};{have:b≠a:=λz=>G (iX (by rw[z];exact h0));rw[aP this];exact R.st.new b q1 G};by_cases f:j=i;{subst f;rw[pb N]at A;cases A;exact#[.ref a,ev,r sm,by nofun]};rw[jo (λz=>f z.symm)]at A;exists W,E,o,J,R.slot j m l A;refine#[W,E,?_,J];cases m with|false=>exact aB.mono sm _ _ o|true=>(exists b,rfl,Z,t',o;have B:b≠a:=λz=>by subst z;exact R.apart j i l _ b f A e E ev);refine#[b,rfl,by rw[aP B];exact Z,?_];cases l with|lst ds|dct ds=>exists ys,q,d,t';exact#[ys,by rw[aP B];exact q,d.mono sm _ _]|ins c fs=>exists C,dx,gs,n,q,d,t';exact#[C,dx,gs,n,by rw[aP B];exact q,d.mono sm _ _]|set ks=>exists S,q,d,t';exact#[S,by rw[aP B];exact q,d]|dtn ds=>exists ys,q,d,t';exact#[ys,by rw[aP B];exact q,d.mono sm _ _]|_=>exact t'.elim
def Sb{g:Rho->aI}(h:kf C X sts g):kf C X sts (λY=>(nX Y i).thn g):=by intro aA s σ H E I q;exists Y,F,R,w,q;dsimp only at w;unfold nX at w;split at w;{rename_i kvs e;exists v,ev,f,hn,R.slot i true _ e;exists a,rfl,l,U,d,r,f;have ok:=I.hok a _ d;exists _,_,_,_,o,_,_,G,_,id ok;have m:=I.write (x:=a) (e:=a) (o:=.frz o (.dN U)) (t':=s.toks) (h':=s.heap) (by rw[d];exact trivial) (.inl rfl) (λ_ _ _ q=>q) #[_,G] #[G,ok.stay (λ_ _ _ q=>q) (λc q=>by rw[aP (λz=>by rw[z,d]at q;cases q)];exact q) λc ys q=>by rw[aP (λz=>by rw[z,d]at q;cases ys <;> cases q)];exact q];(exists sm,R2,aT.nfrz (v:=.frz o (.dN U)) (d1:=.dtf kvs) R e ev l (hn rfl a rfl) λsm=>by simp only[aB];exact#[a,o,U,rfl,a8,r.mono sm _ _]);exact h aA s σ _ E m #[_,_,R2,cS.mono sm w]};{rename_i kvs e;exists v,ev,f,hn,R.slot i true _ e;exists a,rfl,l,U,d,r,f;have ok:=I.hok a _ d;exists _,_,_,_,o,_,_,G,_,id ok;have m:=I.write (x:=a) (e:=a) (o:=.frz o (.dK U)) (t':=s.toks) (h':=s.heap) (by rw[d];exact trivial) (.inl rfl) (λ_ _ _ q=>q) #[_,G] #[G,ok.stay (λ_ _ _ q=>q) (λc q=>by rw[aP (λz=>by rw[z,d]at q;cases q)];exact q) λc ys q=>by rw[aP (λz=>by rw[z,d]at q;cases ys <;> cases q)];exact q];(exists sm,R2,aT.nfrz (v:=.frz o (.dK U)) (d1:=.dcf kvs) R e ev l (hn rfl a rfl) λsm=>by simp only[aB];exact#[a,o,U,rfl,a8,r.mono sm _ _]);exact h aA s σ _ E m #[_,_,R2,cS.mono sm w]};exact w.elim
def slot0{t:SetTable}(hp:t.place = #[])(hd:t.dummies = #[])(j:Nat):t.slot j=.empty:=by unfold SetTable.slot SetTable.has;rw[hp,hd];rfl
def Sc(j1 j:Nat):SetTable.below (List.toArray [j1]) j=if j1<j then 1 else 0:=by show SetTable.below.go (List.toArray [j1]) j 1 0 1=_;unfold SetTable.below.go;rw[aK (by decide)];show(if((List.toArray [j1]):Array Nat).getD 0 j<j then SetTable.below.go (List.toArray [j1]) j 0 1 1 else SetTable.below.go (List.toArray [j1]) j 0 0 0)=_;have e:((List.toArray [j1]):Array Nat).getD 0 j=j1:=rfl;rw[e];by_cases h:j1<j;{rw[aK h,aK h];rfl};rw[ba h,ba h];rfl
section
variable{A:dj}{E:di}
def y1(k:N):∀{n:Nat}{v:bb}{Q:Bool->cc->Prop},dg s.heap k v->(∀b,Q b s)->wpAny (model prog w) A (hashByValue n v) Q E s:=by induction k using N.ind with|hi m=>intro n v Q hk h;rw[dg]at hk;exists t,rfl,hk;cases n <;> exact cq (h _)|hs x=>intro n v Q hk h;rw[dg]at hk;obtain⟨⟨t,rfl⟩,_⟩:=hk;cases n <;> exact cq (h _)|ht U l=>intro n v Q hk h;rw[dg]at hk;exists a,o,items,c,rfl,ho,G,hd,hi,hk;cases n with|zero=>exact cq (h _)|succ n=>have J:s.TypeIs (.ref a) "tuple":=#[o,ho,G];unfold hashByValue;refine bv (oh J F.slot_tuple_hash.lookup ?_);dsimp only;unfold seqItems?;refine bv (bv (tf ho ?_));rw[hd];refine cq ?_;refine bv ?_;show wpAny _ _ (forIn items _ _) _ _ s;rw[<- C7];refine vd _ (λrest r O=>O=s/\∀v∈rest,∃x∈U,dg s.heap x v) _ ?_ ?_ _ _ #[rfl,hi.mem];{rintro v rest r O ⟨rfl,hall⟩;exists x,B,D,hall v c6;refine bv (l x B (n:=n) D λb=>?_);cases b with|true=>exact cq #[rfl,λu d=>hall u (df d)]|false=>exact cq (by first|exact#[rfl,λu d=>hall u (df d)]|exact cq (h _))};rintro⟨f,K⟩ O ⟨rfl,_⟩;cases f with|none|some b=>exact cq (h _)
end
def uV(w:dh)(p:N×Addr):Int×bb:=(eC w p.1,.ref p.2)
def iI(h:Heap)(p:N×Addr):Prop:=dg h p.1 (.ref p.2)/\p.1.dp<=8
def Sd(w:dh)(h:Heap)(a:Addr)(ps:List (N×Addr)):Prop:=∃o es ep t,h.get? a=some o/\o.ExactSet/\o.data=.set es ep t/\es.toList=ps.map (uV w)/\ps.length<=4/\t.fits es.size=true/\t.led = !eG w/\yj t
def cU(w:dh)(h:Heap)(a:Addr)(p:N×Addr):Prop:=∃o ep t,h.get? a=some o/\o.ExactSet/\o.data=.set (List.toArray [uV w p]) ep t/\t.mask=7/\t.dummies = #[]/\t.place = (List.toArray [SetTable.bits (eC w p.1) % 8])/\t.led = !eG w
section
variable{A:dj}{E:di}{a:Addr}{x:N}
def y2{t:SetTable}{p:N×Addr}(d:t.mask=7)(hd:t.dummies = #[])(hp:t.place = (List.toArray [SetTable.bits (eC w p.1) % 8])):t.fits ((List.toArray [uV w p]):Array (Int×bb)).size=true:=by unfold SetTable.fits SetTable.fill;rw[d,hd,hp];rfl
def y3{Q:SetFound->cc->Prop}{o:Obj}{t:SetTable}{h:Int}(ho:s.heap.get? a=some o)(hd:o.data=.set #[] ep t)(l:t.mask=7)(hp:t.place = #[])(d:t.dummies = #[])(q:Q (.free (SetTable.bits h % 8) false) s):wpAny (model prog w) A (setSearch a (.ref b) h (adding:=true)) Q E s:=by
 have m:t.fits (#[]:Array (Int×bb)).size=true:=by unfold SetTable.fits SetTable.fill;rw[l,hp,d];rfl
 unfold setSearch setSearchFrom;refine bv (rh ho hd m ?_);dsimp only;have G:t.gaveWay=false:=by unfold SetTable.gaveWay;rw[l];rfl
 rw[G];simp only[io,jd];have e:∀f:Nat->Int,t.probe f h (t.probeStart h)=some (.empty (SetTable.bits h % 8) none):=λf=>by unfold SetTable.probe;rw[l];show SetTable.probe.go t f h (219+1) _=_;unfold SetTable.probe.go;rw[slot0 hp d];show some (SetTable.Met.empty (SetTable.bits h % (t.mask+1)) none)=_;rw[l]
 rw[pr,e];exact cq q
def Se{o:Obj}{es d:Array (Int×bb)}{t t':SetTable}(ho:h.get? a=some o)(hd:o.data=.set es ep t):(h.update a (Obj.putSet d t')).get? a=some {o with data:=.set d (ep+1) t'}:=by exists m,l,f,os,o;dsimp only at hd;subst hd;exact pk (Obj.putSet d t') ho rfl
theorem Sf{Q:Bool->cc->Prop}(F:A.units+8<cLine)(G:s.heap.get? a=some (sob w))(K:iI s.heap (x,b))(q:∀h',Heap.SameBut a s.heap h'->cU w h' a (x,b)->Q true {s with heap:=h',toks:=s.toks+x.dr}):wpAny (model prog w) A (setAdd a (.ref b)) Q E s:=by
 unfold setAdd;refine il (bv (zM x (by have:=K.2;dsimp only at this;lia) K.1 ?_))
 unfold setAddHashed setAddHashedIn;refine il (bv (rh (s:={s with toks:=s.toks+x.dr}) G rfl rfl ?_))
 dsimp only;rw[ba (λz=>by cases z)]
 refine bv (y3 (s:={s with toks:=s.toks+x.dr}) G rfl rfl rfl rfl ?_)
 dsimp only;refine bv (rh (s:={s with toks:=s.toks+x.dr}) G rfl rfl ?_)
 dsimp only;have l:∀{R:Bool->cc->Prop}{d:di},(∀v,R v {s with toks:=s.toks+x.dr})->wpAny (model prog w) A (if((SetTable.fresh 0 0 (!eG w)).put (SetTable.bits (eC w x) % 8)).1.plain=true then hashByValue 8 (.ref b)else pure true) R d {s with toks:=s.toks+x.dr}:=λ{R d} r=>by split;{exact y1 x K.1 r};exact cq (r _)
 refine bv (l λv=>?_);refine bv (wpAny_storeSet_of (s:={s with toks:=s.toks+x.dr}) G rfl ?_ (by show 1<=_;decide))
 have f:∀t':SetTable,t'.mask=7->t'.dummies = #[]->t'.place = (List.toArray [SetTable.bits (eC w x) % 8])->t'.led = !eG w->Q true {s with heap:=s.heap.update a (Obj.putSet (SetTable.insertAt #[] 0 (eC w x,Value.ref b)) t'),toks:=s.toks+x.dr}:=λt' D B o m =>
  q _ (lw ..) #[_,_,t',Se G rfl,#[rfl,rfl,rfl],rfl,D,B,o,m]
 cases v with|true|false=>exact cq (f _ rfl rfl rfl rfl)
def cU.kept{p:N×Addr}(X:cU w h a p)(k:∀o,h.get? a=some o->h'.get? a=some o):cU w h' a p:=by exists o,ep,t,ho,r,X;exact#[o,ep,t,k o ho,r]
end
open PySem.W
theorem uW{α d:Type}{f:α->d}:∀{l:List d}{ps:List α},l.Perm (ps.map f)->∃a:List α,a.Perm ps/\l=a.map f|[],ps,h=>by(have:=h.symm.eq_nil;have e:ps=[]:=by simpa using this);subst e;exact#[[],.refl _,rfl]|x::l,ps,h=>by exists p,hp,rfl,d7.mp (h.mem_iff.mp c6);exists s,t,rfl,List.append_of_mem hp;have m:(s++p::t).Perm (p::(s++t)):=List.perm_middle;exists a,q1,o,uW ((h.trans (m.map f)).cons_inv);exact#[p::a,(q1.cons p).trans m.symm,by rw[o];rfl]
theorem iI.kept{p:N×Addr}(k:iI h p)(kp:∀a o,h.get? a=some o->o.cls=.type "tuple"->h'.get? a=some o):iI h' p:=#[dg.kept _ k.1 kp,k.2]
def pl1(w:dh)(p i:Nat):Nat:=if eG w=true\/i=0 then 0 else p+1
section
variable{A:dj}{E:di}{a:Addr}{p:Nat}{o:Obj}{t:SetTable}{e:Int×bb}
def Sg{next:Nat->Nat}:pickOrder next (List.toArray [e]) = (List.toArray [e]):=by(show pickOrder.go next 1 0 [e] #[]=_;unfold pickOrder.go;rw[show([e]:List (Int×bb)).length=1 from rfl,Nat.mod_one]);rfl
def Hq{Q:Option (bb×Nat)->cc->Prop}(hi:i<=1)(ho:s.heap.get? a=some o)(hd:o.data=.set (List.toArray [e]) ep t)(f:t.fits ((List.toArray [e]):Array (Int×bb)).size=true)(hp:t.place = (List.toArray [p]))(d:t.led = !eG w)(q:Q (if i=0 then some (e.2,pl1 w p 1)else none) s):wpAny (model prog w) A (setNext a (pl1 w p i) i ep) Q E s:=by
 unfold setNext;refine bv (rh ho hd f (bv (uA ?_)));unfold pl1 at q ⊢;cases bt:eG w with
 |true=>rw[bt]at q;unfold setWalk;simp only[↓reduceIte,ua,io];refine bv (bv (rh ho hd f (bv (uA ?_))));simp only[bt,↓reduceIte];refine bv (BG (cq (cq ?_)));rw[Sg];rcases Fu.mp hi with rfl|rfl;{exact q};exact q
 |false=>rw[bt]at q d;simp only[↓reduceIte,io];show wpAny _ _ (if(!t.plain&&false)=true then _ else _) _ _ _;rw[Bool.and_false,ba gr];show wpAny _ _ ((if(!t.led&&true)=true then _ else _)>>=_) _ _ _;rw[d];refine bv (cq ?_);rw[hp,Sc];rcases Fu.mp hi with rfl|rfl;{rw[ba (by simp)];exact cq q};rw[aK (by simp)];exact cq q
theorem Sh(D:A.handled=none)(r:a≠I)(hd:o.data=.set (List.toArray [e]) ep t)(l:t.fits ((List.toArray [e]):Array (Int×bb)).size=true)(hp:t.place = (List.toArray [p]))(B:t.led = !eG w):Walks prog w A I [I,a] [I] 1 (λi v=>[e.2][i]? = some v) (λi h=>ml h I a (.int (pl1 w p i:Nat) 0) i 1 ep/\h.get? a=some o) where
 sub:=λb d=>by simp at d;simp[d]
 frame:=λ_ _ _ st hk=>#[st.1.at λo e=>hk I (by simp) o e,hk a (by simp) o st.2]
 item:=λi s Q E L st f=>by(have i0:i=0:=by lia);subst i0;exact Rf (es:=(List.toArray [e])) st.1 st.2 hd l (λ{K J G} q=>Hq (by decide) st.2 hd l hp B q) λh' S F=>f _ h' s.toks rfl #[F,S.extBut a o r st.2] λb m d e=>S.extBut b m (λh=>d (by simp[h])) e
 done:=λs Q E st f=>Rg (es:=(List.toArray [e])) D st.1 st.2 hd l (λ{K J G} q=>Hq (by decide) st.2 hd l hp B q) λh' kp=>f h' s.toks λb m d e=>kp b m (λh=>d (by simp[h])) e
 self:=λ_ _ _ _ st f=>Rb st.1 f
variable{x:N×Addr}
def cU.ty(X:cU w s.heap a x):s.TypeIs (.ref a) "set":=let⟨o,_,_,ho,d,_⟩:=X;#[o,ho,d.1]
def cU.there(X:cU w h a x):a<h.objs.size:=let⟨_,_,_,ho,_⟩:=X;dv ho
def Si(B:A.handled=none)(X:cU w s.heap a x)(q:∀(I:Addr) (h':Heap) (St:Nat->Heap->Prop),Walks prog w A I [I,a] [I] 1 (λi v=>[Value.ref x.2][i]? = some v) St->St 0 h'->(∀b o,s.heap.get? b=some o->h'.get? b=some o)->s.heap.objs.size=I->Q (.ref I) {s with heap:=h'}):wpAny (model prog w) A (pyIter (.ref a)) Q E s:=by
 exists o,ep,t,ho,D,hd,l,f,hp,r,id X;have d:=y2 (w:=w) (p:=x) l f hp;refine De X.ty PySem.F.slot_set_iter (jp PySem.F.slot_set_iter X.ty Q9 ?_ (PySem.F.args_set_iter_1 _));unfold Builtin.«frozenset.__iter__»;refine bv (m:=Builtin.Frozenset.slot0 _ _) (cq (bv ?_));unfold Builtin.Frozenset.sizeOf;refine bv (Df ho hd d (cq (bv ?_)));unfold setDrawn;refine bv (rh ho hd d (bv (uA (cq ?_))));dsimp only;rw[ba (λz=>by
  have z:(!eG w&&(!t.plain&&false))=true:=z;simp at z)]
 exact bv (cq (bv (wpAny_setEpoch_of ho hd d (bv (je (cq #[_,rfl,"set_iterator",_,#[_,fi _ rfl,rfl],lQ.lookup,q _ _ _ (Sh (I:=s.heap.objs.size) B (gj X.there) hd d hp r) #[#[_,fi _ rfl,rfl,by unfold pl1;rw[aK (.inr rfl)];rfl],hps ho] (λb G e=>hps e) rfl]))))))
def y4{R:Result->cc->Prop}(hh:A.handled=none)(X:cU w s.heap a x)(S:Addr)(G:S≠a)(res:bb)(hS:s.heap.get? S=some { cls:=.type "list",data:=.seq #[] })(hR:∀h' tk vs c,(∀b o,b≠S->s.heap.get? b=some o->h'.get? b=some o)->h'.get? S=some { cls:=.type "list",dict:=none,data:=.seq vs c,slots:=#[] }->vs.toList=[.ref x.2]->R (.ok (.ret res)) {s with heap:=h',toks:=tk}):wpAny (model prog w) A.in1 (Builtin.List.listExtendWith (.ref S) (.ref a) res) (λT O=>match T with|.done f=>R (.ok f) O|.again c'=>c'.quiet=true/\codeAny (model prog w) A c' R O) (λe O=>R (.error e) O) s:=by
 unfold Builtin.List.listExtendWith;refine bv (mw X.ty ?_);have n1:Builtin.List.listSameRef (.ref S) (.ref a)=false:=by simp[Builtin.List.listSameRef,G]
 have n2:(Value.type "set" == Value.type "list")=false:=by decide
 have n3:(Value.type "set" == Value.type "tuple")=false:=by decide
 simp only[n1,n2,n3,Bool.or_false,io,↓reduceIte];refine bv (Si (A:=A.in1) hh X λI m St W st kp hI=>?_);have lS:S<s.heap.objs.size:=dv hS;have K:S≠I:=gj (hI ▸ lS);have D:S∉[I,a]:=by simp[K,G]
 have l:=kp S _ hS;have key:∀ (h:Heap) (c:Nat),St 0 h->(∀ b o,b ≠ S->s.heap.get? b=some o->h.get? b=some o)->h.get? S=some { cls:=.type "list",data:=.seq #[] c } ->
     codeAny (model prog w) A (.builtin "list.extend.loop" #[[.ref S,.ref I,res],[]]) R {s with heap:=h}:=by
  intro h c st' k' hS';refine codeAny_extend_loopS W.toS (by rw[dz];decide) S D res 1 0 _ #[] c rfl (gw _) st' hS' (ItemsOf.nil _) λO V c' Z d B=>?_
  rw[Moved.eq_with Z];refine hR O.heap O.toks V c' (λb o N e=>Z.heap b o (λJ=>?_) (k' b o N e)) d (Ri (items:=[Value.ref x.2]) B);rcases dq.mp J with e'|J
  . exact N e'
  . exact absurd (dv e) (by rw[fj.mp J,hI];exact jn _)
 refine bv (il (Rh (s:={s with heap:=m}) (cU.ty (s:={s with heap:=m}) (X.kept λo e=>kp a o e)) ?_))
 refine Dg (λ_=>?_) (λ_=>cq #[m4 PySem.F.plain_extend_loop _,key m 0 st (λb o _ e=>kp b o e) l]);refine bv (pz (bv ?_));show wpAny _ _ (updateSeq S (·.push Value.none)>>=λ_=>updateSeq S (·.pop)) _ _ {s with heap:=m}
 refine bv (wpAny_updateSeq (s:={s with heap:=m}) l rfl ?_)
 have d:=pk (Obj.mapSeq (·.push Value.none)) l rfl;refine wpAny_updateSeq (hz:=by seq_fits) d rfl ?_
 have L:=pk (Obj.mapSeq (·.pop)) d rfl;have r:∀b,b≠S->∀o,m.get? b=some o->((m.update S (Obj.mapSeq (·.push Value.none))).update S (Obj.mapSeq (·.pop))).get? b=some o:=λb N o e =>
  (Bp _ _ (Ne.symm N)).trans ((Bp _ _ (Ne.symm N)).trans e)
 exact cq #[m4 PySem.F.plain_extend_loop _,key _ _ (W.frame 0 _ _ st λb hb o e=>r b (λh=>D (h ▸ hb)) o e) (λb o N e=>r b N o (kp b o e)) L]
def Sj{R:List bb->cc->Prop}(m:A.handled=none)(X:cU w s.heap a x)(h:∀h' tk,(∀b o,s.heap.get? b=some o->h'.get? b=some o)->s.heap.objs.size<h'.objs.size->R [.ref x.2] {s with heap:=h',toks:=tk}):wpAny (model prog w) A (collect (.ref a)) R E s:=by
 have L:=X.there;unfold collect;refine bv (BN (kq Fv ?_));rw[mf Fw _];show wpAny (model prog w) A.in1 (newList []>>=λl=>again (.builtin "list.__iadd__" #[[l,.ref a],[]])) _ _ s;refine bv (je (cq #[m4 BV _,kq PySem.F.entry_list_iadd ?_]));rw[mf BV _];have r:(s.heap.push { cls:=.type "list",data:=.seq ([]:List Value).toArray }).get? s.heap.objs.size=some { cls:=.type "list",data:=.seq #[] }:=fi _ rfl;show wpAny (model prog w) A.in1 (Builtin.List.listExtendWith (.ref s.heap.objs.size) (.ref a) (.ref s.heap.objs.size)) _ _ _;have key:=y4 (A:=A) (prog:=prog) (s:={ s with heap:=s.heap.push { cls:=.type "list",data:=.seq ([]:List Value).toArray } })
  (R:=λq O=>∃h' tk vs c,q=.ok (.ret (.ref s.heap.objs.size))/\O={s with heap:=h',toks:=tk}/\(∀b o,s.heap.get? b=some o->h'.get? b=some o)/\h'.get? s.heap.objs.size=some { cls:=.type "list",dict:=none,data:=.seq vs c,slots:=#[] }/\vs.toList=[.ref x.2])
  m (X.kept λo e=>hps e) s.heap.objs.size (nq L) (.ref s.heap.objs.size) r
  λh' tk vs c kp G sa=>#[h',tk,vs,c,rfl,rfl,λb o e=>kp b o (gj (dv e)) (hps e),G,sa]
 have d:∀(q:Result) (O:cc),(∃h' tk vs c,q=Except.ok (Flow.ret (.ref s.heap.objs.size))/\O={s with heap:=h',toks:=tk}/\(∀b o,s.heap.get? b=some o->h'.get? b=some o)/\h'.get? s.heap.objs.size=some { cls:=.type "list",dict:=none,data:=.seq vs c,slots:=#[] }/\vs.toList=[.ref x.2])->q=Except.ok (Flow.ret (.ref s.heap.objs.size))/\wpAny (model prog w) A (load s.heap.objs.size>>=λo=>match o.data with|.seq U _=>pure U.toList|_=>unsupported "internal:collect") R E O:=λq O z=>by exists h',tk,vs,c,rfl,rfl,kp,G,sa,z;exact#[rfl,bv (tf G (cq (by rw[sa];exact h h' tk kp (dv G))))]
 refine ij key (λf O z=>?_) λe O z=>?_
 . cases f with|done f=>exists e,Z,d _ _ z;cases e;exact Z|again c1=>refine#[z.1,mz z.2 λq S y=>?_];exists rfl,Z,d _ _ y;exact Z
 . exists _,_,_,_,B,_,z;cases B
theorem Sk(T:A.units+64<cLine)(F:A.handled=none)(X:cU w s.heap a x)(K:iI s.heap x)(ok:ft x.1 x.1=true)(h:∀h' tk D e,(∀b o,s.heap.get? b=some o->h'.get? b=some o)->s.heap.objs.size<=D->h'.get? D=some (seqObj "list" (List.toArray [.ref x.2]) e)->Q (.ref D) {s with heap:=h',toks:=tk}):wpAny (model prog w) A (call (.builtin "sorted") [.ref a]) Q E s:=by refine Dn kind_sorted plain_sorted entry_sorted (args_sorted1 (.ref a)) ?_;unfold Builtin.«sorted»;refine bv (m:=checkCount "sorted" 1 1 [Value.ref a].length) (cq (bv (Sj (A:=A.in1) F X λf tk kp L=>?_)));refine bv (re ?_ (by show 1<=_;rw[dz];decide));have G:(f.push (seqObj "list" (List.toArray [Value.ref x.2]) 0)).get? f.objs.size=some (seqObj "list" (List.toArray [Value.ref x.2]) 0):=fi _ rfl;refine bv (il (jp BP #[_,G,rfl] BQ (Hf (A:=A.in1.in1) (ks:=[x.1]) (s:={ s with heap:=f.push (seqObj "list" (List.toArray [Value.ref x.2]) 0),toks:=tk }) (by show A.units+1+1+13<_;lia) G #[rfl,λi B=>?_] (λk hk=>?_) (λk hk S d=>?_) (.inl (dm 1)) (hB (by decide:1<64) nU) λp W=>#[_,rfl,?_]) (args_list_sort _)));{have i0:i=0:=Nat.lt_one_iff.mp B;subst i0;exact(K.kept λb o e _=>hps (kp b o e)).1};{rw[fj.mp hk];exact ii K.2 (by decide)};{rw[fj.mp hk,fj.mp d];exact ok};have N:p=[0]:=List.perm_singleton.mp W.perm;rw[N];exists e,J,sortedHeap_at (out:=(List.toArray [Value.ref x.2])) G;refine cq #[_,rfl,h _ tk _ e (λb o r=>?_) (sy L) J];have l:=dv (kp b o r);rw[sortedHeap_old (gj l) (by rw[ub];exact Bx l)];exact hps (kp b o r)
theorem Sl{R:Result->cc->Prop}{St:Nat->Heap->Prop}{P:Nat->bb->Prop}(hu:A.units+16<cLine)(W:Walks prog w A.in1 I fp [I] 1 P St)(p1:∀v,P 0 v->v=.ref b)(S:Addr)(r:S∉fp){y:N}(D:St 0 s.heap)(g0:s.heap.get? S=some (sob w))(L:∀o,s.heap.get? I=some o->o.cls ≠ .type "tuple")(q1:iI s.heap (y,b))(K:∀h' tk,(∀b o,b≠S->b≠I->s.heap.get? b=some o->h'.get? b=some o)->cU w h' S (y,b)->R (.ok (.ret .none)) {s with heap:=h',toks:=tk}):codeAny (model prog w) A (.builtin "set.update.loop" #[[.ref S,.ref I],[]]) R s:=by(have m:S∉[I]:=λh=>r (W.sub _ h);have B:A.in1.units+8<cLine:=by show A.units+1+8<_;lia);refine kq GA ?_;rw[mf t9 _];show wpAny _ A.in1 (pyNext (.ref I)>>=_) _ _ s;refine bv (W.item 0 s _ _ (by decide) D λv Z tk F f d=>?_);cases p1 v F;show wpAny _ A.in1 (holding [.ref b] (setAdd S (.ref b))>>=_) _ _ _;refine bv (il (Sf (s:={s with heap:=Z,toks:=tk}) B (d S _ m g0) (q1.kept λa o e c=>d a o (λz=>L o (by rw[<- fj.mp z];exact e) c) e) λh2 G X2=>?_));refine cq #[m4 t9 _,kq GA ?_];rw[mf t9 _];show wpAny _ A.in1 (pyNext (.ref I)>>=_) _ _ _;refine bv (W.done _ _ _ (W.frame _ _ _ f λb J o e=>G.extBut b o (λe'=>r (e' ▸ J)) e) λV T l=>?_);exact cq (K V T (λb o n1 n2 e=>l b o (by simpa using n2) (G.extBut b o n1 (d b o (by simpa using n2) e))) (X2.kept λo e=>l S o m e))
def Sn{p:Addr}{K:Fin->cc->Prop}(r:A.units+16<cLine)(B:A.handled=none)(G:s.heap.get? a=some (sob w))(hp:s.heap.IsList p (List.toArray [.ref x.2]))(ne:a≠p)(q1:iI s.heap x)(h:∀h' tk,(∀b o,b≠a->s.heap.get? b=some o->h'.get? b=some o)->cU w h' a x->K (.done (.ret .none)) {s with heap:=h',toks:=tk}):wpAny (model prog w) A (Builtin.«set.__init__» #[[.ref a,.ref p],[]]) K E s:=by
 have ty:s.TypeIs (.ref a) "set":=#[_,G,rfl];have tp:s.TypeIs (.ref p) "list":=hp.typeIs;unfold Builtin.«set.__init__»;refine bv (m:=noKeywords _ _) (cq ?_);dsimp only;unfold typeNameOfCut shownTypeOf;refine bv (bv (bv (mw ty ?_)));have J:(Value.type "set" == Value.type "builtin_function_or_method")=false:=by decide
 simp only[J,io,↓reduceIte];refine cq ?_;refine cq (bv (m:=checkCount _ 0 1 _) (cq (bv (m:=Builtin.Frozenset.addrOf _) (cq (bv ?_)))));unfold setUsed;refine bv (rh G rfl rfl (cq ?_));have f:((SetTable.fresh 0 0 (!eG w)).fill != 0)=false:=rfl;dsimp only;rw[f];simp only[io,↓reduceIte];refine bv ?_;unfold Builtin.Frozenset.updateFrom Builtin.Frozenset.isAnySet;refine bv (Ry tp ?_);simp only[io,↓reduceIte];refine bv (mw tp ?_);have F:(Value.type "list" == Value.type "dict")=false:=by decide
 simp only[F,io,↓reduceIte];refine bv (CP hp (bv (BN ?_)));exists L,ho,d,id hp;have l:a<s.heap.objs.size:=dv G;refine Sl (A:=A) (s:={s with heap:=s.heap.push _}) r (Walks.list (A:=A.in1) B s.heap.objs.size p (gj (dv ho)) (List.toArray [.ref x.2])) (λv q=>(jx q).symm) a
  (by simp only[dq,rj,jy,not_or];exact#[gj l,ne]) #[#[_,fi _ rfl,rfl,rfl],hp.push _] (hps G) (λo e=>?_) (q1.kept λb o e _=>hps e) λh' tk kp X=>?_
 . have f:some _=some o:=(fi _ rfl).symm.trans e;cases f;intro z;injection z with z;exact absurd z (by decide)
 . exact cq (cq (h h' tk (λb o D e=>kp b o D (gj (dv e)) (hps e)) X))
theorem Sr{p:Addr}(V:A.units+64<cLine)(L:A.handled=none)(hp:s.heap.IsList p (List.toArray [.ref x.2]))(q1:iI s.heap x)(h:∀h' tk,(∀b o,s.heap.get? b=some o->h'.get? b=some o)->cU w h' s.heap.objs.size x->Q (.ref s.heap.objs.size) {s with heap:=h',toks:=tk}):wpAny (model prog w) A (call (.type "set") [.ref p]) Q E s:=by exists c,tl,D,PySem.F.called_set.mro;have l:=PySem.F.called_set.made;have B:=PySem.F.called_set.sub;have h1:=PySem.F.called_set.notType;have Z:=PySem.F.called_set.canCreate;have N:=Q3 (.ref p);refine vh (codeAny_of_tree (show wpAny _ _ (callAny (.type "set") _) _ _ _ from cq #[Code.quiet_builtin _ (by decide +kernel),kq PySem.F.entry_type_call ?_]));rw[Around.under_plain (weight_type_call_type "set" [.ref p] []) rfl];(repeat (any_goals (first|assumption|wp_step)));refine mz (Q5 (E:=E) (.ref p) (Q1:=λr m=>r=.ref s.heap.objs.size/\m={s with heap:=s.heap.push (sob w)}) #[rfl,rfl]) λr m f=>?_;cases r with|error e=>exact f|ok fl=>cases fl with|ret obj=>(exists rfl,rfl,f;have G:(s.heap.push (sob w)).get? s.heap.objs.size=some (sob w):=fi _ rfl;have ty:Shared.TypeIs {s with heap:=s.heap.push (sob w)} (.ref s.heap.objs.size) "set":=#[_,G,rfl];have K:=PySem.F.called_set.init.lookup;have T:=PySem.F.called_set.init.bind (.ref s.heap.objs.size);(repeat (any_goals (first|assumption|wp_step)));refine mz (codeAny_call_builtin (R:=wants (λr S=>r=.none/\Q (.ref s.heap.objs.size) S) E) PySem.F.called_set.init.plain PySem.F.entry_set_init (Q6 ty ?_)) λJ S d=>?_;{refine Sn (A:=A.in1.in1) (s:={s with heap:=s.heap.push (sob w)}) (by show A.units+1+1+16<_;lia) L G (hp.push _) (nq (dv hp.choose_spec.1)) (q1.kept λb o e _=>hps e) λh' tk kp X=>#[rfl,h h' tk (λb o e=>kp b o (gj (dv e)) (hps e)) X]};cases J with|error e=>exact d|ok f2=>cases f2 with|ret r=>(exists rfl,W,d;repeat (any_goals (first|assumption|wp_step)))|_=>exact d.elim)|_=>exact f.elim
end
def B9(w:dh)(l:Addr)(p:N×Addr):HO:=.ext λh=>cU w h l p
def qS(K:Fg)(H:Hp)(p:N×Addr):Prop:=eh K H p.1 (.ref p.2)/\p.1.dp<=8
def qS.at(I:L2.Inv X aA σ H s){p:N×Addr}(k:qS X.K H p):iI s.heap p:=#[eh.is I _ _ _ k.1 rfl,k.2]
def uX(X:Cx):List V->Hp->VK->Prop:=λU H Q=>∃(p:Addr) (k:N×Addr),U=[.ref p]/\fe X.K H p [.ref k.2]/\qS X.K H k/\∀l,H l=none->Q (.ref l) (upd H l (B9 X.w l k))
def Ss(m:X.A.units+64<cLine)(B:X.calm=true):eD X (.type "set") (uX X):=by intro aA s σ H U us Q I r h;exists p,k,rfl,hp,hk,q,h;exists u,rfl,d,gP r;cases d;exists its,f,pl,_,I.list hp;exists u,rfl,l,gP f;cases l;refine Sr m (I.ok.hd B) pl.isList (hk.at I) λh' tk kp SX=>?_;exact#[.ref s.heap.objs.size,_,I.laid (t':=tk) kp (dm _) (show bK X.prog X.w _ h' s.heap.objs.size (B9 X.w s.heap.objs.size k)from#[SX,let⟨o,_,_,ho,_⟩:=SX;#[o,ho],λD E a k=>cU.kept (show cU X.w D _ _ from a) k]),rfl,q _ (I.hok.fresh (dm _))]
def uY(X:Cx):List V->Hp->VK->Prop:=λU H Q=>∃(a:Addr) (k:N×Addr),U=[.ref a]/\H a=some (B9 X.w a k)/\qS X.K H k/\ft k.1 k.1=true/\∀l,H l=none->Q (.ref l) (upd H l (.lst [V.ref k.2]))
def Su(m:X.A.units+64<cLine)(o:X.calm=true):eD X (.builtin "sorted") (uY X):=by intro aA s σ H U us Q I r h;exists a,k,rfl,B,kh,ok,q,h;exists u,rfl,l,gP r;cases l;have f:cU X.w s.heap a k:=(I.hok a _ B).1;refine Sk m (I.ok.hd o) f (kh.at I) ok λh' tk D e kp d g=>?_;exact#[.ref D,_,I.laid (t':=tk) kp d (show bK X.prog X.w _ h' D (.lst [V.ref k.2])from#[by show 1<=_;rw[dz];decide,_,e,.cons rfl .nil,g]),rfl,q D (I.hok.fresh d)]
def fQ(r:Res):Res:=r.thn λ_ d=>match d with
 |.lst [d]=>(match bS d with|some k=>if mm [k]=true then .ok .fr (.lst (nDL [k]))else .stuck|none=>.stuck)
 |_=>.stuck
def Sv{Q:VK}(J:C.K=X.K)(q:tG C (λY=>fQ (ga Y)) σ H Q):se (uY X) (iA (se (uX X) (iA (tG C ga) kW)) kW) σ H Q:=by show tG C ga σ H λv H1=>uX X [v] H1 λT H2=>uY X [T] H2 Q;rw[aR]at q ⊢;exists Y,F,R,w,q;refine#[Y,F,R,?_];cases A:ga Y with|stuck=>simp only[fQ,A,Res.thn_stuck]at w;exact w|exc c=>simp only[fQ,A,Res.thn_exc]at w;exact w|ok m d=>simp only[fQ,A,Res.thn_ok]at w;intro v F1 H1 s1 r1 _;split at w;{rename_i d;cases E:bS d with|none=>rw[E]at w;exact w.elim|some k=>rw[E]at w;dsimp only at w;split at w;{rename_i ok;exists a,U,rfl,D,G,r1.seqL s1.sub;simp only[aD]at G;exists x,ys,rfl,Z,rfl,G;exists b,rfl,n,N,nT (H:=F1) (m:=.fz) E Z;rw[J]at D n;refine#[a,(k,b),rfl,D,#[eh.mono s1.sub _ _ n,N],λB l=>?_];have S:aG F H F1 (upd H1 B (B9 X.w B (k,b))):=s1.trans (aG.fresh _ s1.sub l);unfold mm at ok;simp only[cw,jr,fw,fq]at ok;refine#[B,(k,b),rfl,a8,#[eh.mono S.sub _ _ n,N],ok.1.2 _ c6 _ c6,λL f=>?_];have W:=S.trans (aG.fresh (.lst [V.ref b]) S.sub f);refine w (.ref L) F1 _ W #[L,rfl,S.sub.free f,_,a8,?_] λ_ a' r=>?_;{rw[J];simp only[nDL,aD];exact#[_,_,rfl,qL _ _ n,rfl]};cases r;cases q:H L with|none=>rfl|some o=>rw[S.same _ _ q]at f;cases f};exact w.elim};exact w.elim
def Sw(a:X.A.units+64<cLine)(d:X.calm=true)(gs:Gl X "sorted")(ns:X.mg "sorted"=none)(gt:Gl X "set")(N:X.mg "set"=none)(f:PV C X ea ga)(sa:bW ea=true):PV C X (.Call (.Name "sorted" p) [.Call (.Name "set" p1) [ea] [] q1] [] pos) (λY=>fQ (ga Y)):=by refine PE.imp (yW (Su a d) gs ns uD (jU (yX (Ss a d) gt N Rj (jU f kX (bX sa)) (by decide) (by decide) (bX sa) rfl) kX)) λσ H Q w=>?_;exact Sv (X:=X) rfl w
end D3
namespace L2
end L2
namespace D3
section
open PySem.SeqAt
open PySem.AutoSeq1 (wpAny_loadPart')
open PySem.MeetsSeq PySem.MeetsSeq2 PySem.MeetsSeq3
theorem Sx(l b:Addr)(items a:Array bb)(n n2:Nat)(Z N:Option Addr)(T S:Array (Option bb))(r:Bool):∀(us vs:List bb) (i:Nat),items.toList.drop i=us->a.toList.drop i=vs->i<=items.size->i<=a.size->Meets (Builtin.«list.__eq__.loop» #[[.ref l,.ref b,rawInt i,rawInt 0],[]]) (λA R s=>s.heap.get? l=some { cls:=.type "list",dict:=Z,data:=.seq items n,slots:=T }/\s.heap.get? b=some { cls:=.type "list",dict:=N,data:=.seq a n2,slots:=S }/\lp A.in1 s us vs r/\R (.ok (.ret (.bool r))) s):=by
 intro us
 induction us with
 |nil=>(intro vs i h1 h2 l1 l2 prog w A R s h;exists hp,g,d,tk,os,s;exists B,D,o,h,h;have z1:items.size=i:=by have:=congrArg List.length h1;simp at this;lia);wp_walk using wpAny_loadPart' B,wpAny_loadPart' D;(have f:items[((i:Nat):Int).toNat]? = none:=by simp;lia);(rw[f];have E:r=decide (items.size<a.size):=by cases o with|nn=>have:=congrArg List.length h2;simp at this;exact(jw (by lia)).symm|nc=>have:=congrArg List.length h2;simp at this;exact(ip (by lia)).symm);rw[E]at h;wp_walk using wpAny_loadPart' B,wpAny_loadPart' D;exact h
 |cons u us V =>
  intro vs i h1 h2 l1 l2 prog w A R s h;exists hp,g,d,tk,os,s;exists B,D,o,h,h;have lt1:i<items.size:=by have:=congrArg List.length h1;simp at this;lia
  have f:items[((i:Nat):Int).toNat]? = some u:=by(have:items.toList[i]? = some u:=by have:=congrArg (λl=>l[0]?) h1;simpa using this);simpa using this
  have K:items.toList.drop (i+1)=us:=by have:=congrArg List.tail h1;simpa using this
  wp_walk using wpAny_loadPart' B,wpAny_loadPart' D
  cases vs with
  |nil=>((have z2:a.size=i:=by have:=congrArg List.length h2;simp at this;lia);(have m:a[((i:Nat):Int).toNat]? = none:=by simp;lia);(rw[f,m];have E:r=decide (items.size<a.size):=by cases o with|cn=>exact(jw (by lia)).symm);rw[E]at h;wp_walk using wpAny_loadPart' B,wpAny_loadPart' D;exact h)|cons v vs =>
   have L:i<a.size:=by have:=congrArg List.length h2;simp at this;lia
   have m:a[((i:Nat):Int).toNat]? = some v:=by(have:a.toList[i]? = some v:=by have:=congrArg (λl=>l[0]?) h2;simpa using this);simpa using this
   have J:a.toList.drop (i+1)=vs:=by have:=congrArg List.tail h2;simpa using this
   have W:((i:Int)+1)=((i+1:Nat):Int):=by push_cast;rfl
   rw[f,m];cases o with
   |eq o G =>
    refine bv (o prog w _ _ ?_)
    wp_walk
    rw[W];exact#[m4 plain_eq_loop _,kq entry_eq_loop (by
     rw[mf plain_eq_loop _];exact V vs (i+1) K J lt1 L prog w A R _ #[B,D,G,h])]
   |ne o G=>refine bv (o prog w _ _ ?_);have F:=G prog w;wp_walk using wpAny_loadPart' B,wpAny_loadPart' D;rw[f,m];wp_walk using F;exact h
def Sy(l b:Addr)(items a:Array bb)(n n2:Nat)(B D:Option Addr)(f S:Array (Option bb))(r:Bool):Meets (Builtin.«list.__lt__» #[[.ref l,.ref b],[]]) (λA R s=>s.heap.get? l=some { cls:=.type "list",dict:=B,data:=.seq items n,slots:=f }/\s.heap.get? b=some { cls:=.type "list",dict:=D,data:=.seq a n2,slots:=S }/\lp A.in1 s items.toList a.toList r/\R (.ok (.ret (.bool r))) s):=by
 intro prog w A R s h;exists hp,g,d,tk,os,s;exists m,o,E,h,h;have f3:=AutoSeq1.sub_list_list
 wp_walk using wpAny_loadPart' m,wpAny_loadPart' o
 exact#[m4 plain_eq_loop _,kq entry_eq_loop (by
  rw[mf plain_eq_loop _];exact Sx l b items a n n2 B D f S r _ _ 0 rfl rfl (gw _) (gw _) prog w A R _ #[m,o,by simpa using E,h])]
end
section
variable{A:dj}{E:di}
theorem Sz{a:Addr}{U ys:List N}{its its':Array bb}{Q:Bool->cc->Prop}(T:A.units+N.dpL U+4<cLine)(K:s.heap.IsList a its)(J:s.heap.IsList b its')(l:aV s.heap U its.toList)(B:aV s.heap ys its'.toList)(ok:cM U ys=true)(q:Q (bC U ys) s):wpAny (model prog w) A (keyLt' oneType' (.ref a) (.ref b)) Q E s:=by obtain⟨⟨cls,L,data,r⟩,ga,m,n,hd⟩:=K;obtain⟨⟨o,D,data2,S⟩,gb,f,n2,d⟩:=J;simp only at m hd f d;subst m hd f d;rw[keyLt'_oneType,oneLt'_eq];simp only[pi];refine bv (wpAny_cRoomFor (by lia) ?_);refine bv (wpAny_callSpecialIfBound?_slot #[_,ga,rfl] PySem.F.slot_list_lt ?_);have G:lp A.in1 s its.toList its'.toList (bC U ys):=uQ (A:=A.in1) (λx l y u v p1 p2 ok prog W E Q q=>yt x (by have:=N.dp_mem l;show A.units+1+_+1<_;lia) p1 p2 ok q) (by show A.units+1+_<_;lia) l B ok;refine call_meets PySem.F.slot_list_lt #[_,ga,rfl] PySem.F.entry_list_lt (PySem.F.args_list_lt_2 _ _) (Sy a b its its' n n2 L D r S (bC U ys)) #[ga,gb,G,?_];exact tc q
end
open PySem.W
structure uZ(prog:fc)(w:dh)(A:dj)(n:Nat)(lt:Nat->Nat->Bool)(ks:List bb)(s:cc):Prop where
 ex:2<=n->∃κ,(∀(Q:SortKind->cc->Prop) (E:di),Q κ s->wpAny (model prog w) A (keyKind' ks.toArray) Q E s) /\
  ∀i j (Q:Bool->cc->Prop),i<n->j<n->Q (lt i j) s->wpAny (model prog w) A (keyLt' κ (ks.getD i .none) (ks.getD j .none)) Q (λ_ _=>False) s
section
variable{E:di}
def qT{a:Addr}{o:Obj}(I:Inv X aA σ H s)(d:cP X aA H a)(e:s.heap.get? a=some o)(hd:∀v,o.data ≠ .cell v):Inv X ((a,o)::aA) σ H s:=by refine I.pins_of λp hp=>?_;rcases dq.mp hp with rfl|hp;{exact#[e,d.1,d.2.1,d.2.2.1,hd]};exact I.pin p (iz _ hp)
def jC{p:Addr×Obj}(I:Inv X (p::aA) σ H s):Inv X aA σ H s:=I.pins_of λq a=>I.pin q (iz _ (df a))
def qU{p:Addr×Obj}(I:Inv X (p::aA) σ H s):H p.1=none:=(I.pin p (iz _ c6)).2.1
def qV{p:Addr×Obj}(I:Inv X (p::aA) σ H s):s.heap.get? p.1=some p.2:=(I.pin p (iz _ c6)).1
def qW{a:Addr}(d:cP X aA H a)(hn:H' a=none):cP X aA H' a:=#[hn,d.2]
def Inv.track{a:Addr}{o:HO}(I:Inv X aA σ H s)(f:cP X aA H a)(new:bK X.prog X.w (upd H a o) s.heap a o):Inv X aA σ (upd H a o) s:=by(exists f0,f1,f2,f3,l,F,f;have up:∀{b:Addr}{u:HO},H b=some u->upd H a o b=some u:=λ{b u} e=>by rw[aP (cI e f0)];exact e);(refine I.call (g':=s.gens) (d':=s.drawn) (t':=s.toks) (ch:=[a]) #[λb o e _ _ _=>e,λb o e _ _ _=>#[o.slots,e],λb o e n d=>by rw[aP (by simpa using d)];exact n,λb o e _=>#[o,e],λb U e=>up e,λb o u e=>up e,λb ps e=>#[#[],by rw[up e];simp]] (λb u e=>?_) I.bare λb d=>by(obtain rfl:b=a:=by simpa using d);exact#[f3,f1,l,F]);by_cases d:b=a;{subst d;rw[a8]at e;cases e;exact new};rw[aP d]at e;exact(I.hok b u e).stay (λ_ _ _ q=>q) (λc q=>up q) λc v q=>up q
theorem SA{f:bb}{a K:Addr}{e1:Nat}{lt:Nat->Nat->Bool}{A:dj}{P:Nat->List V->Hp->Prop}{R:PySem.Fin->cc->Prop}(d:jh lt)(hv:aL U vs)(ae:U.length<eP)(ne:a≠K)(fa:cP X aA H a)(fk:cP X aA H K)(I:Inv X ((K,seqObj "list" #[] 0)::(a,seqObj "list" #[] e1)::aA) σ H s)(P0:P 0 [] H)(cl:∀i v u kvs H' pins' O,U[i]? = some v->aH v u->Inv X pins' σ H' O->P i kvs H'->wpAny (model X.prog X.w) A (call f [u]) (λm ag=>∃kv H'',Inv X pins' σ H'' ag/\aH kv m/\P (i+1) (kvs++[kv]) H'') (λ_ _=>False) O)(kd:∀kvs ks H' pins' O,Inv X pins' σ H' O->P U.length kvs H'->aL kvs ks->ks.length=U.length->uZ X.prog X.w A U.length lt ks O)(am:∀(p:List Nat) H' O kvs,p.Perm (List.range U.length)->(p.Pairwise λi j=>lt j i=false)->P U.length kvs H'->H' a=none->Inv X aA σ (upd H' a (.lst (p.map λi=>U.getD i .non))) O->R (.done (.ret .none)) O):wpAny (model X.prog X.w) A (ksk_rest a f false vs.toArray e1 (.ref K)) R E s:=by
 have ar:U.length<1000000:=hB ae kD;have lv:U.length=vs.length:=hv.length;unfold ksk_rest;refine bv (pz ?_);rw[List.forIn_toArray]
 let J:Nat->cc->Prop:=λi O=>∃ks kvs e H',Inv X ((K,seqObj "list" (List.toArray ks) e)::(a,seqObj "list" #[] e1)::aA) σ H' O/\P i kvs H'/\aL kvs ks/\ks.length=i
 refine bv (ksk_fold J vs 0 s #[[],[],0,H,I,P0,.nil,rfl] (λj x O N hJ=>?_) λO hJ=>?_)
 . rw[lA]at hJ ⊢;exists ks,kvs,e,H',L,p,r,hl,hJ;have aq:j<vs.length:=(mr.mp N).1;obtain⟨v,ev⟩:∃v,U[j]? = some v:=#[_,gm (by lia)]
   exists u,eu,rv,hv.get ev;rw[N]at eu;cases eu;refine bv (tu (ij (cl j v x kvs H' _ O ev rv L p) (λm D hk=>?_) λ_ _ hF=>hF.elim));exists kv,H2,I2,rk,p2,hk;have gk:=qV I2;dsimp only at gk ⊢;have sm:=lw D.heap K (Obj.mapSeq (·.push m));have ea:(List.toArray ks).push m=List.toArray (ks++[m]):=by simp
   obtain⟨c2,T⟩:∃c2,(D.heap.update K (Obj.mapSeq (·.push m))).get? K=some (seqObj "list" (List.toArray (ks++[m])) c2):=#[_,by rw[<- ea];exact vm gk (·.push m)]
   refine bv (qd gk rfl ?_ (by rw[fo,dz];lia) (ii (Bj (Array.size_push ..)) (by rw[fo,dz];lia)))
   have ga:=qV (jC I2);have F:=qW fk (qU I2);have l:=qW fa (qU (jC I2))
   have I3:=qC (t':=D.toks) (its:=[K]) (jC (jC I2)) (h':=D.heap.update K (Obj.mapSeq (·.push m))) (λb o B q=>(sm.2 b (by simpa using B)).trans q) (λb B=>by
    obtain rfl:b=K:=by simpa using B
    exact F)
   have I4:=qT I3 l ((sm.2 a ne).trans ga) (by intro v z;cases z)
   have I5:=qT I4 #[F.1,F.2.1,F.2.2.1,F.2.2.2.1,F.2.2.2.2.1,λp hp=>by
    rcases ko.mp hp with hp|hp
    . exact F.2.2.2.2.2 p (qx _ hp)
    . rcases dq.mp hp with rfl|hp
      . exact ne
      . exact F.2.2.2.2.2 p (iz _ hp)] T (by intro v z;cases z)
   exact cq #[rfl,ks++[m],kvs++[kv],c2,H2,I5,p2,aL.append r (.cons rk .nil),by simp[hl]]
 . rw[lA]at hJ;exists ks,kvs,e,H',L,p,r,hl,hJ;have gk:=qV L;dsimp only at gk ⊢;refine bv (vk gk rfl ?_);rw[<- lv]at p hl;have KO:=kd kvs ks H' _ O L p r hl;have tail:∀(st:SortSt) (q:List Nat),q.Perm (List.range U.length)->(q.Pairwise λi j=>lt j i=false)->(arrOf st).map (·.2)=(q.map λi=>vs.getD i Value.none).toArray->failedOf st=none->wpAny (model X.prog X.w) A (ksk_tail a false e1 (.ref K) st) R E O:=by
     intro st q qp qs hout hf;have ql:q.length=U.length:=by rw[qp.length_eq,rg]
     unfold ksk_tail;dsimp only;rw[hout,ba gr];have s1:=lw O.heap K (Obj.mapSeq λ_=>(#[]:Array bb));refine bv (qd gk rfl ?_ (by rw[fo,dz];lia) (gw _))
     refine bv (wpAny_letGo ?_);have ga:=qV (jC L);dsimp only at ga;have Z:(O.heap.update K (Obj.mapSeq λ_=>(#[]:Array bb))).get? a=some (seqObj "list" #[] e1):=(s1.2 a ne).trans ga;refine bv (vp Z rfl ?_);have ah:((q.map λi=>vs.getD i Value.none).toArray).size=U.length:=by rw[fo,d3,ql]
     refine bv (qd Z rfl ?_ (gw _) (ii (Bj ah) (by rw[dz];lia)))
     rw[hf];simp only[ua,io,jd];have D:=lw (O.heap.update K (Obj.mapSeq λ_=>(#[]:Array bb))) a (Obj.mapSeq λ_=>(q.map λi=>vs.getD i Value.none).toArray);obtain⟨c2,T⟩:∃c2,((O.heap.update K (Obj.mapSeq λ_=>(#[]:Array bb))).update a (Obj.mapSeq λ_=>(q.map λi=>vs.getD i Value.none).toArray)).get? a=some (seqObj "list" ((q.map λi=>vs.getD i Value.none).toArray) c2):=#[_,vm Z λ_=>(q.map λi=>vs.getD i Value.none).toArray];have F:=qW fk (qU L);have l:=qW fa (qU (jC L));have I3:=qC (t':=O.toks) (its:=[K,a]) (jC (jC L)) (h':=(O.heap.update K (Obj.mapSeq λ_=>(#[]:Array bb))).update a (Obj.mapSeq λ_=>(q.map λi=>vs.getD i Value.none).toArray))
      (λb o B z=>by
       simp only[dq,rj,jy,not_or]at B;exact(D.2 b B.2).trans ((s1.2 b B.1).trans z)) (λb B=>by
       simp only[dq,rj,jy]at B;rcases B with rfl|rfl
       . exact F
       . exact l)
     have n0:H' a=none:=l.1;have vo:aL (q.map λi=>U.getD i .non) (q.map λi=>vs.getD i Value.none):=by(have:∀q:List Nat,(∀i∈q,i<U.length)->aL (q.map λi=>U.getD i .non) (q.map λi=>vs.getD i Value.none):=by intro q;induction q with|nil=>intro _;exact .nil|cons i q ih=>(intro hq;have G:=hq i c6;exists u,eu,ru,hv.get (gm G);refine .cons ?_ (ih λj hj=>hq j (df hj));have e1:U.getD i .non=U[i]:=by simp[G]);(have e2:vs.getD i Value.none=u:=by simp[eu]);show aH (U.getD i .non) (vs.getD i Value.none);rw[e1,e2];exact ru);exact this q λi G=>by simpa using qp.mem_iff.mp G
     have I4:=Inv.track I3 (o:=.lst (q.map λi=>U.getD i .non)) l #[by rw[d3,ql,dz];lia,_,c2,vo,T]
     exact cq (am q H' _ kvs qp qs p n0 I4)
   unfold ksk_end;dsimp only;rw[ba gr];simp only[io,jd];by_cases W:vs.toArray.size<2
   . rw[aK W,aK W];rw[fo]at W;refine bv (cq ?_);rw[StateT.run_pure];refine bv (cq ?_);refine tail _ (List.range U.length) (jz _) ?_ ?_ rfl;{(have N:U.length=0\/U.length=1:=by lia);rcases N with N|N <;> rw[N] <;> simp[Dr]};rw[lv,qJ];show(((List.toArray ks).zip vs.toArray).map (·.2))=vs.toArray;apply Array.ext;{simp;lia};intro i h1 W;simp
   . rw[ba W,ba W];rw[fo]at W;exists κ,aj,ai,KO.ex (by lia)
     refine bv (aj _ _ ?_);have aa:ks.length=vs.length:=by lia
     refine bv (ij (G7 (ks:=ks) (vs:=vs) (κ:=κ) d aa (by lia) (by lia) (λi j C G hj hq=>ai i j C (by lia) (by lia) hq)
      (Q:=λS D=>D=O/\∃p:Array Nat,PW vs.length p/\p.Perm (List.toArray (List.range vs.length))/\ji lt p vs.length/\arrOf S=p.map (kas_item ((List.toArray ks).zip vs.toArray))/\failedOf S=none)
      λp S a1 a2 a3 a4 a5=>#[rfl,p,a1,a2,a3,a4,a5]) ?_ λ_ _ e=>e)
     rintro⟨⟨⟩,S⟩ D ⟨rfl,p,pp,pe,u,ea,ef⟩;dsimp only;refine tail S p.toList (by rw[lv];simpa using Dk.mp pe) ?_ (kat_snds aa ea) ef
     refine List.pairwise_iff_getElem.mpr λi j G hj ak=>?_;rw[lc]at G hj;have:=u i j ak (by rw[<- pp.size];exact hj)
     simpa[Array.getD,G,hj]using this
end
def iJ(κ:α->Int)(x:α):List α->List α|[]=>[x]|y::l=>if κ y<κ x then y::iJ κ x l else x::y::l
section
variable{A:dj}{E:di}
def SC{d:Addr}{P:Nat->bb->Prop}{a:Heap->Prop}{R:List bb->cc->Prop}(K:W.KdlSrc prog w "dict" d d n P a)(m:A.handled=none)(hok:a s.heap)(hn:n<=sizeLine)(h:∀h' tk vs,(∀b o,s.heap.get? b=some o->h'.get? b=some o)->s.heap.objs.size<h'.objs.size->ItemsOf P vs n->R vs.toList {s with heap:=h',toks:=tk}):wpAny (model prog w) A (collect (.ref d)) R E s:=by
 have L:=(K.there _ hok).1;unfold collect;refine bv (BN (kq Fv ?_));rw[mf Fw _];show wpAny (model prog w) A.in1 (newList []>>=λl=>again (.builtin "list.__iadd__" #[[l,.ref d],[]])) _ _ s;refine bv (je (cq #[m4 BV _,kq PySem.F.entry_list_iadd ?_]));rw[mf BV _];have r:(s.heap.push { cls:=.type "list",data:=.seq ([]:List Value).toArray }).get? s.heap.objs.size=some { cls:=.type "list",data:=.seq #[] }:=fi _ rfl;show wpAny (model prog w) A.in1 (Builtin.List.listExtendWith (.ref s.heap.objs.size) (.ref d) (.ref s.heap.objs.size)) _ _ _;have key:=W.kdl_extend (A:=A) (prog:=prog) (s:={ s with heap:=s.heap.push { cls:=.type "list",data:=.seq ([]:List Value).toArray } })
  (R:=λq O=>∃h' tk vs c,q=.ok (.ret (.ref s.heap.objs.size))/\O={s with heap:=h',toks:=tk}/\(∀b o,s.heap.get? b=some o->h'.get? b=some o)/\h'.get? s.heap.objs.size=some { cls:=.type "list",dict:=none,data:=.seq vs c,slots:=#[] }/\ItemsOf P vs n)
  K m (K.keep _ _ hok λb _ o e=>hps e) s.heap.objs.size (nq L) (nq L) (.ref s.heap.objs.size) 0 r
  (λh' tk vs c kp G it=>#[h',tk,vs,c,rfl,rfl,λb o e=>kp b o (gj (dv e)) (hps e),G,it]) hn
 refine ij key (λf O x=>?_) λe O x=>?_
 . cases f with|done f=>exists h',tk,vs,c,e,rfl,kp,G,it,x;cases e;show wpAny _ A (load s.heap.objs.size>>=_) _ _ _;exact bv (tf G (cq (h h' tk vs kp (dv G) it)))|again c1=>refine#[x.1,mz x.2 λq S y=>?_];exists h',tk,vs,c,rfl,rfl,kp,G,it,y;show wpAny _ A (load s.heap.objs.size>>=_) _ _ _;exact bv (tf G (cq (h h' tk vs kp (dv G) it)))
 . exists _,_,_,_,B,_,x;cases B
end
def SD{d:Addr}{o:Obj}{es:Array DictEntry}(G:(d==sysModules)=false)(D:o.ExactDict)(hd:o.data=.dict es ep):W.KdlSrc P w "dict" d d es.size (λi v=>∃e,es[i]? = some e/\e.key=v) (λh=>h.get? d=some o) where
 type:=λ_ e=>#[o,e,D.1]
 there:=λ_ e=>#[dv e,dv e]
 keep:=λ_ _ e hk=>hk d (.inl rfl) o e
 notList:=by decide
 notTuple:=by decide
 hint:=λ_ _ _ _ e r=>W.kdl_hint_dict #[o,e,D.1] r
 iter:=λA s K e=>#[_,λi h=>h.IsKeyIter s.heap.objs.size d i es.size ep/\h.get? d=some o,(λ_ _ r=>Hl G e D hd r),
  { sub:=λb a=>by simp at a;simp[a]
    frame:=λ_ _ _ st hk=>#[st.1.at λo e=>hk _ (by simp) o e,hk d (by simp) o st.2]
    item:=λi S Q E J st m=>by have F:es[i]? = some es[i]:=BK J;refine Hm st.1 st.2 hd F λh' l f=>m _ h' S.toks #[_,F,rfl] #[l,f.extBut d o (gj (dv e)) st.2] λb o a e=>f.extBut b o (λh=>a (by simp[h])) e
    done:=λS Q E st m=>Hn K st.1 st.2 hd (dm _) λh' B=>m h' S.toks λb o a e=>B b o (λh=>a (by simp[h])) e
    self:=λ_ _ _ _ st m=>Dj st.1 m },#[_,fi _ rfl,rfl,rfl],hps e]
theorem Hr:∀{U:List (N×Addr×V)}{us:List bb},us.length=U.length->(∀(j:Nat) v,us[j]? = some v->∃p:N×Addr×V,U[j]? = some p/\v=.ref p.2.1)->aL (U.map λp=>V.ref p.2.1) us|[],[],_,_=>.nil|[],_::_,h,_|_::_,[],h,_=>by simp at h|x::U,u::us,h,q=>by exists p,d,E,q 0 u rfl;cases d;exact .cons E (Hr (by simpa using h) λj v a=>q (j+1) v a)
theorem Hs{K:Fg}{F:Hp}:∀{kvs:List (N×D)}{U:List (N×Addr×V)},aQ K F kvs U->aD K F (kvs.map λkv=>nD kv.1) (U.map λp=>V.ref p.2.1)|[],U,h=>by simp only[aQ]at h;subst h;simp[aD]|(k,d)::kvs,U,h=>by simp only[aQ]at h;exists b,y,ys,rfl,q,_,t,h;simp only[dw,aD];exact#[_,_,rfl,qL _ _ q.1,Hs t]
open PySem.W
section
variable{E:di}
theorem SE{f:bb}{l q:Addr}{lt:Nat->Nat->Bool}{P:Nat->List V->Hp->Prop}{Q:VK}(hf:f=.ref q)(d:jh lt)(B:U.length<eP)(I:Inv X aA σ H s)(rv:aL U vs)(col:∀{R:List bb->cc->Prop}{E':di},(∀h' tk,(∀b o,s.heap.get? b=some o->h'.get? b=some o)->s.heap.objs.size<=h'.objs.size->R vs {s with heap:=h',toks:=tk})->wpAny (model X.prog X.w) X.A.in1 (collect (.ref l)) R E' s)(P0:P 0 [] H)(cl:∀i v u kvs H' pins' O,U[i]? = some v->aH v u->Inv X pins' σ H' O->P i kvs H'->wpAny (model X.prog X.w) X.A.in1.in1 (call f [u]) (λku S=>∃kv H'',Inv X pins' σ H'' S/\aH kv ku/\P (i+1) (kvs++[kv]) H'') (λ_ _=>False) O)(kd:∀kvs ks H' pins' O,Inv X pins' σ H' O->P U.length kvs H'->aL kvs ks->ks.length=U.length->uZ X.prog X.w X.A.in1.in1 U.length lt ks O)(aa:∀(p:List Nat) H' kvs l',p.Perm (List.range U.length)->(p.Pairwise λi j=>lt j i=false)->P U.length kvs H'->H' l'=none->H l'=none->Q (.ref l') (upd H' l' (.lst (p.map λi=>U.getD i .non)))):wpAny (model X.prog X.w) X.A (call (.builtin "sorted") [.ref l] [(Str.ofString "key",f)]) (EP X aA σ Q) E s:=by
 subst hf;have ae:U.length<1000000:=hB B kD;have lv:U.length=vs.length:=rv.length;refine call_function_entry_kw kind_sorted plain_sorted entry_sorted (ksk_s1 _ _) ?_;unfold Builtin.«sorted»;refine bv (m:=checkCount "sorted" 1 1 [Value.ref l].length) (cq (bv (col λr tk kc zc=>bv (re ?_ (by rw[dz];lia)))))
 have K:∀b o,s.heap.get? b=some o->(r.push (seqObj "list" vs.toArray 0)).get? b=some o:=λb o e=>hps (kc b o e);have J:(r.push (seqObj "list" vs.toArray 0)).get? r.objs.size=some (seqObj "list" vs.toArray 0):=fi _ rfl;show wpAny _ _ _ _ _ { s with heap:=r.push (seqObj "list" vs.toArray 0),toks:=tk }
 have Z:(r.push (seqObj "list" vs.toArray 0)).objs.size=r.objs.size+1:=ub ..;generalize r.push (seqObj "list" vs.toArray 0)=h1 at K J Z;have I1:Inv X aA σ H {s with heap:=h1,toks:=tk}:=I.kept (t':=tk) K
 have G:s.heap.objs.size<=r.objs.size:=zc;show wpAny _ _ (_>>=_) _ _ _;generalize hA:r.objs.size=a at J G Z;have fa:cP X aA H a:=I.fpOk G (I.hok.fresh G);refine bv (il (wpAny_call_entry_kw BP #[_,J,rfl] BQ ?body (ksk_l1 _ _)));show wpAny (model X.prog X.w) X.A.in1.in1 (Builtin.«list.sort» #[[.ref a],[(Str.ofString "key",.ref q)]]) _ _ _;rw[ksk_t1];unfold ksk_tree;refine bv (vk J rfl (bv (qd J rfl ?_ (by rw[fo,dz];lia) (gw _))))
 have s1:=lw h1 a (Obj.mapSeq λ_=>(#[]:Array bb));obtain⟨e1,L⟩:∃c,(h1.update a (Obj.mapSeq λ_=>(#[]:Array bb))).get? a=some (seqObj "list" #[] c):=#[_,vm J λ_=>#[]];refine bv (vp L rfl (bv (wpAny_newTuple (bv (re (il ?_) (gw _))) (by show vs.length<=_;rw[dz];lia))))
 have D:∀b o,b∉[a]->h1.get? b=some o->(((h1.update a (Obj.mapSeq λ_=>(#[]:Array bb))).push (seqObj "tuple" vs.toArray 0)).push (seqObj "list" #[] 0)).get? b=some o:=λb o W e=>
  hps (hps ((s1.2 b (by simpa using W)).trans e))
 have T:(((h1.update a (Obj.mapSeq λ_=>(#[]:Array Value))).push (seqObj "tuple" vs.toArray 0)).push (seqObj "list" #[] 0)).get? a=some (seqObj "list" #[] e1):=hps (hps L);have gk:(((h1.update a (Obj.mapSeq λ_=>(#[]:Array Value))).push (seqObj "tuple" vs.toArray 0)).push (seqObj "list" #[] 0)).get? ((h1.update a (Obj.mapSeq λ_=>(#[]:Array Value))).push (seqObj "tuple" vs.toArray 0)).objs.size=some (seqObj "list" #[] 0):=fi _ rfl;have z3:((h1.update a (Obj.mapSeq λ_=>(#[]:Array Value))).push (seqObj "tuple" vs.toArray 0)).objs.size=a+2:=by rw[ub,BO,Z]
 rw[z3]at gk;rw[z3];show wpAny (model X.prog X.w) X.A.in1.in1 (ksk_rest a (.ref q) false vs.toArray e1 (.ref (a+2))) _ _ { s with heap:=((h1.update a (Obj.mapSeq λ_=>(#[]:Array bb))).push (seqObj "tuple" vs.toArray 0)).push (seqObj "list" #[] 0),toks:=tk }
 have I2:Inv X aA σ H { s with heap:=((h1.update a (Obj.mapSeq λ_=>(#[]:Array bb))).push (seqObj "tuple" vs.toArray 0)).push (seqObj "list" #[] 0),toks:=tk }:=qC (s:={s with heap:=h1,toks:=tk}) (t':=tk) (its:=[a]) I1 D λb W=>by(obtain rfl:b=a:=by simpa using W);exact fa
 have N:s.heap.objs.size<=a+2:=by lia
 have F:cP X aA H (a+2):=I.fpOk N (I.hok.fresh N);have ne:a≠a+2:=by lia
 have I3:=qT I2 fa T (by intro v z;cases z)
 have I4 := qT I3 #[F.1, F.2.1, F.2.2.1, F.2.2.2.1, F.2.2.2.2.1, fun p hp => by
     rcases ko.mp hp with hp|hp
     . exact F.2.2.2.2.2 p (qx _ hp)
     . rcases dq.mp hp with rfl|hp
       . exact ne
       . exact F.2.2.2.2.2 p (iz _ hp)] gk (by intro v z;cases z)
 refine SA d rv B ne fa F I4 P0 cl kd λp H' O kvs pp ps hP hn I5=>?_;exact#[_,rfl,cq #[_,rfl,.ref a,_,I5,rfl,aa p H' kvs a pp ps hP hn fa.1]]
theorem SF{l:Addr}(m:U.length<eP)(I:Inv X aA σ H s)(a:fe X.K H l U\/SqT X.K H l U):∃vs,aL U vs/\∀{R:List bb->cc->Prop}{f:di},(∀h' tk,(∀b o,s.heap.get? b=some o->h'.get? b=some o)->s.heap.objs.size<=h'.objs.size->R vs {s with heap:=h',toks:=tk})->wpAny (model X.prog X.w) X.A.in1 (collect (.ref l)) R f s:=by have B:U.length<1000000:=hB m kD;exists vs,d,pl,uU I a;have lv:U.length=vs.length:=d.length;refine#[vs,d,λ{R f} r=>?_];have r:=r ((s.heap.push (seqObj "list" #[] 0)).update s.heap.objs.size (Obj.mapSeq (·++vs.toArray))) s.toks (λb o e=>(Dm _ _ _ _ (gj (dv e))).trans (hps e)) (by rw[BO,ub];lia);rcases pl with a|a;{exact collect_list a r (by rw[dz];lia)};exact uR a (by rw[dz];lia) r
end
def fC:D->Option (Bool×N)|.int i=>some (true,.i i)|.lst ds=>(cT ds).map λks=>(false,.t ks)|_=>none
noncomputable def fR(b:Bool):List D->Option (List N)|[]=>some []|d::ds=>match fC d,fR b ds with|some (c,k),some ks=>if c=b then some (k::ks)else none|_,_=>none
def ow(ks:List N):Bool:=ks.all (λk=>decide (k.dp<=8))&&ks.all (λx=>ks.all λy=>ft x y)&&decide ks.Nodup
def iK(x:N×D):List (N×D)->List (N×D)|[]=>[x]|y::l=>if ltN y.1 x.1=true then y::iK x l else x::y::l
def gH(l:List (N×D)):List (N×D):=l.foldr iK []
def iL(l:List (N×D)):Prop:=l.Pairwise λx y=>ltN y.1 x.1=false
theorem u0(x:N×D):∀(l:List (N×D)),(iK x l).Perm (x::l)|[]=>jz _|y::l=>by unfold iK;split;{exact((u0 x l).cons y).trans (List.Perm.swap x y l)};exact jz _
theorem u4:∀(l:List (N×D)),(gH l).Perm l|[]=>jz _|x::l=>(u0 x (gH l)).trans ((u4 l).cons x)
theorem Ht{x:N×D}:∀{l:List (N×D)},iL l->iL (iK x l)|[],_=>qc _ _|y::l,h=>by unfold iK;split;{rename_i e;refine gx.mpr #[λz a=>?_,Ht (gx.mp h).2];rcases dq.mp ((u0 x l).mem_iff.mp a)with rfl|a;{exact nV e};exact(gx.mp h).1 z a};rename_i e;(have e:ltN y.1 x.1=false:=by simpa using e);refine gx.mpr #[λz a=>?_,h];rcases dq.mp a with rfl|a;{exact e};exact nW ((gx.mp h).1 z a) e
theorem u5:∀(l:List (N×D)),iL (gH l)|[]=>List.Pairwise.nil|x::l=>Ht (u5 l)
theorem Hu:∀{l:List (N×D)},(l.map (·.1)).Nodup->∀{x y:N×D},x∈l->y∈l->x.1=y.1->x=y|z::l,nd,x,y,d,a,e=>by rw[dw,lg]at nd;rcases dq.mp d with ex|mx;{rcases dq.mp a with E|m;{rw[ex,E]};exact absurd (d7.mpr #[y,m,by rw[<- e,ex]]) nd.1};rcases dq.mp a with E|m;{exact absurd (d7.mpr #[x,mx,by rw[e,E]]) nd.1};exact Hu nd.2 mx m e
theorem Hv:∀{l l':List (N×D)},iL l->iL l'->l.Perm l'->(l.map (·.1)).Nodup->l=l'|[],l',_,_,p,_=>p.symm.eq_nil.symm|x::l,[],_,_,p,_=>p.eq_nil|x::l,y::l',h,h',p,nd=>by(have f:=gx.mp h;have d:=gx.mp h';have m:y∈x::l:=p.mem_iff.mpr c6;have o:x∈y::l':=p.mem_iff.mp c6;have E:x.1=y.1:=by(have a:ltN y.1 x.1=false:=by rcases dq.mp m with e|e;{rw[e];exact kE _};exact f.1 y e);(have b:ltN x.1 y.1=false:=by rcases dq.mp o with e|e;{rw[e];exact kE _};exact d.1 x e);exact qP x.1 y.1 b a);have E:x=y:=Hu nd c6 m E;subst E;rw[dw,lg]at nd;rw[Hv f.2 d.2 p.cons_inv nd.2]
def Hw{l l':List (N×D)}(h:iL l')(p:l'.Perm l)(nd:(l.map (·.1)).Nodup):l'=gH l:=(Hv (u5 l) h ((u4 l).trans p.symm) (((u4 l).map _).nodup_iff.mpr nd)).symm
theorem SG{p:List Nat}(d:ks.length=ds.length)(nd:ks.Nodup)(a:p.Perm (List.range ds.length))(ps:p.Pairwise λi j=>ltN (ks.getD j (.i 0)) (ks.getD i (.i 0))=false):(p.map λi=>ds.getD i .non)=(gH (ks.zip ds)).map (·.2):=by
 have E:((List.range ds.length).map λi=>(ks.getD i (.i 0),ds.getD i .non))=ks.zip ds:=by apply Di;{simp[d]};intro i h1 h2;simp at h1 h2 ⊢;(have f:i<ks.length:=by lia);simp[h1,f]
 have key:=Hw (l:=ks.zip ds) (l':=p.map λi=>(ks.getD i (.i 0),ds.getD i .non)) (by unfold iL;rw[ir];exact ps) (by rw[<- E];exact a.map _) (by
  rw[List.map_fst_zip (by lia)];exact nd)
 rw[<- key,gv];rfl
section
variable{A:dj}{E:di}
theorem Hx:∀(vs:List bb) {Q:List (Option bb)->cc->Prop},(∀v∈vs,Looks (model prog w) s.heap (typeOf v) (.type "list"))->Q (vs.map λ_=>none) s->wpAny (model prog w) A (vs.mapM firstOfTuple') Q E s|[],_,_,h=>by rw[List.mapM_nil];exact cq h|v::vs,Q,t,h=>by rw[List.mapM_cons];refine bv ?_;rw[kas_first_eq];refine bv (Looks.here (t v c6) ?_);rw[aK (by first|decide|simp)];refine cq ?_;exact bv (Hx vs (Q:=λbs O=>wpAny (model prog w) A (pure (none::bs)) Q E O) (λv a=>t v (df a)) (cq h))
def SH{Q:SortKind->cc->Prop}(t:∀v∈vs,Looks (model prog w) s.heap (typeOf v) (.type "list"))(d:2<=vs.length)(h:Q oneType' s):wpAny (model prog w) A (keyKind' vs.toArray) Q E s:=by
 obtain⟨f,fr,rfl⟩:∃f fr,vs=f::fr:=by match vs,d with|f::fr,_=>exact#[f,fr,rfl]
 rw[kat_kind_eq,List.mapM_toArray,map_eq_pure_bind];refine bv (bv (Hx _ t (cq ?_)));rw[ba (by simp),ba (by simp)]
 rw[oneTypeOnly'_eq,List.mapM_toArray,map_eq_pure_bind];refine bv (bv (bv (kas_mapM (r:=Value.type "list") _ (λv l o m=>(t v l).here m) (cq ?_))));have a:((List.map (λ_=>Value.type "list") (f::fr)).toArray.all λx=>x==Value.type "list")=true:=by simp only[List.all_toArray,List.all_map,fq];intro _ _;rfl
 have h0:(List.map (λ_=>Value.type "list") (f::fr)).toArray[0]? = some (Value.type "list"):=by simp
 rw[h0];simp only[a,pi];exact cq (cq h)
end
def jD(K:List D):Option (List N):=match fR true K with|some ks=>some ks|none=>fR false K
theorem u6{b:Bool}:∀{K:List D}{ks:List N},fR b K=some ks->ks.length=K.length/\∀(i:Nat) d,K[i]? = some d->∃k,ks[i]? = some k/\fC d=some (b,k)|[],ks,e=>by cases e;exact#[rfl,λi d h=>by simp at h]|d::ds,ks,e=>by unfold fR at e;split at e;{rename_i c k ks' h1 h2;split at e;{rename_i a;cases e;subst a;exists l,r,u6 h2;refine#[by simp[l],λi f h=>?_];cases i with|zero=>simp at h;subst h;exact#[k,rfl,h1]|succ i=>exact r i f (by simpa using h)};cases e};cases e
def y5(ks:List N):jh λi j=>ltN (ks.getD i (.i 0)) (ks.getD j (.i 0)):=#[λa b=>nW a b,λa=>nV a]
section
variable{F:Hp}
theorem SI{A:dj}{b:Bool}{f:List D}{kvs:List V}(hu:A.units+40<cLine)(e:fR b f=some ks)(ok:ow ks=true)(I:Inv X aA σ H s)(sF:aE F H)(rl:aD X.K F f kvs)(rv:aL kvs us):uZ X.prog X.w A f.length (λi j=>ltN (ks.getD i (.i 0)) (ks.getD j (.i 0))) us s:=by(exists kl,kg,u6 e;unfold ow at ok;simp only[cw,fq,fw]at ok;obtain⟨⟨d8,ao⟩,nd⟩:=ok;have lk:kvs.length=f.length:=rl.length;have lu:us.length=f.length:=by rw[<- rv.length,lk]);(have at_:∀i,i<f.length->∃d k v u,f[i]? = some d/\ks.getD i (.i 0)=k/\k∈ks/\fC d=some (b,k)/\aB X.K F d v/\aH v u/\us.getD i .none=u:=λi G=>by exists k,B,hk,kg i _ (gm G);exists v,ev,rd,rl.get' (gm G);exists u,eu,ru,rv.get ev;exact#[_,k,v,u,gm G,by simp[B],u3 B,hk,rd,ru,by simp[eu]]);refine#[λh2=>#[oneType',λQ E q=>?_,λi j Q G hj q=>?_]];{cases b with|true=>((have ia:∃ns,IntsAre us ns:=by(have:∀{f:List D}{kvs:List V}{us:List bb},(∀(i:Nat) d,f[i]? = some d->∃k,fC d=some (true,k))->aD X.K F f kvs->aL kvs us->∃ns,IntsAre us ns:=by intro f;induction f with|nil=>intro kvs us _ r v;simp only[aD]at r;subst r;cases v;exact#[[],.nil]|cons d ds ih=>intro kvs us hk r v;simp only[aD]at r;exists y,ys,rfl,q1,q2,r;cases v with|cons r1 r2=>exists ns,hn,ih (λi d h=>hk (i+1) d (by simpa using h)) q2 r2;exists k,B,hk 0 d rfl;cases d with|int n=>simp only[aB]at q1;subst q1;exists t,rfl,r1;exact#[n::ns,.cons n t hn]|lst es=>(unfold fC at B;dsimp only at B;cases z:cT es with|none|some zs=>rw[z]at B;cases B)|_=>cases B);exact this (λi d h=>let⟨k,_,z⟩:=kg i d h;#[k,z]) rl rv);exists ns,hn,ia;match us,lu with|v1::v2::vs,_=>rw[keyKind_ints hn];exact cq q|[],z|[_],z=>simp at z;lia)|false=>refine SH (λu hu=>?_) (by lia) q;exists i,G,rfl,List.mem_iff_getElem.mp hu;exists d,k,v,u,e1,e2,e3,l,J,e6,W,at_ i (by lia);(have W:us[i]=u:=by rw[<- W];simp[G]);rw[W];cases d with|int n=>cases l|lst es=>simp only[aB]at J;exists a,U,rfl,hq,r,J;cases e6;exists its,_,pl,_,I.list (sF.seq hq);exists o,ho,hc,_,pl.isList;have L:Looks (model X.prog X.w) s.heap (typeOf (.ref a)) o.cls:=(Looks.ld ho).andThen .now;rw[hc]at L;exact L|_=>cases l};exists d,k,v,u,e1,e2,e3,l,J,e6,W,at_ i G;exists d',k',v',u',f1,f2,f3,m,Z,f6,f7,at_ j hj;rw[W,f7];rw[e2,f2]at q;have T:=ao k e3 k' f3;cases b with|true=>(cases d with|int n=>(cases d' with|int n'=>cases l;cases m;simp only[aB]at J Z;subst J;subst Z;exists t,rfl,e6;exists t',rfl,f6;rw[ltN]at q;exact kat_lt_int q|lst es=>(unfold fC at m;dsimp only at m;cases z:cT es with|none|some zs=>rw[z]at m;cases m)|_=>cases m)|lst es=>(unfold fC at l;dsimp only at l;cases z:cT es with|none|some zs=>rw[z]at l;cases l)|_=>cases l)|false=>cases d with|int n=>cases l|lst es=>(cases d' with|int n=>cases m|lst aj=>(unfold fC at l m;dsimp only at l m;cases z:cT es with|none=>rw[z]at l;cases l|some zs=>rw[z]at l;cases l;cases z':cT aj with|none=>rw[z']at m;cases m|some aa=>rw[z']at m;cases m;simp only[aB]at J Z;exists a,U,rfl,hq,r,J;exists a',ae,rfl,ai,r',Z;cases e6;cases f6;exists its,ag,pl,_,I.list (sF.seq hq);exists ak,S,ah,_,I.list (sF.seq ai);have n1:bL X.K H zs U:=(nR z r).map λx _ v y=>eh.mono sF x v y;have n2:bL X.K H aa ae:=(nR z' r').map λx _ v y=>eh.mono sF x v y;rw[ft]at T;rw[ltN]at q;have dd:=d8 _ e3;rw[N.dp]at dd;exact Sz (by lia) pl.isList ah.isList (by simpa using bL.is (λx _ v u a b=>eh.is I x v u a b) n1 ag) (by simpa using bL.is (λx _ v u a b=>eh.is I x v u a b) n2 S) T q)|_=>cases m)|_=>cases l
end
def iM(Φ:D->Res):List D->Option (List D)|[]=>some []|d::ds=>match aM (Φ d),iM Φ ds with|.ok .fz a,some K=>some (a::K)|_,_=>none
def kI:Md->D->Option (List D)|.fz,.dtf kvs=>some (kvs.map λkv=>nD kv.1)|_,d=>seqD d
def eR(Φ:D->Res)(r:Res):Res:=r.thn λm d=>match kI m d with
 |some ds=>(match iM Φ ds with|some K=>((match jD K with|some ks=>if(ow ks&&decide (ds.length<eP))=true then .ok .fr (.lst ((gH (ks.zip ds)).map (·.2)))else .stuck|none=>.stuck))|none=>.stuck)
 |none=>.stuck
theorem Hy{Φ:D->Res}:∀{ds K:List D},iM Φ ds=some K->K.length=ds.length/\∀(i:Nat) d,ds[i]? = some d->∃kd,K[i]? = some kd/\aM (Φ d)=.ok .fz kd|[],K,e=>by cases e;exact#[rfl,λi d h=>by simp at h]|d::ds,K,e=>by unfold iM at e;split at e;{rename_i kd a m f;cases e;exists l,r,Hy f;refine#[by simp[l],λi o h=>?_];cases i with|zero=>simp at h;subst h;exact#[kd,rfl,m]|succ i=>exact r i o (by simpa using h)};cases e
def SJ{K:List D}(h:jD K=some ks):∃b,fR b K=some ks:=by unfold jD at h;split at h;{rename_i z;cases h;exact#[true,z]};exact#[false,h]
section
variable{F:Hp}
theorem SK(hc:X.calm=true)(I:Inv X aA σ H s)(sF:aE F H){m:Md}{d:D}(e:kI m d=some ds)(E:Rp X.K F H m d v)(N:ds.length<eP):∃l U,v=.ref l/\aD X.K F ds U/\∃vs,aL U vs/\∀{R:List bb->cc->Prop}{J:di},(∀h' tk,(∀b o,s.heap.get? b=some o->h'.get? b=some o)->s.heap.objs.size<=h'.objs.size->R vs {s with heap:=h',toks:=tk})->wpAny (model X.prog X.w) X.A.in1 (collect (.ref l)) R J s:=by
 have W:seqD d=some ds->∃l U,v=.ref l/\aD X.K F ds U/\∃vs,aL U vs/\∀{R:List bb->cc->Prop}{J:di},(∀h' tk,(∀b o,s.heap.get? b=some o->h'.get? b=some o)->s.heap.objs.size<=h'.objs.size->R vs {s with heap:=h',toks:=tk})->wpAny (model X.prog X.w) X.A.in1 (collect (.ref l)) R J s:=λe1=>by exists l,U,rfl,hq,L,Rp.seqD sF e1 E;exists vs,Z,col,SF (by rw[L.length];exact N) I hq;exact#[l,U,rfl,L,vs,Z,col]
 unfold kI at e;split at e
 . rename_i kvs;cases e;have E:aB X.K F (.dtf kvs) v:=E;simp only[aB]at E;exists a,o,U,rfl,hf,r,E;have hd:=sF _ _ hf;exists ns,es,g,hx,dt,sz,n,qQ I.hok hd;have T:aL (U.map λp=>V.ref p.2.1) (es.toList.map (·.key)):=Hr (by rw[d3,lc,sz]) λj v f=>by
     rw[h7,vj]at f;cases B:es[j]? with|none=>rw[B]at f;cases f|some e=>(rw[B]at f;cases f;have S:j<U.length:=by rw[<- sz];exact(CM.mp B).1);exists e',G,ke,n j U[j] (by simp[S]);rw[B]at G;cases G;exact#[U[j],by simp[S],ke]
   refine#[a,_,rfl,Hs r,_,T,λ{R J} q=>?_];refine SC (A:=X.A.in1) (SD ns hx dt) (I.ok.hd hc) g (by rw[sz,r.len,dz];rw[d3]at N;have:=kD;lia) λh' tk vs kp zs it=>?_
   have:vs.toList=es.toList.map (·.key):=by refine Di (by rw[lc,it.1,d3,lc]) λi h1 h2=>?_;exists e,B,f,it.2 i _ (by rw[<- vj];exact gm h1);(rw[<- f,List.getElem_map];have h3:i<es.size:=by simpa using h2);rw[BK h3]at B;cases B;simp
   rw[this];exact q h' tk kp (sy zs)
 . exact W e
end
section
variable{F:Hp}{E:di}
theorem SL{Φ:D->Res}{f:Addr}{m:Md}{d:D}{Q:VK}(W:X.calm=true)(hu:X.A.units+64<cLine)(I:Inv X aA σ H s)(sF:aE F H)(rp:Rp X.K F H m d v)(N:aH v u)(cl:∀pins' H' F' O v u d B,Inv X pins' σ H' O->aG F H F' H'->aB X.K F' d v->aH v u->aM (Φ d)=.ok .fz B->wpAny (model X.prog X.w) X.A.in1.in1 (call (.ref f) [u]) (λku r=>∃kv F'' H'',Inv X pins' σ H'' r/\aH kv ku/\aG F' H' F'' H''/\aB X.K F'' B kv) (λ_ _=>False) O)(w:aZ (C.at X) F H σ (eR Φ (.ok m d)) Q):wpAny (model X.prog X.w) X.A (call (.builtin "sorted") [u] [(Str.ofString "key",.ref f)]) (EP X aA σ Q) E s:=by(have w:aZ (C.at X) F H σ (match kI m d with|some ds=>((match iM Φ ds with|some o=>((match jD o with|some ks=>if(ow ks&&decide (ds.length<eP))=true then .ok .fr (.lst ((gH (ks.zip ds)).map (·.2)))else .stuck|none=>.stuck))|none=>.stuck))|none=>.stuck) Q:=w);cases e1:kI m d with|none=>rw[e1]at w;exact w.elim|some ds=>rw[e1]at w;dsimp only at w;cases e2:iM Φ ds with|none=>rw[e2]at w;exact w.elim|some o=>rw[e2]at w;dsimp only at w;cases e3:jD o with|none=>rw[e3]at w;exact w.elim|some ks=>rw[e3]at w;dsimp only at w;split at w;{rename_i hc;rw[cw,fw]at hc;exists ok,Z,hc;exists b,eb,SJ e3;exists l,U,rfl,T,aa,L,col,SK W I sF e1 rp Z;cases N;have lx:U.length=ds.length:=T.length;exists kl,kg,Hy e2;have ae:=(u6 eb).1;refine SE rfl (y5 ks) (by lia) I L col (P:=λi kvs H'=>∃F',aG F H F' H'/\aD X.K F' (o.take i) kvs) #[F,.refl sF,aD.nil] ?_ ?_ ?_;{rintro i v u kvs H' pins' O ex N I' ⟨F',st,rk⟩;exists d',ed,rd,T.get ex;exists B,ek,er,kg i d' ed;refine ij (cl pins' H' F' O v u d' B I' st (rd.mono st.fsame _ _) N er) (λku r hk=>?_) λ_ _ x=>x;exists kv,F2,H2,I2,r2,S,J,hk;refine#[kv,H2,I2,r2,F2,st.trans S,?_];(have:o.take (i+1)=o.take i++[B]:=by rw[List.take_succ,ek];rfl);rw[this];exact aD.append (rk.mono S.fsame _ _) (aD.cons J aD.nil)};{rintro kvs us H' pins' O I' ⟨F',st,rk⟩ rv hl;rw[BB (by lia)]at rk;have:=SI (A:=X.A.in1.in1) (by show X.A.units+1+1+40<_;lia) eb ok I' st.sub rk rv;rw[kl,<- lx]at this;exact this};rintro p H' kvs l' V ps ⟨F',st,_⟩ hn hn0;(have nd:ks.Nodup:=by unfold ow at ok;simp only[cw,fw]at ok;exact ok.2);(rw[lx]at V;have hz:ks.length=ds.length:=by lia);(refine w (.ref l') F' _ (st.trans (aG.fresh _ st.sub hn)) #[l',rfl,st.sub.free hn,_,a8,?_] λ_ a ea=>by cases ea;exact hn0);rw[<- SG hz nd V ps];exact uE λi hi=>by(have G:i<ds.length:=by simpa using V.mem_iff.mp hi);(exists x,ex,rx,T.get' (gm G);have a1:ds.getD i .non=ds[i]:=by simp[G]);(have a2:U.getD i .non=x:=by simp[ex]);rw[a1,a2];exact rx.mono st.fsame _ _};exact w.elim
end
theorem Hz:∀{ps:List Str}{us:List bb},ps.Nodup->us.length=ps.length->ps.filterMap (λn=>((ps.zip us).lookup n).map (n,·))=ps.zip us/\∀n∈ps,((ps.zip us).lookup n).isNone=false
 |[],us,_,_=>#[rfl,λ_ h=>by cases h]|p::ps,[],_,h=>by cases h|p::ps,u::us,nd,h=>by
  exists o,m,lg.mp nd;exists i1,f,Hz (us:=us) m (Nat.succ.inj h);have e:∀n∈ps,((p,u)::ps.zip us).lookup n=(ps.zip us).lookup n:=λn hn=>by rw[iq];have:(n==p)=false:=lr.mpr λz=>o (z ▸ hn);rw[this]
  refine#[?_,λn hn=>?_]
  . rw[tm,qw,iq,oi];dsimp only[Option.map];refine congrArg _ (Eq.trans ?_ i1);have c:∀l:List Str,(∀n∈l,n∈ps)->l.filterMap (λn=>(((p,u)::ps.zip us).lookup n).map (n,·))=l.filterMap (λn=>((ps.zip us).lookup n).map (n,·)):=by
      intro l hl
      induction l with|nil=>rfl|cons a l d=>rw[qw,qw,e a (hl a c6),d λn hn=>hl n (df hn)]
    exact c ps λ_ h=>h
  . rw[tm];rcases dq.mp hn with rfl|hn;{rw[iq,oi];rfl};rw[e n hn];exact f n hn
def SM{ps:List Str}(B:fd.params.posonlyargs=[])(A:fd.params.args.map (·.arg)=ps)(r:fd.params.vararg=none)(o:fd.params.kwonlyargs=[])(m:fd.params.kwarg=none)(hd:fd.defaults=.none)(l:ps.Nodup)(us:List bb)(a:us.length=ps.length):bindArgs fd #[us,[]]=pure (ps.zip us):=by(exists f,d,Hz l a;have Z:(ps.take (ps.length-0)).filter (λn=>((ps.zip us).lookup n).isNone)=[]:=by rw[Nat.sub_zero,Dc,List.filter_eq_nil_iff];intro n hn;rw[d n hn];decide);unfold bindArgs;simp only[B,A,r,o,m,hd,oa,tz,h5,vg,q0,a,jn,seqItems?];have q:(do notAStandIn Value.none;pure none:Sem (Option (Array bb)))=pure none:=rfl;rw[q];simp only[q0,pr,pv,Nat.zero_sub,BA,Z,decide_false,Bool.false_and,io,jd,List.isEmpty_nil,Bu,List.zip_nil_right,vg,f,Array.toList_empty,List.drop_nil]
section
variable{kp:Pos}{Φ:D->Res}
def SN(T:Addr->Hp->Prop)(N:X.calm=true)(hu:X.A.units+64<cLine)(hg:Gl X "sorted")(hm:X.mg "sorted"=none)(he:PV C X e g)(hs:bW e=true)(hk:PE X ke (λσ H Q=>∀f H',aE H H'->T f H'->Q (.ref f) H'))(cl:∀f pins' σ H F H' F' O v u d r,T f H->Inv X pins' σ H' O->aG F H F' H'->aB X.K F' d v->aH v u->aM (Φ d)=.ok .fz r->wpAny (model X.prog X.w) X.A.in1.in1 (call (.ref f) [u]) (λku D=>∃kv F'' H'',Inv X pins' σ H'' D/\aH kv ku/\aG F' H' F'' H''/\aB X.K F'' r kv) (λ_ _=>False) O):PV C X (.Call (.Name "sorted" p) [e] [#[some "key",ke,kp]] pos) (λY=>eR Φ (g Y)):=by intro aA s σ H Q I h;rw[aR]at h;exists Y,F,R,w,h;have st:starEach [e] X.env=[(false,eval e X.env)]:=bX hs;refine pf (jT I hg hm uD ?_ (by decide) (by decide));refine callWith_kw (e:=e) (rest:=[]) ?_ (by rw[st];rfl) (by rw[st];rfl) rfl rfl;have W:PA X [e] (iA (tG (C.at X) g) kW):=jU he kX st;refine thn (W pos aA s σ H (λvs H1=>∃v,vs=[v]/\∃F1,aG F H F1 H1/\∃m d,g Y=.ok m d/\Rp X.K F1 H1 m d v) I ?_) λus B hz=>?_;{show tG (C.at X) g σ H _;rw[aR];refine#[Y,F,R,?_];cases E:g Y with|stuck=>rw[show eR Φ (g Y)=.stuck by rw[E];rfl]at w;exact w|exc c=>rw[show eR Φ (g Y)=.exc c by rw[E];rfl]at w;exact w|ok m d=>exact λv F1 H1 B J _=>#[v,rfl,F1,B,m,d,rfl,J]};exists vs,H1,I1,rv,v,rfl,F1,l,m,d,E,J,hz;exists u,rfl,ru,gP rv;have V:PK X [#[some "key",ke,kp]] (iA (λσ H Q=>∀f H',aE H H'->T f H'->Q (.ref f) H') kW):=NO hk NN;refine thn (V pos aA B σ H1 (λws o=>∃f,ws=[.ref f]/\aE H1 o/\T f o) I1 (λf H' sm t=>#[f,rfl,sm,t])) λws s2 L=>?_;exists zs,o,I2,rz,f,rfl,sm,t,L;exists wv,rfl,G,gP rz;cases(show wv=Value.ref f from G);have S:aG F1 H1 F1 o:=#[sm,aE.refl _,l.sub.trans sm,λ_ h _=>h];have Z:=aZ.step (l.trans S) w;rw[show eR Φ (g Y)=eR Φ (.ok m d) by rw[E]]at Z;exact SL (C:=C) N hu I2 S.sub (J.step S) ru (λpins' H' F' O v u d r a b c d' e'=>cl f pins' σ o F1 H' F' O v u d r t a b c d' e') Z
def SO{F:Hp}{K:Frag}{m:Md}{d kd:D}(E:aM (.ok m d)=.ok .fz kd)(st:aG F H F' H')(l:Rp K F' H' m d v)(fr:m=.fr->∀a,v=.ref a->H a=none):∃f,aG F H f H'/\aB K f kd v:=by cases m with|fz=>cases E;exact#[F',st,l]|bo=>cases E|fr=>cases E;exists x,rfl,n,t,l;exists o,ho,r,t.freeze n;exact#[upd F' x o,st.freeze (fr rfl x rfl) n ho,r]
def y6{n:Nat}{Ψ:List D->Res}(FV:ul X.prog X.w X.K X.mg X.base (fx X.prog X.w) k x 1 Ψ)(hr:bG k X.A.in1.in1){f:Addr}(hf:X.mg x=some (.ref f)){d kd:D}(I:Inv X pins' σ H' O)(sF:aE F' H')(Z:aB X.K F' d v)(V:aH v u)(E:aM (Ψ [d])=.ok .fz kd):wpAny (model X.prog X.w) X.A.in1.in1 (call (.ref f) [u]) (λku o=>∃kv F a,Inv X pins' σ a o/\aH kv ku/\aG F' H' F a/\aB X.K F kd kv) (λ_ _=>False) O:=by
 exists f',fd,ps,N,J,hk,hb,FV.ex;rw[hf]at J;cases J;have sp:ll X.K X.mg 1 Ψ [v] H' (λkv a=>∃F,aG F' H' F a/\aB X.K F kd kv) (λ_ _ _=>False):=by refine#[rfl,F',[d],sF,aD.cons Z aD.nil,?_];cases ep:Ψ [d]with|stuck|exc c=>rw[ep]at E;cases E|ok m d'=>rw[ep]at E;exact#[(by intro z;rw[z]at E;cases E),λv T L st W fr=>SO E st W fr]
 have hl:([u]++[]).length=ps.length:=by rw[<- N.len _ _ _ _ sp];rfl
 have l:=hb O [u] I.kIn hl;rw[h5]at l;refine vh (mz (N.run X.A.in1.in1 X.stack O H' #[[u],[]] [u] [v] _ _ hr I.env0.in1.in1 l (.cons V .nil) sp) λr s2 G=>?_);cases r with|error e=>exists _,_,_,_,_,_,_,_,_,_,z,G;exact z|ok fl=>cases fl with|ret w=>exists kv,L,I2,rk,T,S,B,I.after G;exact#[kv,T,L,I2,rk,S,B]|next|brk|cont=>exact False.elim G
theorem bG.in2{A:dj}(r:bG (k+1) A):bG k A.in1.in1 :=
 #[r.hd,by have:=r.dp;show A.depth+3 * k+5<_;lia,by have:=r.un;show A.units+1+1+16 * k+200<_;lia]
def SQ{Ψ:List D->Res}(o:X.calm=true)(E:X.A.units+64<cLine)(L:Gl X "sorted")(J:X.mg "sorted"=none)(N:PV C X e g)(hs:bW e=true)(l:Gl X x)(m:(x==("__debug__":Str))=false)(B:ul X.prog X.w X.K X.mg X.base (fx X.prog X.w) k x 1 Ψ)(G:bG (k+1) X.A):PV C X (.Call (.Name "sorted" p) [e] [#[some "key",.Name x q,kp]] pos) (λY=>eR (λd=>Ψ [d]) (g Y)):=by exists f,fd,ps,T,a,hk,S,id B.ex;refine SN (λr _=>r=f) o E L J N hs (PE.imp (sW l a (v:=.ref f) rfl m) λσ H Q h=>h f H (aE.refl _) rfl) ?_;intro r pins' σ H F H' F' O v u d kd t I st rd ru er;subst t;exact y6 (n:=1) B (bG.in2 G) a I st.sub rd ru er
end
abbrev GD:=List (N×List D)
def bD(kvs:GD)(k:N):Option (List D):=(kvs.find? λkv=>decide (kv.1=k)).map (·.2)
def kJ(kvs:GD)(k:N)(ds:List D):GD:=kvs.map λkv=>if kv.1=k then(kv.1,ds)else kv
def gI(kvs:GD)(k:N)(d:D):GD:=match bD kvs k with|some ds=>kJ kvs k (ds++[d])|none=>kvs++[(k,[d])]
def HA(Y:Rho):Prop:=∀(j:Nat) d,Y[j]?≠some (some (true,d))
abbrev GM:=Rho->GD->Option (Rho×GD)
abbrev JD:=List (Key×List D)
abbrev HM:=Rho->JD->Option (Rho×JD)
abbrev FZ:=List D×List Str
abbrev SR(Z:Type):=Rho->Z->Option (Rho×Z)
abbrev FM:=SR FZ
abbrev KD:=List (Key×D)
def HB(kvs:KD):Prop:=∀kv∈kvs,∀x,kv.1=.inr x->x.length<=sizeLine/\PyData.strOk x=true
def lY(H:Hp)(a:Addr):Hp:=λc=>if c=a then none else H c
def nY{a c:Addr}(h:c≠a):lY H a c=H c:=ba h
def HC{a:Addr}:lY H a a=none:=aK rfl
def SU(K:Fg)(Ψ:D->KD->Option KD)(vs:List V)(H:Hp)(Q:VK):Prop:=∃F d v a kvs U kvs',vs=[v,.ref a]/\aE F H/\aB K F d v/\H a=some (.dK U)/\F a=none/\aF K F kvs U/\HB kvs/\Ψ d kvs=some kvs' /\
 ∀F' H' f,aG F (lY H a) F' H'->F' a=none->H' a=some (.dK f)->aF K F' kvs' f->HB kvs'->Q (.ref a) H'
def qX(K:Fg)(Ψ:D->KD->Option KD):Sp:=λvs H Q _=>SU K Ψ vs H Q
section
variable{f:Str}{r:Pos}
def y8{f:Addr}{ps:List Str}{Q:VK}{vs:List V}{E:XK}{sp:Sp}(F:bO X.prog X.w X.K X.mg X.base CX k f fd ps sp)(m:bG k X.A)(B:cQ X.K fd ps [])(l:∀e O,CX X.stack H s E e O->X.xe e O)(I:Inv X aA σ H s)(r:aL vs us)(h:sp vs H Q E):wpAny (model X.prog X.w) X.A (call (.ref f) us) (EP X aA σ Q) X.xe s:=by(have o:(us++[]).length=ps.length:=by rw[h5,<- r.length];exact F.len _ _ _ _ h);have a:=B s us I.kIn o;rw[h5]at a;refine vh (mz (F.run X.A X.stack s H #[us,[]] us vs Q E m I.env0 a r h) λr O d=>?_);cases r with|error e=>exact l e O d|ok fl=>cases fl with|ret u=>exact I.after d|next|brk|cont=>exact False.elim d
structure SV(P:fc)(w:dh)(K:Fg)(mg:fg)(base:Heap)(CX:CXT)(k:Nat)(x:Str)(Ψ:D->KD->Option KD):Prop where
 ex:∃f fd ps,bO P w K mg base CX k f fd ps (qX K Ψ)/\mg x=some (.ref f)/\W.keepIn K (.ref f)=true/\cQ K fd ps []
end
end D3
namespace L2
end L2
namespace D3
def SW(K:Fg)(f0 a b:Str):Sp:=λvs H Q _=>∃F kd v1 p0 U kvs,vs=[v1,.ref p0]/\aE F H/\aB K F kd v1/\Rd H p0 (.dK U)/\aF K F kvs U/\∀F' H' v,aG F H F' H'->aB K F' (.clo f0 "" [(a,kd),(b,.dct kvs)]) v->Q v H'
mutual
def Ca:D->Bool|.tup U|.lst U=>HD U|.dct kvs=>HE kvs|.ins _ fs=>HF fs|.exn _=>false|.clo _ _ _=>false|.dtn _=>false|.dtf _=>false|.dcf _=>false|_=>true
def HD:List D->Bool|[]=>true|d::ds=>Ca d&&HD ds
def HE:List (Key×D)->Bool|[]=>true|(_,d)::ds=>Ca d&&HE ds
def HF:List (Str×D)->Bool|[]=>true|(_,d)::ds=>Ca d&&HF ds
end
def XY(H H':Hp):Prop:=∀b o,H b=some o->(∀p,o ≠ .ext p)->H' b=some o
structure SY(P:fc)(w:dh)(K:Fg)(mg:fg)(base:Heap)(CX:CXT)(k:Nat)(x a b:Str):Prop where
 ex:∃f fd ps,bO P w K mg base CX k f fd ps (SW K x a b)/\mg x=some (.ref f)/\W.keepIn K (.ref f)=true/\cQ K fd ps []
structure Ec(K:Fg)(f kn pn g:Str):Prop where
 ex:∃q rn vn params scope p1 p2 p3 p4 p5 p6 pos,xl K f "" q (.FunctionDef vn params [.Return (some (.Call (.Name g p1) [.Name kn p2,.Name pn p3,.Name rn p4] [] p5)) p6] [] none [] scope none vn pos) /\
  scope.kind=.function/\scope.isCoroutine=false/\scope.isGenerator=false/\[kn,pn,rn].Nodup/\(∀y∈scope.names,y.2 ≠ .cell)/\(∀y∈scope.names,y.2=.free->y.1=kn\/y.1=pn) /\
  scope.names.lookup kn=some .free/\scope.names.lookup pn=some .free/\scope.names.lookup rn=some .local/\scope.names.lookup g=some .globalImplicit/\(∀y∈[kn,pn,rn,g],(y==("__debug__":Str))=false/\(y==("__classdict__":Str))=false) /\
  ∀name q body cl doc pm c ct u,bindArgs (W.fnX name q params body scope cl .none .none doc pm none (.ref c) ct) #[[u],[]]=pure [(rn,u)]
def qY(P:fc)(w:dh)(K:Fg)(mg:fg)(base:Heap)(k:Nat)(f0 n:Str)(l:List (Str×D)->D->Res):Prop :=
 ∀(A:dj) (outer:List Env) (s:cc) (F H:Hp) (u:bb) (v:V) (fs:List (Str×D)) (a d:D) (fa:Addr) (Q:VK),bG k A->iV P w K mg base A outer s H->aE F H->aB K F (.clo f0 n fs) (.ref fa)->aH v u->aB K F a v->Ca a=true->l fs a=.ok .fz d ->
  (∀f F' H',aG F H F' H'->aB K F' d f->Q f H')->codeAny (model P w) A (.call (.ref fa) #[[u],[]]) (CR Ov outer P w H s Q λ_ _ _=>False) s
inductive Ed where|nm (i:Nat)|ix (j:Nat)
structure fD where
 ps:List Str
 ws:List (Str×List Str)
 r:Ed
def fD.pick(I:fD)(ds:List D):Option Nat:=match I.r with|.nm i=>some i|.ix j=>match ds[j]? with|some (.int z)=>L2.ixN I.ws.length z|_=>none
def y9(ps:List Str)(ds:List D)(x:Str):Option D:=(ps.zip ds).lookup x
def fD.dat(I:fD)(f0:Str)(ps:List Str)(ds:List D)(x:Str):D:=match y9 ps ds x with|some d=>d|none=>match I.ws.lookup x with|some aC=>.clo f0 x (aC.map λz=>(z,(y9 ps ds z).getD .non))|none=>.non
def fD.out(I:fD)(f0:Str)(ps:List Str)(ds:List D):Option D:=(I.pick ds).bind λi=>(I.ws[i]?).map λz=>.clo f0 z.1 (z.2.map λx=>(x,I.dat f0 ps ds x))
def SZ(K:Fg)(f0:Str)(ps:List Str)(I:fD):Sp:=λvs H Q _=>vs.length=ps.length/\∃F ds d,aE F H/\aD K F ds vs/\I.out f0 ps ds=some d/\∀F' H' v,aG F H F' H'->aB K F' d v->Q v H'
def HG{K:Fg}{f0 n:Str}:qY P w K mg base k f0 n λ_ _=>.stuck:=λ_ _ _ _ _ _ _ _ _ _ _ _ _ _ _ _ _ _ _ h=>by cases h
structure Ee(P:fc)(w:dh)(K:Fg)(mg:fg)(base:Heap)(CX:CXT)(k:Nat)(x:Str)(I:fD):Prop where
 ex:∃f fd,bO P w K mg base CX k f fd I.ps (SZ K x I.ps I)/\mg x=some (.ref f)/\W.keepIn K (.ref f)=true/\cQ K fd I.ps []
open PySem.W
def lZ(r:Res):Res:=r.thn λ_ d=>match d with|.dcf kvs=>if(kvs.all λkv=>fO kv.1)=true then .ok .fz (.lst (kvs.map λkv=>qH kv.1))else .stuck|_=>.stuck
def HH(tl:TE):TI:=λσ H R=>tl σ H λx H1=>∃d o U,x=.ref d/\H1 d=some (.frz o (.dK U))/\R (D8 d o U) H1
def zd{l:Expr}(A:PE X l tl):PI X tg l (HH tl):=by intro aA s σ H R I h;refine thn (A aA s σ H _ I h) λv S ⟨x,H1,a,f,q1⟩=>?_;exists d,o,U,e,hd,q,q1;subst e;cases f;exists m,vs,r,D,uF a.hok hd;have lv:vs.length=U.length:=r.length.symm;refine wpAny_pyIter_dict m D ?_;rw[lv];have E:L2.Inv X aA σ H1 { S with heap:=S.heap.push { cls:=.type "dict_keyiterator",data:=.fields (List.toArray [.ref d,.int 0 0,.int U.length 0,.int (ou o) 0]) } }:=a.kept (t':=S.toks) λb o e=>hps e;(refine#[S.heap.objs.size,[S.heap.objs.size],_,_,_,rfl,E,Rt d _ o U,#[_,fi _ rfl,rfl,rfl],λb B=>?_,q];have e:b=S.heap.objs.size:=by simpa using B);subst e;exact a.fpOk (dm _) (a.hok.fresh (dm _))
def S0{K:Fg}{F:Hp}{a:Addr}{o:Obj}{kvs:List (Key×D)}{U:List (Key×V)}(l:F a=some (.frz o (.dK U)))(r:aF K F kvs U)(A:(kvs.all λkv=>fO kv.1)=true):lH K F (D8 a o U) (kvs.map λkv=>qH kv.1) where
 go:=λi H s f=>#[s _ _ l,by rw[r.len];simpa using f]
 stop:=λi H s f=>#[s _ _ l,by rw[r.len];simpa using f]
 yld:=λi Fc H x H' m S f y=>by exists rfl,p,hp,rfl,y;exists d,hd,hn,(Gz r A).get (i:=i) (x:=kV p.1) (by rw[h7,hp];rfl);exact#[Fc,d,hd,.refl S,aB.mono m _ _ hn]
def S2(h:PV C X e g):kz C X tg e (λY=>lZ (g Y)):=by refine PI.imp (zd h) λσ H R q=>?_;exists Y,F,B,w,q;dsimp only at w;unfold HH;rw[aR];refine#[Y,F,B,?_];unfold lZ at w;cases E:g Y with|stuck=>rw[E]at w;exact w.elim|exc c=>rw[E]at w;exact w|ok m d=>rw[E,Res.thn_ok]at w;intro v F' H' st f _;cases d with|dcf kvs=>(dsimp only at w;split at w;{rename_i A;cases m with|fz=>have f:aB X.K F' (.dcf kvs) v:=f;simp only[aB]at f;exists a,o,U,rfl,l,r,f;exact#[a,o,U,rfl,st.sub _ _ l,w _ F' H' st (S0 l r A)]|fr|bo=>exists a,_,_,q,f;exact q.elim};exact w.elim)|_=>exact w.elim
def S3{ns:List Int}(h:IntsAre us ns):aL (ns.map V.int) us:=by induction h with|nil=>exact .nil|cons n t h a=>exact .cons #[t,rfl] a
end D3
namespace L2
open D3
theorem ze{σ:St}{a:Addr}{kvs:List (Key×V)}{k:Key}{r:bb}{A:dj}{E:di}{Q:Unit->cc->Prop}(I:Inv X aA σ H s)(e:H a=some (.dK kvs))(l:kvs.length<sizeLine)(f:aH (kV k) u)(m:aH v r)(h:∀O,Inv X aA σ (upd H a (.dK (cX kvs k v))) O->Q () O):wpAny (model X.prog X.w) A (dictSet a u r) Q E s:=by(exists z,hd,vs,d,J,tN I.hok e;have o:vs.length<=sizeLine:=by rw[<- d.length];exact z);(have F:(cX kvs k v).length<=sizeLine:=by have:=zF kvs k v;lia);refine wpAny_dictSet_pairs (hsz:=o) (jV f) J λh' D hs=>h _ ?_;have G:∃q,h'.get? a=some q:=let⟨q,_,_,B,_⟩:=D;#[q,B];exact pD I (by rw[e];exact True.intro) hs G (tO F hd (d.put k m) D)
def u7(aC:List Nat)(k:Nat)(wi:TI)(gt:TG)(tt:TT)(tk tv:TE):TE:=λσ H Q=>wi σ H λJ H1=>∀D,H1 D=none ->
 ∃W:Nat->Nat->List (Key×V)->Hp->Prop,(∃m,W 0 m [] (upd H1 D (.dK [])))/\∀i m ys H,W i m ys H->H D=some (.dK ys) /\
  ((J.stop i H/\Q (.ref D) H)\/(J.go i H/\ys.length<sizeLine/\∀x H',J.yld i H x H'->gt x (cD aC σ++List.replicate k none) H' λa o=>pM (cD aC σ++List.replicate k none) a/\tt a o λb f =>
   if b=true then tk a f λK l=>∃q,K=kV q/\tv a l λy d=>d D=some (.dK ys)/\∃m',m'<m/\W (i+1) m' (cX ys q y) (upd d D (.dK (cX ys q y)))else ∃m',m'<m/\W (i+1) m' ys f))
def S4 {X : Cx} {a V tg iter : Expr} {ifs : List Expr} {scope : Scope} {pos : Pos} {N : List Str} {tk tv : TE} (hk : ∀ cl C fp s3 H3, PE (aY X scope N cl C fp s3 H3) a tk) (A : ∀ cl C fp s3 H3, PE (aY X scope N cl C fp s3 H3) V tv) :
    CK X (.DictComp a V [#[tg,iter,ifs,0]] scope pos) tg iter ifs scope N .dK newDict (λD env=>do let kv <- eval a env;let vv <- holding [kv] (eval V env);standAt {a.pos with endLine:=V.pos.endLine,endCol:=V.pos.endCol};holding [kv,vv] (dictSet D kv vv)) (λσ H D ys K=>tk σ H λf l=>∃q,f=kV q/\tv σ l λy d=>d D=some (.dK ys)/\K (cX ys q y) (upd d D (.dK (cX ys q y)))) where
 cl:=#[_,rfl]
 tn _ _ _ _ _ _:=#[rfl,rfl]
 st:=codeAny_compStart_dict
 nw I h:=je (h _ (pc _ _) (λb o e=>hps e) (I.laid (t':=_) (λb u e=>hps e) (dm _) (tO (gw _) (by rw[lr];exact nq I.big) .nil (C6 _))))
 ac {cl C fp s3 H3 _ σ _ _ D ys _ _} I hlen h w:=bv (thn (hk cl C fp s3 H3 _ _ σ _ _ I h) λkv Z ⟨f,l,L,rk,k,F,E⟩=>bv (il (thn (A cl C fp s3 H3 _ _ σ _ _ L E) λy W ⟨S,d,J,r,B,m⟩=>bv (nt (il (ze (X:=aY X scope N cl C fp s3 H3) J B hlen (F ▸ rk) r λT G=>w _ _ _ G m))))))
def S5{K V:Expr}{tk:TE}(r:X.calm=true)(hi:PI X tg iter wi)(S:∀y∈scope.names,y.2 ≠ .cell)(L:scope.kind=.function)(G:∀y∈scope.names,y.2=.local->scope.names.lookup y.1=some .local)(J:∀y∈scope.names,y.2=.free->X.env.kindOf y.1=some .cell\/X.env.kindOf y.1=some .free)(B:aJ.map some=aC.map λi=>X.N[i]?)(E:∀y∈aJ,(y,NameKind.free)∈scope.names)(F:∀y∈aJ,(relabel scope X.env).names.lookup y=some .cell\/(relabel scope X.env).names.lookup y=some .free)(l:∀cl C fp s3 H3,PG (aY X scope (aJ++tgN) cl C fp s3 H3) tg gt)(o:∀cl C fp s3 H3,dQ (aY X scope (aJ++tgN) cl C fp s3 H3) ifs tt)(hk:∀cl C fp s3 H3,PE (aY X scope (aJ++tgN) cl C fp s3 H3) K tk)(f:∀cl C fp s3 H3,PE (aY X scope (aJ++tgN) cl C fp s3 H3) V tv)(hs:∀x,foldedSetIterable iter X.env x=pure x):PE X (.DictComp K V [#[tg,iter,ifs,0]] scope pos) (u7 aC tgN.length wi gt tt tk tv):=by intro aA s σ H Q I h;rw[arm_eval_DictComp];exact pN (use:=none) r hi S L G J B E F l o (S4 hk f) hs I h λD Z W T a A _ _ _ _ _ q=>by exists m,a,a;exact#[m,a,λd hs=>#[.ref D,T,A d hs,rfl,q]]
end L2
namespace D3
def ox(k:D->Rho->Option Rho)(gk ge:Rho->Res)(f:Rho):List D->List (Key×D)->Option (List (Key×D))|[],z=>some z|d::ds,z=>match k d f with|none=>none|some a=>match gk a,aM (ge a)with|.ok _ K,.ok _ y=>((match gC K with|some q=>if z.length<sizeLine then ox k gk ge f ds (fN z q y)else none|none=>none))|_,_=>none
def nZ(src:Res)(Y:Rho)(aC:List Nat)(n:Nat)(k:D->Rho->Option Rho)(gk ge:Rho->Res):Res:=src.thn λ_ d=>match d with
 |.lst ds=>(match ox k gk ge (cA aC Y++List.replicate n none) ds []with|some z=>.ok .fr (.dct z)|none=>.stuck)
 |_=>.stuck
theorem S6{gk:Rho->Res}(ae:∀j∈dB t,aC.length<=j){Q:VK}(q:tG (C.at X) (λY=>nZ (gi Y) Y aC tgN.length (aO t) gk ge) σ H Q):u7 aC tgN.length (sg (C.at X) gi) (jg X.K t) (λ_ H Q=>Q true H) (tG (C.nox.at X) gk) (tG (C.nox.at X) λY=>aM (ge Y)) σ H Q:=by
 rw[aR]at q;exists Y,F,RS,w,q;unfold u7;refine#[Y,F,RS,?_];cases er:gi Y with
 |stuck|exc c=>rw[er]at w;exact w|ok m d =>
  rw[er]at w;unfold nZ at w;rw[Res.thn_ok]at w;split at w
  . rename_i ds;split at w
    . rename_i T et;intro J F1 H1 s1 hJ Da hDa;have r:H Da=none:=s1.same.free hDa;have G:F1 Da=none:=s1.sub.free hDa;have R0:=tU aC tgN.length RS;obtain⟨W,hW⟩:∃W:Nat->Nat->List (Key×V)->Hp->Prop,∀i m ys H',W i m ys H'↔m=ds.length-i/\i<=ds.length/\H' Da=some (.dK ys)/\∃F' zs,aG F H F' H'/\aE F1 F'/\F' Da=none/\aF X.K F' zs ys /\
        ox (aO t) gk ge (cA aC Y++List.replicate tgN.length none) (ds.drop i) zs=some T:=#[_,λ_ _ _ _=>Iff.rfl]
      refine#[W,#[_,(hW ..).mpr #[rfl,gw _,a8,F1,[],s1.upd r G,aE.refl _,G,by simp only[aF],et]],λi m ys H' wi=>?_]
      exists rfl,ak,N,F',zs,st,sF,B,rz,E,(hW ..).mp wi;refine#[N,?_];by_cases f:i<ds.length
      . have hd:∃d,ds.drop i=d::ds.drop (i+1)/\ds[i]? = some d:=#[ds[i],vf f,gm f];exists d0,hd,ah,hd;rw[hd]at E;unfold ox at E;cases eg:aO t d0 (cA aC Y++List.replicate tgN.length none)with
        |none=>rw[eg]at E;cases E|some am =>
        rw[eg]at E;dsimp only at E;split at E;rotate_left
        . cases E
        rename_i mk kd my y ek ev;cases eq:gC kd with
        |none=>rw[eq]at E;cases E|some k =>
        rw[eq]at E;dsimp only at E;by_cases hl:zs.length<sizeLine
        . rw[aK hl]at E;refine .inr #[hJ.go i H' (sF.trans st.sub) f,by rw[rz.len];exact hl,λv H2 yl=>?_]
          exists F2,d,ed,S,rd,hJ.yld i F' H' v H2 sF st.sub f yl;rw[ah]at ed;cases ed;have o:H2 Da=some (.dK ys):=S.same _ _ N;have ai:F2 Da=none:=S.new _ B (by rw[N];exact λz=>nomatch z)
          have R2:=(R0.step st).step S;refine j7 t R2 rd eg λaa R1 L l=>?_;refine#[#[L.symm,λj u Z=>?_],?_]
          . by_cases hj:j∈dB t;{have:=ae j hj;rw[nv (by simpa[cD]using this),ny]at Z;split at Z <;> cases Z};rw[l j hj];exact Z
          show tG (C.nox.at X) gk aa H2 _;rw[aR];refine#[_,F2,R1,?_];rw[ek];intro kv F3 H3 s3 rk _;have ag:kv=kV k:=nH eq rk;refine#[k,ag,?_];rw[aR];refine#[_,F3,R1.step s3,?_];rw[ev];intro u F4 H4 A ru _;cases nN ev;have aj:H4 Da=some (.dK ys):=A.same _ _ (s3.same _ _ o);have D:F4 Da=none:=A.new _ (s3.new _ ai (by rw[o];exact λz=>nomatch z)) (by rw[s3.same _ _ o];exact λz=>nomatch z)
          exact#[aj,ds.length-(i+1),by lia,(hW ..).mpr #[rfl,f,a8,F4,fN zs k y,(((st.trans S).trans s3).trans A).upd r D,((sF.trans S.fsame).trans s3.fsame).trans A.fsame,D,
           aF.put (rz.mono ((S.fsame.trans s3.fsame).trans A.fsame) _ _) ru,E]]
        . rw[ba hl]at E;cases E
      . (have ei:i=ds.length:=by lia);subst ei;rw[tj]at E;cases E;exact .inl #[hJ.stop _ H' (sF.trans st.sub) (dm _),w (.ref Da) F' H' st #[Da,rfl,B,ys,N,rz] λ_ a ea=>by cases ea;exact r]
    . exact w.elim
  . exact w.elim
def S7{f V:Expr}{gk:Rho->Res}(o:X.calm=true)(hi:kz C X tg iter gi)(J:∀y∈scope.names,y.2 ≠ .cell)(G:scope.kind=.function)(B:∀y∈scope.names,y.2=.local->scope.names.lookup y.1=some .local)(F:∀y∈scope.names,y.2=.free->X.env.kindOf y.1=some .cell\/X.env.kindOf y.1=some .free)(D:aJ.map some=aC.map λi=>X.N[i]?)(E:∀y∈aJ,(y,NameKind.free)∈scope.names)(r:∀y∈aJ,(relabel scope X.env).names.lookup y=some .cell\/(relabel scope X.env).names.lookup y=some .free)(d:∀j∈dB t,aC.length<=j)(l:∀cl A fp S a,lm (aY X scope (aJ++tgN) cl A fp S a) tg t)(hk:∀cl A fp S a,PV C.nox (aY X scope (aJ++tgN) cl A fp S a) f gk)(m:∀cl A fp S a,PV C.nox (aY X scope (aJ++tgN) cl A fp S a) V ge)(hs:∀x,foldedSetIterable iter X.env x=pure x):PV C X (.DictComp f V [#[tg,iter,[],0]] scope pos) (λY=>nZ (gi Y) Y aC tgN.length (aO t) gk ge) :=
 PE.imp (S5 (aJ:=aJ) (tgN:=tgN) (gt:=jg X.K t) (tk:=tG (C.nox.at X) gk) (tv:=tG (C.nox.at X) λY=>aM (ge Y)) o hi J G B F D E r l (λcl A fp S a=>zY) (λcl A fp S a=>hk cl A fp S a) (λcl A fp S a=>eN (m cl A fp S a)) hs) λσ H Q q=>S6 d q
def Ef(K:Fg)(n:Nat)(Ψ:D->List D->Option D)(vs:List V)(H:Hp)(Q:VK):Prop:=∃F d ds d' a us,vs=.ref a::us/\vs.length=n/\aE F H/\F a=none/\Top K F H a d/\aD K F ds us/\Ψ d ds=some d' /\
 ∀F' H',aG F (lY H a) F' H'->F' a=none->Top K F' H' a d'->Q .non H'
def n4(K:Fg)(n:Nat)(Ψ:D->List D->Option D):Sp:=λvs H Q _=>Ef K n Ψ vs H Q
structure HI(P:fc)(w:dh)(K:Fg)(mg:fg)(base:Heap)(CX:CXT)(k:Nat)(x:Str)(n:Nat)(Ψ:D->List D->Option D):Prop where
 ex:∃f fd ps,bO P w K mg base CX k f fd ps (n4 K n Ψ)/\mg x=some (.ref f)/\W.keepIn K (.ref f)=true/\cQ K fd ps []
def jE(Ψ:D->List D->Option D)(i:Nat)(Y:Rho)(n:Nat)(rs:bF):aI:=match Y[i]?,rs with
 |some (some (true,d)),.ok U=>(match cY U with|some ds=>(if ds.length+1=n then(match Ψ d ds with|some a=>.nx (Y.set i (some (true,a)))|none=>.stuck)else .stuck)|none=>.stuck)
 |_,_=>.stuck
def aT.callU{K:Fg}{F:Hp}{d d':D}{a:Addr}(R:aT K F0 H0 F H σ Y)(e:Y[i]? = some (some (true,d)))(ev:σ[i]? = some (some (.ref a)))(st:aG F (lY H a) F' H')(fa:F' a=none)(t:Top K F' H' a d'):aT K F0 H0 F' H' σ (Y.set i (some (true,d'))):=by
 exists v,B,rp,hn,R.slot i true d e;rw[ev]at B;cases B;have h0:H0 a=none:=hn rfl a rfl;have hl:i<Y.length:=(mr.mp e).1;refine#[#[λc u q=>?_,R.st.fsame.trans st.fsame,st.sub,λc h1 J=>?_],λj m N E=>?_,λj l T N b L e1 E q1 Z=>?_,by rw[pq];exact R.len]
 . (have:c≠a:=λz=>by rw[z,h0]at q;cases q);exact st.same c u (by rw[nY this];exact R.st.same c u q)
 . have hc:=R.st.new c h1 J;have:c≠a:=λz=>J (iX (by rw[z];exact h0));refine st.new c hc ?_;rw[nY this];cases e:H0 c with|none=>exact absurd (iX e) J|some o=>rw[R.st.same c o e,<- e];exact J
 . by_cases A:j=i;{subst A;rw[pb hl]at E;cases E;exact#[_,ev,#[a,rfl,fa,t],λ_ b eb=>by cases eb;exact h0]};rw[jo (Ne.symm A)]at E;exists v,V,r,e4,R.slot j m N E;refine#[v,V,?_,e4];cases m with|false=>exact aB.mono st.fsame _ _ r|true=>(exists b,rfl,fb,tb,r;have W:b≠a:=λz=>by subst z;exact R.apart j i _ _ b A E e V ev);have keep:∀o,H b=some o->H' b=some o:=λo q=>st.same b o (by rw[nY W];exact q);have f:¬ jW (H b)->F' b=none:=λh=>st.new b fb (by rw[nY W];exact h);cases N with|lst ds|dct ds=>exists U,q,r,tb;exact#[b,rfl,f (by rw[q];exact λz=>nomatch z),U,keep _ q,r.mono st.fsame _ _]|ins c fs=>exists C,dx,gs,n,q,r,tb;exact#[b,rfl,f (by rw[q];exact λz=>nomatch z),C,dx,gs,n,keep _ q,r.mono st.fsame _ _]|set ks=>exists S,q,r,tb;exact#[b,rfl,f (by rw[q];exact λz=>nomatch z),S,keep _ q,r]|dtn ds=>exists U,q,r,tb;exact#[b,rfl,f (by rw[q];exact λz=>nomatch z),U,keep _ q,r.mono st.fsame _ _]|_=>exact tb.elim
 . have G:∀{j:Nat}{T:D},(Y.set i (some (true,d')))[j]? = some (some (true,T))->∃d0,Y[j]? = some (some (true,d0)):=λ{j T} h=>by
     by_cases A:j=i
     . subst A;exact#[_,e]
     . rw[jo (Ne.symm A)]at h;exact#[_,h]
   exists _,a1,G e1;exists _,a2,G E;exact R.apart j l _ _ b L a1 a2 q1 Z
section
variable{f:Str}{es:List Expr}{Ψ:D->List D->Option D}
def S8(F:HI X.prog X.w X.K X.mg X.base CX k f n Ψ)(Z:bG k X.A)(V:qg CX (C.at X) X)(hg:Gl X f)(o:(f==("__debug__":Str))=false)(i:Nat)(W:PE X (.Name x p) (f9 i))(ha:j3 C X es gs)(J:starEach (.Name x p::es) X.env=(false,eval (.Name x p) X.env)::starEach es X.env)(m:(backTo cp (starEach es X.env)).any (·.1)=false):ju C X (.Expr (.Call (.Name f q) (.Name x p::es) [] cp) pos) (λY=>jE Ψ i Y n (gs Y)):=by(exists fa,fd,ps,FF,hm,hk,hb,F.ex;have h1:PE X (.Call (.Name f q) (.Name x p::es) [] cp) (se (Ef X.K n Ψ) (iA (f9 i) (DT (C.at X) gs))):=by intro aA s σ H Q I h;refine pf (mW I hg hm ?_ o);exact Bz (h₀:=X.base) I.ok.mod.kin hk (thn (jU W ha J cp aA s σ H (λvs H1=>Ef X.K n Ψ vs H1 Q) I h) λus L ⟨vs,H1,B,r,q⟩=>#[B.kIn,y8 FF Z hb (λe O hc=>V aA σ H1 L e O B hc) B r q]) J m);refine PS.imp (sY h1 rfl) λE σ H N=>?_;exists Y,F0,R,w,N;dsimp only at w;unfold jE at w;split at w;{rename_i d U e0 eg;split at w;{rename_i ds ef;split at w;{rename_i hn;split at w;{rename_i d' ep;exists v,ev,D,hh,R.slot i true d e0;exists a,rfl,aa,t0,id D;refine#[.ref a,ev,Y,F0,R,?_];rw[eg];intro us F1 H1 st rl;have l:=Rp.step st D;exists a',ea,f1,T,l;cases ea;have G:=rl.fz ef;refine#[F1,d,ds,d',a,us,rfl,by rw[gg,G.length];exact hn,st.sub,f1,T,G,ep,λF2 H2 S f2 t2=>?_];exact w σ F2 H2 (st.fsame.trans S.fsame) ((R.step st).callU e0 ev S f2 t2)};exact w.elim};exact w.elim};exact w.elim};exact w.elim
def tS(C:Cw)(g:Rho->aI):TS:=λE σ H=>∃Y F,aT C.K C.F0 C.H0 F H σ Y/\match g Y with|.nx ρ'=>∀F' H',aE F F'->aT C.K C.F0 C.H0 F' H' σ ρ'->E.nx σ H'|_=>False
def sq(C:Cw)(X:Cx)(st:List Stmt)(g:Rho->aI):Prop:=ja X st (tS (C.at X) g)
def S9{gk:Rho->Res}(i:Nat)(Z:X.A.units+64<cLine)(W:PE X (.Name x p) (f9 i))(hk:PV C X ke gk)(he:PV C X e g)(J:swapsWith e (some (.Subscript (.Name x p) ke sp)) pos.line X.env=pure false):sq C X [.Assign [.Subscript (.Name x p) ke sp] e pos] (λY=>dW Y i (gk Y) (g Y)):=by refine ja.imp (yI (G3 Z W hk (eN he) J)) λE σ H q=>?_;exists Y,F,R,w,q;dsimp only at w;unfold uJ;unfold dW at w;split at w;rotate_left;{exact w.elim};rename_i ρ' l;split at l;rotate_left;{cases l};rename_i kvs V;exists v0,o,G,aa,R.slot i true _ V;exists a,ea,ae,U,hh,rk,G;subst ea;rw[aR];refine#[Y,F,R,?_];cases T:aM (g Y)with|stuck|exc c=>rw[T]at l;cases l|ok m d=>rw[T]at l;cases m with|fr|bo=>cases l|fz=>(have l:((gk Y).thS Y λ_ K=>(match bS K with|some k=>if kvs.length<sizeLine then aI.nx (Y.set i (some (true,.dtn (cK kvs k d))))else .stuck|none=>.stuck))=.nx ρ':=l);intro v F1 H1 s1 rp _;refine#[.ref a,o,?_];show tG (C.at X) gk σ H1 _;rw[aR];refine#[Y,F1,R.step s1,?_];cases B:gk Y with|stuck|exc c=>rw[B]at l;cases l|ok m2 K=>(rw[B]at l;have l:(match bS K with|some k=>if kvs.length<sizeLine then aI.nx (Y.set i (some (true,.dtn (cK kvs k d))))else .stuck|none=>.stuck)=.nx ρ':=l);intro u F2 H2 S D _;cases N:bS K with|none=>rw[N]at l;cases l|some k=>rw[N]at l;dsimp only at l;split at l;{rename_i hl;cases l;have L:H2 a=some (.dN U):=S.same _ _ (s1.same _ _ hh);exists b,rfl,hn,hd,nT N D;have r:=rk.mono (s1.fsame.trans S.fsame) _ _;refine#[a,_,rfl,#[U,k,b,L,r.keys.mono S.sub,rfl,#[eh.mono S.sub _ _ hn,hd],by rw[rk.len];exact hl,rfl],?_];exact w F2 _ (s1.fsame.trans S.fsame) (((R.step s1).step S).mut V o #[_,a8,aQ.put #[hn,hd] (aB.mono S.fsame _ _ rp) r])};cases l
def Ta{s1 S:List Stmt}{l a:Rho->aI}(A:kr C X c gc)(D:sq C X s1 l)(B:sq C X S a):sq C X [.If c s1 S pos] (λY=>oo (gc Y) Y (l Y) (a Y)):=by refine ja.imp (yI (yL A D B)) λE σ H q=>?_;exists Y,F,R,w,q;dsimp only at w;refine#[Y,F,R,?_];cases o:gc Y with|stuck=>rw[o]at w;exact w|exc c=>rw[o]at w;exact w.elim|ok m d=>rw[o]at w;cases d with|bl k=>((intro F' H' s;have key:∀g:Rho->aI,(match g Y with|.nx ρ'=>∀F' H',aE F F'->aT X.K C.F0 C.H0 F' H' σ ρ'->E.nx σ H'|_=>False)->tS (C.at X) g E σ H':=λg w=>by refine#[Y,F',R.step s,?_];cases r:g Y with|nx ρ'=>rw[r]at w;exact λJ G S R2=>w J G (s.fsame.trans S) R2|_=>rw[r]at w;exact w.elim);cases k with|true=>(rw[aK rfl];exact key l (show(match l Y with|.nx ρ'=>∀F' H',aE F F'->aT X.K C.F0 C.H0 F' H' σ ρ'->E.nx σ H'|_=>False)from w))|false=>rw[ba gr];exact key a (show(match a Y with|.nx ρ'=>∀F' H',aE F F'->aT X.K C.F0 C.H0 F' H' σ ρ'->E.nx σ H'|_=>False)from w))|_=>exact w.elim
end
def l5(N:Nat)(d:D)(ds:List D):Rho:=some (true,d)::eY (N-1) ds
def jF(n N:Nat)(g:Rho->aI)(d:D)(ds:List D):Option D:=if ds.length+1=n then(match g (l5 N d ds)with
 |.nx ρ'=>(match ρ'[0]? with|some (some (true,a))=>some a|_=>none)
 |_=>none)else none
theorem Tc{K:Fg}{f:Addr}{N ps:List Str}{g:Rho->aI}(F:ol K x qual st f fd)(S:m8 N ps (dG st))(h1:0<N.length)(l:∀(C:Cw) (cdv:bb),W.codeIn K cdv qual=true->∀(A:dj) (outer:List Env) (s:cc) (H:Hp) (E:XK),C.EE=lO mg E->bG k (A.deeper (envOfC qual (dG st) s.heap.objs.size f cdv))->sq C (gQ (fx P w) P w K mg base N qual (dG st) f cdv A outer s H E) (gR st) g):bO P w K mg base (fx P w) (k+1) f fd ps (n4 K ps.length (jF ps.length N.length g)):=by
 exists oc,od,kV,ag,pm,an,cdv,ct,ae,rfl,lk,B,F.ex;refine yV lk B S (λvs H Q E h=>?_) λA outer s H vs Q E hr h=>?_
 . exists _,_,_,_,_,_,_,h,_,h;exact h
 exists F0,d,ds,d',a,us,rfl,hn,sF,fa,t,J,e,w,h
 let C:Cw:=#[K,F0,lY H a,lO mg E]
 refine#[_,l C cdv B A outer s H E rfl hr,?_];unfold jF at e;split at e;rotate_left
 . cases e
 split at e;rotate_left
 . cases e
 rename_i ρ' eg;split at e;rotate_left
 . cases e
 rename_i d2 Z;cases e;obtain⟨m,hm⟩:∃m,N.length=m+1:=#[N.length-1,by lia]
 have es:L2.start N (.ref a::us)=some (.ref a)::(us.map some++List.replicate (N.length-1-us.length) none):=by unfold L2.start;rw[dw,qy,gg];congr 3;lia
 have L:∀(i:Nat) (m:Bool) (d:D),(eY (N.length-1) ds)[i]? = some (some (m,d))->m=false/\∃v,(us.map some++List.replicate (N.length-1-us.length) none)[i]? = some (some v)/\aB K F0 d v:=λi m d e=>by unfold eY at e;by_cases o:i<ds.length;{rw[mv (by simpa using o),h7,gm o]at e;cases e;exists v,ev,rv,J.get' (gm o);exact#[rfl,v,by rw[mv (by simpa[J.length]using o),h7,ev];rfl,rv]};rw[nv (by simpa using o),ny]at e;split at e <;> cases e
 refine#[l5 N.length d ds,F0,#[#[λc u q=>?_,aE.refl _,sF,λc h1 _=>h1],λj m d' ej=>?_,λi j G d2 b T e1 Z _ _=>?_,by rw[es];simp[l5,eY,J.length]],?_]
 . by_cases hc:c=a;{subst hc;rw[show C.H0 c=none from HC]at q;cases q};exact(nY hc).symm.trans q
 . rw[es];cases j with|zero=>cases ej;exact#[_,rfl,#[a,rfl,fa,t],λ_ b eb=>by cases eb;exact HC]|succ j=>exists rfl,v,e1,r,L j m d' ej;exact#[v,e1,r,by nofun]
 . have z:∀{i:Nat}{G:D},(l5 N.length d ds)[i]? = some (some (true,G))->i=0:=λ{i G} h=>by
     cases i with|zero=>rfl|succ i=>have:=(L i true G h).1;cases this
   exact T ((z e1).trans (z Z).symm)
 . rw[eg];intro F' H' aa R';exists v,ev,rp,hh,R'.slot 0 true _ Z;rw[es]at ev;cases ev;exists a',ea,V,t',rp;cases ea;exact w F' H' R'.st V t'
def qk:Md->D->Md->D->Option (Md×D):=λ_ x _ y=>match x,y with|.dcf K,.dct kb=>(e9 kb K).map λr=>(.fz,.bl (K.length==kb.length&&r))|_,_=>none
def Td:kS qk:=λm x n y k d e=>by unfold qk at e;split at e;{rename_i K kb;cases E:e9 kb K with|none=>rw[E]at e;cases e|some r=>rw[E]at e;cases e;exact#[_,rfl,rfl]};cases e
theorem HJ(hu:X.A.units+64<cLine):e8 C X (compareOp .Eq) qk:=by refine#[λx y H Q=>∃F n f kb r a o U,aE F H/\x=.ref a/\F a=some (.frz o (.dK U))/\aF X.K F f U/\Rp X.K F H n (.dct kb) y/\e9 kb f=some r/\Q (.bl (f.length==kb.length&&r)) H,?_,?_];{intro aA s σ H x y v u Q I l ry h;exists F,n,f,kb,r,a,o,U,sF,rfl,G,L,he,E,hQ,h;exists b,ys,rfl,hb,J,he.dict sF;cases l;cases ry;exists _,sa,N,D,da,kZ I.hok (.inr #[o,sF _ _ G]);exists _,S,V,B,db,tN I.hok hb;(have Z:N.length=f.length:=by rw[<- L.len];exact(qv D).symm);(have T:V.length=kb.length:=by rw[<- J.len];exact(qv B).symm);refine W.keq_eq sa S da db (by lia) (λ_=>Gy hu I sF J B L D E) #[.bl _,H,I,rfl,?_];rw[Z,T];exact hQ};intro F H m x n y v u k d Q s l ry e w;unfold qk at e;split at e;{rename_i f kb;cases E:e9 kb f with|none=>rw[E]at e;cases e|some r=>rw[E]at e;cases e;cases m with|fz=>have l:aB X.K F (.dcf f) v:=l;simp only[aB]at l;exists a,o,U,rfl,G,rk,l;exact#[F,n,f,kb,r,a,o,U,s,rfl,G,rk,ry,E,w _ F H (.refl s) (cJ _) (by nofun)]|fr|bo=>exists a,_,_,q,l;exact q.elim};cases e
def u8{K:Fg}{f:Addr}{ps:List Str}:bO P w K mg base CX k f fd ps (n4 K n λ_ _=>none) :=
 #[λvs H Q E h=>(by exists _,_,_,_,_,_,_,_,_,_,_,_,e,_,h;cases e),λA outer s H args us vs Q E _ _ _ _ h=>(by exists _,_,_,_,_,_,_,_,_,_,_,_,e,_,h;cases e)]
open PySem.W
def Te:typeLookup (.type "tuple") "__getattr__"=pure none:=by rw[BH,BI];kernel_rfl
def Tf:typeLookup (.type "tuple") "keys"=pure none:=by rw[BH,BI];kernel_rfl
def Th(a:Addr)(U:Array bb)(n:Nat)(S:Array (Option bb))(u:Tok):Meets (Builtin.«object.__getattribute__» #[[.ref a,.str "keys" u],[]]) (λA R s=>s.heap.get? a=some { cls:=.type "tuple",dict:=none,data:=.seq U n,slots:=S }/\raisesAttr (.ref a) "keys" A R s):=
 Meets.of_wp λprog w A R s hs=>by(exists hp,g,d,tk,os,s;exists m,hs,hs;have o:(#[hp,g,d,tk,os]:cc).TypeIs (.ref a) "tuple":=#[_,m,rfl];have l:=Tf;have f:(["__module__","__name__","__qualname__","__doc__","__annotations__"]:List Str).contains "keys"=false:=by decide +kernel);unfold Builtin.«object.__getattribute__»;(repeat (any_goals (first|assumption|wp_step)));exact wpAny_raiseAttrError hs.1 hs.2 (attrMsg_fits (by decide +kernel) (by size_fits))
section
variable{A:dj}{E:di}
def Ti{a:Addr}{U:Array bb}{S:Array (Option bb)}{Q:Option bb->cc->Prop}(l:s.heap.get? a=some { cls:=.type "tuple",dict:=none,data:=.seq U n,slots:=S })(r:A.handled=none)(q:∀h' tk,(∀b o,s.heap.get? b=some o->h'.get? b=some o)->Q none {s with heap:=h',toks:=tk}):wpAny (model prog w) A (getAttr? (.ref a) "keys") Q E s:=by exists hp,g,d,tk,os,s;have m:∀T,(#[hp,g,d,T,os]:cc).TypeIs (.ref a) "tuple":=λ_=>#[_,l,rfl];have f1:=sub_AttributeError;have f3:=F.slot_tuple_getattribute.lookup;have J:=F.slot_tuple_getattribute.bind (.ref a);have G:=Te;unfold getAttr? getAttrBy? getAttrBy;(repeat (any_goals (first|assumption|exact m _|((with_reducible show wpAny _ _ (call (Value.builtin "tuple.__getattribute__") _ _) _ _ _);refine call_meets F.slot_tuple_getattribute (m _) F.entry_tuple_ga (F.args_tuple_getattribute_2 _ _) (Th a U n S _) #[l,r,λh' T e f=>?_])|wp_step)));exists t',B,D,f.there;show wpAny _ _ (getattributeRaised _ _ _ _ _ _ _) _ _ _;unfold getattributeRaised;(repeat (any_goals (first|assumption|wp_step)));exact q _ _ f.keeps
end
def iN(kvs:List (N×Addr×V))(R:List (N×Addr×V)):List (N×Addr×V):=R.foldl (λa e=>dI a e.1 e.2.1 e.2.2) kvs
def zf(K:Fg)(H:Hp)(x:V)(e:N×Addr×V):Prop:=∃p,x=.ref p/\SqT K H p [.ref e.2.1,e.2.2]/\eh K H e.1 (.ref e.2.1)/\e.1.dp<=8
def SqT.mono{K:Fg}{a:Addr}(s:aE H H')(h:SqT K H a U):SqT K H' a U:=by rcases h with(h|⟨o,h⟩)|h;{exact .inl (.inl (s _ _ h))};{exact .inl (.inr #[o,s _ _ h])};exact .inr h
theorem Tj{a:Addr}(I:L2.Inv X aA σ H s)(h:SqT X.K H a U):∃its:List bb,aL U its/\fZ s.heap a its.toArray/\U.length<=sizeLine:=by rcases h with h|⟨o,its,n,hk,hc,hdt,hs,hz,r⟩;{exists z,its,r,p,h.ok I.hok;exact#[its,r,p,z]};refine#[its.toList,r,#[o,I.kIn a o hk,hc,hdt,n,by simpa using hs],?_];have e:=r.length;simp only[lc]at e;lia
section
variable{A:dj}{E:di}
theorem Tk {d p b : Addr} {k : N} {y : V} {kvs : List (N × Addr × V)} {Q : Unit → cc → Prop} (hu : A.units + 16 < cLine) (I : L2.Inv X aA σ (upd H d (.dN kvs)) s) (hk : dS X.K (upd H d (.dN kvs)) kvs) (hp : SqT X.K (upd H d (.dN kvs)) p [.ref b, y]) (kb : eh X.K (upd H d (.dN kvs)) k (.ref b) ∧ k.dp ≤ 8) (hz : kvs.length < sizeLine) (q : ∀ O, L2.Inv X aA σ (upd H d (.dN (dI kvs k b y))) O → (∀ a o, a ≠ d → s.heap.get? a = some o → O.heap.get? a = some o) → Q () O) (i : Int) :
    wpAny (model X.prog X.w) A (holding [.ref p] (do
     let pair <- (Builtin.Dict.pairItems (.ref p)).tryCatch λe=>do
      if !(<- isInstance e (.type "TypeError"))then throw e
      rule "dict.update.element-no-sequence"
      raiseError "TypeError" s!"cannot convert dictionary update sequence element #{i} to a sequence"
     match pair with
     |[k,v]=>holding [k,v] (dictSet d k v)|l =>
      rule "dict.update.element-length"
      raiseError "ValueError" s!"dictionary update sequence element #{i} has length {l.length}; 2 is required")) Q E s:=by
 obtain⟨its,r,⟨o,ho,L,n,hd⟩,_⟩:=I.tuple hp;cases r with
 |cons G r =>
 cases r with
 |cons F r =>
 cases r;cases G;refine il (bv ?_);refine wpAny_tryCatch ?_;unfold Builtin.Dict.pairItems;refine bv (mw #[o,ho,L] ?_);rw[aK (by decide)]
 refine bv (Bv ho hd (cq ?_));have e:(upd H d (.dN kvs)) d=some (.dN kvs):=a8;exists z,hs,U,f,dd,kB I (.inl e) hk;have m:U.length<=sizeLine:=by rw[<- qv f];exact z
 have J:(dI kvs k b y).length<=sizeLine:=by have:=uG kvs k b y;lia
 refine il (wpAny_dictSet_heap (hsz:=m) (knd:=k6 X.prog X.w) (show A.units+8<cLine by lia) (k:=k) #[eh.is I _ _ _ kb.1 rfl,kb.2] dd λh' D S=>q _ ?_ λa o T e=>S.extBut a o T e)
 exists q,es,ep,B,h2,h3,Z,_,W,D;have:=pD (t':=s.toks+(k6 X.prog X.w).draws k) I (by rw[e];exact True.intro) S #[q,B] (ob:=.dN (dI kvs k b y)) #[J,hs,_,f.put k b F,q,es,ep,B,h2,h3,Z,W]
 rw[show upd (upd H d (.dN kvs)) d (.dN (dI kvs k b y))=upd H d (.dN (dI kvs k b y))from MN]at this
 exact this
def l6{d:Addr}{o:HO}(hd:H d=none):aE H (upd H d o):=λb u e=>by rw[aP (by rintro rfl;rw[hd]at e;cases e)];exact e
theorem zg{R:Result->cc->Prop}{l d:Addr}(h0:A.handled=none)(T:A.in1.units+16<cLine)(hd:H d=none)(hi:H it=none)(D:d≠it)(L:SqT X.K H l U)(turn:∀{H':Hp}{s:cc}{h':Heap},L2.Inv X aA σ H' s->H' it=none->(∀b o,b≠it->s.heap.get? b=some o->h'.get? b=some o)->L2.Inv X aA σ H' {s with heap:=h'}):∀(rest:List (N×Addr×V)) (k:Nat) (s:cc) (c:Int) (kvs:List (N×Addr×V)),(∀j e,rest[j]? = some e->∃x,U[k+j]? = some x/\zf X.K H x e)->k+rest.length=U.length->L2.Inv X aA σ (upd H d (.dN kvs)) s->dS X.K H kvs->s.heap.IsTupleIter it l k->kvs.length+rest.length<=sizeLine->(∀O,L2.Inv X aA σ (upd H d (.dN (iN kvs rest))) O->dS X.K H (iN kvs rest)->R (.ok (.ret .none)) O)->codeAny (model X.prog X.w) A (.builtin "dict.update.loop" #[[.ref d,.ref it,rawInt c,.none],[]]) R s:=by intro rest;induction rest with|nil=>(intro k s c kvs hr hl I hk hit hz hR;refine kq GQ ?_;rw[mf qK _];show wpAny _ A.in1 (pyNext (.ref it)>>=_) _ _ s;exists its,r,pt,_,I.tuple (D3.SqT.mono (l6 hd) L);have e0:its.toArray[k]? = none:=by have:=r.length;simp only[pv]at hl;rw[BF,List.getElem?_eq_none_iff];lia);refine bv (wpAny_pyNext_tuple_end (A:=A.in1) h0 hit pt e0 λh' ex=>?_);have I':=turn I (by rw[aP D.symm];exact hi) λb o f e=>ex b o f e;refine bv (m:=Builtin.Dict.addKeywords d []) (cq ?_);exact cq (hR _ I' hk)|cons e rest J=>intro k s c kvs hr hl I hk hit hz hR;refine kq GQ ?_;rw[mf qK _];show wpAny _ A.in1 (pyNext (.ref it)>>=_) _ _ s;exists its,r,pt,_,I.tuple (D3.SqT.mono (l6 hd) L);exists x,ex,p,rfl,sp,B,dp,hr 0 e rfl;exists u,eu,G,r.get ex;cases G;refine bv (wpAny_pyNext_tuple_item (A:=A.in1) hit pt (x:=.ref p) (by rw[BF];exact eu) λh1 a S=>?_);have I1:=turn I (by rw[aP D.symm];exact hi) λb o f e=>S.extBut b o f e;simp only[gg]at hz hl;refine bv (Tk (s:={s with heap:=h1}) T I1 (hk.mono (l6 hd)) (D3.SqT.mono (l6 hd) sp) #[eh.mono (l6 hd) _ _ B,dp] (by lia) (λF I2 kp=>?_) c);refine cq #[m4 qK _,J (k+1) F (c+1) (dI kvs e.1 e.2.1 e.2.2) (λj e' Z=>?_) (by lia) I2 (hk.put #[B,dp]) ?_ ?_ hR];{have:=hr (j+1) e' Z;rw[show k+1+j=k+(j+1) by lia];exact this};{exists o,ho,hc,W,a;exact#[o,kp it o D.symm ho,hc,W]};have:=uG kvs e.1 e.2.1 e.2.2;lia
theorem Tl{l:Addr}{R0:List (N×Addr×V)}(hA:A.handled=none)(hu:A.units+64<cLine)(I:L2.Inv X aA σ H s)(L:SqT X.K H l U)(hr:∀(j:Nat) e,R0[j]? = some e->∃x,U[j]? = some x/\zf X.K H x e)(hl:R0.length=U.length)(q:∀d O,H d=none->L2.Inv X aA σ (upd H d (.dN (iN [] R0))) O->dS X.K H (iN [] R0)->Q (.ref d) O):wpAny (model X.prog X.w) A (call (.type "dict") [.ref l]) Q E s:=by
 obtain⟨W,r0,⟨ob,ho,hc,aa,n,m⟩,ae⟩:=Tj I L;have ag:ob={ cls:=.type "tuple",dict:=none,data:=.seq W.toArray n,slots:=ob.slots }:=by exists a,b,c,d,ob;simp only at hc aa m;rw[hc,aa,m]
 rw[ag]at ho;refine callType_codes (Q₁:=λobj S=>obj=.ref s.heap.objs.size/\S={ s with heap:=s.heap.push { cls:=.type "dict",data:=.dict #[] } }) F.kt_called_dict (F.kt_typeCall_dict_1 _) F.entry_dict_init (kt_code_dict_new _ #[rfl,rfl]) ?_
 rintro obj S ⟨rfl,rfl⟩;have f:(s.heap.push { cls:=.type "dict",data:=.dict #[] }).DictOf (bZ X.prog X.w) s.heap.objs.size []:=C6 s.heap;have B:H s.heap.objs.size=none:=I.hok.fresh (dm _);have I1:L2.Inv X aA σ (upd H s.heap.objs.size (.dN [])) { s with heap:=s.heap.push { cls:=.type "dict",data:=.dict #[] } }:=
  I.laid (t':=s.toks) (λb u e=>hps e) (dm _) #[gw _,by rw[lr];exact nq I.big,[],.nil,_,#[],0,fi _ rfl,#[rfl,rfl,rfl],rfl,rfl,qb]
 refine#[f.typeIs,F.args_dict_init_2 _ _,?_];unfold Builtin.«dict.__init__»;refine bv ?_;unfold Builtin.Dict.selfAndRest;refine bv (wpAny_notOrdered_dict f.typeIs ?_);show wpAny _ _ (pure (s.heap.objs.size,[Value.ref l])) _ _ _;refine cq ?_;show wpAny _ _ (Builtin.Dict.updateFrom "dict.__init__" s.heap.objs.size (.ref l) [] .none) _ _ _;unfold Builtin.Dict.updateFrom;have Z:=Heap.get?_push_of_some ({ cls:=.type "dict",data:=.dict #[] }:Obj) ho;refine bv (mw #[_,Z,rfl] ?_);rw[aK (by decide)]
 refine bv (Ti (A:=A.in1.in1) (s:={ s with heap:=s.heap.push { cls:=.type "dict",data:=.dict #[] } }) Z hA λD T G=>?_)
 rw[aK (show(none:Option bb).isNone=true from rfl)]
 have I2:=I1.kept (t':=T) G;exists its,r,pt,_,I2.tuple (D3.SqT.mono (l6 B) L);refine bv (pz (bv (u1 pt (cq #[m4 qK _,?_]))));have lt1:s.heap.objs.size<D.objs.size:=dv (G _ _ (fi s.heap rfl));have I3:=I2.kept (s:={s with heap:=D,toks:=T}) (t':=T) (h':=D.push { cls:=.type "tuple_iterator",data:=.fields (List.toArray [.ref l,.int 0 0]) }) λb o e=>hps e
 have ah:H D.objs.size=none:=I.hok.fresh (by have:=pc s.heap ({ cls:=.type "dict",data:=.dict #[] }:Obj);lia)
 have hz:s.heap.objs.size<=D.objs.size:=sy lt1;refine zg (A:=A.in1) (X:=X) (aA:=aA) (σ:=σ) (H:=H) (l:=l) (d:=s.heap.objs.size) (it:=D.objs.size) (U:=U) hA (show A.units+1+1+16<cLine by lia) B ah (gj lt1) L (λ{H' O h'} J hn k=>?_) R0 0 _ 0 [] (λj e he=>by rw[lA];exact hr j e he) (by rw[lA];exact hl) I3 (λp hp=>by cases hp) #[_,fi _ rfl,rfl,rfl] (by rw[hl];simpa using ae) λO I' hk=>#[rfl,q _ _ B I' hk]
 refine J.turned (t':=O.toks) k hn (λz=>?_) (.inr (ii I.sz hz)) (λx c e z=>?_) λp hp z=>?_
 . have:=I.lt;rw[<- z]at this;exact jn _ (va this lt1)
 . exists v,o,ho,_,I.cell x c e;have:=dv ho;rw[z]at this;exact jn _ (va this lt1)
 . have:=dv (I.pin p hp).1;rw[z]at this;exact jn _ (va this lt1)
end
def n5:D->Option (N×D)|.tup [K,d]=>(bS K).map λk=>(k,d)|_=>none
def jG:List D->Option (List (N×D))|[]=>some []|x::r=>match n5 x with|some e=>(jG r).map λes=>e::es|none=>none
def n8(a:List (N×D))(R:List (N×D)):List (N×D):=R.foldl (λa e=>cK a e.1 e.2) a
def jH(r:Res):Res:=r.thn λ_ d=>match d with
 |.tup ds=>(match jG ds with|some R=>.ok .fr (.dtn (n8 [] R))|none=>.stuck)
 |_=>.stuck
def Tn{x:D}{e:N×D}(h:n5 x=some e):∃kd,x=.tup [kd,e.2]/\bS kd=some e.1:=by unfold n5 at h;split at h;{rename_i kd d;exists k,hk,rfl,og.mp h;exact#[kd,rfl,hk]};cases h
theorem HL{K:Fg}{F H:Hp}(s:aE F H):∀{ds:List D}{U:List V}{R:List (N×D)},jG ds=some R->aD K F ds U->∃l:List (N×Addr×V),l.length=U.length/\(∀(j:Nat) e,l[j]? = some e->∃x,U[j]? = some x/\zf K H x e)/\∀A a,aQ K F A a->aQ K F (n8 A R) (iN a l)|[],U,R,h,r=>by simp only[aD]at r;subst r;cases h;exact#[[],rfl,λj e o=>by simp at o,λ_ _ h=>h]|d::ds,U,R,h,r=>by simp only[aD]at r;exists y,ys,rfl,G,S,r;unfold jG at h;cases e:n5 d with|none=>rw[e]at h;cases h|some E=>rw[e]at h;exists es,o,rfl,og.mp h;exists l,l0,i0,T,HL s o S;exists W,rfl,hk,Tn e;exists p,zs,rfl,q,rz,(show Rp K F H .fz (.tup [W,E.2]) y from G).seqT s;simp only[aD]at rz;exists u,us,rfl,L,v,vs,rfl,J,rfl,rz;exists b,rfl,B,dp,nT (H:=H) (m:=.fz) hk L;refine#[(E.1,b,v)::l,by simp[l0],λj e' f=>?_,λA a Z=>T _ _ (aQ.put #[B,dp] J Z)];cases j with|zero=>cases f;exact#[_,rfl,p,rfl,q,eh.mono s _ _ B,dp]|succ j=>exact i0 j e' f
def To(hu:X.A.units+64<cLine)(hc:X.calm=true)(gd:Gl X "dict")(nd:X.mg "dict"=none)(ha:PV C X ea ga)(sa:bW ea=true):PV C X (.Call (.Name "dict" p) [ea] [] pos) (λY=>jH (ga Y)):=by intro aA s σ H Q I h;refine pf (jT I gd nd FX ?_ (by decide) (by decide));refine Bi (thn ((jU ha kX (bX sa)) pos aA s σ H (λvs H1=>∃(a:Addr) (U:List V) (r:List (N×Addr×V)),vs=[.ref a]/\SqT X.K H1 a U/\r.length=U.length/\(∀(j:Nat) e,r[j]? = some e->∃x,U[j]? = some x/\zf X.K H1 x e)/\∀l,H1 l=none->dS X.K H1 (iN [] r)->Q (.ref l) (upd H1 l (.dN (iN [] r)))) I ?_) λus S ⟨vs,H1,J,D,a,U,r,ev,hq,f,hr,w⟩=>?_) (bX sa) rfl;{show tG (C.at X) ga σ H λv H1=>∃(a:Addr) (U:List V) (r:List (N×Addr×V)),[v]=[V.ref a]/\SqT X.K H1 a U/\r.length=U.length/\(∀(j:Nat) e,r[j]? = some e->∃x,U[j]? = some x/\zf X.K H1 x e)/\∀l,H1 l=none->dS X.K H1 (iN [] r)->Q (.ref l) (upd H1 l (.dN (iN [] r)));rw[aR]at h ⊢;exists Y,F,R,w,h;refine#[Y,F,R,?_];cases G:ga Y with|stuck=>simp only[jH,G,Res.thn_stuck]at w;exact w|exc c=>simp only[jH,G,Res.thn_exc]at w;exact w|ok m d=>simp only[jH,G,Res.thn_ok]at w;intro v F1 H1 S D _;cases d with|tup ds=>(dsimp only at w;cases T:jG ds with|none=>rw[T]at w;exact w.elim|some R'=>rw[T]at w;exists a,U,rfl,W,B,D.seqT S.sub;exists r,l0,i0,Z,HL S.sub T B;refine#[a,U,r,rfl,W,l0,i0,λl f hk=>w (.ref l) F1 _ (S.trans (aG.fresh _ S.sub f)) #[l,rfl,S.sub.free f,_,a8,Z [] [] (by simp[aQ])] λ_ a' E=>?_];cases E;cases q:H l with|none=>rfl|some o=>rw[S.same _ _ q]at f;cases f)|_=>exact w.elim};subst ev;cases D with|cons B L=>cases L;cases B;exact Tl (J.ok.hd hc) hu J hq hr f λd O hd I' hk=>#[.ref d,_,I',rfl,w d hd hk]
open Builtin Builtin.Str
abbrev Tq:=List (List D)
inductive Ts where|nx (Y:Rho) (z:Tq)|exc (c:Str)|stuck
end D3
set_option genSizeOfSpec false
set_option genInjectivity false
namespace D3
inductive KC where|s (y:Str)|i (n:Int)|t (tb:List (Str×Str))
 deriving DecidableEq
def KC.d:KC->D|.s y=>.str y|.i n=>.int n|.t _=>.non
inductive GV where|con (c:KC)|fn (n:Nat)|no|cls
 deriving DecidableEq
inductive Bn where|len|isinstance
 deriving DecidableEq
noncomputable def Bn.name:Bn->Str|.len=>"len" |.isinstance=>"isinstance"
def Bn.f:Bn->List (Md×D)->Option (Md×D)|.len=>eO|.isinstance=>lF
def Bn.id:Bn->String|.len=>"len" |.isinstance=>"isinstance"
inductive Ty where|int|bool|str|tuple|list|dict
 deriving DecidableEq
def Ty.f:Ty->List (Md×D)->Option (Md×D)|.tuple=>j5|.list=>lN|_=>λ_=>none
def Ty.id:Ty->String|.int=>"int" |.bool=>"bool" |.str=>"str" |.tuple=>"tuple" |.list=>"list" |.dict=>"dict"
structure WD where
 Φ:Str->List D->Res
 Ψ:Str->List D->Res
 I:Str->Option (List D->Res)
 cl:List CI
 xt:List ((Str×Str)×Bool)
 xi:List ((Str×Str)×Bool)
 dp:Bool
 Ms:Str->D->KD->Option KD
 Cl:Str->Str->List (Str×D)->D->Res
 Wy:Str->Option fD
 Mu:Str->D->List D->Option D
def WD.xf(W:WD):Str->Str->Option Bool:=λc x=>W.xt.lookup (c,x)
def WD.xg(W:WD):Str->Str->Option Bool:=λc x=>W.xi.lookup (c,x)
inductive E where
 |var (i:Nat)|non|bl (b:Bool)|int (i:Int)|str (x:Str)
 |glob (x:Str) (c:KC)|ty (t:Ty)
 |bin (op:Operator) (a b:E)|cmp (op:CmpOp) (a b:E)
 |andL (es:List E)|orL (es:List E)|not (a:E)|neg (a:E)|tru (a:E)|frz (a:E)
 |ix (a b:E)|slice (a:E) (lo hi:Option E)
 |tup (es:List E)|lst (es:List E)
 |call (f:Str) (n:Nat) (es:List E)|bcall (b:Bn) (es:List E)
 |items (a:E)|rng1 (a:E)|enum1 (a:E)
 |comp (elt it:E) (ts:List E) (aC:List Nat) (t:Tg) (n:Nat)
 |tcall (t:Ty) (es:List E)
 |deed (x:Str) (tb:QW) (a:E)|callv (i:Nat) (fs:QX) (n:Nat) (es:List E)
 |dix (a b:E)|din (neg:Bool) (a b:E)|tidx (a b:E)
 |meth (o:E) (m:Str) (es:List E)|mk0 (c:Str)
 |comp2 (elt it it2:E) (ts:List E) (aC:List Nat)|disp (ks vs:List E)|never
 |nnew|nix (a b:E)|nin (neg:Bool) (a b:E)|nget (a k d:E)|nkeys (a:E)|srtw (a:E)|us4 (a:E)|srtf (f:Str) (a:E)|kkeys (a:E)
 |ndp (a:E)|deqC (a b:E)|dcomp (kx vx it:E) (aC:List Nat) (t:Tg) (n:Nat)
def Cb:Md->D->Md->D->Option (Md×D):=λ_ _ _ _=>none
def aX:Operator->Md->D->Md->D->Option (Md×D)|.Add=>im xz pT|.Sub=>DV|.Mult=>im x0 sj|.Mod=>DW|.FloorDiv=>DX|.Pow=>DY|_=>Cb
def bA:CmpOp->Md->D->Md->D->Option (Md×D)|.Lt=>im PH sj|.LtE=>PJ|.Gt=>PL|.GtE=>PM|.Eq=>FS|.NotEq=>FT|.In=>im PN (lM false)|.NotIn=>im PP (lM true)|.Is=>qh false|.IsNot=>qh true
mutual
def br(W:WD):E->Rho->Res|.var i,Y=>cR Y i|.non,_=>.ok .fz .non|.bl b,_=>.ok .fz (.bl b)|.int i,_=>.ok .fz (.int i)|.str x,_=>.ok .fz (.str x)|.glob _ c,_=>.ok .fz c.d|.ty t,_=>.ok .fz (.ty t.id)|.bin l a b,Y=>cu (aX l) (br W a Y) (br W b Y)|.cmp l a b,Y=>cu (bA l) (br W a Y) (br W b Y)|.andL es,Y=>jv W es Y|.orL es,Y=>dX W es Y|.not a,Y=>iZ (br W a Y)|.neg a,Y=>pI (br W a Y)|.tru a,Y=>iY (br W a Y)|.frz a,Y=>aM (br W a Y)|.ix a b,Y=>cu fm (br W a Y) (br W b Y)|.slice a lo A,Y=>ot (br W a Y) (iu W lo) (iu W A) Y|.tup es,Y=>fL (bU W es Y)|.lst es,Y=>jZ (bU W es Y)|.call f n es,Y=>aW n (W.Φ f) (bU W es Y)|.bcall b es,Y=>dP b.f (bU W es Y)|.items a,Y=>gW (aM (br W a Y))|.rng1 a,Y=>gD (aU (br W a Y) (.ok []))|.enum1 a,Y=>qE (aU (aM (br W a Y)) (.ok []))|.comp elt it ts aC t n,Y=>cF (br W it Y) Y aC n (aO t) (λY=>fu W ts Y) (λY=>br W elt Y)|.disp ks vs,Y=>gX Y ((k2 W ks).zip (k2 W vs)) []|.tcall t es,Y=>dP t.f (bU W es Y)|.comp2 elt it r ts aC,Y=>kA (br W it Y) Y aC (λY=>fu W ts Y) (λY=>br W r Y) (λY=>br W elt Y)|.deed _ tb a,Y=>j9 tb (br W a Y)|.callv i fs n es,Y=>qG W.Φ fs n (cR Y i) (bU W es Y)|.dix a b,Y=>cu qi (br W a Y) (br W b Y)|.deqC a b,Y=>cu qk (br W a Y) (br W b Y)|.dcomp K V it aC t n,Y=>nZ (br W it Y) Y aC n (aO t) (λY=>br W K Y) (λY=>br W V Y)|.tidx a b,Y=>nP (br W a Y) (br W b Y)|.din neg a b,Y=>cu (nj neg) (br W a Y) (br W b Y)|.meth o m es,Y=>eE W.cl W.Φ m (br W o Y) (bU W es Y)|.mk0 c,_=>.ok .fr (.ins c [])|.never,_=>.stuck|.nnew,_=>.ok .fr (.dtn [])|.nix a b,Y=>cu eI (br W a Y) (br W b Y)|.nin neg a b,Y=>cu (dU neg) (br W a Y) (br W b Y)|.nget a k d,Y=>kC (br W a Y) (br W k Y) (br W d Y)|.nkeys a,Y=>qR (br W a Y)|.srtw a,Y=>dP eJ (aU (br W a Y) (.ok []))|.kkeys a,Y=>lZ (br W a Y)|.us4 a,Y=>fQ (br W a Y)|.ndp a,Y=>jH (br W a Y)|.srtf f a,Y=>if W.dp=true then eR (λd=>W.Ψ f [d]) (br W a Y)else .stuck
def bU(W:WD):List E->Rho->bF|[],_=>.ok []|e::es,Y=>aU (br W e Y) (bU W es Y)
def jv(W:WD):List E->Rho->Res|[],_=>.stuck|[e],Y=>br W e Y|e::es,Y=>eX (br W e Y) (jv W es Y)
def dX(W:WD):List E->Rho->Res|[],_=>.stuck|[e],Y=>br W e Y|e::es,Y=>om (br W e Y) (dX W es Y)
def fu(W:WD):List E->Rho->Res|[],_=>.ok .fz (.bl true)|e::es,Y=>eX (br W e Y) (fu W es Y)
def k2(W:WD):List E->List (Rho->Res)|[]=>[]|e::es=>br W e::k2 W es
def iu(W:WD):Option E->Option (Rho->Res)|none=>none|some e=>some (br W e)
end
structure MG where
 G:List (Str×GV)
 mk0:List Str
 mki:List (Str×Str×Nat)
 iso:List Str
 xcs:List Str
 xns:List Str
 sn:List Str
 cl:List (Str×Str×Str×Str)
structure MC where
 N:List Str
 sc:Scope
 g:MG
 fn:Bool
 calm:Bool
 rz:Bool
 q:Str
noncomputable def MC.kind(m:MC)(x:Str):Option NameKind:=m.sc.names.lookup x
end D3
variable{m:D3.MC}
namespace D3
def MC.vis(m:MC)(x:Str):Bool:=(m.kind x==some .local||m.kind x==some .cell||m.kind x==some .free)&&x != "__debug__" && x != "__classdict__"
def MC.glob(m:MC)(x:Str)(v:GV):Bool:=m.kind x==some .globalImplicit&&m.g.G.lookup x==some v&&x != "__debug__" && x != "__name__"
def MC.gk(m:MC)(x:Str):Bool:=m.kind x==some .globalImplicit&&x != "__debug__"
def zh(x:Str):Bool:=decide (x.length<=sizeLine)&&PyData.strOk x
def l7:Expr->Bool|.Slice ..=>false|_=>true
def Tt:Expr->Bool|.Tuple ..=>true|_=>false
def dY:Expr->Bool|.Set ..=>false|_=>true
def HN:Expr->Bool|.UnaryOp .Not _ _=>false|.BoolOp ..=>false|.IfExp ..=>false|.Compare ..=>false|_=>true
def MC.sub(m:MC)(scope:Scope)(aJ tgN:List Str):MC:={ m with N:=aJ++tgN,sc:={scope with names:=lK scope m.sc},fn:=false,rz:=false,q:="" }
def MC.loc(m:MC)(i:Nat)(x:Str):Bool:=m.N[i]?==some x&&(m.kind x==some .local||(m.fn&&m.kind x==some .cell))
mutual
def mG(m:MC):Tg->Expr->Bool
 |.nm i,e=>match e with|.Name x _=>m.loc i x|_=>false
 |.tp ts,e=>match e with|.Tuple es _ _=>m.calm&&es.all i6&&zi m ts es|_=>false
def zi(m:MC):List Tg->List Expr->Bool|[],es=>es.isEmpty|t::ts,l=>match l with|e::es=>mG m t e&&zi m ts es|_=>false
end
def a9:Nat->Expr->List Str|_,.Name x _=>[x]|n+1,.Tuple es _ _=>es.flatMap (a9 n)|_,_=>[]
def jI(scope sc:Scope)(N:List Str)(aC:List Nat)(aJ tgN:List Str):Bool :=
 scope.names.all (λy=>y.2 != .cell)&&scope.kind == .function&&scope.names.all (λy=>y.2 != .local||scope.names.lookup y.1==some .local) &&
 scope.names.all (λy=>y.2 != .free||sc.names.lookup y.1==some .cell||sc.names.lookup y.1==some .free)&&(aJ.map some==aC.map λi=>N[i]?)&&aJ.all (λy=>scope.names.contains (y,.free)) &&
 aJ.all (λy=>(lK scope sc).lookup y==some .cell||(lK scope sc).lookup y==some .free)&&decide (aJ++tgN).Nodup
def zj:KC->Bool|.s y=>zh y|.i _=>true|.t _=>false
structure SX(k:Nat)(W:WD)(m:MC)(C:Cw)(X:Cx):Prop where
 hN:X.N=m.N
 hs:X.env.scope=m.sc
 cm:m.calm=true->X.calm=true
 rm:m.calm=true->bG k X.A
 un:X.A.units+64<cLine
 xo:m.calm=true->qg (fx X.prog X.w) (C.at X) X
 xt:t5 X.K X.mg W.xf
 xi:t7 X.K X.mg W.xg
 xc:∀c,c∈m.g.xcs->∃Cc,X.mg c=some (.ref Cc)/\Go X.K Cc
 xn:∀n,n∈m.g.xns->∃cv,qF X.mg n cv
 con:∀x c,m.g.G.lookup x=some (.con c)->match c with|.s y=>∃t,X.mg x=some (.str y t)|.i n=>∃t,X.mg x=some (.int n t)|.t tb=>i8 X.w X.K X.mg x tb
 no:∀x,m.g.G.lookup x=some .no->X.mg x=none
 mk0:∀c,c∈m.g.mk0->tW X.K X.mg c
 mki:∀c key n,(c,key,n)∈m.g.mki->∀Φ,W.I key=some Φ->∃j,j+1<=k/\D1 X.prog X.w X.K X.mg X.base (fx X.prog X.w) j c n Φ
 iso:∀c,c∈m.g.iso->F8 X.K X.mg W.cl c
 fl:∀i f,i∈W.cl->f∈i.flds->P5 X.K i.name f
 mt:∀c m key n,CI.meth W.cl c m=some (key,n)->FY X.prog X.w X.K X.mg X.base (fx X.prog X.w) k c m n (W.Φ key)
 fn:∀x n,m.g.G.lookup x=some (.fn n)->ul X.prog X.w X.K X.mg X.base (fx X.prog X.w) k x n (W.Φ x)
 fnn:m.fn=true->∀x,X.fn x=true
 fp:W.dp=true->∃j,j+1=k/\∀x n,m.g.G.lookup x=some (.fn n)->ul X.prog X.w X.K X.mg X.base (fx X.prog X.w) j x n (W.Ψ x)
 sm:∀x,x∈m.g.sn->SV X.prog X.w X.K X.mg X.base (fx X.prog X.w) k x (W.Ms x)
 sc:W.dp=true->∀f a b g,(f,a,b,g)∈m.g.cl->SY X.prog X.w X.K X.mg X.base (fx X.prog X.w) k f a b/\Ec X.K f a b g
 cv:∀f n,qY X.prog X.w X.K X.mg X.base k f n (W.Cl f n)
 sw:W.dp=true->∀f I,W.Wy f=some I->Ee X.prog X.w X.K X.mg X.base (fx X.prog X.w) k f I
 su:∀x n,m.g.G.lookup x=some (.fn n)->HI X.prog X.w X.K X.mg X.base (fx X.prog X.w) k x n (W.Mu x)
 cd:m.q="" \/ (PySem.W.codeIn X.K X.env.code m.q=true/\X.env.qual=m.q++".<locals>.")
section
variable{W:WD}{x y:Expr}
def SX.gl(S:SX k W m C X){v:GV}(h:m.glob z v=true):Gl X z/\m.g.G.lookup z=some v/\(z==("__debug__":Str))=false/\z ≠ "__name__":=by unfold MC.glob MC.kind at h;simp only[cw,dc,rq]at h;obtain⟨⟨⟨l,f⟩,d⟩,a⟩:=h;refine#[?_,f,by simpa using d,a];show X.env.scope.names.lookup z=_;rw[S.hs];exact l
theorem SX.vis(S:SX k W m C X)(h:m.vis z=true):B3 X.env.scope z/\(z==("__debug__":Str))=false/\(z==("__classdict__":Str))=false:=by unfold MC.vis MC.kind at h;simp only[cw,jr,dc,rq]at h;obtain⟨⟨a,f⟩,d⟩:=h;refine#[?_,by simpa using f,by simpa using d];unfold B3;rw[S.hs];rcases a with(a|a)|a;{exact .inl a};{exact .inr (.inl a)};exact .inr (.inr a)
def Tu(b:Bn):bootBuiltins b.name=some (.builtin b.id):=by cases b;{exact PQ};exact PR
def Tv(b:Bn){c:Bool}(a:c=true->X.calm=true)(h:(c||b == .len||b == .isinstance)=true):gT X (.builtin b.id) b.f:=by(have a:(b == .len||b == .isinstance)=false->X.calm=true:=λz=>a (by cases c with|true=>rfl|false=>rw[Bool.false_or]at h;rw[h]at z;cases z));cases b;{exact O7};exact O9
def qZ{f:bb}:gT X f (λ_=>none):=#[λ_ _ _=>False,λ_ _ _ _ _ _ _ _ _ h=>h.elim,λ_ _ _ _ _ _ _ _ _ e _=>by cases e]
def Tw(t:Ty):gT X (.type t.id) t.f:=by cases t;{exact qZ};{exact qZ};{exact qZ};{exact Qg};{exact Qh};exact qZ
def HP(t:Ty):bootBuiltins (t.id:Str)=some (.type t.id):=by cases t;{exact PU};{exact PX};{exact PY};{exact PZ};{exact P3};exact FX
def Tx(op:Operator):(∃a,aX op=a/\e8 C X (binaryOp op) a)\/aX op=Cb:=by
 cases op
 case Add=>exact .inl #[_,rfl,x5.or Qf]
 case Sub=>exact .inl #[_,rfl,OF]
 case Mult=>exact .inl #[_,rfl,ya.or nL]
 case Mod=>exact .inl #[_,rfl,OI]
 case FloorDiv=>exact .inl #[_,rfl,OK]
 case Pow=>exact .inl #[_,rfl,OL]
 all_goals exact .inr rfl
def HQ:kS (nj neg):=λm x n y k d e=>by unfold nj at e;split at e;{cases e;exact#[_,rfl,rfl]};cases e
def HR:kS (dU neg):=λm x n y k d e=>by unfold dU at e;split at e;{cases e;exact#[_,rfl,rfl]};cases e
def u9:kS sj:=λ_ _ _ _ _ _ z=>by cases z
def Tz(op:CmpOp)(a:X.A.units+64<cLine):(e8 C X (compareOp op) (bA op)/\kS (bA op))\/bA op=Cb:=by
 cases op
 case Lt=>exact .inl #[OM.or nL,nK pR u9]
 case LtE=>exact .inl #[ON,pR]
 case Gt=>exact .inl #[OO,pR]
 case GtE=>exact .inl #[OP,pR]
 case Eq=>exact .inl #[DZ a,nK FW u9]
 case NotEq=>exact .inl #[D0 a,nK FW u9]
 case In=>exact .inl #[OS.or (Gc Oa),nK FU Gd]
 case NotIn=>exact .inl #[OT.or (Gc Ob),nK FU Gd]
 case Is=>exact .inl #[Qb,Ga]
 case IsNot=>exact .inl #[Qc,Ga]
def HS{f:bb->bb->Sem bb}:e8 C X f Cb:=#[λ_ _ _ _=>False,λ_ _ _ _ _ _ _ _ _ _ _ _ h=>h.elim,λ_ _ _ _ _ _ _ _ _ _ _ _ _ _ e _=>by cases e]
def TC(op:Operator):e8 C X (binaryOp op) (aX op):=by rcases Tx (C:=C) (X:=X) op with⟨a,e,h⟩|e;{rw[e];exact h};rw[e];exact HS
def vA(op:CmpOp)(a:X.A.units+64<cLine):e8 C X (compareOp op) (bA op)/\kS (bA op):=by rcases Tz (C:=C) op a with h|e;{exact h};rw[e];exact#[HS,λ_ _ _ _ _ _ z=>by cases z]
def gZ(op:CmpOp)(h:dY e=true):behindInMarks op e=false:=by cases e <;> first|rfl|cases h
def l8(h:dY e=true):∀v,foldedSetIterable e env v=pure v:=by intro v;cases e <;> first|rfl|cases h
def vB(h:l7 e=true):m9 e:=by intro o i;cases e <;> first|rfl|cases h
def Eg(h:l7 e=true):tP e:=by intro o i;cases e <;> first|rfl|cases h
def TD(h:HN e=true):∀a,isTrue e env a=(do let v <- a;standAt e.pos;holding [v] (truthy v)):=by intro a;cases e;(case UnaryOp op _ _=>cases op <;> first|rfl|cases h);all_goals first|rfl|cases h
theorem SX.sub(S:SX k W m C X)(cl:List (Str×Addr))(A:Addr)(fp:List Addr)(s3:cc)(a:Hp):SX k W (m.sub scope aJ tgN) C.nox (aY X scope (aJ++tgN) cl A fp s3 a):=by refine#[rfl,?_,S.cm,S.rm,S.un,λ_ aA σ H s e O I h=>?_,S.xt,S.xi,S.xc,S.xn,S.con,S.no,S.mk0,S.mki,S.iso,S.fl,S.mt,S.fn,(λz=>by cases z),S.fp,S.sm,S.sc,S.cv,S.sw,S.su,.inl rfl];rotate_left;{exists _,_,_,_,_,_,_,_,_,_,_,_,z,h;exact z.elim};show(compEnvC scope cl A X.env).scope=_;unfold MC.sub;rw[<- S.hs];rfl
theorem SX.loc(S:SX k W m C X)(h:m.loc i z=true):X.N[i]? = some z/\L2.Loc X.env.scope z/\(X.fn z=true\/X.env.scope.names.lookup z=some .local):=by unfold MC.loc MC.kind at h;simp only[cw,jr,dc]at h;refine#[by rw[S.hN];exact h.1,?_,?_];{unfold L2.Loc;rw[S.hs];rcases h.2 with q|q;{exact .inl q};exact .inr q.2};rw[S.hs];rcases h.2 with q|q;{exact .inr q};exact .inl (S.fnn q.1 z)
def TF:PV C X e (λ_=>.stuck):=λaA s σ H Q I h=>by rw[aR]at h;exists _,_,_,w,h;exact w.elim
mutual
theorem sG(S:SX k W m C X)(hN:m.N.Nodup):∀(t:Tg) {e:Expr},mG m t e=true->lm X e t|.nm i,e,h=>by simp only[mG]at h;split at h;{exists a,b,c,S.loc h;exact Qo (by rw[S.hN];exact hN) a b c};cases h|.tp ts,e,h=>by simp only[mG]at h;split at h;{rw[cw,cw,fq]at h;exists p,l,HU S hN ts h.2 h.1.2;exact Qs (S.cm h.1.1) p h.1.2 l};cases h
theorem HU(S:SX k W m C X)(hN:m.N.Nodup):∀(ts:List Tg) {es:List Expr},zi m ts es=true->(∀e∈es,i6 e=true)->j6 X es ts/\es.length=ts.length|[],[],h,_=>#[Qp,rfl]|[],_::_,h,_|t::ts,[],h,_=>by simp[zi]at h|t::ts,e::es,h,hs=>by simp only[zi,cw]at h;exists p,l,HU S hN ts h.2 λx a=>hs x (df a);exact#[Qq (sG S hN t h.1) p (hs e c6),by rw[gg,gg,l]]
end
end
def TH:PV C X e (λ_=>.stuck):=λaA s σ H Q I q=>by rw[aR]at q;exists Y,F,R,w,q;exact w.elim
def HV{W:WD}(S:SX k W m C X)(ho:jI scope m.sc m.N aC aJ tgN=true):(∀y∈scope.names,y.2 ≠ .cell)/\scope.kind=.function/\(∀y∈scope.names,y.2=.local->scope.names.lookup y.1=some .local)/\(∀y∈scope.names,y.2=.free->X.env.kindOf y.1=some .cell\/X.env.kindOf y.1=some .free)/\(aJ.map some=aC.map λi=>X.N[i]?)/\(∀y∈aJ,(y,NameKind.free)∈scope.names)/\(∀y∈aJ,(relabel scope X.env).names.lookup y=some .cell\/(relabel scope X.env).names.lookup y=some .free)/\(aJ++tgN).Nodup:=by(unfold jI at ho;simp only[cw,fq,jr,rq,dc,fw,vq]at ho;obtain⟨⟨⟨⟨⟨⟨⟨B,A⟩,r⟩,o⟩,l⟩,f⟩,d⟩,G⟩:=ho;have E:(relabel scope X.env).names=lK scope m.sc:=by rw[<- S.hs];rfl);refine#[B,A,λy a e=>(r y a).resolve_left λz=>z e,λy a e=>?_,by rw[S.hN];exact l,f,λy a=>by rw[E];exact d y a,G];have:=o y a;show X.env.scope.names.lookup y.1=_\/X.env.scope.names.lookup y.1=_;rw[S.hs];rcases this with(z|z)|z;{exact absurd e z};{exact .inl z};exact .inr z
abbrev PE(m:MC)(f:E)(e:Expr):Prop:=∀{k:Nat}{W:WD}{C:Cw}{X:Cx},SX k W m C X->PV C X e (br W f)
abbrev HW(m:MC)(f:E)(e:Expr):Prop:=∀{k:Nat}{W:WD}{C:Cw}{X:Cx},SX k W m C X->kr C X e (br W f)
abbrev B4(m:MC)(tg:Expr)(f:E)(e:Expr):Prop:=∀{k:Nat}{W:WD}{C:Cw}{X:Cx},SX k W m C X->kz C X tg e (br W f)
inductive dZ(m:MC):List E->List Expr->Prop
 |nil:dZ m [] []
 |cons {f fs x U:_}:bW x=true->PE m f x->dZ m fs U->dZ m (f::fs) (x::U)
inductive fT(m:MC):List E->List Expr->Prop
 |nil:fT m [] []
 |cons {f fs x U:_}:HW m f x->fT m fs U->fT m (f::fs) (x::U)
abbrev de(m:MC)(f:E)(e:Expr):Type:=Option (PLift (PE m f e))
abbrev mn(m:MC)(f:E)(e:Expr):Type:=Option (PLift (HW m f e))
abbrev nk(m:MC)(tg:Expr)(f:E)(e:Expr):Type:=Option (PLift (B4 m tg f e))
abbrev eK(m:MC)(f:List E)(e:List Expr):Type:=Option (PLift (dZ m f e))
abbrev qm(m:MC)(f:List E)(e:List Expr):Type:=Option (PLift (fT m f e))
abbrev Cd(m:MC)(f:Option E)(e:Option Expr):Type:=Option (PLift (∀{k:Nat}{W:WD}{C:Cw}{X:Cx},SX k W m C X->B7 C X e (iu W f)))
def got{P:Prop}:∀{o:Option (PLift P)},o.isSome=true->P|some p,_=>p.down|none,h=>nomatch h
section
variable{W:WD}
theorem dZ.star:∀{fs:List E}{es:List Expr},dZ m fs es->∀x∈es,bW x=true|_,_,.nil=>λx a=>by cases a|_,_,.cons s _ q=>λx a=>by rcases dq.mp a with rfl|a;{exact s};exact q.star x a
theorem dZ.es(S:SX k W m C X):∀{fs:List E}{es:List Expr},dZ m fs es->j3 C X es (bU W fs)|_,_,.nil=>by simp only[bU];exact pK|_,_,.cons s p q=>by simp only[bU];exact pL (p S) (q.es S) (bX s)
theorem dZ.l(S:SX k W m C X):∀{fs:List E}{es:List Expr},dZ m fs es->oq C X es (k2 W fs)|_,_,.nil=>by simp only[k2];exact .nil|_,_,.cons s p q=>by simp only[k2];exact .cons (p S) (q.l S)
theorem dZ.a{pos:Pos}(S:SX k W m C X):∀{fs:List E}{es:List Expr},dZ m fs es->PV C X (.BoolOp .And es pos) (jv W fs)|_,_,.nil=>λaA s σ H Q I q=>by rw[aR]at q;exists Y,F,R,w,q;exact w.elim|_,_,.cons s p .nil=>by simp only[jv];exact zT (p S)|_,_,.cons s p (.cons O d q)=>by simp only[jv];exact OZ (p S) (dZ.a S (.cons O d q))
theorem dZ.o{pos:Pos}(S:SX k W m C X):∀{fs:List E}{es:List Expr},dZ m fs es->PV C X (.BoolOp .Or es pos) (dX W fs)|_,_,.nil=>λaA s σ H Q I q=>by rw[aR]at q;exists Y,F,R,w,q;exact w.elim|_,_,.cons s p .nil=>by simp only[dX];exact zT (p S)|_,_,.cons s p (.cons O a q)=>by simp only[dX];exact O0 (p S) (dZ.o S (.cons O a q))
theorem fT.a{pos:Pos}(S:SX k W m C X):∀{fs:List E}{es:List Expr},fT m fs es->ni C X (.BoolOp .And es pos) (jv W fs)|_,_,.nil=>λd aA s σ H Q I q=>by exists Y,F,R,w,q;exact w.elim|_,_,.cons p .nil=>by simp only[jv];exact zR (p S)|_,_,.cons p (.cons f q)=>by simp only[jv];exact OX (p S) (fT.a S (.cons f q))
theorem fT.o{pos:Pos}(S:SX k W m C X):∀{fs:List E}{es:List Expr},fT m fs es->ni C X (.BoolOp .Or es pos) (dX W fs)|_,_,.nil=>λa aA s σ H Q I q=>by exists Y,F,R,w,q;exact w.elim|_,_,.cons p .nil=>by simp only[dX];exact zR (p S)|_,_,.cons p (.cons d q)=>by simp only[dX];exact OY (p S) (fT.o S (.cons d q))
theorem fT.f(S:SX k W m C X):∀{fs:List E}{es:List Expr},fT m fs es->dQ X es (tT (C.at X) (fu W fs))|_,_,.nil=>by(have:fu W []=λ_=>.ok .fz (.bl true):=by funext Y;simp only[fu]);rw[this];exact Py|f::fs,_,.cons p q=>by(have:fu W (f::fs)=λY=>eX (br W f Y) (fu W fs Y):=by funext Y;simp only[fu]);rw[this];exact Pz (p S) (q.f S)
section
variable{fs:List E}{es:List Expr}{r:eK m fs es}{t:qm m fs es}
def uq(h:r.isSome=true):∀x∈es,bW x=true:=(got h).star
def qo(h:r.isSome=true)(S:SX k W m C X):j3 C X es (bU W fs):=(got h).es S
def gL(h:r.isSome=true)(S:SX k W m C X):oq C X es (k2 W fs):=(got h).l S
def gA(h:r.isSome=true)(S:SX k W m C X):PV C X (.BoolOp .And es pos) (jv W fs):=(got h).a S
def TJ(h:r.isSome=true)(S:SX k W m C X):PV C X (.BoolOp .Or es pos) (dX W fs):=(got h).o S
def TK(h:t.isSome=true)(S:SX k W m C X):ni C X (.BoolOp .And es pos) (jv W fs):=(got h).a S
def TL(h:t.isSome=true)(S:SX k W m C X):ni C X (.BoolOp .Or es pos) (dX W fs):=(got h).o S
def gF(h:t.isSome=true)(S:SX k W m C X):dQ X es (tT (C.at X) (fu W fs)):=(got h).f S
end
end
def TM:kr C X e (λ_=>.stuck):=by intro aA s σ H Q I q;exists Y,F,R,w,q;exact w.elim
def TN:kz C X tg e (λ_=>.stuck):=by intro aA s σ H R I q;exists Y,F,r,w,q;exact w.elim
noncomputable def TQ{a e:_}(r:de m a e):de m (.frz a) e:=if h:r.isSome=true then some #[λS=>eN (got h S)]else none
noncomputable def TU{a e:_}(r:de m a e):mn m (.tru a) e:=if h:(HN e&&r.isSome)=true then some #[λS=>by
 simp only[cw]at h;exact OV (got h.2 S) (TD h.1)]else none
noncomputable def TV{tg a e:_}(r:de m a e):nk m tg (.items a) e:=if h:r.isSome=true then some #[λS=>Po (got h S)]else none
noncomputable def TW{tg a e:_}(r:de m a e):nk m tg (.nkeys a) e:=if h:r.isSome=true then some #[λS=>Sa (got h S)]else none
noncomputable def TY{tg a e:_}(r:de m a e):nk m tg (.kkeys a) e:=if h:r.isSome=true then some #[λS=>S2 (got h S)]else none
noncomputable def TZ{i:_}{x:_}{p1:_}:de m (.var i) (.Name x p1):=if h:(m.N[i]?==some x&&m.vis x)=true then some #[λS=>by
 simp only[cw,dc]at h;exists f,d,a,S.vis h.2
 exact OA i (iU (by rw[S.hN];exact h.1) f d a)]else none
noncomputable def T0{y:_}{c:_}{x:_}{p1:_}:de m (.glob y c) (.Name x p1):=if h:(x==y&&m.glob x (.con c)&&zj c)=true then some #[λS=>by
 simp only[cw,dc]at h;obtain⟨⟨rfl,f⟩,d⟩:=h;exists g,l,hd,hn,S.gl f;have:=S.con _ _ l;cases c with|s y=>exists t,a,this;exact Pa g a d hd|i n=>exists t,a,this;exact Pb g a hd|t tb=>cases d]else none
noncomputable def zk{t:_}{x:_}{p1:_}:de m (.ty t) (.Name x p1):=if h:(x==(t.id:Str)&&m.glob x .no)=true then some #[λS=>by
 simp only[cw,dc]at h;exists rfl,a,h;exists g,l,hd,hn,S.gl a;exact xw g (S.no _ l) (HP t) hn hd]else none
noncomputable def T3{p0}{p1:_}:de m (.non) (.Constant .none p0 p1):=if h:(true)=true then some #[λS=>by
 exact OC]else none
noncomputable def zm{c:_}{b:_}{p1:_}{p2:_}:de m (.bl c) (.Constant (.bool b) p1 p2):=if h:(b==c)=true then some #[λS=>by
 simp only[dc]at h;subst h;exact xp]else none
noncomputable def T4{c:_}{b:_}{p1:_}{p2:_}:de m (.int c) (.Constant (.int b) p1 p2):=if h:(b==c)=true then some #[λS=>by
 simp only[dc]at h;subst h;exact OB]else none
noncomputable def T5{c:_}{b:_}{p1:_}{p2:_}:de m (.str c) (.Constant (.str b) p1 p2):=if h:(b==c&&zh b)=true then some #[λS=>by
 simp only[cw,dc]at h;exists rfl,h,h;exact OD h]else none
noncomputable def T6{op}{a}{b:_}{x:_}{o}{y:_}{p3}(d:de m a x)(r:de m b y):de m (.bin op a b) (.BinOp x o y p3):=if h:(o==op&&(d.isSome&&r.isSome))=true then some #[λS=>by
 simp only[cw,dc]at h;exists rfl,l,f,h;exact xq (TC _) (got l S) (got f S)]else none
noncomputable def T7{op}{a}{b:_}{x:_}{o}{y:_}{p3}(d:de m a x)(r:de m b y):de m (.cmp op a b) (.Compare x [o] [y] p3):=if h:(o==op&&dY y&&(d.isSome&&r.isSome))=true then some #[λS=>by
 simp only[cw,dc]at h;obtain⟨⟨rfl,hs⟩,l,f⟩:=h;exact k9 (vA _ S.un).1 (got l S) (got f S) (gZ _ hs)]else none
noncomputable def T8{es}{U:_}{p1:_}(r:eK m es U):de m (.andL es) (.BoolOp .And U p1):=if h:(r.isSome)=true then some #[λS=>by
 exact gA h S]else none
noncomputable def T9{es}{U:_}{p1:_}(r:eK m es U):de m (.orL es) (.BoolOp .Or U p1):=if h:(r.isSome)=true then some #[λS=>by
 exact TJ h S]else none
noncomputable def Ua{a}{x:_}{p1:_}(r:de m a x):de m (.not a) (.UnaryOp .Not x p1):=if h:(r.isSome)=true then some #[λS=>by
 exact O1 (got h S)]else none
noncomputable def Ub{a}{x:_}{p1:_}(r:de m a x):de m (.neg a) (.UnaryOp .USub x p1):=if h:(r.isSome)=true then some #[λS=>by
 exact O2 (got h S)]else none
noncomputable def Uc{a}{l}{u:_}{x:_}{lo}{hi}{p3}{p4}(f:de m a x)(d:Cd m l lo)(r:Cd m u hi):de m (.slice a l u) (.Subscript x (.Slice lo hi none p3) p4):=if h:(f.isSome&&(d.isSome&&r.isSome))=true then some #[λS=>by
 simp only[cw]at h;exists h0,A,o,h;exact QM (got h0 S) (got A S) (got o S)]else none
noncomputable def zn{a}{b:_}{x:_}{y:_}{p2:_}(d:de m a x)(r:de m b y):de m (.ix a b) (.Subscript x y p2):=if h:(l7 y&&(d.isSome&&r.isSome))=true then some #[λS=>by
 simp only[cw]at h;exists h0,l,f,h;exact xv (got l S) (got f S) (vB h0)]else none
noncomputable def Ud{es}{es0}{p1:_}{p2:_}(r:eK m es es0):de m (.tup es) (.Tuple es0 p1 p2):=if h:(r.isSome)=true then some #[λS=>by
 exact O5 (qo h S)]else none
noncomputable def Ue{es}{es0}{p1:_}(r:eK m es es0):de m (.lst es) (.List es0 p1):=if h:(r.isSome)=true then some #[λS=>by
 exact O6 (qo h S)]else none
noncomputable def Uf{g:_}{n:_}{es}{f}{p:_}{x:_}{U:_}{cp:_}(r:eK m es (x::U)):de m (.call g n es) (.Call (.Name f p) (x::U) [] cp):=if h:(m.calm&&f==g&&m.glob f (.fn n)&&r.isSome)=true then some #[λS=>by
 simp only[cw,dc]at h;obtain⟨⟨⟨a,rfl⟩,A⟩,d⟩:=h;exists gl,l,hd,hn,S.gl A;have st:=uq d;exact PD (S.fn _ _ l) (S.rm a) (S.xo a) gl (qo d S) hd (bX (st x c6)) (j4 _ _ λy o=>st y (df o))]else none
noncomputable def Ug{b:_}{es}{f}{p:_}{x:_}{U:_}{cp:_}(r:eK m es (x::U)):de m (.bcall b es) (.Call (.Name f p) (x::U) [] cp):=if h:((m.calm||b == .len||b == .isinstance)&&f==b.name&&m.glob f .no&&r.isSome)=true then some #[λS=>by
 rw[cw,cw,cw]at h;obtain⟨⟨⟨A,d⟩,B⟩,a⟩:=h;cases(dc.mp d);exists gl,l,hd,hn,S.gl B;have st:=uq a;exact zX (Tv b S.cm A) gl (S.no _ l) (Tu b) (qo a S) hn hd (bX (st x c6)) (j4 _ _ λy o=>st y (df o))]else none
noncomputable def Uh{t:_}{es}{f}{p1:_}{x:_}{U:_}{p4}(r:eK m es (x::U)):de m (.tcall t es) (.Call (.Name f p1) (x::U) [] p4):=if h:(f==(t.id:Str)&&m.glob f .no&&r.isSome)=true then some #[λS=>by
 simp only[cw,dc]at h;obtain⟨⟨rfl,d⟩,a⟩:=h;exists gl,l,hd,hn,S.gl d;exact Qi (Tw t) gl (S.no _ l) (HP t) (qo a S) hn hd (uq a)]else none
noncomputable def Ui{a}{f}{es}{o}{g:_}{ap:_}{U:_}{cp:_}(A:de m a o)(r:eK m es U):de m (.meth a f es) (.Call (.Attribute o g ap) U [] cp):=if h:(m.calm&&g==f&&ap.endLine==cp.line&&decide (U.length<30)&&lL o&&(A.isSome&&r.isSome))=true then some #[λS=>by
 simp only[cw,dc,fw]at h;obtain⟨⟨⟨⟨⟨l,rfl⟩,F⟩,E⟩,D⟩,B,d⟩:=h;exact P6 S.mt (S.rm l) (S.xo l) (got B S) (qo d S) D (uq d) E F λG=>by
  subst G;cases es with|nil=>funext Y;simp only[bU]|cons _ _=>cases got d]else none
noncomputable def Uj{c:_}{f}{p1:_}{p2:_}:de m (.mk0 c) (.Call (.Name f p1) [] [] p2):=if h:(f==c&&m.glob f .cls&&m.g.mk0.contains f)=true then some #[λS=>by
 simp only[cw,dc,vq]at h;obtain⟨⟨rfl,d⟩,a⟩:=h;exists gl,l,hd,hn,S.gl d;exact P9 (S.mk0 _ a) gl hd]else none
noncomputable def Uk{y:_}{tb}{a}{x:_}{p1:_}{b:_}{p3}(r:de m a b):de m (.deed y tb a) (.Subscript (.Name x p1) b p3):=if h:(x==y&&m.glob x (.con (.t tb))&&l7 b&&r.isSome)=true then some #[λS=>by
 simp only[cw,dc]at h;obtain⟨⟨⟨rfl,o⟩,f⟩,d⟩:=h;exists gl,l,hd,hn,S.gl o;exact QY (S.con _ _ l) gl (got d S) (Eg f) hd]else none
noncomputable def Ul{i:_}{fs}{n:_}{es}{f}{p:_}{x:_}{U:_}{cp:_}(r:eK m es (x::U)):de m (.callv i fs n es) (.Call (.Name f p) (x::U) [] cp):=if h:(m.calm&&m.N[i]?==some f&&m.vis f&&fs.all (λg=>m.g.G.lookup g==some (.fn n))&&r.isSome)=true then some #[λS=>by
 simp only[cw,dc,fq]at h;obtain⟨⟨⟨⟨a,D⟩,B⟩,A⟩,d⟩:=h;exists v1,v2,v3,S.vis B;have st:=uq d
 exact QZ (λg o=>S.fn g n (A g (vq.mp o))) (S.rm a) (S.xo a) (iU (by rw[S.hN];exact D) v1 v2 v3) (qo d S) (bX (st x c6)) (j4 _ _ λy l=>st y (df l))]else none
noncomputable def Um{a}{b:_}{x:_}{o}{y:_}{p3}(d:de m a x)(r:de m b y):de m (.deqC a b) (.Compare x [o] [y] p3):=if h:(o == .Eq&&dY y&&(d.isSome&&r.isSome))=true then some #[λS=>by
 simp only[cw,dc]at h;obtain⟨⟨rfl,hs⟩,l,f⟩:=h;exact k9 (HJ S.un) (got l S) (got f S) (gZ _ hs)]else none
noncomputable def Uo{F f it:_}{aC:_}{t:_}{n:_}{kx vx}{tg:_}{iter:_}{scope:_}{cp:_}(o:nk m tg it iter)(l:de (m.sub scope (aC.filterMap λi=>m.N[i]?) (a9 4 tg)) F kx)(r:de (m.sub scope (aC.filterMap λi=>m.N[i]?) (a9 4 tg)) f vx):de m (.dcomp F f it aC t n) (.DictComp kx vx [#[tg,iter,[],0]] scope cp):=if h:(m.calm&&jI scope m.sc m.N aC (aC.filterMap λi=>m.N[i]?) (a9 4 tg)&&dY iter&&decide ((a9 4 tg).length=n)&&(dB t).all (λj=>decide (aC.length<=j))&&mG (m.sub scope (aC.filterMap λi=>m.N[i]?) (a9 4 tg)) t tg&&(o.isSome&&(l.isSome&&r.isSome)))=true then some #[λS=>by
 simp only[cw,fw,fq]at h;obtain⟨⟨⟨⟨⟨⟨B,ho⟩,hn⟩,D⟩,hs⟩,G⟩,L,K,J⟩:=h;exists g1,g2,g3,g4,Z,W,V,T,HV S ho;have:=S7 (pos:=cp) (tgN:=a9 4 tg) (t:=t) (S.cm B) (got L S) g1 g2 g3 g4 Z W V (λj E=>hs j E) (λcl A fp a d=>sG (S.sub cl A fp a d) T t G)
  (λcl A fp a d=>got K (S.sub cl A fp a d)) (λcl A fp a d=>got J (S.sub cl A fp a d)) (l8 hn)
 rw[D]at this;exact this]else none
noncomputable def Up{a}{b:_}{o}{f}{ap:_}{x:_}{cp:_}(l:de m a o)(r:de m b x):de m (.tidx a b) (.Call (.Attribute o f ap) [x] [] cp):=if h:(f == "index" && ap.endLine==cp.line&&lL o&&bW x&&(l.isSome&&r.isSome))=true then some #[λS=>by
 simp only[cw,dc]at h;obtain⟨⟨⟨⟨rfl,A⟩,B⟩,hs⟩,E,D⟩:=h;exact QV (got E S) (got D S) #[pS B,by rw[nM _ _ (λy d=>by simp only[dq,qa,jy]at d;subst d;exact hs)];rfl,dc.mpr A,by rw[bX hs];rfl]]else none
noncomputable def Uq{a}{b:_}{x:_}{y:_}{p2:_}(d:de m a x)(r:de m b y):de m (.dix a b) (.Subscript x y p2):=if h:(l7 y&&(d.isSome&&r.isSome))=true then some #[λS=>by
 simp only[cw]at h;exists h0,l,f,h
 exact QP (BW (Ds (by decide:1<=64) _) S.un) (got l S) (got f S) (vB h0)]else none
noncomputable def Ur{neg:_}{a}{b:_}{x:_}{o}{y:_}{p3}(d:de m a x)(r:de m b y):de m (.din neg a b) (.Compare x [o] [y] p3):=if h:(o==(if neg then .NotIn else .In)&&dY y&&(d.isSome&&r.isSome))=true then some #[λS=>by
 simp only[cw,dc]at h;obtain⟨⟨ho,hs⟩,l,f⟩:=h
 exact QR ho (BW (Ds (by decide:1<=64) _) S.un) (got l S) (got f S) (gZ _ hs)]else none
noncomputable def Us{el}{it:_}{ts}{aC:_}{t:_}{n:_}{elt:_}{tg:_}{iter:_}{ifs:_}{scope:_}{cp:_}(o:nk m tg it iter)(l:de (m.sub scope (aC.filterMap λi=>m.N[i]?) (a9 4 tg)) el elt)(r:qm (m.sub scope (aC.filterMap λi=>m.N[i]?) (a9 4 tg)) ts ifs):de m (.comp el it ts aC t n) (.ListComp elt [#[tg,iter,ifs,0]] scope cp):=if h:(m.calm&&jI scope m.sc m.N aC (aC.filterMap λi=>m.N[i]?) (a9 4 tg)&&dY iter&&decide ((a9 4 tg).length=n)&&(dB t).all (λj=>decide (aC.length<=j))&&mG (m.sub scope (aC.filterMap λi=>m.N[i]?) (a9 4 tg)) t tg&&(o.isSome&&(l.isSome&&r.isSome)))=true then some #[λ{k}{W}{C}{X} S=>by
 simp only[cw,fw,fq]at h;obtain⟨⟨⟨⟨⟨⟨B,ho⟩,hn⟩,D⟩,hs⟩,F⟩,K,J,G⟩:=h;unfold jI at ho;simp only[cw,fq,jr,rq,dc,fw,vq]at ho;obtain⟨⟨⟨⟨⟨⟨⟨g1,g2⟩,g3⟩,g4⟩,Z⟩,V⟩,T⟩,L⟩:=ho;have er:(relabel scope X.env).names=lK scope m.sc:=by rw[<- S.hs];rfl
 have := Qv (pos := cp) (tgN := a9 4 tg) (t := t) (S.cm B) (got K S) g1 g2 (fun y d e => (g3 y d).resolve_left fun z => z e) (fun y d e => by
     have:=g4 y d;show X.env.scope.names.lookup y.1=_\/X.env.scope.names.lookup y.1=_;rw[S.hs];rcases this with(z|z)|z
     . exact absurd e z
     . exact .inl z
     . exact .inr z) (by rw[S.hN];exact Z) V (λy d=>by rw[er];exact T y d) (λj E=>hs j E) (λcl A fp a f=>sG (S.sub cl A fp a f) L t F)
     (λcl A fp a f=>gF G (S.sub cl A fp a f)) (λcl A fp a f=>got J (S.sub cl A fp a f)) (l8 hn)
 rw[D]at this;exact this]else none
noncomputable def Ut{el}{it:_}{it2}{ts}{aC:_}{elt:_}{tg:_}{iter:_}{ifs:_}{tg2}{bQ}{scope:_}{cp:_}(D:nk m tg it iter)(B:nk (m.sub scope (aC.filterMap λi=>m.N[i]?) (a9 4 tg++a9 4 tg2)) tg2 it2 bQ)(o:de (m.sub scope (aC.filterMap λi=>m.N[i]?) (a9 4 tg++a9 4 tg2)) el elt)(r:qm (m.sub scope (aC.filterMap λi=>m.N[i]?) (a9 4 tg++a9 4 tg2)) ts ifs):de m (.comp2 el it it2 ts aC) (.ListComp elt [#[tg,iter,ifs,0],#[tg2,bQ,[],0]] scope cp):=if h:(m.calm&&jI scope m.sc m.N aC (aC.filterMap λi=>m.N[i]?) (a9 4 tg++a9 4 tg2)&&dY iter&&dY bQ&&decide ((a9 4 tg++a9 4 tg2).length=2)&&mG (m.sub scope (aC.filterMap λi=>m.N[i]?) (a9 4 tg++a9 4 tg2)) (.nm aC.length) tg&&mG (m.sub scope (aC.filterMap λi=>m.N[i]?) (a9 4 tg++a9 4 tg2)) (.nm (aC.length+1)) tg2&&(D.isSome&&(B.isSome&&(o.isSome&&r.isSome))))=true then some #[λS=>by
 simp only[cw,fw]at h;obtain⟨⟨⟨⟨⟨⟨⟨E,ho⟩,hn⟩,f⟩,F⟩,J⟩,l⟩,V,T,L,K⟩:=h;exists g1,g2,g3,g4,g5,Z,W,G,HV S ho;exact Rq (pos:=cp) (tgN:=a9 4 tg++a9 4 tg2) (S.cm E) (got V S) g1 g2 g3 g4 g5 Z W F (λcl A fp a d=>sG (S.sub cl A fp a d) G (.nm aC.length) J) (λcl A fp a d=>gF K (S.sub cl A fp a d))
  (λcl A fp a d=>got T (S.sub cl A fp a d)) (λcl A fp a d=>sG (S.sub cl A fp a d) G (.nm (aC.length+1)) l) (λcl A fp a d=>got L (S.sub cl A fp a d)) (l8 hn) (λ_=>l8 f)]else none
noncomputable def Uu{p0}:de m (.nnew) (.Dict [] [] p0):=if h:(true)=true then some #[λS=>by
 exact RI]else none
noncomputable def Uv{a}{b:_}{x:_}{y:_}{p2:_}(d:de m a x)(r:de m b y):de m (.nix a b) (.Subscript x y p2):=if h:(l7 y&&(d.isSome&&r.isSome))=true then some #[λS=>by
 simp only[cw]at h;exists h0,l,f,h;exact RJ S.un (got l S) (got f S) (vB h0)]else none
noncomputable def Uw{neg:_}{a}{b:_}{x:_}{o}{y:_}{p3}(d:de m a x)(r:de m b y):de m (.nin neg a b) (.Compare x [o] [y] p3):=if h:(o==(if neg then .NotIn else .In)&&dY y&&(d.isSome&&r.isSome))=true then some #[λS=>by
 simp only[cw,dc]at h;obtain⟨⟨ho,hs⟩,l,f⟩:=h;exact RK ho S.un (got l S) (got f S) (gZ _ hs)]else none
noncomputable def Ux{a}{b:_}{d}{o}{f}{ap:_}{x:_}{y:_}{cp:_}(D:de m a o)(B:de m b x)(A:de m d y):de m (.nget a b d) (.Call (.Attribute o f ap) [x,y] [] cp):=if h:(f == "get" && ap.endLine==cp.line&&lL o&&bW x&&bW y&&(D.isSome&&(B.isSome&&A.isSome)))=true then some #[λS=>by
 simp only[cw,dc]at h;obtain⟨⟨⟨⟨⟨rfl,E⟩,F⟩,hs⟩,l⟩,K,J,G⟩:=h;exact RM S.un (got K S) (got J S) (got G S) #[pS F,by
  rw[nM _ _ (λz r=>by
   simp only[dq,qa,jy]at r;rcases r with rfl|rfl
   . exact hs
   . exact l)];rfl,dc.mpr E,by rw[bX hs,bX l];rfl]]else none
noncomputable def Uy{a}{f}{p1:_}{x:_}{p3}(r:de m a x):de m (.srtw a) (.Call (.Name f p1) [x] [] p3):=if h:(f == "sorted" && m.glob f .no&&bW x&&r.isSome)=true then some #[λS=>by
 simp only[cw,dc]at h;obtain⟨⟨⟨rfl,o⟩,hs⟩,d⟩:=h;exists gl,l,hd,hn,S.gl o;exact zX (R7 S.un) gl (S.no _ l) uD (pL (got d S) pK (bX hs)) hn hd (bX hs) rfl]else none
noncomputable def Uz{a}{f}{p1:_}{x:_}{p3}(r:de m a x):de m (.ndp a) (.Call (.Name f p1) [x] [] p3):=if h:(m.calm&&f == "dict" && m.glob f .no&&bW x&&r.isSome)=true then some #[λS=>by
 simp only[cw,dc]at h;obtain⟨⟨⟨⟨d,rfl⟩,A⟩,hs⟩,o⟩:=h;exists gl,l,hd,hn,S.gl A;exact To S.un (S.cm d) gl (S.no _ l) (got o S) hs]else none
noncomputable def UA{a}{f}{p1:_}{g:_}{p3}{x:_}{p5}{p6}(r:de m a x):de m (.us4 a) (.Call (.Name f p1) [.Call (.Name g p3) [x] [] p5] [] p6):=if h:(m.calm&&f == "sorted" && g == "set" && m.glob f .no&&m.glob g .no&&bW x&&r.isSome)=true then some #[λS=>by
 simp only[cw,dc]at h;obtain⟨⟨⟨⟨⟨⟨o,rfl⟩,rfl⟩,F⟩,E⟩,d⟩,D⟩:=h;exists gl,l,hd,hn,S.gl F;exists G,L,B,A,S.gl E;exact Sw S.un (S.cm o) gl (S.no _ l) G (S.no _ L) (got D S) d]else none
noncomputable def vC(N ps:List Str)(sc:Scope):Bool:=sc.kind == .function&&!sc.isCoroutine&&!sc.isGenerator&&decide N.Nodup&&(N.take ps.length==ps)&&ps.all (λx=>sc.names.lookup x==some .local||sc.names.lookup x==some .cell)&&sc.names.all (λy=>y.2 != .free)
def HY{N ps:List Str}(h:vC N ps sc=true):m8 N ps sc:=by unfold vC at h;simp only[cw,fq,jr,rq,dc,fw,Dh]at h;obtain⟨⟨⟨⟨⟨⟨A,r⟩,o⟩,l⟩,f⟩,d⟩,a⟩:=h;exact#[A,r,o,l,f,d,a]
noncomputable def UB{g:_}{a}{f}{p1:_}{x:_}{kw}{y:_}{q:_}{kp}{p3}(A:de m a x):de m (.srtf g a) (.Call (.Name f p1) [x] [#[some kw,.Name y q,kp]] p3):=if h:(m.calm&&f == "sorted" && m.glob f .no&&kw == "key" && bW x&&y==g&&m.glob g (.fn 1)&&A.isSome)=true then some #[λ{k}{W}{C}{X} S=>by
 simp only[cw,dc]at h;obtain⟨⟨⟨⟨⟨⟨⟨r,rfl⟩,J⟩,rfl⟩,F⟩,rfl⟩,D⟩,E⟩:=h;exists gl,l,_,_,S.gl J;exists G,L,o,_,S.gl D;cases hd:W.dp with
 |false=>rw[show br W (.srtf y a)=λ_=>.stuck by funext Y;show(if W.dp=true then _ else _)=_;rw[hd];rfl];exact TF|true =>
  exists j,B,fp,S.fp hd;rw[show br W (.srtf y a)=λY=>eR (λd=>W.Ψ y [d]) (br W a Y) by funext Y;show(if W.dp=true then _ else _)=_;rw[hd];rfl]
  exact SQ (S.cm r) S.un gl (S.no _ l) (got E S) F G o (fp y 1 L) (by rw[B];exact S.rm r)]else none
noncomputable def UC{ks vs:_}{keys:List (Option Expr)}{p3}(d:eK m ks (keys.filterMap id))(r:eK m vs values):de m (.disp ks vs) (.Dict keys values p3):=if h:(keys.all (·.isSome)&&decide (keys.length=values.length)&&!keys.isEmpty&&decide (keys.length<=15)&&(d.isSome&&r.isSome))=true then some #[λS=>by
 simp only[cw,fw]at h;obtain⟨⟨⟨⟨B,A⟩,a⟩,o⟩,l,f⟩:=h;exact RB (gL l S) (gL f S) B A (λz=>by rw[z]at a;cases a) o]else none
noncomputable def UD{a}{b:_}{x:_}{o}{y:_}{p3}(d:de m a x)(r:de m b y):mn m (.deqC a b) (.Compare x [o] [y] p3):=if h:(o == .Eq&&dY y&&(d.isSome&&r.isSome))=true then some #[λS=>by
 simp only[cw,dc]at h;obtain⟨⟨rfl,hs⟩,l,f⟩:=h;exact lE (HJ S.un) Td (got l S) (got f S) (gZ _ hs)]else none
noncomputable def UE{neg:_}{a}{b:_}{x:_}{o}{y:_}{p3}(B:de m a x)(r:de m b y):mn m (.din neg a b) (.Compare x [o] [y] p3):=if h:(o==(if neg then .NotIn else .In)&&dY y&&(B.isSome&&r.isSome))=true then some #[λ{k}{W}{C}{X} S=>by
 simp only[cw,dc]at h;obtain⟨⟨ho,hs⟩,l,f⟩:=h;have d:X.A.units+1<cLine:=BW (Ds (by decide:1<=64) _) S.un
 cases neg with|false=>cases(show _=CmpOp.In from ho);exact lE (Gs d) HQ (got l S) (got f S) (gZ _ hs)|true=>cases(show _=CmpOp.NotIn from ho);exact lE (Gu d) HQ (got l S) (got f S) (gZ _ hs)]else none
noncomputable def UF{neg:_}{a}{b:_}{x:_}{o}{y:_}{p3}(l:de m a x)(r:de m b y):mn m (.nin neg a b) (.Compare x [o] [y] p3):=if h:(o==(if neg then .NotIn else .In)&&dY y&&(l.isSome&&r.isSome))=true then some #[λS=>by
 simp only[cw,dc]at h;obtain⟨⟨ho,hs⟩,f,d⟩:=h;cases neg with|false=>cases(show _=CmpOp.In from ho);exact lE (GZ S.un) HR (got f S) (got d S) (gZ _ hs)|true=>cases(show _=CmpOp.NotIn from ho);exact lE (G0 S.un) HR (got f S) (got d S) (gZ _ hs)]else none
noncomputable def UG{op}{a}{b:_}{x:_}{o}{y:_}{p3}(d:de m a x)(r:de m b y):mn m (.cmp op a b) (.Compare x [o] [y] p3):=if h:(o==op&&dY y&&(d.isSome&&r.isSome))=true then some #[λ{k}{W}{C}{X} S=>by
 simp only[cw,dc]at h;obtain⟨⟨rfl,hs⟩,l,f⟩:=h;exact lE (vA _ S.un).1 (vA (C:=C) _ S.un).2 (got l S) (got f S) (gZ _ hs)]else none
noncomputable def UH{es}{U:_}{p1:_}(r:qm m es U):mn m (.andL es) (.BoolOp .And U p1):=if h:(r.isSome)=true then some #[λS=>by
 exact xu (TK h S)]else none
noncomputable def UI{es}{U:_}{p1:_}(r:qm m es U):mn m (.orL es) (.BoolOp .Or U p1):=if h:(r.isSome)=true then some #[λS=>by
 exact xu (TL h S)]else none
noncomputable def UJ{a}{x:_}{p1:_}(r:mn m a x):mn m (.not a) (.UnaryOp .Not x p1):=if h:(r.isSome)=true then some #[λS=>by
 exact OW (got h S)]else none
noncomputable def UK{tg0}{a}{f}{p1:_}{x:_}{p3}(r:de m a x):nk m tg0 (.rng1 a) (.Call (.Name f p1) [x] [] p3):=if h:(f == "range" && m.glob f .no&&bW x&&r.isSome)=true then some #[λS=>by
 simp only[cw,dc]at h;obtain⟨⟨⟨rfl,A⟩,d⟩,o⟩:=h;exists gl,l,hd,hn,S.gl A;exact Pq gl (S.no _ l) (pL (got o S) pK (bX d)) (bX d)]else none
noncomputable def UL{tg0}{a}{f}{p1:_}{x:_}{p3}(r:de m a x):nk m tg0 (.enum1 a) (.Call (.Name f p1) [x] [] p3):=if h:(f == "enumerate" && Tt tg0&&m.glob f .no&&bW x&&r.isSome)=true then some #[λS=>by
 simp only[cw,dc]at h;obtain⟨⟨⟨⟨rfl,o⟩,B⟩,d⟩,A⟩:=h;exists gl,l,hd,hn,S.gl B;cases tg0 <;> first
  |(cases o;done)
  |exact QI gl (S.no _ l) (pL (eN (got A S)) pK (bX d)) (bX d)]else none
noncomputable def UM{f fs x U:_}(r:de m f x)(a:eK m fs U):eK m (f::fs) (x::U):=if h:(bW x&&r.isSome&&a.isSome)=true then some #[by
 simp only[cw]at h;exact .cons h.1.1 (@got _ r h.1.2) (got h.2)]else none
noncomputable def kO{f x:_}(r:de m f x):Cd m (some f) (some x):=if h:r.isSome=true then some #[λS=>by simp only[iu];exact got h S]else none
noncomputable def kF{f fs x U:_}(r:mn m f x)(a:qm m fs U):qm m (f::fs) (x::U):=if h:(r.isSome&&a.isSome)=true then some #[by
 simp only[cw]at h;exact .cons (@got _ r h.1) (got h.2)]else none
set_option maxHeartbeats 4000000 in
mutual
noncomputable def ew:(m:MC)->(f:E)->(e:Expr)->de m f e
 |m,.frz a,e=>TQ (ew m a e)|m,.never,e=>some #[λ_=>TH]|m,.var i,e=>match e with|.Name x p1=>TZ|_=>none
 |m,.glob y c,e=>match e with|.Name x p1=>T0|_=>none
 |m,.ty t,e=>match e with|.Name x p1=>zk|_=>none
 |m,.non,e=>match e with|.Constant .none G p1=>T3|_=>none
 |m,.bl c,e=>match e with|.Constant (.bool b) p1 p2=>zm|_=>none
 |m,.int c,e=>match e with|.Constant (.int b) p1 p2=>T4|_=>none
 |m,.str c,e=>match e with|.Constant (.str b) p1 p2=>T5|_=>none
 |m,.bin J a b,e=>match e with|.BinOp x o y r=>T6 (ew m a x) (ew m b y)|_=>none
 |m,.cmp J a b,e=>match e with|.Compare x [o] [y] r=>T7 (ew m a x) (ew m b y)|_=>none
 |m,.andL es,e=>match e with|.BoolOp .And U p1=>T8 (fE m es U)|_=>none
 |m,.orL es,e=>match e with|.BoolOp .Or U p1=>T9 (fE m es U)|_=>none
 |m,.not a,e=>match e with|.UnaryOp .Not x p1=>Ua (ew m a x)|_=>none
 |m,.neg a,e=>match e with|.UnaryOp .USub x p1=>Ub (ew m a x)|_=>none
 |m,.slice a l u,e=>match e with|.Subscript x (.Slice lo L none r) F=>Uc (ew m a x) (HZ m l lo) (HZ m u L)|_=>none
 |m,.ix a b,e=>match e with|.Subscript x y p2=>zn (ew m a x) (ew m b y)|_=>none
 |m,.tup es,e=>match e with|.Tuple A p1 p2=>Ud (fE m es A)|_=>none
 |m,.lst es,e=>match e with|.List A p1=>Ue (fE m es A)|_=>none
 |m,.call g n es,e=>match e with|.Call (.Name f p) (x::U) [] cp=>Uf (fE m es (x::U))|_=>none
 |m,.bcall b es,e=>match e with|.Call (.Name f p) (x::U) [] cp=>Ug (fE m es (x::U))|_=>none
 |m,.tcall t es,e=>match e with|.Call (.Name f p1) (x::U) [] F=>Uh (fE m es (x::U))|_=>none
 |m,.meth a f es,e=>match e with|.Call (.Attribute o g ap) U [] cp=>Ui (ew m a o) (fE m es U)|_=>none
 |m,.mk0 c,e=>match e with|.Call (.Name f p1) [] [] p2=>Uj|_=>none
 |m,.nnew,e=>match e with|.Dict [] [] G=>Uu|_=>none
 |m,.us4 a,e=>match e with|.Call (.Name f p1) [.Call (.Name g r) [x] [] p5] [] p6=>UA (ew m a x)|_=>none
 |m,.srtw a,e=>match e with|.Call (.Name f p1) [x] [] r=>Uy (ew m a x)|_=>none
 |m,.srtf g a,e=>match e with|.Call (.Name f p1) [x] [⟨some kw,.Name y q,kp⟩] r=>UB (ew m a x)|_=>none
 |m,.ndp a,e=>match e with|.Call (.Name f p1) [x] [] r=>Uz (ew m a x)|_=>none
 |m,.deed y tb a,e=>match e with|.Subscript (.Name x p1) b r=>Uk (ew m a b)|_=>none
 |m,.callv i fs n es,e=>match e with|.Call (.Name f p) (x::U) [] cp=>Ul (fE m es (x::U))|_=>none
 |m,.tidx a b,e=>match e with|.Call (.Attribute o f ap) [x] [] cp=>Up (ew m a o) (ew m b x)|_=>none
 |m,.dix a b,e=>match e with|.Subscript x y p2=>Uq (ew m a x) (ew m b y)|_=>none
 |m,.nix a b,e=>match e with|.Subscript x y p2=>Uv (ew m a x) (ew m b y)|_=>none
 |m,.din neg a b,e=>match e with|.Compare x [o] [y] r=>Ur (ew m a x) (ew m b y)|_=>none
 |m,.nin neg a b,e=>match e with|.Compare x [o] [y] r=>Uw (ew m a x) (ew m b y)|_=>none
 |m,.deqC a b,e=>match e with|.Compare x [o] [y] r=>Um (ew m a x) (ew m b y)|_=>none
 |m,.dcomp W S it aC t n,e=>match e with|.DictComp K V [⟨tg,iter,[],0⟩] scope cp=>Uo (zo m tg it iter) (ew (m.sub scope (aC.filterMap λi=>m.N[i]?) (a9 4 tg)) W K) (ew (m.sub scope (aC.filterMap λi=>m.N[i]?) (a9 4 tg)) S V)|_=>none
 |m,.comp D it ts aC t n,e=>match e with|.ListComp elt [⟨tg,iter,ifs,0⟩] scope cp=>Us (zo m tg it iter) (ew (m.sub scope (aC.filterMap λi=>m.N[i]?) (a9 4 tg)) D elt) (ur (m.sub scope (aC.filterMap λi=>m.N[i]?) (a9 4 tg)) ts ifs)|_=>none
 |m,.comp2 D it B ts aC,e=>match e with|.ListComp elt [⟨tg,iter,ifs,0⟩,⟨T,Z,[],0⟩] scope cp=>Ut (zo m tg it iter) (zo (m.sub scope (aC.filterMap λi=>m.N[i]?) (a9 4 tg++a9 4 T)) T B Z) (ew (m.sub scope (aC.filterMap λi=>m.N[i]?) (a9 4 tg++a9 4 T)) D elt) (ur (m.sub scope (aC.filterMap λi=>m.N[i]?) (a9 4 tg++a9 4 T)) ts ifs)|_=>none
 |m,.nget a b d,e=>match e with|.Call (.Attribute o f ap) [x,y] [] cp=>Ux (ew m a o) (ew m b x) (ew m d y)|_=>none
 |m,.disp ks vs,e=>match e with|.Dict keys values r=>UC (fE m ks (keys.filterMap id)) (fE m vs values)|_=>none
 |_,.tru _,_|_,.items _,_|_,.nkeys _,_|_,.kkeys _,_|_,.rng1 _,_|_,.enum1 _,_=>none
noncomputable def Eh:(m:MC)->(f:E)->(e:Expr)->mn m f e
 |m,.tru a,e=>TU (ew m a e)|m,.never,e=>some #[λ_=>TM]|m,.deqC a b,e=>match e with|.Compare x [o] [y] d=>UD (ew m a x) (ew m b y)|_=>none
 |m,.din neg a b,e=>match e with|.Compare x [o] [y] d=>UE (ew m a x) (ew m b y)|_=>none
 |m,.nin neg a b,e=>match e with|.Compare x [o] [y] d=>UF (ew m a x) (ew m b y)|_=>none
 |m,.cmp l a b,e=>match e with|.Compare x [o] [y] d=>UG (ew m a x) (ew m b y)|_=>none
 |m,.andL es,e=>match e with|.BoolOp .And U p1=>UH (ur m es U)|_=>none
 |m,.orL es,e=>match e with|.BoolOp .Or U p1=>UI (ur m es U)|_=>none
 |m,.not a,e=>match e with|.UnaryOp .Not x p1=>UJ (Eh m a x)|_=>none
 |_,_,_=>none
noncomputable def zo:(m:MC)->(tg:Expr)->(f:E)->(e:Expr)->nk m tg f e
 |m,tg,.items a,e=>TV (ew m a e)|m,tg,.nkeys a,e=>TW (ew m a e)|m,tg,.kkeys a,e=>TY (ew m a e)|m,tg,.never,e=>some #[λ_=>TN]|m,T,.rng1 a,e=>match e with|.Call (.Name f p1) [x] [] d=>UK (ew m a x)|_=>none
 |m,T,.enum1 a,e=>match e with|.Call (.Name f p1) [x] [] d=>UL (ew m a x)|_=>none
 |_,_,_,_=>none
noncomputable def fE:(m:MC)->(fs:List E)->(es:List Expr)->eK m fs es
 |m,[],es=>match es with|[]=>some #[.nil]|_=>none
 |m,f::fs,l=>match l with|x::U=>UM (ew m f x) (fE m fs U)|_=>none
noncomputable def HZ:(m:MC)->(f:Option E)->(e:Option Expr)->Cd m f e
 |m,none,e=>match e with|none=>some #[λ_=>True.intro]|_=>none
 |m,some f,l=>match l with|some x=>kO (ew m f x)|_=>none
noncomputable def ur:(m:MC)->(fs:List E)->(es:List Expr)->qm m fs es
 |m,[],es=>match es with|[]=>some #[.nil]|_=>none
 |m,f::fs,l=>match l with|x::U=>kF (Eh m f x) (ur m fs U)|_=>none
end
noncomputable def mE(m:MC)(f:E)(e:Expr):Bool:=(ew m f e).isSome
noncomputable def mT(m:MC)(f:E)(e:Expr):Bool:=(Eh m f e).isSome
noncomputable def mI(m:MC)(tg:Expr)(f:E)(e:Expr):Bool:=(zo m tg f e).isSome
noncomputable def UN(m:MC)(f:List E)(e:List Expr):Bool:=(fE m f e).isSome
noncomputable def mF(m:MC)(f:List E)(e:List Expr):Bool:=(ur m f e).isSome
section
variable{W:WD}
def sE(f:E)(S:SX k W m C X)(h:mE m f e=true):PV C X e (br W f):=got h S
def sT(f:E)(S:SX k W m C X)(h:mT m f e=true):kr C X e (br W f):=got h S
def sI(f:E)(S:SX k W m C X)(h:mI m tg f e=true):kz C X tg e (br W f):=got h S
def sF(fs:List E){es:List Expr}(S:SX k W m C X)(h:mF m fs es=true):dQ X es (tT (C.at X) (fu W fs)):=gF h S
end
inductive G where|app (k v:E)|for (it:E) (t:Tg) (g:G)
inductive S where
 |ret (e:E)|retV (i:Nat)|set (i:Nat) (e:E)|ite (c:E) (a b:List S)|for (it:E) (t:Tg) (body:List S)
 |expr (e:E)|never|asg (t:Tg) (e:E)
 |app (i:Nat) (e:E)|lput (i:Nat) (k e:E)|setC (i:Nat) (fz:Bool) (e:E)|nput (i:Nat) (k e:E)|frzV (i:Nat)|nfrz (i:Nat)|cmu (i:Nat) (f:Str) (n:Nat) (es:List E)|mput (b:List S)
mutual
noncomputable def ff(W:WD):S->Rho->aI|.ret e,Y=>lG (br W e Y) Y|.retV i,Y=>gU Y i|.set i e,Y=>dA Y i (br W e Y)|.ite c a b,Y=>oo (br W c Y) Y (cz W a Y) (cz W b Y)|.for it t body,Y=>lJ (br W it Y) Y (aO t) (cz W body)|.asg t e,Y=>pZ t Y (br W e Y)|.expr e,Y=>(br W e Y).thS Y λ_ _=>.nx Y|.app i e,Y=>eZ Y i (br W e Y)|.lput i k e,Y=>iH Y i (br W k Y) (br W e Y)|.frzV i,Y=>lP Y i|.nfrz i,Y=>nX Y i|.cmu i f n es,Y=>jE (W.Mu f) i Y n (bU W es Y)|.mput _,_=>.stuck|.nput i k e,Y=>dW Y i (br W k Y) (br W e Y)|.setC i fz e,Y=>dA Y i (if fz=true then aM (br W e Y)else br W e Y)|.never,_=>.stuck
noncomputable def cz(W:WD):List S->Rho->aI|[],Y=>.nx Y|s::r,Y=>(ff W s Y).thn (cz W r)
end
noncomputable def jJ:Expr->Bool|.ListComp ..=>false|.SetComp ..=>false|.DictComp ..=>false|_=>true
noncomputable def mC(m:MC)(elt:Expr)(scope:Scope):E->List Comprehension->Bool
 |.comp a it ts aC t n,gens=>match gens with
  |[⟨tg,iter,ifs,0⟩] =>
   let aJ:=aC.filterMap λi=>m.N[i]?
   let tgN:=a9 4 tg
   m.calm&&jI scope m.sc m.N aC aJ tgN&&dY iter&&decide (tgN.length=n)&&(dB t).all (λj=>decide (aC.length<=j))&&mG (m.sub scope aJ tgN) t tg&&(mI m tg it iter&&(mE (m.sub scope aJ tgN) a elt&&mF (m.sub scope aJ tgN) ts ifs))
  |_=>false
 |_,_=>false
noncomputable def Ia:Expr->Bool|.Tuple ..=>false|_=>true
def l9{t:Option Expr}(h:jJ e=true):swapsWith e t n env=pure false:=by cases e <;> first|rfl|cases h
def UO(hs:env.scope=m.sc)(h:(jJ e||m.kind x==some .cell)=true):swapsWith e (some (.Name x p)) n env=pure false:=by rw[jr,dc]at h;rcases h with h|h;{exact l9 h};(have hk:env.kindOf x=some .cell:=by show env.scope.names.lookup x=_;rw[hs];exact h);(unfold swapsWith;have K:(NameKind.cell==NameKind.local)=false:=by decide);cases e <;> first|rfl|(simp[hk,K])
def UP{t:Expr}(h:Ia e=true):swappedStores [t] e env=pure none:=by unfold swappedStores;split;{rename_i q;split at q;{cases h};{cases h};cases q};rfl
def UQ:ju C X st (λ_=>.stuck):=λaA s σ H E I q=>by exists Y,F,R,w,q;exact w.elim
section
variable{W:WD}
structure SB(k:Nat)(W:WD)(m:MC)(C:Cw)(X:Cx):Prop extends SX k W m C X where
 nd:m.N.Nodup
 hp:PassesOwn (model X.prog X.w) X.A X.env X.xe
end
def UR{W:WD}(S:SB k W m C X)(fz:Bool){o it:E}{ts:List E}{l:Pos}{gens:List Comprehension}(h1:m.N[i]? = some x)(h2:m.kind x=some .local)(h3:m.sc.kind=.function)(Z:l.line=cp.line)(V:(scope.names.any λy=>y.1==x&&(y.2 == .local||y.2 == .cell))=false)(h:mC m elt scope (.comp o it ts aC t n) gens=true):ju C X (.Assign [.Name x l] (.ListComp elt gens scope cp) sp) (λY=>dA Y i (if fz=true then aM (br W (.comp o it ts aC t n) Y)else br W (.comp o it ts aC t n) Y)):=by
 have hk:X.env.scope.names.lookup x=some .local:=by rw[S.hs];exact h2
 conv at h=>lhs;whnf
 split at h
 . rename_i tg iter ifs;simp only[cw,fw,fq]at h;obtain⟨⟨⟨⟨⟨⟨G,ho⟩,hn⟩,J⟩,hs⟩,T⟩,r,K,F⟩:=h;unfold jI at ho;simp only[cw,fq,jr,rq,dc,fw,vq]at ho;obtain⟨⟨⟨⟨⟨⟨⟨g1,g2⟩,g3⟩,g4⟩,g5⟩,g6⟩,g7⟩,g8⟩:=ho;have er:(relabel scope X.env).names=lK scope m.sc:=by rw[<- S.hs];rfl
   have bk:X.env.blockKind=.function:=by unfold Env.blockKind;rw[S.hs,h3];rfl
   have B:swapsWith (.ListComp elt [#[tg,iter,ifs,0]] scope cp) (some (.Name x l)) sp.line X.env=pure true:=by(have D:X.env.kindOf x=some .local:=hk;unfold swapsWith;have r:(ScopeKind.function==ScopeKind.function)=true:=by decide);(have K:(some NameKind.local==some NameKind.local)=true:=by decide);simp only[bk,D,Expr.pos,Z,V,r,K,oi];rfl
   have := Qw fz (pos := cp) (pos' := l) (spos := sp) (i := i) (x := x) (tgN := a9 4 tg) (t := t) (S.cm G) (sI it S.toSX r) g1 g2 (fun y d e => (g3 y d).resolve_left fun z => z e) (fun y d e => by
       have:=g4 y d;show X.env.scope.names.lookup y.1=_\/X.env.scope.names.lookup y.1=_;rw[S.hs];rcases this with(z|z)|z
       . exact absurd e z
       . exact .inl z
       . exact .inr z) (by rw[S.hN];exact g5) g6 (λy d=>by rw[er];exact g7 y d) (λj L=>hs j L) (λcl A fp a f=>sG (S.toSX.sub cl A fp a f) g8 t T)
       (λcl A fp a f=>sF ts (S.toSX.sub cl A fp a f) F) (λcl A fp a f=>sE o (S.toSX.sub cl A fp a f) K) (by rw[S.hN];exact S.nd) (by rw[S.hN];exact h1) hk B (l8 hn)
   rw[J]at this;exact this
 . cases h
abbrev k3(m:MC)(f:D3.S)(st:Stmt):Type:=Option (PLift (∀{k:Nat}{W:WD}{C:Cw}{X:Cx},SB k W m C X->ju C X st (ff W f)))
abbrev mo(m:MC)(f:List D3.S)(sts:List Stmt):Type:=Option (PLift (∀{k:Nat}{W:WD}{C:Cw}{X:Cx},SB k W m C X->kf C X sts (cz W f)))
noncomputable def US{f}{e:_}{p1:_}:k3 m (.ret f) (.Return (some e) p1):=if h:(mE m f e)=true then some #[λS=>by
 exact Ph (sE f S.toSX h)]else none
noncomputable def UT{i:_}{x:_}{p1:_}{p2:_}:k3 m (.retV i) (.Return (some (.Name x p1)) p2):=if h:(m.N[i]?==some x&&m.vis x)=true then some #[λS=>by
 simp only[cw,dc]at h;exists f,d,a,S.toSX.vis h.2
 exact Pj i (iU (by rw[S.hN];exact h.1) f d a)]else none
noncomputable def UU{i:_}{f}{x:_}{p1:_}{e:_}{p3}:k3 m (.set i f) (.Assign [.Name x p1] e p3):=if h:(m.loc i x&&(jJ e||m.kind x==some .cell)&&mE m f e)=true then some #[λS=>by
 simp only[cw]at h;obtain⟨⟨o,l⟩,a⟩:=h;exists b,c,d,S.toSX.loc o
 exact Pm (by rw[S.hN];exact S.nd) b c (sE f S.toSX a) (UO S.hs l) d]else none
noncomputable def UV{i:_}{f}{g:_}{x:_}{p1:_}{k:_}{p3}{e:_}{p5}:k3 m (.nput i f g) (.Assign [.Subscript (.Name x p1) k p3] e p5):=if h:(m.N[i]?==some x&&m.vis x&&jJ e&&mE m f k&&mE m g e)=true then some #[λS=>by
 simp only[cw,dc]at h;obtain⟨⟨⟨⟨r,o⟩,l⟩,d⟩,a⟩:=h;exists v1,v2,v3,S.toSX.vis o
 exact RN i S.un (iU (by rw[S.hN];exact r) v1 v2 v3) (sE f S.toSX d) (sE g S.toSX a) (l9 l)]else none
noncomputable def UW{i:_}{fz}{f}{x:_}{px}{elt:_}{gens}{scope:_}{cp:_}{p6}:k3 m (.setC i fz f) (.Assign [.Name x px] (.ListComp elt gens scope cp) p6):=if h:(m.N[i]?==some x&&m.kind x==some .local&&m.sc.kind == .function&&px.line==cp.line&&!(scope.names.any λy=>y.1==x&&(y.2 == .local||y.2 == .cell))&&mC m elt scope f gens)=true then some #[λS=>by
 simp only[cw,dc,Dh]at h;obtain⟨⟨⟨⟨⟨A,r⟩,o⟩,l⟩,d⟩,a⟩:=h;cases f with|comp E it ts aC t n=>exact UR S fz A r o l d a|_=>cases a]else none
noncomputable def UX{f}{a}{b:_}{c:_}{x:_}{y:_}{p3}(d:mo m a x)(r:mo m b y):k3 m (.ite f a b) (.If c x y p3):=if h:(mT m f c&&(d.isSome&&r.isSome))=true then some #[λS=>by
 simp only[cw]at h;exists A,o,l,h;exact Pk (sT f S.toSX A) (got o S) (got l S)]else none
noncomputable def UY{f}{t:_}{b:_}{tg:_}{e:_}{body:_}{p3}(r:mo m b body):k3 m (.for f t b) (.For tg e body [] p3):=if h:(m.calm&&mG m t tg&&dY e&&(mI m tg f e&&r.isSome))=true then some #[λS=>by
 simp only[cw]at h;obtain⟨⟨⟨a,A⟩,o⟩,l,d⟩:=h;exact Pr S.hp (S.cm a) (sI f S.toSX l) (Qt (sG S.toSX S.nd t A)) (got d S) (l8 o)]else none
noncomputable def UZ{t:_}{f}{tg:_}{e:_}{p2:_}:k3 m (.asg t f) (.Assign [tg] e p2):=if h:(mG m t tg&&i6 tg&&jJ e&&Ia e&&mE m f e)=true then some #[λS=>by
 simp only[cw]at h;obtain⟨⟨⟨⟨r,o⟩,l⟩,d⟩,a⟩:=h;exact Qu (sE f S.toSX a) (sG S.toSX S.nd t r) (l9 l) (UP d) o]else none
noncomputable def U0{f}{e:_}{p1:_}:k3 m (.expr f) (.Expr e p1):=if h:(jJ e&&mE m f e)=true then some #[λS=>by
 simp only[cw]at h;exact Pg (sE f S.toSX h.2) (l9 h.1)]else none
noncomputable def U3{i:_}{f}{x:_}{p1:_}{a}{ap:_}{e:_}{cp:_}{p6}:k3 m (.app i f) (.Expr (.Call (.Attribute (.Name x p1) a ap) [e] [] cp) p6):=if h:(m.N[i]?==some x&&m.vis x&&a == "append" && ap.endLine==cp.line&&bW e&&mE m f e)=true then some #[λS=>by
 simp only[cw,dc]at h;obtain⟨⟨⟨⟨⟨A,r⟩,rfl⟩,o⟩,l⟩,d⟩:=h;exists v1,v2,v3,S.toSX.vis r
 exact QL i (iU (by rw[S.hN];exact A) v1 v2 v3) (sE f S.toSX d) l o]else none
noncomputable def U4{i f n es x p1 F p2 U cp o:_}:k3 m (.cmu i f n es) (.Expr (.Call (.Name F p2) (.Name x p1::U) [] cp) o):=if h:(m.calm&&m.N[i]?==some x&&m.vis x&&F==f&&m.glob f (.fn n)&&UN m es U)=true then some #[λS=>by
 simp only[cw,dc]at h;obtain⟨⟨⟨⟨⟨a,D⟩,B⟩,rfl⟩,A⟩,d⟩:=h;exists v1,v2,v3,S.toSX.vis B;exists gl,l,hd,_,S.toSX.gl A;have st:=uq d
 exact S8 (S.su _ _ l) (S.rm a) (S.xo a) gl hd i (iU (by rw[S.hN];exact D) v1 v2 v3) (qo d S.toSX) (bX rfl) (j4 _ _ λy r=>st y r)]else none
noncomputable def U5{i:_}{f}{g:_}{x:_}{p1:_}{k:_}{p3}{e:_}{p5}:k3 m (.lput i f g) (.Assign [.Subscript (.Name x p1) k p3] e p5):=if h:(m.N[i]?==some x&&m.vis x&&jJ e&&mE m f k&&mE m g e)=true then some #[λS=>by
 simp only[cw,dc]at h;obtain⟨⟨⟨⟨r,o⟩,l⟩,d⟩,a⟩:=h;exists v1,v2,v3,S.toSX.vis o
 exact Rz i (iU (by rw[S.hN];exact r) v1 v2 v3) (sE f S.toSX d) (sE g S.toSX a) (l9 l)]else none
def U6{W:WD}(S:SB k W m C X):kf C X [] (cz W []):=by(have:cz W []=λY=>.nx Y:=by funext Y;simp only[cz]);rw[this];exact Pd
noncomputable def U7{i fs sts:_}(r:mo m fs sts):mo m (.frzV i::fs) sts:=if h:r.isSome=true then some #[λ{k}{W}{C}{X} S=>by
 have:cz W (.frzV i::fs)=λY=>(lP Y i).thn (cz W fs):=by funext Y;rfl
 rw[this];exact Q0 (got h S)]else none
noncomputable def U8{i fs sts:_}(r:mo m fs sts):mo m (.nfrz i::fs) sts:=if h:r.isSome=true then some #[λ{k}{W}{C}{X} S=>by
 have:cz W (.nfrz i::fs)=λY=>(nX Y i).thn (cz W fs):=by funext Y;rfl
 rw[this];exact Sb (got h S)]else none
def U9{g:Rho->aI}(h:∀Y,g Y=.stuck):kf C X sts g:=λaA s σ H E I q=>by exists Y,F,R,w,q;rw[h]at w;exact w.elim
noncomputable def ut(W:WD):List D3.S->Rho->aI|[.nput i k e],Y=>dW Y i (br W k Y) (br W e Y)|[.ite c [.nput i k e] [.nput a K E]],Y=>oo (br W c Y) Y (dW Y i (br W k Y) (br W e Y)) (dW Y a (br W K Y) (br W E Y))|_,_=>.stuck
abbrev Ce(m:MC)(b:List D3.S)(sts:List Stmt):Type:=Option (PLift (∀{k:Nat}{W:WD}{C:Cw}{X:Cx},SX k W m C X->sq C X sts (ut W b)))
noncomputable def n9(m:MC)(i:Nat)(x:Str)(f g:E)(k e:Expr):Bool:=m.N[i]?==some x&&m.vis x&&jJ e&&mE m f k&&mE m g e
def vD{i f g x p1 k d e a:_}(h:n9 m i x f g k e=true){W:WD}(S:SX j W m C X):sq C X [.Assign [.Subscript (.Name x p1) k d] e a] (λY=>dW Y i (br W f Y) (br W g Y)):=by unfold n9 at h;simp only[cw,dc]at h;obtain⟨⟨⟨⟨B,A⟩,r⟩,o⟩,l⟩:=h;exists v1,v2,v3,S.vis A;exact S9 i S.un (iU (by rw[S.hN];exact B) v1 v2 v3) (sE f S o) (sE g S l) (l9 r)
noncomputable def Va{i f g x p1 k d e a:_}:Ce m [.nput i f g] [.Assign [.Subscript (.Name x p1) k d] e a]:=if h:n9 m i x f g k e=true then some #[λS=>vD h S]else none
noncomputable def Vb{c i f g a f2 G ce x p1 k A e r x2 q1 K l E d o:_}:Ce m [.ite c [.nput i f g] [.nput a f2 G]] [.If ce [.Assign [.Subscript (.Name x p1) k A] e r] [.Assign [.Subscript (.Name x2 q1) K l] E d] o] :=
 if h:(mT m c ce&&(n9 m i x f g k e&&n9 m a x2 f2 G K E))=true then some #[λS=>by
  simp only[cw]at h;exact Ta (sT c S h.1) (vD h.2.1 S) (vD h.2.2 S)]else none
noncomputable def Ei(m:MC):(b:List D3.S)->(sts:List Stmt)->Ce m b sts
 |[.nput i f g],sts=>match sts with|[.Assign [.Subscript (.Name x p1) k d] e a]=>Va|_=>none
 |[.ite c [.nput i f g] [.nput B f2 G]],sts=>match sts with|[.If ce [.Assign [.Subscript (.Name x p1) k d] e a] [.Assign [.Subscript (.Name l q1) K r] E o] A]=>Vb|_=>none
 |_,_=>none
noncomputable def vE{b sts:_}(r:Ce m b sts):mo m [.mput b] sts:=if h:r.isSome=true then some #[λ{k}{W}{C}{X} S=>U9 λY=>rfl]else none
noncomputable def Vc{f fs st sts:_}(r:k3 m f st)(a:mo m fs sts):mo m (f::fs) (st::sts):=if h:(r.isSome&&a.isSome)=true then some #[λ{k}{W}{C}{X} S=>by
 rw[cw]at h;have:cz W (f::fs)=λY=>(ff W f Y).thn (cz W fs):=by funext Y;simp only[cz]
 rw[this];exact Pf (got h.1 S) (got h.2 S)]else none
set_option maxHeartbeats 4000000 in
mutual
noncomputable def Vd:(m:MC)->(f:D3.S)->(st:Stmt)->k3 m f st
 |m,.never,st=>some #[λ_=>UQ]|_,.frzV _,_|_,.nfrz _,_|_,.mput _,_=>none|m,.cmu i f n es,st=>match st with|.Expr (.Call (.Name F p2) (.Name x p1::U) [] cp) l=>U4|_=>none
 |m,.ret f,st=>match st with|.Return (some e) p1=>US|_=>none
 |m,.retV i,st=>match st with|.Return (some (.Name x p1)) p2=>UT|_=>none
 |m,.set i f,st=>match st with|.Assign [.Name x p1] e d=>UU|_=>none
 |m,.nput i f g,st=>match st with|.Assign [.Subscript (.Name x p1) k d] e o=>UV|_=>none
 |m,.setC i fz f,st=>match st with|.Assign [.Name x r] (.ListComp elt gens scope cp) l=>UW|_=>none
 |m,.ite f a b,st=>match st with|.If c x y d=>UX (sr m a x) (sr m b y)|_=>none
 |m,.for f t b,st=>match st with|.For tg e body [] d=>UY (sr m b body)|_=>none
 |m,.asg t f,st=>match st with|.Assign [tg] e p2=>UZ|_=>none
 |m,.expr f,st=>match st with|.Expr e p1=>U0|_=>none
 |m,.lput i f g,st=>match st with|.Assign [.Subscript (.Name x p1) k d] e o=>U5|_=>none
 |m,.app i f,st=>match st with|.Expr (.Call (.Attribute (.Name x p1) a ap) [e] [] cp) l=>U3|_=>none
noncomputable def sr:(m:MC)->(f:List D3.S)->(sts:List Stmt)->mo m f sts
 |m,[],sts=>match sts with|[]=>some #[λS=>U6 S]|_=>none
 |m,.frzV i::fs,sts=>U7 (sr m fs sts)|m,.nfrz i::fs,sts=>U8 (sr m fs sts)|m,[.mput b],sts=>vE (Ei m b sts)|m,f::fs,sts=>match sts with|st::sts=>Vc (Vd m f st) (sr m fs sts)|_=>none
end
noncomputable def mB(m:MC)(f:List D3.S)(sts:List Stmt):Bool:=(sr m f sts).isSome
def sB{W:WD}(S:SB k W m C X)(f:List D3.S)(h:mB m f sts=true):kf C X sts (cz W f):=got h S
abbrev IB:=Unit
structure CD where
 aC:List Str
 rn:Str
 ls:List Str
 b:List D3.S
structure FD where
 ps:List Str
 N:List Str
 b:List D3.S
 ins:List (Str×CD)
structure ID where
 c:Str
 ps:List Str
 N:List Str
 ib:IB
structure TB where
 T:List (Str×FD)
 I:List (Str×ID)
 cl:List CI
 xt:List ((Str×Str)×Bool)
 xi:List ((Str×Str)×Bool)
noncomputable def vF(W:WD)(i:ID):List D->Res:=λ_=>.stuck
noncomputable def oA(t:TB)(W:WD)(f:Str):List D->Res:=match t.T.lookup f with|some d=>sk d.ps.length d.N.length (cz W d.b)|none=>λ_=>.stuck
noncomputable def Ib(t:TB)(W:WD)(x:Str):D->KD->Option KD:=match t.T.lookup x with|some d=>λ_ _=>none|none=>λ_ _=>none
noncomputable def zp(t:TB)(W:WD)(x:Str):D->List D->Option D:=match t.T.lookup x with
 |some d=>(match d.b with|[.mput b]=>jF d.ps.length d.N.length (ut W b)|_=>λ_ _=>none)
 |none=>λ_ _=>none
noncomputable def Ej(t:TB)(W:WD)(f n:Str):List (Str×D)->D->Res:=λ_ _=>.stuck
noncomputable def Cf(t:TB)(f:Str):Option fD:=none
noncomputable def zq(t:TB):WD:=#[λ_ _=>.stuck,λ_ _=>.stuck,λ_=>none,t.cl,t.xt,t.xi,false,λ_ _ _=>none,λ_ _ _ _=>.stuck,Cf t,λ_ _ _=>none]
noncomputable def WT(t:TB):Nat->WD|0=>zq t|1=>#[λf=>oA t (zq t) f,λ_ _=>.stuck,λ_=>none,t.cl,t.xt,t.xi,true,Ib t (zq t),Ej t (zq t),Cf t,zp t (zq t)]|k+2=>#[λf=>oA t (WT t (k+1)) f,(WT t (k+1)).Φ,λkey=>match t.I.lookup key with|some i=>some (vF (WT t k) i)|none=>none,t.cl,t.xt,t.xi,true,Ib t (WT t (k+1)),Ej t (WT t (k+1)),Cf t,zp t (WT t (k+1))]
def rA(t:TB):∀k,(WT t k).cl=t.cl|0|1|k+2=>rfl
def Ie(t:TB):∀k,(WT t k).xt=t.xt|0|1|k+2=>rfl
def Ig(t:TB):∀k,(WT t k).xi=t.xi|0|1|k+2=>rfl
def zr(t:TB):∀k,(WT t k).Wy=Cf t|0|1|k+2=>rfl
def zt(t:TB):∀k,(WT t (k+1)).Cl=Ej t (WT t k)|0|k+1=>rfl
def Ih(t:TB):∀k x,(WT t (k+1)).Mu x=zp t (WT t k) x|0,f|k+1,f=>rfl
def zu(t:TB):∀k f,(WT t (k+1)).Φ f=oA t (WT t k) f|0,f|k+1,f=>rfl
noncomputable def zv(m:MC)(ps:List Str)(b:List D3.S)(st:Stmt):Bool:=mB m b (gR st)
noncomputable def jK(g:MG)(key:Str)(st:Stmt)(d:FD):Bool:=vC d.N d.ps (dG st)&&(zv #[d.N,dG st,g,true,true,true,key] d.ps d.b st&&d.ins.isEmpty)
noncomputable def zw(g:MG)(st:Stmt)(d:ID):Bool:=false
noncomputable def Ii(K:Fg)(g:MG)(fa:Str->Addr)(key:Str)(d:FD):Prop :=
 ∃name st fd,ol K name key st (fa key) fd/\cQ K fd d.ps []/\jK g key st d=true
noncomputable def oB(K:Fg)(g:MG)(fa:Str->Addr):List (Str×FD)->Prop|[]=>True|(x,d)::r=>Ii K g fa x d/\oB K g fa r
theorem oB.at{K:Fg}{g:MG}:∀{T:List (Str×FD)}{x:Str}{d:FD},oB K g fa T->T.lookup x=some d->Ii K g fa x d|[],_,_,_,e=>by cases e|(y,D)::r,x,d,h,e=>by rw[iq]at e;split at e;{rename_i a;cases e;rw[dc]at a;subst a;exact h.1};exact h.2.at e
noncomputable def Ij(K:Fg)(mg:fg)(g:MG)(key:Str)(d:ID):Prop :=
 ∃name st C f fd,W.nsIn K mainGlobals d.c=some (some (.ref C))/\mg d.c=some (.ref C)/\Mk K C f/\ol K name key st f fd/\cQ K fd d.ps []/\zw g st d=true
noncomputable def oC(K:Fg)(mg:fg)(g:MG):List (Str×ID)->Prop|[]=>True|(x,d)::r=>Ij K mg g x d/\oC K mg g r
theorem oC.at{K:Fg}{g:MG}:∀{T:List (Str×ID)}{x:Str}{d:ID},oC K mg g T->T.lookup x=some d->Ij K mg g x d|[],_,_,_,e=>by cases e|(y,D)::r,x,d,h,e=>by rw[iq]at e;split at e;{rename_i a;cases e;rw[dc]at a;subst a;exact h.1};exact h.2.at e
noncomputable def zx(w:dh)(K:Fg)(mg:fg)(fa:Str->Addr)(x:Str):GV->Prop|.con (.s y)=>∃t,mg x=some (.str y t)|.con (.i n)=>∃t,mg x=some (.int n t)|.con (.t tb)=>i8 w K mg x tb|.no=>mg x=none|.fn _=>mg x=some (.ref (fa x))|.cls=>True
noncomputable def oD(w:dh)(K:Fg)(mg:fg)(fa:Str->Addr):List (Str×GV)->Prop|[]=>True|(x,v)::r=>zx w K mg fa x v/\oD w K mg fa r
theorem oD.at{K:Fg}:∀{G:List (Str×GV)}{x:Str}{v:GV},oD w K mg fa G->G.lookup x=some v->zx w K mg fa x v|[],_,_,_,e=>by cases e|(y,V)::r,x,v,h,e=>by rw[iq]at e;split at e;{rename_i a;cases e;rw[dc]at a;subst a;exact h.1};exact h.2.at e
noncomputable def Cg(G:List (Str×GV))(T:List (Str×FD)):Bool:=G.all λ(x,v)=>match v with|.fn n=>(match T.lookup x with|some d=>d.ps.length==n|none=>false)|_=>true
theorem rB{T:List (Str×FD)}:∀{G:List (Str×GV)}{x:Str}{n:Nat},Cg G T=true->G.lookup x=some (.fn n)->∃d,T.lookup x=some d/\d.ps.length=n|[],_,_,_,e=>by cases e|(y,V)::r,x,n,h,e=>by unfold Cg at h;rw[jq,cw]at h;rw[iq]at e;split at e;{rename_i f;cases e;rw[dc]at f;subst f;have a:=h.1;dsimp only at a;cases q:T.lookup x with|none=>rw[q]at a;cases a|some d=>rw[q]at a;exact#[d,rfl,by simpa using a]};exact rB (G:=r) h.2 e
noncomputable def zy(cl:List CI)(T:List (Str×FD)):Bool:=cl.all λi=>i.meths.all λ(_,key,n)=>match T.lookup key with|some d=>d.ps.length==n|none=>false
noncomputable def Ik(mki:List (Str×Str×Nat))(I:List (Str×ID)):Bool:=mki.all λ(c,key,n)=>match I.lookup key with|some d=>d.c==c&&d.ps.length==n+1|none=>false
noncomputable def mD(K:Fg)(fa:Str->Addr)(C:Addr):List (Str×Str×Nat)->Prop|[]=>True|(m,key,_)::r=>m7 K C m (fa key)/\mD K fa C r
noncomputable def mH(K:Fg)(C:Addr):List Str->Prop|[]=>True|f::r=>tF K C f/\mH K C r
noncomputable def oE(K:Fg)(fa:Str->Addr):List CI->Prop|[]=>True|i::r=>(∃C,W.nsIn K mainGlobals i.name=some (some (.ref C))/\ng K C/\mD K fa C i.meths/\mH K C i.flds)/\oE K fa r
theorem oE.at{K:Fg}:∀{cl:List CI}{i:CI},oE K fa cl->i∈cl->∃C,W.nsIn K mainGlobals i.name=some (some (.ref C))/\ng K C/\mD K fa C i.meths/\mH K C i.flds|[],_,_,h=>by cases h|j::r,i,h,a=>by rcases dq.mp a with rfl|a;{exact h.1};exact h.2.at a
theorem mH.at{K:Fg}{C:Addr}:∀{l:List Str}{f:Str},mH K C l->f∈l->tF K C f|[],_,_,h=>by cases h|j::r,i,h,a=>by rcases dq.mp a with rfl|a;{exact h.1};exact h.2.at a
theorem mD.at{K:Fg}{C:Addr}:∀{l:List (Str×Str×Nat)}{m key:Str}{n:Nat},mD K fa C l->l.lookup m=some (key,n)->m7 K C m (fa key)|[],_,_,_,_,e=>by cases e|(m',a,N)::r,m,key,n,h,e=>by rw[iq]at e;split at e;{rename_i d;cases e;rw[dc]at d;subst d;exact h.1};exact h.2.at e
noncomputable def vG(g:MG)(T:List (Str×FD)):Bool:=g.sn.isEmpty
def Il{g:MG}{T:List (Str×FD)}(h:vG g T=true)(a:x∈g.sn):∃d:FD,T.lookup x=some d/\True/\True/\True/\g.G.lookup x=some (.fn 2):=by rw[uc.mp h]at a;cases a
def Ve{b:List D3.S}(h:mB m [.mput b] sts=true):(Ei m b sts).isSome=true:=by have h:(vE (Ei m b sts)).isSome=true:=h;unfold vE at h;split at h;{assumption};cases h
noncomputable def vH(g:MG)(T:List (Str×FD)):Bool:=T.all λx=>x.2.ins.isEmpty||(match g.G.lookup x.1 with|some (.fn _)=>true|_=>false)
def Vf{g:MG}{T:List (Str×FD)}(h:vH g T=true){f:Str}{d:FD}(e:T.lookup f=some d)(hd:d.ins.isEmpty=false):∃n,g.G.lookup f=some (.fn n):=by have h:=fq.mp h _ (nu e);dsimp only at h;rw[hd,Bool.false_or]at h;split at h;{rename_i n q;exact#[n,q]};cases h
noncomputable def vI(g:MG)(T:List (Str×FD)):Bool:=g.cl.isEmpty
def Vg{g:MG}{T:List (Str×FD)}(h:vI g T=true){f a b q:Str}(l:(f,a,b,q)∈g.cl):∃d:FD,T.lookup f=some d/\True/\True/\True/\True/\g.G.lookup f=some (.fn 2):=by rw[uc.mp h]at l;cases l
structure GF(w:dh)(K:Fg)(mg:fg)(g:MG)(t:TB)(fa:Str->Addr):Prop where
 con:oD w K mg fa g.G
 gok:Cg g.G t.T=true
 all:oB K g fa t.T
 alli:oC K mg g t.I
 mk0:∀c,c∈g.mk0->tW K mg c
 mkok:Ik g.mki t.I=true
 iso:∀c,c∈g.iso->F8 K mg t.cl c
 cls:oE K fa t.cl
 mtok:zy t.cl t.T=true
 xtok:t5 K mg (λc x=>t.xt.lookup (c,x))
 xiok:t7 K mg (λc x=>t.xi.lookup (c,x))
 xcok:∀c,c∈g.xcs->∃Cc,mg c=some (.ref Cc)/\Go K Cc
 xnok:∀n,n∈g.xns->∃cv,qF mg n cv
 snok:vG g t.T=true
 clok:vI g t.T=true
 insok:vH g t.T=true
 insns:∀f d,t.T.lookup f=some d->d.ins.isEmpty=false->W.nsIn K mainGlobals f=some (some (.ref (fa f)))
 clns:∀f a b h,(f,a,b,h)∈g.cl->W.nsIn K mainGlobals f=some (some (.ref (fa f)))
def Im{K:Fg}{vs:List V}{Q:VK}{E:XK}(hz:∀ds,Φ ds=.stuck)(h:ll K mg n Φ vs H Q E):False:=by exists _,F,ds,_,_,h,h;rw[hz]at h;exact h
section
variable{K:Fg}{g:MG}{t:TB}
structure fU(P:fc)(w:dh)(K:Fg)(mg:fg)(base:Heap)(g:MG)(t:TB)(fa:Str->Addr)(k:Nat):Prop where
 fn:∀key d,t.T.lookup key=some d->∃fd,bO P w K mg base (fx P w) k (fa key) fd d.ps (ll K mg d.ps.length ((WT t k).Φ key))/\cQ K fd d.ps []/\W.keepIn K (.ref (fa key))=true
 fp:(WT t k).dp=true->∃j,j+1=k/\∀key d,t.T.lookup key=some d->∃fd,bO P w K mg base (fx P w) j (fa key) fd d.ps (ll K mg d.ps.length ((WT t k).Ψ key))/\cQ K fd d.ps []/\W.keepIn K (.ref (fa key))=true
 ini:∀key d Φ,t.I.lookup key=some d->(WT t k).I key=some Φ->∃j,j+1<=k/\D1 P w K mg base (fx P w) j d.c (d.ps.length-1) Φ
 mu:∀x,x∈g.sn->∃fd ps,bO P w K mg base (fx P w) k (fa x) fd ps (qX K ((WT t k).Ms x))/\cQ K fd ps []/\W.keepIn K (.ref (fa x))=true
 cv:∀f n,qY P w K mg base k f n ((WT t k).Cl f n)
 ms:∀key d,t.T.lookup key=some d->∃fd,bO P w K mg base (fx P w) k (fa key) fd d.ps (n4 K d.ps.length ((WT t k).Mu key))/\cQ K fd d.ps []/\W.keepIn K (.ref (fa key))=true
def Vh(f:GF w K mg g t fa)(A:fU P w K mg base g t fa k){N:List Str}{fb E rb:Bool}(hP:X.prog=P)(hw:X.w=w)(hK:X.K=K)(G:X.mg=mg)(o:X.base=base)(hN:X.N=N)(hs:X.env.scope=sc)(cm:E=true->X.calm=true)(rm:E=true->bG k X.A)(un:X.A.units+64<cLine)(J:fb=true->∀x,X.fn x=true){q:Str}(cd:q="" \/ (W.codeIn X.K X.env.code q=true/\X.env.qual=q++".<locals>."))(xo:E=true->qg (fx X.prog X.w) (C.at X) X)(sw:(WT t k).dp=true->∀f I,(WT t k).Wy f=some I->Ee P w K mg base (fx P w) k f I):SX k (WT t k) #[N,sc,g,fb,E,rb,q] C X:=by
 subst hP hw hK G o;refine#[hN,hs,cm,rm,un,xo,?_,?_,f.xcok,f.xnok,λy c l=>?_,λy l=>f.con.at l,λc L=>f.mk0 c L,λc key n hm Φ e=>?_,λc L=>by rw[rA];exact f.iso c L,λi f' B hf=>?_,λc m key n e=>?_,λy n l=>?_,J,λhd=>?_,λy hy=>?_,λhd f1 a1 b1 g1 Z=>?_,A.cv,sw,(λy n l=>by
  exists d,e,rfl,rB f.gok l;exists fd,F,o,hk,A.ms y d e;exact#[fa y,fd,d.ps,F,f.con.at l,hk,o]),cd]
 . unfold WD.xf;rw[Ie];exact f.xtok
 . unfold WD.xg;rw[Ig];exact f.xiok
 . have:=f.con.at l;cases c <;> exact this
 . have r:=fq.mp f.mkok (c,key,n) hm;dsimp only at r;cases q:t.I.lookup key with|none=>rw[q]at r;cases r|some d=>rw[q]at r;simp only[cw,dc]at r;exists j,D,M,A.ini key d Φ q e;rw[r.1,r.2]at M;exact#[j,D,M]
 . rw[rA]at B;exists V,r,S,_,h4,f.cls.at B;exact#[V,r,S,h4.at hf]
 . rw[rA]at e;unfold CI.meth at e;split at e;{rename_i i ei;have B:=Dt ei;(have hn:i.name=c:=by simpa using List.find?_some ei);exists V,r,S,h3,_,f.cls.at B;have a:=fq.mp (fq.mp f.mtok i B) (m,key,n) (nu e);dsimp only at a;cases q:t.T.lookup key with|none=>rw[q]at a;cases a|some d=>rw[q]at a;rw[dc]at a;exists fd,F,o,_,A.fn key d q;rw[a]at F;exact#[V,fa key,fd,d.ps,by rw[<- hn];exact r,S,h3.at e,F,o]};cases e
 . exists d,e,rfl,rB f.gok l;exists fd,F,o,hk,A.fn y d e;exact#[fa y,fd,d.ps,F,f.con.at l,hk,o]
 . exists j,D,fp,A.fp hd;refine#[j,D,λy n l=>?_];exists d,e,rfl,rB f.gok l;exists fd,F,o,hk,fp y d e;exact#[fa y,fd,d.ps,F,f.con.at l,hk,o]
 . exists d,e,_,_,_,l,Il f.snok hy;exists fd,ps,F,o,hk,A.mu y hy;exact#[fa y,fd,ps,F,f.con.at l,hk,o]
 . exists j,D,_,A.fp hd;rw[uc.mp f.clok]at Z;cases Z
def Ek{f:Addr}{ps:List Str}:bO P w K mg base (fx P w) k f fd ps (qX K λ_ _=>none) :=
 #[λvs H Q E h=>(by exists _,_,_,_,_,_,_,_,_,_,_,_,_,_,e,_,h;cases e),λA outer s H args us vs Q E _ _ _ _ h=>(by exists _,_,_,_,_,_,_,_,_,_,_,_,_,_,e,_,h;cases e)]
def zz (f : GF w K mg g t fa) : fU P w K mg base g t fa 0 := #[fun key d e => by
      exists name,st,fd,F,a,_,f.all.at e;exact#[fd,#[λvs H Q E h=>(Im (λ_=>rfl) h).elim,λA outer s H args us vs Q E _ _ _ _ h=>(Im (λ_=>rfl) h).elim],a,F.kp],(λz=>by cases z),(λkey d Φ _ e=>by cases e),(λx l=>by
      exists d,e,_,Il f.snok l;exists name,st,fd,F,a,_,f.all.at e;exact#[fd,d.ps,Ek,a,F.kp]),(λ_ _=>HG),λkey d e=>by
      exists name,st,fd,F,a,_,f.all.at e;exact#[fd,u8,a,F.kp]]
def Vi(f:GF w K mg g t fa)(A:fU P w K mg base g t fa k)(hd:(WT t k).dp=true)(y:Str)(I:fD)(h:(WT t k).Wy y=some I):Ee P w K mg base (fx P w) k y I:=by rw[zr]at h;exact nomatch (show(none:Option fD)=some I from h)
def Io(f:GF w K mg g t fa)(A:fU P w K mg base g t fa k){N:List Str}{F r:Bool}(B:X.prog=P)(l:X.w=w)(D:X.K=K)(a:X.mg=mg)(o:X.base=base)(hN:X.N=N)(hs:X.env.scope=sc)(cm:X.calm=true)(rm:bG k X.A)(d:F=true->∀x,X.fn x=true){q:Str}(cd:q="" \/ (W.codeIn X.K X.env.code q=true/\X.env.qual=q++".<locals>."))(xo:qg (fx X.prog X.w) (C.at X) X):SX k (WT t k) #[N,sc,g,F,true,r,q] C X:=Vh f A B l D a o hN hs (λ_=>cm) (λ_=>rm) rm.units d cd (λ_=>xo) λhd y I h=>Vi f A hd y I h
def Ip(f:GF w K mg g t fa)(A:fU P w K mg base g t fa k)(y n:Str):qY P w K mg base (k+1) y n ((WT t (k+1)).Cl y n):=by rw[zt];exact HG
def vJ(f:GF w K mg g t fa)(A:fU P w K mg base g t fa k){key:Str}{d:FD}{name:Str}{a:Addr}(F:ol K name key st a fd)(e:t.T.lookup key=some d)(ok:jK g key st d=true):bO P w K mg base (fx P w) (k+1) a fd d.ps (ll K mg d.ps.length ((WT t (k+1)).Φ key)):=by
 unfold jK at ok;rw[cw,cw]at ok;have sc:=HY ok.1;have:(WT t (k+1)).Φ key=sk d.ps.length d.N.length (cz (WT t k) d.b):=by rw[zu];unfold oA;rw[e]
 rw[this];have S:∀{C:Cw}{cdv:bb},W.codeIn K cdv key=true->∀{r:dj}{outer:List Env}{s:cc}{H:Hp}{E:XK},C.EE=lO mg E->bG k (r.deeper (envOfC key (dG st) s.heap.objs.size a cdv))->SB k (WT t k) #[d.N,dG st,g,true,true,true,key] C (gQ (fx P w) P w K mg base d.N key (dG st) a cdv r outer s H E):=λ{C cdv} l {r outer s H E} D B =>
  #[Io f A rfl rfl rfl rfl rfl rfl rfl rfl B (λ_ _=>rfl) (.inr #[l,rfl]) (Gp (K:=K) (H:=H) (outer:=outer) D),sc.nd,PassesOwn.leaving]
 have o:=ok.2.1;unfold zv at o;exact QK (k:=k) F sc λC cdv l r outer s H E D B=>sB (S l D B) d.b o
def Iq(f:GF w K mg g t fa)(A:fU P w K mg base g t fa k)(a:x∈g.sn):∃fd ps,bO P w K mg base (fx P w) (k+1) (fa x) fd ps (qX K ((WT t (k+1)).Ms x))/\cQ K fd ps []/\W.keepIn K (.ref (fa x))=true:=by rw[uc.mp f.snok]at a;cases a
theorem Ir(f:GF w K mg g t fa)(A:fU P w K mg base g t fa k){d:FD}(e:t.T.lookup x=some d):∃fd,bO P w K mg base (fx P w) (k+1) (fa x) fd d.ps (n4 K d.ps.length ((WT t (k+1)).Mu x))/\cQ K fd d.ps []/\PySem.W.keepIn K (.ref (fa x))=true:=by
 exists name,st,fd,F,o,ok,f.all.at e;rw[Ih];unfold zp;rw[e];dsimp only;split
 . rename_i b eb;unfold jK at ok;rw[cw,cw,eb]at ok;have sc:=HY ok.1;have r:=Ve ok.2.1;refine#[fd,?_,o,F.kp];by_cases E:0<d.N.length
   . exact Tc F sc E λC cdv a J outer s H G D B=>got r (X:=gQ (fx P w) P w K mg base d.N x (dG st) (fa x) cdv J outer s H G) (Io f A rfl rfl rfl rfl rfl rfl rfl rfl B (λ_ _=>rfl) (.inr #[a,rfl]) (Gp (K:=K) (H:=H) (outer:=outer) D))
   . have:∀{W:WD},jF d.ps.length d.N.length (ut W b)=λ_ _=>none:=λ{W}=>by
       funext L ds;unfold jF;have:d.N=[]:=List.length_eq_zero_iff.mp (by lia)
       split
       . (have hp:d.ps=[]:=by have:=sc.pre;rw[‹d.N=[]›]at this;simpa using this.symm);rename_i l;rw[hp]at l;cases l
       . rfl
     rw[this];exact u8
 . exact#[fd,u8,o,F.kp]
def Vj(f:GF w K mg g t fa)(A:fU P w K mg base g t fa k){key:Str}{d:ID}(e:t.I.lookup key=some d):D1 P w K mg base (fx P w) (k+1) d.c (d.ps.length-1) (vF (WT t k) d):=by exists name,st,r,a,fd,ns,l,M,F,o,ok,f.alli.at e;cases ok
theorem Iu(f:GF w K mg g t fa):∀k,fU P w K mg base g t fa k/\fU P w K mg base g t fa (k+1)|0=>by have A:fU P w K mg base g t fa 0:=zz f;refine#[A,λkey d e=>?_,λ_=>#[0,rfl,A.fn],(λkey d Φ _ e=>by cases e),(λx l=>Iq f A l),Ip f A,λkey d e=>Ir f A e];exists name,st,fd,F,o,ok,f.all.at e;exact#[fd,vJ f A F e ok,o,F.kp]|k+1=>by exists A,a,Iu f k;refine#[a,λkey d e=>?_,λ_=>#[k+1,rfl,a.fn],λkey d Φ e E=>?_,(λx l=>Iq f a l),Ip f a,λkey d e=>Ir f a e];{exists name,st,fd,F,o,ok,f.all.at e;exact#[fd,vJ f a F e ok,o,F.kp]};(have E:(match t.I.lookup key with|some i=>some (vF (WT t k) i)|none=>none)=some Φ:=E);rw[e]at E;cases E;exact#[k+1,dm _,Vj f A e]
end
noncomputable def vK(K:Fg)(Φ:List D->Res):Sp:=λvs H Q E=>∃a ns,vs=[.ref a]/\fe K H a (ns.map V.int)/\Φ (pQ ns)=.ok .fz (.bl true)/\∀H',Q (.bl true) H'
def Vk{K:Fg}{f:Addr}{ps:List Str}(h:bO P w K mg base CX k f fd ps (ll K mg 1 Φ)):bO P w K mg base CX k f fd ps (vK K Φ) :=
 h.imp λvs H Q E ⟨a,ns,e,d,hp,q⟩=>by subst e;refine#[rfl,H,pQ ns,aE.refl _,aD.cons ?_ aD.nil,?_];{simp only[aB];exact#[a,_,rfl,d,FR ns]};rw[hp];exact#[by decide,λv F' H' s r _=>by rw[r.bl];exact q H']
def Vl{K:Fg}{g:MG}{t:TB}(f:GF w K mg g t fa)(k:Nat){a:Addr}{d:FD}(F:ol K "law" "law" st a fd)(e:t.T.lookup ("law":Str)=some d)(ok:jK g "law" st d=true)(l:d.ps.length=1):bO P w K mg base (fx P w) (k+1) a fd d.ps (vK K ((WT t (k+1)).Φ ("law":Str))):=by have:=vJ (P:=P) (w:=w) (base:=base) f (Iu f k).1 F e ok;rw[l]at this;exact Vk this
section
variable{W:WD}{a b:E}{es:List E}
@[simp]theorem Iv{i:_}:br W (.var i) Y=cR Y i:=Eq.trans rfl rfl
@[simp]theorem Iw:br W .non Y=.ok .fz .non:=Eq.trans rfl rfl
@[simp]theorem Vm{b:_}:br W (.bl b) Y=.ok .fz (.bl b):=Eq.trans rfl rfl
@[simp]theorem Ix{i:_}:br W (.int i) Y=.ok .fz (.int i):=Eq.trans rfl rfl
@[simp]theorem Iy{x:_}:br W (.str x) Y=.ok .fz (.str x):=Eq.trans rfl rfl
@[simp]theorem Ci{x y:_}:br W (.glob x (.s y)) Y=.ok .fz (.str y):=Eq.trans rfl rfl
@[simp]theorem Cj{x y:_}:br W (.glob x (.i y)) Y=.ok .fz (.int y):=Eq.trans rfl rfl
@[simp]theorem Vn{t:Ty}:br W (.ty t) Y=.ok .fz (.ty t.id):=Eq.trans rfl rfl
@[simp]theorem z4{op}:br W (.bin op a b) Y=cu (aX op) (br W a Y) (br W b Y):=Eq.trans rfl rfl
@[simp]theorem Iz{op}:br W (.cmp op a b) Y=cu (bA op) (br W a Y) (br W b Y):=Eq.trans rfl rfl
@[simp]theorem IA:br W (.andL es) Y=jv W es Y:=Eq.trans rfl rfl
@[simp]theorem z7:br W (.orL es) Y=dX W es Y:=Eq.trans rfl rfl
@[simp]theorem IC:br W (.not a) Y=iZ (br W a Y):=Eq.trans rfl rfl
@[simp]theorem IE:br W (.neg a) Y=pI (br W a Y):=Eq.trans rfl rfl
@[simp]theorem IF:br W (.tru a) Y=iY (br W a Y):=Eq.trans rfl rfl
@[simp]theorem IG:br W (.frz a) Y=aM (br W a Y):=Eq.trans rfl rfl
@[simp]theorem Vo:br W (.ix a b) Y=cu fm (br W a Y) (br W b Y):=Eq.trans rfl rfl
@[simp]theorem Ck{l h:_}:br W (.slice a l h) Y=ot (br W a Y) (iu W l) (iu W h) Y:=Eq.trans rfl rfl
@[simp]theorem IH:br W (.tup es) Y=fL (bU W es Y):=Eq.trans rfl rfl
@[simp]theorem II:br W (.lst es) Y=jZ (bU W es Y):=Eq.trans rfl rfl
@[simp]theorem El{f n:_}:br W (.call f n es) Y=aW n (W.Φ f) (bU W es Y):=Eq.trans rfl rfl
@[simp]theorem Cm{f:Bn}:br W (.bcall f es) Y=dP f.f (bU W es Y):=Eq.trans rfl rfl
@[simp]theorem Cn:br W (.items a) Y=gW (aM (br W a Y)):=Eq.trans rfl rfl
@[simp]theorem Em:br W (.rng1 a) Y=gD (aU (br W a Y) (.ok [])):=Eq.trans rfl rfl
@[simp]theorem Co:br W (.enum1 a) Y=qE (aU (aM (br W a Y)) (.ok [])):=Eq.trans rfl rfl
@[simp]theorem Eo:br W .nnew Y=.ok .fr (.dtn []):=Eq.trans rfl rfl
@[simp]theorem IJ:br W (.nix a b) Y=cu eI (br W a Y) (br W b Y):=Eq.trans rfl rfl
@[simp]theorem IK{neg:_}:br W (.nin neg a b) Y=cu (dU neg) (br W a Y) (br W b Y):=Eq.trans rfl rfl
@[simp]theorem IL{k d:E}:br W (.nget a k d) Y=kC (br W a Y) (br W k Y) (br W d Y):=Eq.trans rfl rfl
@[simp]theorem Cp:br W (.nkeys a) Y=qR (br W a Y):=Eq.trans rfl rfl
@[simp]theorem Cq:br W (.kkeys a) Y=lZ (br W a Y):=Eq.trans rfl rfl
@[simp]theorem Ep:br W (.srtw a) Y=dP eJ (aU (br W a Y) (.ok [])):=Eq.trans rfl rfl
@[simp]theorem z9:br W (.ndp a) Y=jH (br W a Y):=Eq.trans rfl rfl
@[simp]theorem IM:br W (.us4 a) Y=fQ (br W a Y):=Eq.trans rfl rfl
@[simp]theorem Er:br W (.deqC a b) Y=cu qk (br W a Y) (br W b Y):=Eq.trans rfl rfl
@[simp]theorem Vp{it aC t n:_}:br W (.dcomp a b it aC t n) Y=nZ (br W it Y) Y aC n (aO t) (λY=>br W a Y) (λY=>br W b Y):=Eq.trans rfl rfl
@[simp]theorem Vq{B:E}{ts:List E}{aC:_}:br W (.comp2 a b B ts aC) Y=kA (br W b Y) Y aC (λY=>fu W ts Y) (λY=>br W B Y) (λY=>br W a Y):=Eq.trans rfl rfl
@[simp]theorem Es{x tb:_}:br W (.deed x tb a) Y=j9 tb (br W a Y):=Eq.trans rfl rfl
@[simp]theorem Cr{i fs n:_}:br W (.callv i fs n es) Y=qG W.Φ fs n (cR Y i) (bU W es Y):=Eq.trans rfl rfl
@[simp]theorem IN:br W (.dix a b) Y=cu qi (br W a Y) (br W b Y):=Eq.trans rfl rfl
@[simp]theorem Et:br W (.tidx a b) Y=nP (br W a Y) (br W b Y):=Eq.trans rfl rfl
@[simp]theorem IP{neg:_}:br W (.din neg a b) Y=cu (nj neg) (br W a Y) (br W b Y):=Eq.trans rfl rfl
@[simp]theorem iO{ts:List E}{aC t n:_}:br W (.comp a b ts aC t n) Y=cF (br W b Y) Y aC n (aO t) (λY=>fu W ts Y) (λY=>br W a Y):=Eq.trans rfl rfl
@[simp]theorem Vr{ks vs:List E}:br W (.disp ks vs) Y=gX Y ((k2 W ks).zip (k2 W vs)) []:=Eq.trans rfl rfl
@[simp]theorem Eu:k2 W []=[]:=by simp only[k2]
@[simp]theorem Cs:k2 W (a::es)=br W a::k2 W es:=by simp only[k2]
@[simp]theorem IQ{d:D}:aO (.nm i) d Y=some (Y.set i (some (false,d))):=by simp only[aO]
@[simp]theorem IR{ts:List Tg}:aO (.tp ts) (.tup ds) Y=dR ts ds Y:=by simp only[aO]
@[simp]theorem Ev{ts:List Tg}:aO (.tp ts) (.lst ds) Y=dR ts ds Y:=by simp only[aO]
@[simp]theorem Ct:dR [] [] Y=some Y:=by simp[dR]
@[simp]theorem Aa{ts:List Tg}{d:D}:dR (t::ts) (d::ds) Y=(aO t d Y).bind (dR ts ds):=by simp only[dR];cases aO t d Y <;> rfl
@[simp]theorem Cu{t:Ty}:br W (.tcall t es) Y=dP t.f (bU W es Y):=Eq.trans rfl rfl
@[simp]theorem iP{x:_}:br W (.meth a x es) Y=eE W.cl W.Φ x (br W a Y) (bU W es Y):=Eq.trans rfl rfl
@[simp]theorem IS{x:_}:br W (.mk0 x) Y=.ok .fr (.ins x []):=Eq.trans rfl rfl
@[simp]theorem Ew:bU W [] Y=.ok []:=by simp only[bU]
@[simp]theorem Cv:bU W (a::es) Y=aU (br W a Y) (bU W es Y):=by simp only[bU]
@[simp]theorem IT:jv W [a] Y=br W a Y:=by simp only[jv]
@[simp]theorem vL:jv W (a::b::es) Y=eX (br W a Y) (jv W (b::es) Y):=by simp only[jv]
@[simp]theorem Vs:dX W [a] Y=br W a Y:=by simp only[dX]
@[simp]theorem Vt:dX W (a::b::es) Y=om (br W a Y) (dX W (b::es) Y):=by simp only[dX]
@[simp]theorem IU:fu W [] Y=.ok .fz (.bl true):=by simp only[fu]
@[simp]theorem Cy:fu W (a::es) Y=eX (br W a Y) (fu W es Y):=by simp only[fu]
@[simp]theorem Cz:iu W none=none:=by simp only[iu]
@[simp]theorem CA:iu W (some a)=some (br W a):=by simp only[iu]
@[simp]theorem IV:ff W (.ret a) Y=lG (br W a Y) Y:=Eq.trans rfl rfl
@[simp]theorem Ex{i:_}:ff W (.retV i) Y=gU Y i:=Eq.trans rfl rfl
@[simp]theorem vM{i:_}:ff W (.set i a) Y=dA Y i (br W a Y):=Eq.trans rfl rfl
@[simp]theorem IW{x y:List S}:ff W (.ite a x y) Y=oo (br W a Y) Y (cz W x Y) (cz W y Y):=Eq.trans rfl rfl
@[simp]theorem jL{y:List S}:ff W (.for a t y) Y=lJ (br W a Y) Y (aO t) (cz W y):=Eq.trans rfl rfl
@[simp]theorem IX:ff W (.asg t a) Y=pZ t Y (br W a Y):=Eq.trans rfl rfl
@[simp]theorem Vu:ff W (.expr a) Y=(br W a Y).thS Y λ_ _=>.nx Y:=Eq.trans rfl rfl
@[simp]theorem Ey{i k:_}:ff W (.lput i k a) Y=iH Y i (br W k Y) (br W a Y):=Eq.trans rfl rfl
@[simp]theorem vN{i:_}:ff W (.app i a) Y=eZ Y i (br W a Y):=Eq.trans rfl rfl
@[simp]theorem Ez{i:_}:ff W (.frzV i) Y=lP Y i:=Eq.trans rfl rfl
@[simp]theorem EA{i:_}:ff W (.nfrz i) Y=nX Y i:=Eq.trans rfl rfl
@[simp]theorem rC{i:_}:ff W (.nput i a b) Y=dW Y i (br W a Y) (br W b Y):=Eq.trans rfl rfl
@[simp]theorem EB{i:_}:ff W (.setC i false a) Y=dA Y i (br W a Y):=Eq.trans rfl rfl
@[simp]theorem rE{i:_}:ff W (.setC i true a) Y=dA Y i (aM (br W a Y)):=Eq.trans rfl rfl
@[simp]theorem Ab{i f n es:_}:ff W (.cmu i f n es) Y=jE (W.Mu f) i Y n (bU W es Y):=Eq.trans rfl rfl
@[simp]theorem IY:cz W [] Y=.nx Y:=by simp only[cz]
@[simp]theorem kK{s:S}{r:List S}:cz W (s::r) Y=(ff W s Y).thn (cz W r):=by simp only[cz]
end
section
variable{m n:Md}{i j:Int}{d:D}
@[simp]theorem IZ:cu (aX .Add) (.ok m (.int i)) (.ok n (.int j))=.ok .fz (.int (i+j)):=rfl
@[simp]theorem I0:cu (aX .Sub) (.ok m (.int i)) (.ok n (.int j))=.ok .fz (.int (i-j)):=rfl
@[simp]theorem Vv:cu (bA .Lt) (.ok m (.int i)) (.ok n (.int j))=.ok .fz (.bl (decide (i<j))):=rfl
@[simp]theorem Vw:cu (bA .LtE) (.ok m (.int i)) (.ok n (.int j))=.ok .fz (.bl (decide (i<=j))):=rfl
@[simp]theorem Vx:cu (bA .Gt) (.ok m (.int i)) (.ok n (.int j))=.ok .fz (.bl (decide (j<i))):=rfl
@[simp]theorem Vy:cu (bA .GtE) (.ok m (.int i)) (.ok n (.int j))=.ok .fz (.bl (decide (j<=i))):=rfl
@[simp]theorem kL(h:0<j):cu (aX .Mod) (.ok m (.int i)) (.ok n (.int j))=.ok .fz (.int (i % j)):=by show Res.of (if decide (0<j)=true then _ else _)=_;rw[aK (ip h)];rfl
def Ac(h:0<j)(a:bits j=true):cu (aX .FloorDiv) (.ok m (.int i)) (.ok n (.int j))=.ok .fz (.int (i / j)):=by show Res.of (if(decide (0<j)&&bits j)=true then _ else _)=_;rw[aK (by rw[a,ip h];rfl)];rfl
def Vz(h:i.natAbs<10 ^ 2000):bits i=true:=by unfold bits;refine ip ?_;by_cases h0:i.natAbs=0;{rw[h0];decide};refine(Nat.log2_lt h0).mpr (va h ?_);decide +kernel
def Ja{N:Nat}(h:i.natAbs<=N)(hN:N<10 ^ 2000:=by decide +kernel):bits i=true:=Vz (BW h hN)
@[simp]theorem VA(h:0<j)(a:j.natAbs<=1000000000):cu (aX .FloorDiv) (.ok m (.int i)) (.ok n (.int j))=.ok .fz (.int (i / j)):=Ac h (Ja a)
def Jb(h:((bits i&&bits j)||(nh i||nh j))=true):cu (aX .Mult) (.ok m (.int i)) (.ok n (.int j))=.ok .fz (.int (i * j)):=by show Res.of (((if((bits i&&bits j)||(nh i||nh j))=true then _ else _:Option (Md×D)).orElse _).orElse _)=_;rw[aK h];rfl
def vO(f:bits i=true)(a:bits j=true):cu (aX .Mult) (.ok m (.int i)) (.ok n (.int j))=.ok .fz (.int (i * j)):=Jb (by rw[f,a];rfl)
theorem vP(h:i.natAbs<9000000000000000000):cu (aX .Mult) (.ok m (.int i)) (.ok n (.int j))=.ok .fz (.int (i * j)):=Jb (by
 have:nh i=true:=ip (by lia)
 rw[this];simp)
def bI{a:Md->D->Md->D->Option (Md×D)}{x d:D}{k:Md}(h:a m x n y=some (k,d)):cu a (.ok m x) (.ok n y)=.ok k d:=by show Res.of (a m x n y)=_;rw[h];rfl
@[simp]theorem Jc:cu (bA .Eq) (.ok m (.int i)) (.ok n (.int j))=.ok .fz (.bl (i==j)):=bI rfl
@[simp]theorem Jd:cu (bA .NotEq) (.ok m (.int i)) (.ok n (.int j))=.ok .fz (.bl (i != j)):=bI rfl
@[simp]theorem Je{a b:Bool}:cu (bA .Eq) (.ok m (.bl a)) (.ok n (.bl b))=.ok .fz (.bl (a==b)):=bI rfl
@[simp]theorem Jf{a b:Bool}:cu (bA .NotEq) (.ok m (.bl a)) (.ok n (.bl b))=.ok .fz (.bl (a != b)):=bI rfl
@[simp]theorem Jg{a b:Str}:cu (bA .Eq) (.ok m (.str a)) (.ok n (.str b))=.ok .fz (.bl (a==b)):=bI (by rfl)
@[simp]theorem Jh{a b:Str}:cu (bA .NotEq) (.ok m (.str a)) (.ok n (.str b))=.ok .fz (.bl (a != b)):=bI (by rfl)
@[simp]theorem Ji{a b:Str}:cu (bA .In) (.ok m (.str a)) (.ok n (.str b))=.ok .fz (.bl (lD a b)):=bI rfl
@[simp]theorem Ad{a b:Str}:cu (bA .NotIn) (.ok m (.str a)) (.ok n (.str b))=.ok .fz (.bl (!lD a b)):=bI rfl
@[simp]theorem Jj{a b:Str}(h:a.length+b.length<=sizeLine):cu (aX .Add) (.ok m (.str a)) (.ok n (.str b))=.ok .fz (.str (a++b)) :=
 bI (by
  have:fS (λi j=>decide (i.length+j.length<=sizeLine)) (λi j=>D.str (i++j)) m (.str a) n (.str b)=some (Md.fz,D.str (a++b)):=by show(if decide (a.length+b.length<=sizeLine)=true then some (Md.fz,D.str (a++b))else none)=_;rw[aK (ip h)]
  show im (im (fI (λ_ _=>true) λi j=>.int (i+j)) (fS (λi j=>decide (i.length+j.length<=sizeLine)) λi j=>.str (i++j))) pT m (.str a) n (.str b)=_;simp only[im,this];rfl)
@[simp]theorem Jk{d:D}:cu (bA .Is) (.ok m d) (.ok n .non)=.ok .fz (.bl (gE d)):=bI rfl
@[simp]theorem Ae{d:D}:cu (bA .IsNot) (.ok m d) (.ok n .non)=.ok .fz (.bl (!gE d)):=bI rfl
@[simp]theorem vQ{x y:List D}(h:x.length+y.length<=sizeLine):cu (aX .Add) (.ok m (.lst x)) (.ok n (.lst y))=.ok .fr (.lst (x++y)):=bI (by
 show(if x.length+y.length<=sizeLine then some (Md.fr,D.lst (x++y))else none)=_;rw[aK h])
@[simp]theorem vR{x y:List D}(h:x.length+y.length<=sizeLine):cu (aX .Add) (.ok m (.tup x)) (.ok n (.tup y))=.ok .fz (.tup (x++y)):=bI (by
 show(if x.length+y.length<=sizeLine then some (Md.fz,D.tup (x++y))else none)=_;rw[aK h])
@[simp]theorem Jl:gE .non=true:=rfl
@[simp]theorem Jm{i:Int}:gE (.int i)=false:=rfl
@[simp]theorem Jn{i:Bool}:gE (.bl i)=false:=rfl
@[simp]theorem Jo{i:Str}:gE (.str i)=false:=rfl
@[simp]theorem Jp{i:List D}:gE (.tup i)=false:=rfl
@[simp]theorem Jq{i:List D}:gE (.lst i)=false:=rfl
@[simp]theorem EC{y:Res}:eX (.ok m (.bl true)) y=y:=rfl
@[simp]theorem ED{y:Res}:eX (.ok m (.bl false)) y=.ok .fz (.bl false):=rfl
@[simp]theorem Jr{y:Res}:om (.ok m (.bl true)) y=.ok .fz (.bl true):=rfl
@[simp]theorem Js{y:Res}:om (.ok m (.bl false)) y=y:=rfl
@[simp]theorem Jt{a b:Bool}:eX (.ok m (.bl a)) (.ok .fz (.bl b))=.ok .fz (.bl (a&&b)):=by cases a <;> rfl
@[simp]theorem VB{a b:Bool}:om (.ok m (.bl a)) (.ok .fz (.bl b))=.ok .fz (.bl (a||b)):=by cases a <;> rfl
@[simp]theorem Ju{a:Bool}:iZ (.ok m (.bl a))=.ok .fz (.bl (!a)):=rfl
@[simp]theorem Jv{a:Bool}:iY (.ok m (.bl a))=.ok .fz (.bl a):=rfl
@[simp]theorem EF:iY (.ok m (.int i))=.ok .fz (.bl (i != 0)):=rfl
@[simp]theorem Jw:pI (.ok m (.int i))=.ok .fz (.int (-i)):=rfl
@[simp]theorem Af{x y:aI}:oo (.ok m (.bl true)) Y x y=x:=rfl
@[simp]theorem Ag{x y:aI}:oo (.ok m (.bl false)) Y x y=y:=rfl
@[simp]theorem Jx:aM (.ok .fz d)=.ok .fz d:=rfl
@[simp]theorem Jy:aM (.ok .fr d)=.ok .fz d:=rfl
@[simp]theorem Jz:dA Y k (.ok .fz d)=.nx (Y.set k (some (false,d))):=rfl
@[simp]theorem EG:dA Y k (.ok .fr d)=.nx (Y.set k (some (true,d))):=rfl
@[simp]theorem JA:lG (.ok .fz d) Y=.rt .fz d:=rfl
@[simp]theorem EH:lG (.ok .fr d) Y=.rt .fr d:=rfl
@[simp]theorem XZ{r:Rho}:cR (some (false,d)::r) 0=.ok .fz d:=rfl
@[simp]theorem VC{r:Rho}:cR (some (true,d)::r) 0=.ok .bo d:=rfl
@[simp]theorem X0{x:Option (Bool×D)}{r:Rho}{i:Nat}:cR (x::r) (i+1)=cR r i:=rfl
@[simp]theorem X1{x:Option (Bool×D)}{r:Rho}:cR (x::r) 1=cR r 0:=rfl
@[simp]theorem VD{r:Rho}:gU (some (false,d)::r) 0=.rt .fz d:=rfl
@[simp]theorem JB{r:Rho}:gU (some (true,d)::r) 0=.rt .fr d:=rfl
@[simp]theorem VE{x:Option (Bool×D)}{r:Rho}:gU (x::r) 1=gU r 0:=rfl
@[simp]theorem VF{x:Option (Bool×D)}{r:Rho}{i:Nat}:gU (x::r) (i+1)=gU r i:=rfl
@[simp]theorem EI{x y:Option (Bool×D)}{r:Rho}:(x::r).set 0 y=y::r:=rfl
@[simp]theorem CB{f:List (Md×D)->Option (Md×D)}{U:List (Md×D)}:dP f (.ok U)=Res.of (f U):=rfl
@[simp]theorem EJ:Bn.f .len=eO:=rfl
@[simp]theorem EK:Bn.f .isinstance=lF:=rfl
@[simp]theorem Ah:Ty.f .tuple=j5:=rfl
@[simp]theorem CC:Ty.f .list=lN:=rfl
@[simp]theorem JC{i:List D}:j5 [(m,.lst i)]=some (.fz,.tup i):=rfl
@[simp]theorem JE{i:List D}:j5 [(.fz,.tup i)]=some (.fz,.tup i):=rfl
@[simp]theorem JF{i:List D}:lN [(m,.lst i)]=some (.fr,.lst i):=rfl
@[simp]theorem JG{i:List D}:lN [(m,.tup i)]=some (.fr,.lst i):=rfl
@[simp]theorem JH:eO [(m,.str z)]=some (.fz,.int z.length):=rfl
@[simp]theorem JI{z:List D}:eO [(m,.lst z)]=some (.fz,.int z.length):=rfl
@[simp]theorem JJ{z:List D}:eO [(m,.tup z)]=some (.fz,.int z.length):=rfl
@[simp]theorem JK{z:List D}:gW (.ok m (.lst z))=.ok .fz (.lst z):=rfl
@[simp]theorem JL{z:List D}:gW (.ok m (.tup z))=.ok .fz (.lst z):=rfl
end
@[simp]theorem JM{t:TB}:(WT t k).xf=λc x=>t.xt.lookup (c,x):=by unfold WD.xf;rw[Ie]
@[simp]theorem JN{t:TB}:(WT t k).xg=λc x=>t.xi.lookup (c,x):=by unfold WD.xg;rw[Ig]
section
variable{c:Str}
@[simp]theorem JO:aM (.exc c)=.exc c:=rfl
@[simp]theorem EL:dA Y k (.exc c)=.exc c Y:=rfl
@[simp]theorem EM:lG (.exc c) Y=.exc c Y:=rfl
end
def VG{N:Nat}{g:Rho->aI}{m:Md}{d:D}(a:ds.length=n)(h:g (eY N ds)=.rt m d):sk n N g ds=.ok m d:=by unfold sk;rw[aK a,h];rfl
def mJ{U:List (Md×D)}{d:D}(a:ds.length=n)(f:cY U=some ds)(h:Φ ds=.ok .fz d):aW n Φ (.ok U)=.ok .fz d:=by(show(match cY U with|some ds=>if ds.length=n then(match Φ ds with|.ok .bo _=>Res.stuck|r=>r)else .stuck|none=>.stuck)=_);rw[f];show(if ds.length=n then _ else _)=_;rw[aK a,h]
@[simp]theorem fV{a d:D}(h:Φ [a]=.ok .fz d):aW 1 Φ (.ok [(.fz,a)])=.ok .fz d:=mJ (ds:=[a]) rfl rfl h
@[simp]theorem eL{a b d:D}(h:Φ [a,b]=.ok .fz d):aW 2 Φ (.ok [(.fz,a),(.fz,b)])=.ok .fz d:=mJ (ds:=[a,b]) rfl rfl h
@[simp]theorem fW{a b c d:D}(h:Φ [a,b,c]=.ok .fz d):aW 3 Φ (.ok [(.fz,a),(.fz,b),(.fz,c)])=.ok .fz d:=mJ (ds:=[a,b,c]) rfl rfl h
@[simp]theorem EN{Φ:Str->List D->Res}{c m key:Str}{fs:List (Str×D)}{as:bF}(h:CI.meth cl c m=some (key,n))(a:fs.lookup m=none):eE cl Φ m (.ok .fz (.ins c fs)) as=aW n (Φ key) (aU (.ok .fz (.ins c fs)) as):=by(show(match CI.meth cl c m with|some (key,n)=>if fs.lookup m=none then aW n (Φ key) (aU (.ok .fz (.ins c fs)) as)else .stuck|none=>.stuck)=_);rw[h];show(if fs.lookup m=none then _ else _)=_;rw[aK a]
@[simp]theorem iQ{t:TB}:(WT t k).cl=t.cl:=rA t k
def Ai{t:TB}{f:Str}{d:FD}{b:List D3.S}(h:t.T.lookup f=some d)(a:d.b=[.mput b]):(WT t (k+1)).Mu f=jF d.ps.length d.N.length (ut (WT t k) b):=by rw[Ih];unfold zp;rw[h];dsimp only;rw[a]
def EO{t:TB}{f:Str}{d:FD}(h:t.T.lookup f=some d):(WT t (k+1)).Φ f=sk d.ps.length d.N.length (cz (WT t k) d.b):=by rw[zu];unfold oA;rw[h]
@[simp]theorem JP{a b c e d:D}(h:Φ [a,b,c,e]=.ok .fz d):aW 4 Φ (.ok [(.fz,a),(.fz,b),(.fz,c),(.fz,e)])=.ok .fz d:=mJ (ds:=[a,b,c,e]) rfl rfl h
theorem mK{W:WD}:∀{x y:List D3.S}{Y:Rho},cz W (x++y) Y=(cz W x Y).thn (cz W y)|[],y,Y=>by simp|s::x,y,Y=>by show cz W (s::(x++y)) Y=_;rw[kK,kK];cases ff W s Y with|nx ρ'=>exact mK|_=>rfl
def rF{W:WD}{s:D3.S}{r:List D3.S}(h:ff W s Y=.nx ρ'):cz W (s::r) Y=cz W r ρ':=by rw[kK,h];rfl
end D3
namespace Tp
open PySem.W PySem.Calls
structure S where
 t:BT
 n:Nat
 k:Nat
 nm:bb
 g:List DictEntry
 tb:List bb
def jj(vs:List bb):Obj:=#[.type "tuple",none,.seq vs.toArray 0,#[]]
def ie(c:bb)(vs:List bb):Obj:=#[c,none,.fields vs.toArray,#[]]
def oy(es:List DictEntry)(e:Nat):Obj:=#[.type "dict",none,.dict es.toArray e,#[]]
def en(P:Params)(x:Str)(k:Nat)(v:bb):DictEntry:=#[PyData.keyHash P x,.str x k,v]
def hO:List Str->Nat->List bb|[],_=>[]|x::U,k=>.str x k::hO U (k+1)
def qr:Str:="/claim/cut.py"
noncomputable def k4(name qual:Str)(k line A fl:Nat)(isF:Bool)(a:Nat)(ls cs T:bb)(j:Nat):Obj :=
 ie (.type "code") [.str name k,.str qual (k+1),.str qr (k+2),.int line 0,.int A 0,.int 0 0,.int 0 0,.int fl 0,.ref a,.bool isF,.int 181 0,.ref (a+1),.none,ls,cs,T,.int j 0,.int line 0,.str qr (j+1)]
noncomputable def Aj(code ns:Nat)(nm:bb):Obj:=#[.type "frame",none,.plain,(List.toArray [some (.ref code),some (.ref 3),some (.ref ns),none,some nm,none,some (.ref 0)])]
def CF(name qual:Str)(args:Arguments)(body:List Stmt)(sc:Scope)(gl:Nat)(nm cd:bb):FuncData:=#[name,qual,args,.stmts body,sc,gl,[],.none,.none,.none,nm,none,cd,.none,0]
def km:List Obj->BT->Nat->BT|[],t,_=>t|o::os,t,n=>km os (t.ins n o) (n+1)
def Ak(name qual:Str)(args:Arguments)(body:List Stmt)(sc:Scope)(line n k:Nat)(nm:bb):List Obj×Nat×Nat :=
 match localNames args sc (.stmts body)with
 |some (ls,cs) =>
  let a:=ls.length
  let b:=cs.length
  ([jj [],ie .none [],jj (hO ls (k+3)),jj (hO cs (k+3+a)),#[.none,none,.func (CF name qual args body sc 0 .none .none),#[]],
   k4 name qual k line args.args.length 3 true n (.ref (n+2)) (.ref (n+3)) (.ref (n+4)) (k+3+a+b),#[.type "function",none,.func (CF name qual args body sc 3 nm (.ref (n+5))),#[]]],n+5,k+5+a+b)
 |none =>
  ([jj [],ie .none [],#[.none,none,.func (CF name qual args body sc 0 .none .none),#[]],
   k4 name qual k line args.args.length 3 true n .none .none (.ref (n+2)) (k+3),#[.type "function",none,.func (CF name qual args body sc 3 nm (.ref (n+3))),#[]]],n+3,k+5)
def look(x:Str):List DictEntry->Option bb
 |[]=>none|⟨_,.str y _,v⟩::es=>match decide (x=y)with|true=>some v|false=>look x es
 |_::es=>look x es
structure B where
 t:BT
 n:Nat
 k:Nat
 es:List DictEntry
 tb:List bb
def layB(P:Params)(cn:Str)(nm:bb):List Stmt->B->B
 |.FunctionDef name args body _ _ _ sc _ _ pos::r,⟨t,n,k,es,tb⟩ =>
  match Ak name (cn++"."++name) args body sc pos.line n k nm with|(os,c,j)=>layB P cn nm r #[km os t n,n+os.length,j+1,en P name j (.ref (c+1))::es,.ref c :: .int pos.col 0 :: .int pos.line 0::tb]
 |_::r,b=>layB P cn nm r b|[],b=>b
def mroOf(t:BT)(a:Nat):List bb×bb:=match t.get a with|some ⟨_,_,.cls c,S⟩=>(c.mro,(S.getD 4 none).getD .none)|_=>([],.none)
def Am(a:Nat):Obj->Obj
 |⟨c,d,.cls k,S⟩=>#[c,d,.cls {k with subclasses:=k.subclasses++[.ref a]},S]
 |o=>o
noncomputable def EQ(P:Params)(name:Str)(B:List PySem.Expr)(body:List Stmt)(st:List Str)(line:Nat):S->S
 |⟨t,n,k,nm,g,tb⟩ =>
  let bs:List bb:=match B with|.Name b _::_=>((match look b g with|some v=>[v]|none=>[.type "ValueError"]))|_=>[]
  let n2:=n+2
  let T:=km [jj bs,ie (.type "builtin_function_or_method") [.builtin "type.__prepare__",.type "type"],oy [] 0,jj [],ie .none [],k4 name name (k+2) line 0 0 false (n+3) .none .none .none (k+5),Aj (n+5) n2 nm] t n
  match layB P name nm body #[T,n+7,k+12,[en P "__firstlineno__" (k+11) (.int line (k+10)),en P "__qualname__" (k+9) (.str name (k+8)),en P "__module__" (k+7) nm],[]]with
  |⟨t2,m,j,es,ct⟩ =>
   let E:=en P "__static_attributes__" (j+st.length) (.ref m)::es
   let j1:=j+st.length+1
   let t3:=(t2.set n2 λ_=>oy E.reverse E.length).set (n+4) λ_=>ie .none ct.reverse
   let cl:=m+2
   let cp:=(E.reverse.take 1)++(E.reverse.drop 2)
   let f (mro:List bb) (nw:bb) (l:List bb) (d:Option bb) (U:List DictEntry) (gs:List Obj) (t:BT) (j:Nat):S :=
    let os:=[jj (hO st (m-m+(j1-1-st.length))),oy (cp++U++[en P "__doc__" j .none]) (2+U.length),#[.type "type",none,.cls #[name,l,.ref cl::mro,m+1,name,true,[],[],false,none,false],(List.toArray [d,none,some (.str name k),some (.str name (k+8)),some nw,some (.bool true)])]]
     ++ gs++[ie (.type "super") [.ref cl,.ref cl,.ref cl],ie (.type "builtin_function_or_method") [.builtin "object.__init_subclass__",.ref cl]]
    #[km os t m,m+os.length,j+3,nm,en P name (j+2) (.ref cl)::g,.ref (n+5) :: .int 0 0 :: .int line 0::tb]
   let G (j a:Nat):=ie (.type "getset_descriptor") [.str "__weakref__" j,.ref cl,.builtin "ExceptionGroup.__weakref__",.none]
   match bs with
   | []=>f [.type "object"] (.builtin "object.__new__") [.type "object"] none [en P "__dict__" (j1 + 1) (.ref (m + 3)),en P "__weakref__" (j1 + 3) (.ref (m + 4))]
       [ie (.type "getset_descriptor") [.str "__dict__" j1,.ref cl,.builtin "function.__dict__",.builtin "function.__dict__#set"],G (j1+2) 0] t3 (j1+4)
   |.ref a::_=>(match mroOf t3 a with|(mro,nw)=>f mro nw bs (some (.ref n)) [] [] (t3.set a (Am cl)) j1)|_=>f [.type "ValueError",.type "Exception",.type "BaseException",.type "object"] (.builtin "ValueError.__new__") bs (some (.ref n)) [en P "__weakref__" (j1+1) (.ref (m+3))] [G j1 0] t3 (j1+2)
def qt(P:Params)(g:List DictEntry):List (Option PySem.Expr)->List PySem.Expr->Nat->List DictEntry|some (.Constant (.str x) _ _)::ks,.Name y _::vs,k=>en P x k ((look y g).getD .none)::qt P g ks vs (k+1)|_,_,_=>[]
def put(P:Params)(x:Str)(v:bb)(t:BT)(n k:Nat)(nm:bb)(g:List DictEntry)(tb:List bb):S:=match decide (x="__name__")with|true=>#[t,n,k+1,v,g,tb]|false=>#[t,n,k+1,nm,en P x k v::g,tb]
def ER(P:Params):Stmt->S->S
 |.FunctionDef name args body _ _ _ sc _ _ pos,⟨t,n,k,nm,g,tb⟩=>match Ak name name args body sc pos.line n k nm with|(os,c,j)=>#[km os t n,n+os.length,j+1,nm,en P name j (.ref (c+1))::g,.ref c :: .int pos.col 0 :: .int pos.line 0::tb]
 |.ClassDef name B _ body _ _ _ _ _ st pos,s=>EQ P name B body st pos.line s|.Assign [.Name x _] (.Constant (.str v) _ _) _,⟨t,n,k,nm,g,tb⟩=>put P x (.str v k) t n (k+1) nm g tb|.Assign [.Name x _] (.Constant (.int v) _ _) _,⟨t,n,k,nm,g,tb⟩=>put P x (.int v k) t n (k+1) nm g tb|.Assign [.Name x _] (.Dict ks vs _) _,⟨t,n,k,nm,g,tb⟩=>put P x (.ref n) (t.ins n (oy (qt P g ks vs k) vs.length)) (n+1) (k+2 * vs.length) nm g tb|_,s=>s
def lay(P:Params):List Stmt->S->S|[],s=>s|st::r,s=>lay P r (ER P st s)
noncomputable def s0(os:List Obj):S :=
 #[km [jj [],ie .none [],k4 "<module>" "<module>" 182 1 0 0 false 11 .none .none .none 185,Aj 13 3 (.str "__main__" 164)] (km os .nil 0) 11,15,187,.str "__main__" 164,[],[]]
def ss(nm:bb):List DictEntry->List DictEntry
 |e::es=>{e with val:=nm}::es
 |[]=>[]
def sv(nm:bb)(g:List DictEntry):Obj->Obj|⟨c,d,.dict es e,S⟩=>#[c,d,.dict (ss nm es.toList++g.reverse).toArray (e+g.length),S]|o=>o
noncomputable def S.bt(s:S):BT:=(s.t.set 3 (sv s.nm s.g)).set 12 λ_=>ie .none s.tb.reverse
def z0:Pos:=#[0,0,0,0]
def an:Option bb:=some (.ref 6)
def ev(p:fc):Env:={scope:=p.main.scope,locals:=mainNs,globals:=mainNs,cells:=[],code:=.ref 13,frame:=some 14}
noncomputable def cd(p:fc):Code:=.body (behindTheImports p) (ev p)
noncomputable def go(tb:String->Option Builtin)(p:fc)(w:dh)(F:Nat):List Stmt->SharedT->Code->Pos->Option (SharedT×Code×Pos)|[],s,c,q=>some (s,c,q)|st::l,s,c,q=>match segRunT tb p w 11 an 1 F s (pieceOf st (ev p) c q [topFrame z0])with|some (.next,O,a,q')=>go tb p w F l O a q'|_=>none
def ns(F N:Nat):List Stmt->Nat|[]=>N|_::l=>F+ns F N l
section
variable{tb:String->Option Builtin}{p:fc}
def one{N:Nat}{r:cc}{rest:List Stmt}{c c':Code}{e:Env}(h:segRun tb p w 11 an 1 n s (pieceOf st e c q [topFrame z0])=some (.next,O,c',q'))(k:topRun tb p w 11 an N O (restOf rest e c' q' [topFrame z0])=some r):topRun tb p w 11 an (n+N) s (restOf (st::rest) e c q [topFrame z0])=some r:=by
 exists a,d,hN,seg_top (B:=[topFrame z0]) (res:=id)
  (K':=λf=>match f with|.next=>(execs rest e).wrap doneF (leaveH e) id id|f=>doneF f)
  (H':=leaveH e) rfl n s (pieceOf st e c q [topFrame z0])
  #[(exec st e).wrap (λf=>match f with|.next=>(execs rest e).wrap doneF (leaveH e) id id|f=>doneF f) (leaveH e) id id,c,q,[topFrame z0]] _ _ _ _ #[rfl,rfl,.inl #[rfl,rfl,_,rfl,rfl]] h
 cases d;unfold restOf;rw[execs_cons_wrap];exact hN N r k
theorem k5{F:Nat}:∀(l:List Stmt) {s O:SharedT}{c c':Code}{q q':Pos},go tb p w F l s c q=some (O,c',q')->∀{N:Nat}{r:cc}{rest:List Stmt},topRun tb p w 11 an N O.abs (restOf rest (ev p) c' q' [topFrame z0])=some r->topRun tb p w 11 an (ns F N l) s.abs (restOf (l++rest) (ev p) c q [topFrame z0])=some r|[],_,_,_,_,_,_,h,_,_,_,k=>by cases h;exact k|st::l,s,O,c,c',q,q',h,N,r,rest,k=>by unfold go at h;split at h;{rename_i x e;exact one (segRun_of e) (k5 l h k)};cases h
theorem jk{F:Nat}:∀{l r:List Stmt}{s O:SharedT}{c c':Code}{q q':Pos},go tb p w F l s c q=some (O,c',q')->go tb p w F (l++r) s c q=go tb p w F r O c' q'|[],_,_,_,_,_,_,_,h=>by cases h;rfl|st::l,r,s,O,c,c',q,q',h=>by unfold go at h;split at h;{rename_i x e;show go tb p w F (st::(l++r)) s c q=_;(conv=>lhs;unfold go);rw[e];exact jk h};cases h
def ES(s:cc)(c:Code)(q:Pos):topRun tb p w 11 an 2 s (restOf [] (ev p) c q [topFrame z0])=some s:=by exists h,g,d,k,o,s;rfl
noncomputable def sh(P:Params)(S:S)(n k:Nat)(os:OsState):SharedT:=#[S.bt,n,(boot_heap P).life,#[],boot_drawn,k,os]
noncomputable def sA(P:Params):S:=s0 (boot_heap P).objs.toList
noncomputable def mid(P:Params)(l:List Stmt)(os:OsState):SharedT:=sh P (lay P l (sA P)) (lay P l (sA P)).n (lay P l (sA P)).k os
def sx{l:List Stmt}{c':Code}(a:behindTheImports p=l)(pre:∀(w:dh) (os:OsState),topGo treeTable p w 11 an 12 #[boot_heap w.params,#[],boot_drawn,boot_toks,os] (topStub p)=some ((sh w.params (sA w.params) 15 187 os).abs,#[denote treeTable (cd p),cd p,z0,[topFrame z0]]))(blk:∀(w:dh) (s:cc),segRun treeTable p w 11 an 1 1 s (blockOf l (ev p) (cd p) z0 [topFrame z0])=some (.next,s,cd p,z0))(run:∀(w:dh) (os:OsState),go treeTable p w 1000 l (sh w.params (sA w.params) 15 187 os) (cd p) z0=some (sh w.params (lay w.params l (sA w.params)) n k os,c',q')):∀(w:dh) (os:OsState),topRun treeTable p w 11 an (12+(1+ns 1000 2 l)) #[boot_heap w.params,#[],boot_drawn,boot_toks,os] (topStub p)=some (sh w.params (lay w.params l (sA w.params)) n k os).abs:=by intro w os;refine go_top (pre w os) ?_;unfold cd;rw[a];refine piece_block (n:=1) (by have:=blk w (sh w.params (sA w.params) 15 187 os).abs;unfold cd at this;rw[a]at this;exact this) ?_;have:=k5 l (run w os) (rest:=[]) (ES _ _ _);rw[h5]at this;unfold cd at this;rw[a]at this;exact this
end
noncomputable def KK(l:List Stmt)(as:List Addr)(P:Params):Frag:=as.map λa=>(a,((lay P l (sA P)).bt.get a).getD default)
def ET(l:List Stmt)(as:List Addr)(P:Params):as=(KK l as P).map (·.1):=by unfold KK;rw[gv];exact(List.map_id as).symm
noncomputable def hk(l:List Stmt)(as:List Addr):Hook:=kHook (KK l as) as (ET l as)
noncomputable def H1(l:List Stmt)(n:Nat)(P:Params):Heap:=absHeap (lay P l (sA P)).bt n (boot_heap P).life
noncomputable def S1(l:List Stmt)(n k:Nat)(P:Params)(os:OsState):cc:=#[H1 l n P,#[],boot_drawn,k,os]
def VH(n:Str):Stmt->List Str|.FunctionDef x ..=>if x==n then[]else[x]|.ClassDef x ..=>[x]|.Assign [.Name x _] _ _=>if x == "__name__" then[]else[x]|_=>[]
def los(l:List Stmt):List Str:=l.flatMap (VH "law")
def vw(p:fc):fc:={ p with main:={ p.main with body:=p.main.body.filter λst=>match st with|.FunctionDef x ..=>x == "law" |_=>false } }
def xt(r:OpenRow)(s:cc):Bool:=xlAt (vw r.prog) [] s&&recOk r.toRowW.records s
def An(w:dh):((boot_heap w.params).isNs mainGlobals&&(#[]:Array GenState).size==0,(boot_heap w.params).objs.size,(boot_heap w.params).nsMap mainGlobals "__annotations__")=(true,11,an):=by kernel_rfl
end Tp
def Tp.twA:Prod.fst (true,(@Tp.go,@Tp.lay,@Tp.sh,@Tp.sA,@Tp.cd,@Tp.ev,@Tp.S.bt,@Tp.KK,@Tp.hk,@Tp.H1,@Tp.S1,@Tp.los,@Tp.vw,@Tp.xt))=true:=by k_qdec
namespace D3
open PySem.Calls
def vS(q:Str):Str:=q++".<locals>."
def EU:bb->bb->bb->bb->bb->bb->Option Addr|.type "code",.ref T,.str _ _,.int _ _,.bool _,.int _ _=>some T|_,_,_,_,_,_=>none
def jM:Obj->Option (Str×Option Addr)
 |⟨cl,_,.fields vs,_⟩=>match vs.toList with|_ :: .str q _::_=>some (q,EU cl (vs.getD 11 .none) (vs.getD 18 .none) (vs.getD 7 .none) (vs.getD 9 .none) (vs.getD 10 .none))|_=>none
 |_=>none
def tq(b:Addr):Fg->Option Str|[]=>none|(_,o)::r=>match jM o with|some (q,some T)=>if T=b then some q else tq b r|_=>tq b r
def vT:Option Obj->Bool|some ⟨.none,none,.fields vs,S⟩=>vs.size==0&&S.size==0|_=>false
noncomputable def rG(K Kf:Fg):Bool:=K.all λ(c,o)=>match jM o with|none=>true|some (q,some T)=>tq T K==some q&&(K.lookup T).isNone&&vT (Kf.lookup T)&&c != T|some (_,none)=>false
def VI{o:Option Obj}(h:vT o=true):o=some #[.none,none,.fields #[],#[]]:=by unfold vT at h;split at h;{rename_i vs S;simp only[cw,dc]at h;obtain rfl:vs = #[]:=Du h.1;obtain rfl:S = #[]:=Du h.2;rfl};cases h
def JQ{o:Obj}{q:Str}{T:Addr}(h:jM o=some (q,some T)){c:Addr}(e:hp.get? c=some o)(ne:c≠T):W.CodeHd hp c T:=by exists cl,L,N,K,o;unfold jM at h;split at h;{rename_i J f vs S l;cases l;split at h;{rename_i a q' t r hv;have A:=jx h;have d:EU cl (vs.getD 11 .none) (vs.getD 18 .none) (vs.getD 7 .none) (vs.getD 9 .none) (vs.getD 10 .none)=some T:=congrArg Prod.snd A;unfold EU at d;split at d;{rename_i E G F D B;cases d;refine#[_,vs,_,_,_,_,_,_,_,e,rfl,rfl,?_,E,G,F,D,B,ne];rw[rc]at E;cases q:vs[11]? with|none=>rw[q]at E;cases E|some v=>rw[q]at E;exact congrArg some E};cases d};cases h};cases h
def VJ{K:Fg}{cd:bb}{q:Str}(h:W.codeIn K cd q=true):∃c o,cd=.ref c/\K.lookup c=some o/\∃x,jM o=some (q,x):=by unfold W.codeIn at h;split at h;{rename_i c;split at h;{rename_i e;split at h;{rename_i a n t r hv;refine#[c,_,rfl,e,?_];rw[dc]at h;subst h;unfold jM;dsimp only;rw[hv];exact#[_,rfl]};cases h};cases h};cases h
theorem JR{c:Addr}{o:Obj}:∀{K:Fg},K.lookup c=some o->(c,o)∈K|[],h=>by cases h|(b,u)::r,h=>by rw[iq]at h;split at h;{rename_i a;cases h;have a:=dc.mp a;subst a;exact c6};exact df (JR h)
theorem vU{b:Addr}{q:Str}:∀{K:Fg},tq b K=some q->∃c o,(c,o)∈K/\jM o=some (q,some b)|[],h=>by cases h|(c,o)::r,h=>by unfold tq at h;split at h;{rename_i q' T e;split at h;{rename_i f;cases h;subst f;exact#[c,o,c6,e]};exists d,a,m,x,vU h;exact#[d,a,df m,x]};exists d,a,m,x,vU h;exact#[d,a,df m,x]
structure Ao(K Kf:Fg):Prop where
 all:∀c o,(c,o)∈K->∀q x,jM o=some (q,x)->∃T,x=some T/\tq T K=some q/\K.lookup T=none/\Kf.lookup T=some #[.none,none,.fields #[],#[]]/\c≠T
def VL{K Kf:Fg}(h:rG K Kf=true):Ao K Kf:=#[λc o m q x e=>by
 have a:=fq.mp h (c,o) m;dsimp only at a;rw[e]at a;cases x with
 |none=>cases a|some T =>
  dsimp only at a;simp only[cw,dc,rq,Option.isNone_iff_eq_none]at a;exact#[T,rfl,a.1.1.1,a.1.1.2,VI a.1.2,a.2]]
def VM{K Kf:Fg}{mb:fg}{fa a:Addr}{sp:Sp}{S:cc}{ns:List Int}(KX:Kf.In S.heap)(sub:∀b o,K.lookup b=some o->Kf.lookup b=some o)(tb:Ao K Kf)(nd:∀b o,(b,o)∈K->K.lookup b=some o)(ae:S.heap.Ns mainGlobals mg)(hb:S.heap.Ns builtinsNs mb)(aq:∀x:Str,x ≠ "__name__"->mb x=bootBuiltins x)(ag:S.heap.NoLimit)(am:∃bm ob,mg "__builtins__"=some (.ref bm)/\bm≠builtinsNs/\S.heap.get? bm=some ob/\ob.cls=.type "module" /\ ob.dict=some builtinsNs/\ob.data=.plain)(hg:S.gens=#[])(G:S.heap.get? a=some { cls:=.type "list",data:=.seq vs.toArray })(hi:IntsAre vs ns)(hl:ns.length<=sizeLine)(hr:bG k callerA)(F:∀base:Heap,K.In base->base.Ns mainGlobals mg->bO P w K mg base CX k fa fd [x] sp)(E:∀(s:cc) (u:bb),BindsTo s fd #[[u],[]] [(x,u)])(ak:∀H:Hp,fe K H a (ns.map V.int)->sp [.ref a] H (λv _=>v=.bl true) λ_ _ _=>False)(ar:∀H e O,CX [] H S (λ_ _ _=>False) e O->False):codeAny (model P w) callerA (.call (.ref fa) #[[.ref a],[]]) (λr O=>r=.ok (.ret (.bool true))/\OldK S.heap O.heap/\O.os=S.os/\AllBare O.gens) S:=by
 have L:K.In S.heap:=λb o e=>KX b o (sub b o e);have rv:=S3 hi;have aa:=hi.length
 let sob:Obj:={ cls:=.type "list",data:=.seq vs.toArray }
 let H:Hp:=λb=>match tq b K with|some q=>some (.tbl (List.toArray [.str (vS q) 0]))|none=>if b=a/\K.lookup a=none then some (.frz sob (.lst (ns.map V.int)))else none
 have l:∀{b:Addr}{q:Str},tq b K=some q->K.lookup b=none/\S.heap.get? b=some #[.none,none,.fields #[],#[]]/\isCodeTable S.heap b:=λ{b q} e=>by exists c,o,m,x,vU e;exists T,e1,_,e3,e4,e5,tb.all c o m q _ x;cases e1;exists o',ah,_,_,_,_,_,_,_,g1,g2,g3,g4,_,JQ x (L c o (nd c o m)) e5;exact#[e3,KX _ _ e4,c,o',ah,g1,g2,g3,g4]
 have Z:tq a K=none:=by cases e:tq a K with|none=>rfl|some q=>have:=(l e).2.1;rw[G]at this;cases this
 have B:∀{b:Addr}{q:Str},tq b K=some q->H b=some (.tbl (List.toArray [.str (vS q) 0])):=λ{b q} e=>by(show(match tq b K with|some q=>_|none=>_)=_);rw[e]
 have A:∀{b:Addr},tq b K=none->H b=if b=a/\K.lookup a=none then some (.frz sob (.lst (ns.map V.int)))else none:=λ{b} e=>by(show(match tq b K with|some q=>_|none=>_)=_);rw[e]
 have HK:∀{b:Addr}{o:Obj},K.lookup b=some o->H b=none:=λ{b o} e=>by cases q:tq b K with|some x=>have:=(l q).1;rw[e]at this;cases this|none=>rw[A q,ba];rintro⟨rfl,z⟩;rw[e]at z;cases z
 have aj:∀{b:Addr}{o:Obj}{es:Array DictEntry}{ep:Nat},S.heap.get? b=some o->o.data=.dict es ep->H b=none:=λ{b o es ep} e d=>by cases q:tq b K with|some x=>have:=(l q).2.1;rw[e]at this;cases this;cases d|none=>rw[A q,ba];rintro⟨rfl,z⟩;rw[G]at e;cases e;cases d
 have ai:∀{b:Addr}{o:Obj},S.heap.get? b=some o->o.cls=.type "module"->H b=none:=λ{b o} e d=>by cases q:tq b K with|some x=>have:=(l q).2.1;rw[e]at this;cases this;cases d|none=>rw[A q,ba];rintro⟨rfl,z⟩;rw[G]at e;cases e;injection d with d;exact absurd d (by decide)
 have hok:gh P w H S.heap:=λb u e=>by cases q:tq b K with|some x=>rw[B q]at e;cases e;refine#[vS x,#[],rfl,(l q).2.1,trivial,λz cv f=>?_];cases f|none=>rw[A q]at e;split at e;{rename_i hc;cases e;exists rfl,_,hc;exact#[G,by rw[d3];exact hl,vs,_,rv,G]};cases e
 have hS:fe K H a (ns.map V.int):=by cases hk:K.lookup a with|some o=>have e:=L a o hk;rw[G]at e;cases e;exact .inr #[_,vs.toArray,_,hk,rfl,rfl,rfl,by rw[fo,aa];exact hl,by simpa using rv]|none=>exact .inl (.inr #[sob,by rw[A Z,aK #[rfl,hk]]])
 have N:∀{b:Addr}{m:fg},S.heap.Ns b m->(hX S.heap H).Ns b m:=λ{b m} ⟨o,es,ep,e,d,r⟩=>#[o,es,ep,sV e (aj e d),d,r];have J:K.In (hX S.heap H):=λb o e=>sV (L b o e) (HK e);have hM:Mod K mg (hX S.heap H):=#[J,N ae,#[mb,N hb,aq],let⟨mc,h1,h2⟩:=ag;#[mc,N h1,h2],let⟨bm,ob,b1,b2,b3,b4,b5,b6⟩:=am;#[bm,ob,b1,b2,sV b3 (ai b3 b4),b4,b5,b6]]
 have hT:kT K (hX S.heap H) H:=λcd q e=>by exists c,o,rfl,lk,y,hy,VJ e;exists T,rfl,e2,_,_,e5,tb.all c o (JR lk) q y hy;exact#[c,T,_,rfl,JQ hy (J c o lk) e5,B e2,rfl]
 have e0:iV P w K mg (hX S.heap H) callerA [] S H:=#[rfl,hM,λb o e=>MP e,Bj (MO _ _),trivial,λb hb=>absurd (show b∈([]:List Addr)from hb) (by simp),hok,.of_eq hg,hT]
 refine mz ((F _ J (N ae)).run callerA [] S H #[[.ref a],[]] [.ref a] [.ref a] _ _ hr e0 (E S (.ref a)) (.cons rfl .nil) (ak H hS)) λr O h=>?_;cases r with|error e=>exact(ar H e O h).elim|ok fl=>cases fl with|next|brk|cont=>exact False.elim h|ret u=>(exists v,H',os,bare,un,D,r',q,h;have q':v=.bl true:=q;subst q';obtain rfl:u=Value.bool true:=r';have W:∀b o,S.heap.get? b=some o->asItWas S.heap O.heap b o/\∃o',O.heap.get? b=some o':=λb o e=>by cases q:tq b K with|some x=>exists more,z,un.tbls b _ (B q);exists _,m,_,g,_,D b _ z;exists _,t2,t3,l q;rw[e]at t2;cases t2;exact#[.inr (.inl #[t3,rfl,#[],m,rfl,by rw[g];simp]),_,g]|none=>have hn:=A q;split at hn;{rename_i hc;exists rfl,_,hc;have z2:=un.frzs _ _ _ hn;exists e2,_,D _ _ z2;rw[G]at e;cases e;exact#[.inl e2,_,e2]};have:=un.keep b o e hn (by intro z;exact absurd (show b∈([]:List Addr)from z) (by simp)) (by simp);exact#[.inl this,o,this]);exact#[rfl,#[λb o e=>(W b o e).1,λb o e=>(W b o e).2],os,bare]
def VN{l:W.OpenLaw}{q:fc}{d:DefRec}{K Kf:Params->Fg}{CX:dh->CXT}{sp:dh->Sp}(hn:l.most=some n)(J:n<=sizeLine)(N:d.params.defaults=[])(hr:bG k callerA)(hY:∀(w:dh) (h:Heap),YP w h->(Kf w.params).In h)(sub:∀P b o,(K P).lookup b=some o->(Kf P).lookup b=some o)(nd:∀P b o,(b,o)∈K P->(K P).lookup b=some o)(tb:∀P,rG (K P) (Kf P)=true)(F:∀(w:dh) (mg:fg) (fa:Addr) (h:Heap),(K w.params).In h->h.Ns mainGlobals mg->mg d.name=some (.ref fa)->∃fd:FuncData,(∀(s:cc) (u:bb),BindsTo s fd #[[u],[]] [(x,u)])/\∀base:Heap,(K w.params).In base->base.Ns mainGlobals mg->bO l.prog w (K w.params) mg base (CX w) k fa fd [x] (sp w))(E:∀(w:dh) (H:Hp) (a:Addr) (ns:List Int),ns.length<=n->fe (K w.params) H a (ns.map V.int)->sp w [.ref a] H (λv _=>v=.bl true) λ_ _ _=>False)(Z:∀(w:dh) (H:Hp) (s:cc) (e:bb) (O:cc),CX w [] H s (λ_ _ _=>False) e O->False):W.WalkO q loose XP YP l.row.toRowW d [] (λf vs=>PySem.call f vs):=by refine Att.aKA hn N λw s₀ S mg mb fa o pm cd ae a vs ns G r ho hd aa L D B A hg=>?_;have KX:=hY w _ r;exists fd,hb,hF,F w mg fa _ (λb o e=>KX b o (sub _ b o e)) G.T.g L;exact VM KX (sub w.params) (VL (tb w.params)) (nd w.params) G.T.g G.T.b G.T.builtins G.T.nolimit G.T.bmain hg D B (ii A J) hr hF hb (λH hS=>E w H a ns A hS) λH e O=>Z w H S e O
noncomputable def lb(K:Fg)(x:Str):Option Addr:=match W.nsIn K mainGlobals x with|some (some (.ref a))=>some a|_=>none
def fF{K:Fg}{a:Addr}(h:lb K x=some a):W.nsIn K mainGlobals x=some (some (.ref a)):=by unfold lb at h;split at h;{rename_i b e;cases h;exact e};cases h
noncomputable def Ap(key:Str):Addr×Obj->Bool|(_,⟨.type t,_,.func fd,_⟩)=>t == "function" && fd.qualname==key|_=>false
noncomputable def jb(K:Fg)(key:Str):Addr:=match K.find? (Ap key)with|some p=>p.1|none=>0
noncomputable def Aq(fd:FuncData)(b:List Stmt):Stmt:=.FunctionDef fd.name fd.params b [] none [] fd.scope none fd.name #[0,0,0,0]
noncomputable def Ar(p:Arguments)(ps:List Str):Bool:=p.posonlyargs.isEmpty&&(p.args.map (·.arg)==ps)&&p.vararg.isNone&&p.kwonlyargs.isEmpty&&p.kwarg.isNone&&decide ps.Nodup
noncomputable def JS(K:Fg)(nm:Option Str)(key:Str)(a:Addr)(ps:List Str)(f:Stmt->Bool)(fd:FuncData)(b:List Stmt):Bool :=
 (nm.getD fd.name==fd.name)&&((fd.qualname==key)&&(fd.globals==mainGlobals&&(fd.closure.isEmpty&&((fd.defaults == .none)&&(fd.builtins==builtinsNs&&(W.codeIn K fd.code key&&(W.keepIn K (.ref a)&&(Ar fd.params ps&&f (Aq fd b)))))))))
noncomputable def mL(K:Fg)(nm:Option Str)(key:Str)(a:Addr)(ps:List Str)(f:Stmt->Bool):Bool:=match K.lookup a with
 |some ⟨_,_,.func fd,_⟩=>(match fd.body with|.stmts b=>JS K nm key a ps f fd b|_=>false)
 |_=>false
def vV{K:Fg}{nm:Option Str}{key:Str}{a:Addr}{ps:List Str}{f:Stmt->Bool}(h:mL K nm key a ps f=true):∃name st fd,ol K name key st a fd/\cQ K fd ps []/\f st=true/\nm.getD name=name/\∀us:List bb,us.length=ps.length->bindArgs fd #[us,[]]=pure (ps.zip us):=by unfold mL at h;split at h;{rename_i oc od fd sl el;split at h;{rename_i b eb;unfold JS at h;simp only[cw]at h;exists h1,Z,V,T,S,N,L,J,l,o,h;exists name,qualname,params,body,scope,globals,closure,defaults,d,D,r,an,code,ct,bl,fd;dsimp only at *;obtain rfl:=eb;obtain rfl:=dc.mp Z;obtain rfl:=dc.mp V;obtain rfl:=uc.mp T;obtain rfl:=dc.mp S;obtain rfl:=dc.mp N;unfold Ar at l;simp only[cw,uc,dc,Option.isNone_iff_eq_none,fw]at l;obtain⟨⟨⟨⟨⟨p1,p2⟩,G⟩,F⟩,E⟩,A⟩:=l;have B:=SM (fd:=W.fnOf name qualname params b scope .none d D r an code ct) p1 p2 G F E rfl A;exact#[name,_,_,Ow (st:=Aq #[name,qualname,params,.stmts b,scope,mainGlobals,[],.none,d,D,r,an,code,ct,builtinsNs] b) el L J,.all B,o,dc.mp h1,B]};cases h};cases h
noncomputable def JT(K:Fg)(x:Str):GV->Bool
 |.con (.s y)=>(match W.nsIn K mainGlobals x with|some (some (.str z _))=>z==y|_=>false)
 |.con (.i n)=>(match W.nsIn K mainGlobals x with|some (some (.int z _))=>z==n|_=>false)
 |.con (.t _)=>true|.no=>W.nsIn K mainGlobals x==some none|.fn _=>W.nsIn K mainGlobals x==some (some (.ref (jb K x)))|.cls=>true
noncomputable def rH(K:Fg)(C:Addr):Bool:=W.plainGet K C Str.empty&&(W.hasDictIn K C&&(W.plainOver K C&&W.findIn K (.ref C) "__setattr__" == some (some (.builtin "object.__setattr__"))))
def JU{K:Fg}{C:Addr}(h:rH K C=true):ng K C:=by unfold rH at h;simp only[cw,dc]at h;exact#[h.1,h.2.1,h.2.2.1,h.2.2.2]
noncomputable def vW(K:Fg)(C:Addr)(x:Str×Str×Nat):Bool:=W.findIn K (.ref C) x.1==some (some (.ref (jb K x.2.1)))&&(W.isFn K (.ref (jb K x.2.1))&&W.keepIn K (.ref (jb K x.2.1)))
noncomputable def EV(K:Fg)(i:CI):Bool:=match lb K i.name with|some C=>rH K C&&(i.meths.all (vW K C)&&i.flds.all λf=>W.findIn K (.ref C) f==some none)|none=>false
noncomputable def As(K:Fg)(c:Str):Bool:=match lb K c with|some C=>W.makesIn K C&&(W.findIn K (.ref C) "__init__" == some (some (.builtin "object.__init__"))&&W.keepIn K (.ref C))|none=>false
noncomputable def CG(K:Fg)(C:Addr):Bool:=W.findIn K (.ref C) "__class__" == some (some (.builtin "object.__class__"))&&(W.specialIn K (.builtin "object.__class__") "__get__" == some (some (.builtin "getset_descriptor.__get__"))&&(W.takesIn K (.builtin "object.__class__")==some true&&W.mroIn K C (.type "object")==some true))
noncomputable def Au(K:Fg)(cl:List CI)(c:Str):Bool:=match lb K c with
 |some C=>["NoneType","bool","int","str","tuple","list","dict"].all (λt=>W.kitOne K (.type t) (.ref C)==some false)&&cl.all λi=>match lb K i.name with|some a=>rH K a&&(CG K a&&W.kitOne K (.ref a) (.ref C)==some (i.ups.contains c))|none=>false
 |none=>false
noncomputable def EW(K:Fg)(g:MG)(x:Str×ID):Bool:=match lb K x.2.c with|some C=>W.makesIn K C&&(W.findIn K (.ref C) "__init__" == some (some (.ref (jb K x.1)))&&(W.isFn K (.ref (jb K x.1))&&(W.keepIn K (.ref C)&&mL K none x.1 (jb K x.1) x.2.ps (λst=>zw g st x.2))))|none=>false
noncomputable def EX(K:Fg)(x:(Str×Str)×Bool):Bool:=match lb K x.1.1,lb K x.1.2 with|some C,some a=>W.mroIn K a (.type "BaseException")==some true&&(W.typeIn K (.ref a)==some (.type "type")&&W.mroIn K C (.ref a)==some x.2)|_,_=>false
noncomputable def JV(K:Fg)(C:Addr):Bool:=W.findIn K (.ref C) "__getattribute__" == some (some (.builtin "BaseException.__getattribute__"))&&(W.findIn K (.ref C) "__getattr__" == some none&&(W.mroIn K C (.type "BaseException")==some true&&CG K C))
noncomputable def Av(K:Fg)(n:Str):Option V:=match W.nsIn K mainGlobals n with
 |some (some (.ref C))=>some (.ref C)|some none=>if n == "__name__" then none else(match bootBuiltins n with|some (.type T)=>some (.ty T)|_=>none)
 |_=>none
noncomputable def EY(K:Fg)(x:(Str×Str)×Bool):Bool:=match lb K x.1.1,Av K x.1.2 with|some C,some cv=>JV K C&&W.kitOne K (.ref C) (Gq cv)==some x.2|_,_=>false
noncomputable def JW(K:Fg)(c:Str):Bool:=match lb K c with|some C=>W.excIn K C yd "ValueError.__new__"|none=>false
noncomputable def CH(K:Fg)(g:MG)(t:TB):Bool :=
 g.G.all (λx=>JT K x.1 x.2)&&(Cg g.G t.T&&(t.T.all (λx=>mL K (if x.1 == "law" then some "law" else none) x.1 (jb K x.1) x.2.ps (λst=>jK g x.1 st x.2))&&(t.I.all (EW K g)&&(g.mk0.all (As K)&&(Ik g.mki t.I&&(g.iso.all (Au K t.cl)&&(t.cl.all (EV K)&&(zy t.cl t.T&&(t.xt.all (EX K)&&(t.xi.all (EY K)&&(g.xcs.all (JW K)&&(g.xns.all (λn=>(Av K n).isSome)&&(vG g t.T&&(vI g t.T&&vH g t.T))))))))))))))
section
variable{K:Fg}(a:K.In h)(G:h.Ns mainGlobals mg)
include a G
theorem JX:∀{l:List (Str×GV)},(∀x tb,(x,GV.con (.t tb))∈l->i8 w K mg x tb)->l.all (λx=>JT K x.1 x.2)=true->oD w K mg (jb K) l|[],_,_=>trivial|(x,v)::l,d,b=>by rw[jq,cw]at b;refine#[?_,JX (λx tb f=>d x tb (df f)) b.2];have b:=b.1;dsimp only at b;cases v with|con c=>(cases c with|s y=>((have b:(match W.nsIn K mainGlobals x with|some (some (.str z _))=>z==y|_=>false)=true:=b);split at b;{rename_i z t e;cases dc.mp b;exact#[t,li a G e]};cases b)|i y=>((have b:(match W.nsIn K mainGlobals x with|some (some (.int z _))=>z==y|_=>false)=true:=b);split at b;{rename_i z t e;cases dc.mp b;exact#[t,li a G e]};cases b)|t tb=>exact d x tb c6)|fn n=>exact li a G (dc.mp b)|no=>exact W.mg_none_of a G (dc.mp b)|cls=>trivial
def JY{n:Str}{cv:V}(e:Av K n=some cv):qF mg n cv:=by unfold Av at e;split at e;{rename_i C q;cases e;exact .inl #[C,li a G q,rfl]};{rename_i q;split at e;{cases e};rename_i hn;split at e;{rename_i T hb;cases e;exact .inr #[W.mg_none_of a G q,by simpa using hn,T,hb,rfl]};cases e};cases e
end
theorem JZ{K:Fg}{g:MG}:∀{l:List (Str×FD)},l.all (λx=>mL K (if x.1 == "law" then some "law" else none) x.1 (jb K x.1) x.2.ps (λst=>jK g x.1 st x.2))=true->oB K g (jb K) l|[],_=>trivial|(x,d)::l,b=>by rw[jq,cw]at b;exists name,st,fd,F,a,ok,_,_,vV b.1;exact#[#[name,st,fd,F,a,ok],JZ b.2]
theorem J0{K:Fg}{C:Addr}:∀{l:List (Str×Str×Nat)},l.all (vW K C)=true->mD K (jb K) C l|[],_=>trivial|(m,key,n)::l,b=>by rw[jq,cw]at b;have B:=b.1;unfold vW at B;simp only[cw,dc]at B;exact#[#[B.1,B.2.1,B.2.2],J0 b.2]
theorem J1{K:Fg}{C:Addr}:∀{l:List Str},l.all (λf=>W.findIn K (.ref C) f==some none)=true->mH K C l|[],_=>trivial|f::l,b=>by rw[jq,cw]at b;exact#[dc.mp b.1,J1 b.2]
theorem J2{K:Fg}:∀{l:List CI},l.all (EV K)=true->oE K (jb K) l|[],_=>trivial|i::l,b=>by rw[jq,cw]at b;refine#[?_,J2 b.2];have b:=b.1;unfold EV at b;split at b;{rename_i C e;simp only[cw]at b;exact#[C,fF e,JU b.1,J0 b.2.1,J1 b.2.2]};cases b
section
variable{K:Fg}(o:K.In h)(G:h.Ns mainGlobals mg)
include o G
theorem J3{g:MG}:∀{l:List (Str×ID)},l.all (EW K g)=true->oC K mg g l|[],_=>trivial|(x,d)::l,b=>by rw[jq,cw]at b;refine#[?_,J3 b.2];have b:=b.1;unfold EW at b;split at b;{rename_i C e;simp only[cw,dc]at b;exists D,A,r,f,B,b;exists name,st,fd,F,a,ok,_,_,vV B;exact#[name,st,C,_,fd,fF e,li o G (fF e),#[D,A,r,f],F,a,ok]};cases b
omit o G in
theorem vX{c x:Str}{v:Bool}:∀{l:List ((Str×Str)×Bool)},l.lookup (c,x)=some v->((c,x),v)∈l|[],e=>by cases e|(y,b)::l,e=>by rw[iq]at e;split at e;{rename_i a;cases e;rw[<- dc.mp a];exact c6};exact df (vX e)
def Aw{l:List ((Str×Str)×Bool)}(b:l.all (EX K)=true):t5 K mg (λc x=>l.lookup (c,x)):=λc x v e=>by have b:=fq.mp b ((c,x),v) (vX e);unfold EX at b;split at b;{rename_i C d E a;simp only[cw,dc]at b;exact#[C,d,fF E,li o G (fF E),li o G (fF a),b.1,b.2.1,b.2.2]};cases b
def Ax{l:List ((Str×Str)×Bool)}(b:l.all (EY K)=true):t7 K mg (λc x=>l.lookup (c,x)):=λc x v e=>by have b:=fq.mp b ((c,x),v) (vX e);unfold EY at b;split at b;{rename_i C cv e1 e2;unfold JV CG at b;simp only[cw,dc]at b;obtain⟨⟨E,D,A,r,f,d,a⟩,B⟩:=b;exact#[C,cv,fF e1,#[E,D,r,A,a,f,d],JY o G e2,B]};cases b
def Ay{g:MG}{t:TB}(b:CH K g t=true)(ht:∀x tb,(x,GV.con (.t tb))∈g.G->i8 w K mg x tb):GF w K mg g t (jb K):=by unfold CH at b;simp only[cw]at b;exists N,b2,b3,b4,b5,b6,b7,b8,b9,L,J,F,E,D,A,B,b;refine#[JX o G ht N,b2,JZ b3,J3 o G b4,λc r=>?_,b6,λc r=>?_,J2 b8,b9,Aw o G L,Ax o G J,λc r=>?_,λn hn=>?_,D,A,B,λf d e hd=>?_,λf a b h S=>?_];{have b:=fq.mp b5 c r;unfold As at b;split at b;{rename_i C e;simp only[cw,dc]at b;exact#[C,fF e,li o G (fF e),b.1,b.2.1,b.2.2]};cases b};{have b:=fq.mp b7 c r;unfold Au at b;split at b;{rename_i C e;rw[cw]at b;refine#[C,li o G (fF e),λt ht=>dc.mp (fq.mp b.1 t ht),λi T=>?_];have b:=fq.mp b.2 i T;split at b;{rename_i C' V;unfold CG at b;simp only[cw,dc]at b;obtain⟨c1,⟨c2,c3,c4,c5⟩,Z⟩:=b;exact#[C',fF V,JU c1,c2,c3,c4,c5,Z]};cases b};cases b};{have b:=fq.mp F c r;unfold JW at b;split at b;{rename_i C e;exact#[C,li o G (fF e),b]};cases b};{have b:=fq.mp E n hn;cases e:Av K n with|none=>rw[e]at b;cases b|some cv=>exact#[cv,JY o G e]};{exists n,l,Vf B e hd;have b:=fq.mp N _ (nu l);have b:(W.nsIn K mainGlobals f==some (some (.ref (jb K f))))=true:=b;exact dc.mp b};exists d,_,_,_,_,_,l,Vg A S;have b:=fq.mp N _ (nu l);have b:(W.nsIn K mainGlobals f==some (some (.ref (jb K f))))=true:=b;exact dc.mp b
end
noncomputable def vY(K:Fg)(g:MG)(t:TB):Bool:=CH K g t&&W.nsIn K mainGlobals "law" == some (some (.ref (jb K "law")))
theorem J4{x:Str}{d:FD}:∀{l:List (Str×FD)},l.lookup x=some d->(x,d)∈l|[],e=>by cases e|(y,b)::l,e=>by rw[iq]at e;split at e;{rename_i a;cases e;rw[<- dc.mp a];exact c6};exact df (J4 e)
def walkG{l:W.OpenLaw}{q:fc}{d:DefRec}{K Kf:Params->Fg}{g:MG}{t:TB}{kk:Nat}{e:FD}(hn:l.most=some 63)(D:d.params.defaults=[])(B:d.name="law")(S:∀(w:World) (h:Heap),YP w h->(Kf w.params).In h)(sub:∀P b o,(K P).lookup b=some o->(Kf P).lookup b=some o)(nd:∀P b o,(b,o)∈K P->(K P).lookup b=some o)(tb:∀P,rG (K P) (Kf P)=true)(b:∀P,vY (K P) g t=true)(ht:∀(w:World) (mg:fg) (h:Heap),(K w.params).In h->h.Ns mainGlobals mg->∀x tb,(x,GV.con (.t tb))∈g.G->i8 w (K w.params) mg x tb)(J:t.T.lookup ("law":Str)=some e)(hps:e.ps=[x])(L:bG (kk+1) callerA)(main:∀ns:List Int,ns.length<=63->(WT t (kk+1)).Φ "law" (pQ ns)=.ok .fz (.bl true)):W.WalkO q loose XP YP l.row.toRowW d [] (λf vs=>PySem.call f vs):=by
 refine VN (K:=K) (Kf:=Kf) (n:=63) (k:=kk+1) (x:=x) (CX:=λw=>fx l.prog w) (sp:=λw=>vK (K w.params) ((WT t (kk+1)).Φ ("law":Str))) hn (by decide) D L S sub nd tb (λw mg fa h E G A=>?_)
  (λ_ _ a ns N V=>#[a,ns,rfl,V,main ns N,λ_=>rfl]) λ_ _ _ _ _ z=>by exists _,_,_,_,_,_,_,_,_,_,z,z;exact z
 have b:=b w.params;unfold vY at b;rw[cw,dc]at b;have f:=Ay (w:=w) E G b.1 (ht w mg h E G);have Z:=li E G b.2;rw[B,Z]at A;cases A;have b3:t.T.all (λx=>mL (K w.params) (if x.1 == "law" then some "law" else none) x.1 (jb (K w.params) x.1) x.2.ps (λst=>jK g x.1 st x.2))=true:=by have:=b.1;unfold CH at this;simp only[cw]at this;exact this.2.2.1
 exists name,st,fd,F,hb,ok,r,bp,vV (fq.mp b3 (("law":Str),e) (J4 J));have r:name="law":=r.symm;subst r;refine#[fd,λs u=>.of_eq ?_,λbase _ _=>?_]
 . have:=bp [u] (by rw[hps];rfl);rw[hps]at this;exact this
 . have:=Vl (P:=l.prog) (base:=base) f kk F J ok (by rw[hps];rfl);rw[hps]at this;exact this
end D3
namespace Tp
open PySem.W PySem.Calls
theorem iw(l:List Stmt)(P:Params)(b:Addr):∀as:List Addr,(KK l as P).lookup b=if b∈as then some (((lay P l (sA P)).bt.get b).getD default)else none|[]=>rfl|a::as=>by show((a,((lay P l (sA P)).bt.get a).getD default)::KK l as P).lookup b=_;rw[iq,iw l P b as];by_cases h:b=a;{subst h;simp};have:(b==a)=false:=lr.mpr h;rw[this];simp[h]
def KK_sub(l:List Stmt)(as ts:List Addr)(P:Params)(b:Addr)(o:Obj)(h:(KK l as P).lookup b=some o):(KK l (as++ts) P).lookup b=some o:=by rw[iw]at h ⊢;split at h;{rename_i a;rw[aK (qx _ a)];exact h};cases h
def KK_nd(l:List Stmt)(as:List Addr)(P:Params)(b:Addr)(o:Obj)(h:(b,o)∈KK l as P):(KK l as P).lookup b=some o:=by rw[iw];unfold KK at h;exists a,d,e,d7.mp h;cases e;rw[aK d]
def left{p:fc}{r:OpenRow}{l:List Stmt}{as:List Addr}{c':Code}(a:behindTheImports p=l)(pre:∀(w:dh) (os:OsState),topGo treeTable p w 11 an 12 #[boot_heap w.params,#[],boot_drawn,boot_toks,os] (topStub p)=some ((sh w.params (sA w.params) 15 187 os).abs,#[denote treeTable (cd p),cd p,z0,[topFrame z0]]))(blk:∀(w:dh) (s:cc),segRun treeTable p w 11 an 1 1 s (blockOf l (ev p) (cd p) z0 [topFrame z0])=some (.next,s,cd p,z0))(run:∀(w:dh) (os:OsState),go treeTable p w 1000 l (sh w.params (sA w.params) 15 187 os) (cd p) z0=some (sh w.params (lay w.params l (sA w.params)) n k os,c',q'))(le:Nat.ble (12+(1+ns 1000 2 l)) 1000000=true)(d:opening p=plainProg p.main.scope.names)(E:∀s,fenceModules? p s=some s)(yB:∀w:dh,(λos=>((staticsOk (importedModules p.main.body) (boot_heap w.params) (H1 l n w.params)&&namesBound p (H1 l n w.params)&&gensDone (S1 l n k w.params os)&&laidKept (boot_heap w.params) (H1 l n w.params)),openSeen (vw p) (los l) (importedModules p.main.body) (xt r) true (S1 l n k w.params os),(hk l as).obs (S1 l n k w.params os)))=λ_=>(true,openGood (vw p) (los l),(hk l as).val w)):LeftO p (vw p) (los l) (xt r) (hk l as).obs (hk l as).val 1000000 :=
 LeftO.of_pieces (H₀:=boot_heap) (H₁:=H1 l n) (m₀:=11) (ann:=an) (boot_open d rfl E) An (sx a pre blk run) le yB
def head{p:OpenLaw}{l:List Stmt}{as:List Addr}{d:DefRec}(left:LeftO p.prog (vw p.prog) (los l) (xt p.row) (hk l as).obs (hk l as).val 1000000)(S:p.row.wellSaid=true)(E:defOf (vw p.prog) p.name=some (d,[]))(D:p.prog.theDef p.name=some (d.params,d.body,d.scope))(B:kwWritten? d.params.kwonlyargs d.params.kw_defaults=some [])(A:(!p.row.writes||p.row.records.isEmpty)=true)(ok:(chainsOk (vw p.prog)&&opensWell p.prog&&(frees p.row.toRowW&&p.row.within.isEmpty))=true)(o:p.prog.bare)(a:p.row.toRowW.promised)(call:WalkO (vw p.prog) (los l) (XL (vw p.prog) []) (hk l as).says p.row.toRowW d [] λf vs=>PySem.call f vs):p.row.Holds :=
 holds_open (r:=p.row) (XP:=XL (vw p.prog) []) (YP:=(hk l as).says) left (hk l as).of (hk l as).keeps (λs e=>xl_of s (Bool.and_eq_true_iff.mp e).1) XL.keeps E D B
  (λs e=>recFacts_of (Bool.and_eq_true_iff.mp e).2) A S ok o a call
end Tp
namespace D3
open PySem.Calls
noncomputable def rJ:Obj->List DictEntry|⟨.type t,none,.dict es _,S⟩=>if t="dict" /\ S.size=0 then es.toList else[]|_=>[]
def VO{o:Obj}(h:rJ o≠[]):∃es ep,o=#[.type "dict",none,.dict es ep,#[]]/\rJ o=es.toList:=by unfold rJ at h ⊢;split at h;{rename_i t es ep sl;split at h;{rename_i a;exists rfl,hs,a;obtain rfl:=Du hs;exact#[es,ep,rfl,rfl]};exact absurd rfl h};exact absurd rfl h
noncomputable def fG(K:Fg)(x:Str):List DictEntry:=match lb K x with
 |some a=>(match K.lookup a with|some o=>rJ o|none=>[])
 |none=>[]
def VP{K:Fg}(h:fG K x≠[]):∃a es ep,lb K x=some a/\K.lookup a=some #[.type "dict",none,.dict es ep,#[]]/\fG K x=es.toList:=by unfold fG at h ⊢;cases ea:lb K x with|none=>rw[ea]at h;exact absurd rfl h|some a=>rw[ea]at h;dsimp only at h ⊢;cases E:K.lookup a with|none=>rw[E]at h;exact absurd rfl h|some o=>rw[E]at h;dsimp only at h ⊢;exists es,ep,rfl,e,VO h;exact#[a,es,ep,rfl,E,e]
noncomputable def kM(P:Params):List (Str×Str)->List DictEntry->List DictEntry|(z,_)::r,⟨_,.str _ t,.ref a⟩::es=>#[PyData.keyHash P z,.str z t,.ref a]::kM P r es|_,_=>[]
noncomputable def qu(K:Fg):List (Str×Str)->List DictEntry->Bool|[],[]=>true|(_,f)::r,⟨_,.str _ _,.ref a⟩::es=>W.nsIn K mainGlobals f==some (some (.ref a))&&qu K r es|_,_=>false
theorem J5{w:dh}{K:Fg}:∀{tb:List (Str×Str)}{es:List DictEntry},es=kM w.params tb es->qu K tb es=true->j8 w K tb es|[],[],_,_=>rfl|[],_::_,e,_=>e.trans (by unfold kM;rfl)|(z,f)::r,es,e,ok=>by unfold qu at ok;split at ok;{rename_i d l;cases l};{rename_i F A B y t a es' d;cases d;rw[cw,dc]at ok;unfold kM at e;injection e with o E;exact#[t,a,es',congrArg (·::es') o,ok.1,J5 E ok.2]};cases ok
def VQ{K:Fg}:∀{tb:List (Str×Str)},tb≠[]->qu K tb []=false|[],h=>absurd rfl h|p::r,_=>by unfold qu;rfl
def J6{K:Fg}{tb:List (Str×Str)}(X:K.In h)(G:h.Ns mainGlobals mg)(e:fG K x=kM w.params tb (fG K x))(ok:qu K tb (fG K x)=true)(ne:tb≠[])(nd:(tb.map (·.1)).Nodup):i8 w K mg x tb:=by(have B:fG K x≠[]:=λz=>by rw[z,VQ ne]at ok;cases ok);have t:=J5 e ok;exists a,es,ep,ea,d,E,VP B;rw[E]at t;exact#[#[a,_,es,ep,li X G (fF ea),d,#[rfl,rfl,rfl],rfl,t],nd]
def aTZ{g:MG}{K:Params->Fg}{y d:Str}{a T:List (Str×Str)}(b:(g.G.all λx=>match x.2 with|.con (.t tb)=>(x.1==y&&tb==a)||(x.1==d&&tb==T)|_=>true)=true)(e:∀P,fG (K P) y=kM P a (fG (K P) y))(ok:∀P,qu (K P) a (fG (K P) y)=true)(e':∀P,fG (K P) d=kM P T (fG (K P) d))(o:∀P,qu (K P) T (fG (K P) d)=true)(ne:a≠[])(nd:(a.map (·.1)).Nodup)(N:T≠[])(f:(T.map (·.1)).Nodup)(w:dh)(mg:fg)(h:Heap)(X:(K w.params).In h)(G:h.Ns mainGlobals mg)(x:Str)(tb:List (Str×Str))(l:(x,GV.con (.t tb))∈g.G):i8 w (K w.params) mg x tb:=by have:=fq.mp b _ l;dsimp only at this;rw[jr,cw,cw,dc,dc,dc,dc]at this;rcases this with⟨rfl,rfl⟩|⟨rfl,rfl⟩;{exact J6 X G (e w.params) (ok w.params) ne nd};exact J6 X G (e' w.params) (o w.params) N f
end D3
namespace K46
open D3
abbrev aN(ps U:List Str)(b:List D3.S):FD:=#[ps,ps++U,b,[]]
abbrev n0:E:=.int 0
abbrev n1:E:=.int 1
abbrev n2:E:=.int 2
abbrev n7:E:=.int 7
abbrev n6:E:=.int 6
abbrev n3:E:=.int 3
abbrev sf(d:α):Option (Bool×α):=some (false,d)
abbrev si(i:Int):Option (Bool×D):=some (false,.int i)
noncomputable abbrev v0:E:=.var 0
noncomputable abbrev v1:E:=.var 1
noncomputable abbrev v2:E:=.var 2
abbrev v3:E:=.var 3
abbrev v4:E:=.var 4
abbrev v5:E:=.var 5
abbrev v6:E:=.var 6
abbrev v7:E:=.var 7
abbrev v8:E:=.var 8
abbrev v9:E:=.var 9
abbrev oz:E:=.var 10
abbrev VR:E:=.var 11
abbrev CJ:E:=.var 12
abbrev EZ:E:=.var 13
abbrev E0:E:=.var 14
abbrev J7:E:=.var 15
abbrev J8:E:=.var 16
abbrev J9:E:=.var 17
abbrev VS:E:=.var 18
abbrev X3:E:=.var 19
abbrev X4:E:=.var 20
def VT:List D3.S:=[.expr (.call "refuse_missing" 2 [v3,v1]),.expr (.call "refuse_twice" 2 [v0,v2])]
def vZ:List D3.S:=[.ite (.cmp .NotIn v4 v2) [.never] []]
def wA:List D3.S:=[.set 10 (.frz (.nget v6 (.call "values_at" 2 [v5,v8]) (.meth v0 "nought" []))),.app 7 (.tup [v8,(.frz (.meth v0 "times" [v9,(.frz (.meth v0 "lack" [oz]))]))])]
def fX:List D3.S:=[.ite (.andL [(.cmp .Gt (.bcall .len [v1]) n0),(.cmp .Eq (.ix (.ix v1 (.neg n1)) n0) v2),(.cmp .Eq (.ix (.ix v1 (.neg n1)) n1) v3)]) [.lput 1 (.neg n1) (.tup [v2,v3,(.frz (.bin .Add (.ix (.ix v1 (.neg n1)) n2) v4))])] [.app 1 (.tup [v2,v3,v4])]]
def rK:List D3.S:=[.ite (.orL [(.cmp .Eq (.bcall .len [v2]) n0),(.cmp .NotEq (.ix v2 (.neg n1)) v3)]) [.app 2 v3] []]
def fH:List D3.S:=[.set 10 (.frz (.bin .Add (.bin .FloorDiv v0 (.bin .Add n7 (.bin .Mult n6 v9))) (.bin .Mult (.int 11) v9))),.ite (.cmp .Eq v9 v5) [.set 10 (.frz (.bin .Add (.bin .FloorDiv v0 (.int 25)) v7))] [],.ite (.cmp .Eq v9 n0) [.set 8 (.frz (.bin .Add v8 (.ix v2 (.bin .Mod oz (.int 26)))))] [.set 8 (.frz (.bin .Add v8 (.ix v3 (.bin .Mod oz (.int 36)))))]]
def rL:List D3.S:=[.set 8 (.str ""),.for (.rng1 v4) (.nm 9) fH,.app 6 v8]
def rM:List D3.S:=[.set 5 (.tup [(.frz (.tcall .tuple [(.srtw v2)])),v3]),.nput 1 v5 (.bin .Add (.nget v1 v5 n0) v4)]
def wB:List D3.S:=[.set 10 (.frz (.tcall .tuple [(.us4 (.bin .Add (.tcall .list [v5]) (.tcall .list [v8])))])),.app 3 (.tup [(.frz (.tcall .tuple [(.bin .Add (.tcall .list [v4]) (.tcall .list [v7]))])),oz,(.frz (.bin .Mult v6 v9))])]
def wC:List D3.S:=[.for (.items v2) (.tp [(.nm 7),(.nm 8),(.nm 9)]) wB]
def jN:List D3.S:=[.ite (.tru (.bcall .isinstance [v2,(.ty .str)])) [.app 1 (.tup [n1,n0,v2])] [.app 1 (.tup [n0,v2,(.str "")])]]
def wD:List D3.S:=[.set 7 (.frz (.lst [(.ix v4 (.bin .Mod v6 n3)),(.ix v4 (.bin .Mod (.bin .FloorDiv v6 n3) n3)),(.ix v4 (.bin .Mod (.bin .FloorDiv v6 (.int 9)) n3))])),.cmu 5 "_law_put" 4 [v2,(.frz (.tcall .tuple [(.slice v7 none (some (.bcall .len [v1])))])),(.frz (.call "_law_note" 3 [v2,(.frz (.bin .FloorDiv v6 (.int 27))),v3]))]]
def wE:List D3.S:=[.ite (.not (.tru (.call "_law_alike" 2 [(.ix v0 v2),(.ix v1 v2)]))) [.ret (.bl false)] []]
def wF:List D3.S:=[.nput 4 v5 v6]
def oF:List D3.S:=[.set 8 (.frz (.tcall .tuple [(.comp (.ix v0 v1) (.items v2) [] [5] (.nm 1) 1)])),.ite (.nin true v8 v4) [.nput 7 v5 v6] [.ite (.cmp .Eq v3 n1) [.nput 7 v5 (.call "_law_times" 3 [v3,v6,(.tup [(.tup [(.tup []),(.tup [(.nix v4 v8)]),n1])])])] []]]
def wG:List D3.S:=[.set 2 (.frz (.meth v0 "nought" [])),.ret (.comp (.tup [v1,v2]) (.items v1) [(.cmp .NotEq v2 v0)] [2] (.tp [(.nm 1),(.nm 2)]) 2)]
def VU:List D3.S:=[.ite (.cmp .In (.ix v0 v1) (.slice v0 none (some v1))) [.never] []]
def wH:List D3.S:=[.ret (.comp (.tidx v0 v1) (.items v0) [] [1] (.nm 1) 1)]
def wI:List D3.S:=[.ret (.tcall .tuple [(.comp (.ix v0 v1) (.items v0) [] [1] (.nm 1) 1)])]
def VW:List D3.S:=[.ite (.cmp .Eq (.ix v0 n0) (.str "table")) [.ret (.tup [])] [],.ite (.cmp .In (.ix v0 n0) (.tup [(.str "join"),(.str "pour"),(.str "leave")])) [.ret (.tup [(.ix v0 n1),(.ix v0 n2)])] [],.ret (.tup [(.ix v0 n1)])]
def VX:List D3.S:=[.ite (.cmp .NotIn v0 v1) [.never] []]
def VY:List D3.S:=[.for (.enum1 v0) (.tp [(.nm 2),(.nm 3)]) VT,.retV 0]
def wJ:List D3.S:=[.asg (.tp [(.nm 2),(.nm 3)]) v1,.for (.items v3) (.nm 4) vZ,.retV 2]
def VZ:List D3.S:=[.ite (.cmp .Eq (.ix v0 n0) (.str "table")) [.ret (.call "columns_of_table" 2 [(.ix v0 n1),v1])] [],.setC 2 true (.comp (.call "columns_of" 2 [v1,v0]) (.items (.call "askings_within" 1 [v0])) [] [1] (.nm 1) 1),.set 3 (.deed "DEEDS_askings" [("pick","columns_of_pick"),("keep","columns_of_keep"),("call","columns_of_call"),("join","columns_of_join"),("pour","columns_of_pour"),("total","columns_of_total"),("leave","columns_of_leave")] (.ix v0 n0)),.ret (.callv 3 ["columns_of_pick","columns_of_keep","columns_of_call","columns_of_join","columns_of_pour","columns_of_total","columns_of_leave"] 2 [v0,v2])]
def V0:List D3.S:=[.ite (.din true v0 v1) [.never] [],.ret (.dix v1 v0)]
def Ka:List D3.S:=[.expr (.call "columns_of" 2 [v1,(.frz (.dcomp v1 (.ix (.dix v0 v1) n0) (.kkeys v2) [2] (.nm 1) 1))]),.ret (.call "answered" 3 [v0,v1,v2])]
def rO:List D3.S:=[.ite (.cmp .Eq (.ix v1 n0) (.str "table")) [.ret (.dix v2 (.ix v1 n1))] [],.ret (.call "answered_by" 3 [v0,v1,(.frz (.comp (.call "answered" 3 [v0,v2,v1]) (.items (.call "askings_within" 1 [v1])) [] [0,2] (.nm 2) 1))])]
def V1:List D3.S:=[.set 3 (.deed "DEEDS_asking" [("pick","picked"),("keep","kept_rows"),("call","called_rows"),("join","joined"),("pour","poured_rows"),("total","totals"),("leave","left_out")] (.ix v1 n0)),.ret (.callv 3 ["picked","kept_rows","called_rows","joined","poured_rows","totals","left_out"] 3 [v0,v1,v2])]
def wK:List D3.S:=[.asg (.tp [(.nm 3),(.nm 4)]) (.ix v2 n0),.set 5 (.frz (.call "places_of" 2 [(.ix (.ix v2 n1) n0),v3])),.set 6 (.ndp (.ix (.ix v2 n1) n1)),.set 7 (.lst []),.for (.items v4) (.tp [(.nm 8),(.nm 9)]) wA,.frzV 7,.ret (.tup [v3,(.frz (.tcall .tuple [(.call "without_noughts" 2 [v0,v7])]))])]
def wL:List D3.S:=[.set 1 (.lst []),.for (.items (.srtw v0)) (.tp [(.nm 2),(.nm 3),(.nm 4)]) fX,.frzV 1,.ret (.tcall .tuple [v1])]
def V2:List D3.S:=[.ret (.tup [(.frz (.tcall .tuple [(.srtw (.bin .Add (.ix v0 n0) (.ix v1 n0)))])),(.frz (.call "bars_of_both" 2 [(.ix v0 n1),(.ix v1 n1)])),(.frz (.bin .Mult (.ix v0 n2) (.ix v1 n2)))])]
def V3:List D3.S:=[.set 2 (.lst []),.for (.items (.srtw (.bin .Add v0 v1))) (.nm 3) rK,.frzV 2,.ret (.tcall .tuple [v2])]
def rP:List D3.S:=[.ite (.cmp .Lt v1 (.bcall .len [v0])) [.ret (.ix v0 v1)] [],.ret n0]
def wM:List D3.S:=[.set 2 (.str "abcdefghijklmnopqrstuvwxyz"),.set 3 (.frz (.bin .Add v2 (.str "0123456789"))),.set 4 (.frz (.bin .Add n1 (.bin .Mod v0 (.int 5)))),.set 5 (.frz (.bin .Mod (.bin .FloorDiv v0 (.int 5)) v4)),.set 6 (.lst []),.for (.rng1 v1) (.nm 7) rL,.retV 6]
def V4:List D3.S:=[.set 1 .nnew,.for (.items v0) (.tp [(.nm 2),(.nm 3),(.nm 4)]) rM,.nfrz 1,.ret (.tcall .tuple [(.srtw (.comp (.tup [(.ix v1 n0),(.ix v1 n1),(.nix v0 v1)]) (.nkeys v1) [] [1] (.nm 1) 1))])]
def wN:List D3.S:=[.ite (.cmp .Eq v0 n0) [.ret (.bin .Add v1 v2)] [],.ret (.call "_law_normal" 1 [(.frz (.bin .Add (.tcall .list [v1]) (.tcall .list [v2])))])]
def V5:List D3.S:=[.ite (.cmp .Eq v0 n0) [.ret (.bin .Mult v1 v2)] [],.set 3 (.lst []),.for (.items v1) (.tp [(.nm 4),(.nm 5),(.nm 6)]) wC,.frzV 3,.ret (.call "_law_normal" 1 [v3])]
def mM:List D3.S:=[.ite (.cmp .Eq v0 n0) [.ret (.bin .Add n1 (.bin .Mod v1 (.bin .Pow (.int 10) (.int 40))))] [],.set 3 (.tup [(.tup [(.ix v2 (.bin .Mod v1 (.int 8)))]),(.tup []),n1]),.ite (.cmp .Eq (.bin .Mod (.bin .FloorDiv v1 (.int 8)) (.int 4)) n1) [.ret (.call "_law_normal" 1 [(.frz (.lst [v3,(.tup [(.tup [(.ix v2 (.bin .Mod (.bin .FloorDiv v1 (.int 32)) (.int 8)))]),(.tup []),(.frz (.bin .Add n1 (.bin .Mod (.bin .FloorDiv v1 (.int 256)) n3)))])]))])] [],.ret (.tup [v3])]
def V6:List D3.S:=[.mput [.ite (.nin false v2 v0) [.nput 0 v2 (.call "_law_plus" 3 [v1,(.nix v0 v2),v3])] [.nput 0 v2 v3]]]
def wO:List D3.S:=[.set 1 (.lst []),.for (.items v0) (.nm 2) jN,.retV 1]
def Kb:List D3.S:=[.ret (.tup [v1,(.frz (.tcall .tuple [(.comp (.tup [v1,(.nix v0 v1)]) (.items (.srtf "_law_rank" v0)) [] [0] (.nm 1) 1)]))])]
def wP:List D3.S:=[.set 2 (.frz (.lst [(.str "x"),(.str ""),(.str "ab"),(.str "X y"),(.str "~0")])),.ret (.lst [(.frz (.bin .Sub (.bin .Mod v0 v1) (.bin .FloorDiv v1 n3))),(.frz (.bin .Mod (.bin .FloorDiv v0 n7) n3)),(.ix v2 (.bin .Mod v0 (.int 5)))])]
def Kc:List D3.S:=[.set 5 .nnew,.for (.items v0) (.nm 6) wD,.nfrz 5,.ret (.call "_law_sorted" 2 [v5,v1])]
def V7:List D3.S:=[.ite (.cmp .Is v1 .non) [.ret (.cmp .Is v0 .non)] [],.ite (.tru (.bcall .isinstance [v1,(.ty .bool)])) [.ret (.andL [(.bcall .isinstance [v0,(.ty .bool)]),(.cmp .Eq v0 v1)])] [],.ite (.tru (.bcall .isinstance [v1,(.ty .int)])) [.ret (.andL [(.bcall .isinstance [v0,(.ty .int)]),(.not (.bcall .isinstance [v0,(.ty .bool)])),(.cmp .Eq v0 v1)])] [],.ite (.tru (.bcall .isinstance [v1,(.ty .str)])) [.ret (.andL [(.bcall .isinstance [v0,(.ty .str)]),(.cmp .Eq v0 v1)])] [],.ite (.tru (.bcall .isinstance [v1,(.ty .tuple)])) [.ite (.orL [(.not (.tru (.bcall .isinstance [v0,(.ty .tuple)]))),(.cmp .NotEq (.bcall .len [v0]) (.bcall .len [v1]))]) [.ret (.bl false)] []] [.ite (.orL [(.not (.tru (.bcall .isinstance [v0,(.ty .list)]))),(.cmp .NotEq (.bcall .len [v0]) (.bcall .len [v1]))]) [.ret (.bl false)] []],.for (.rng1 (.bcall .len [v1])) (.nm 2) wE,.ret (.bl true)]
def Ke:List D3.S:=[.set 4 .nnew,.for (.items (.ix v1 n1)) (.tp [(.nm 5),(.nm 6)]) wF,.nfrz 4,.set 7 .nnew,.for (.items (.ix v0 n1)) (.tp [(.nm 5),(.nm 6)]) oF,.nfrz 7,.ret (.call "_law_sorted" 2 [v7,(.ix v0 n0)])]
def gJ:List D3.S:=[.set 1 (.frz (.bin .Mod (.call "_law_cell_at" 2 [v0,n0]) n2)),.set 2 (.frz (.call "_law_names" 2 [(.frz (.call "_law_cell_at" 2 [v0,n1])),(.int 8)])),.set 3 (.frz (.call "_law_pool" 2 [(.frz (.call "_law_cell_at" 2 [v0,n2])),(.frz (.bin .Pow (.int 10) (.int 50)))])),.set 4 (.frz (.call "_law_cell_at" 2 [v0,n3])),.set 5 (.frz (.tcall .tuple [(.slice v2 none (some n3))])),.setC 6 true (.comp (.bin .Mod (.bin .Add v0 (.bin .Mult v1 (.bin .Add n1 (.bin .Mod (.bin .FloorDiv v0 n3) n2)))) n3) (.rng1 (.bin .Mod (.bin .FloorDiv v4 n6) (.int 4))) [] [4] (.nm 1) 1),.set 7 (.frz (.tcall .tuple [(.comp (.ix v0 v1) (.items v6) [] [5] (.nm 1) 1)])),.set 8 (.frz (.slice v0 (some (.int 5)) (some (.int 45)))),.set 9 (.frz (.bin .Mod (.bin .FloorDiv (.call "_law_cell_at" 2 [v0,(.int 4)]) n2) (.bin .Add (.bcall .len [v8]) n1))),.set 10 (.frz (.slice v8 none (some v9))),.set 11 (.frz (.slice v8 (some v9) none)),.ite (.cmp .Eq (.bin .Mod (.call "_law_cell_at" 2 [v0,(.int 4)]) n2) n1) [.setC 10 true (.comp (.ix v0 v1) (.rng1 (.bcall .len [v8])) [(.cmp .Eq (.bin .Mod v1 n2) n0)] [8] (.nm 1) 1),.setC 11 true (.comp (.ix v0 v1) (.rng1 (.bcall .len [v8])) [(.cmp .Eq (.bin .Mod v1 n2) n1)] [8] (.nm 1) 1)] [],.set 12 (.frz (.call "_law_made" 5 [oz,v5,v1,v2,v3])),.set 13 (.frz (.call "_law_made" 5 [VR,v7,v1,v2,v3])),.set 14 (.disp [(.ix v2 n6),(.ix v2 n7)] [CJ,EZ]),.nfrz 14,.set 15 (.frz (.mk0 "Counts")),.ite (.cmp .Eq v1 n1) [.set 15 (.frz (.mk0 "Reasons"))] [],.set 16 (.tup [(.str "leave"),(.tup [(.str "table"),(.ix v2 n6)]),(.tup [(.str "table"),(.ix v2 n7)])]),.set 17 (.frz (.call "_law_left" 4 [CJ,EZ,v6,v1])),.ite (.not (.tru (.call "_law_alike" 2 [(.frz (.call "ask" 3 [J7,J8,E0])),J9]))) [.ret (.bl false)] [],.set 18 (.tup [(.str "leave"),(.tup [(.str "table"),(.ix v2 n6)]),J8]),.ite (.not (.tru (.call "_law_alike" 2 [(.frz (.call "ask" 3 [J7,VS,E0])),(.frz (.call "_law_left" 4 [CJ,J9,(.frz (.lst [n0,n1,n2])),v1]))]))) [.ret (.bl false)] [],.ret (.deqC E0 (.disp [(.ix v2 n6),(.ix v2 n7)] [CJ,EZ]))]
def V8:List D3.S:=[.ite (.cmp .Eq v1 (.meth v0 "nought" [])) [.ret (.meth v0 "one" [])] [],.ret (.meth v0 "nought" [])]
def V9:List D3.S:=[.ret n0]
def Wa:List D3.S:=[.ret n1]
def Wb:List D3.S:=[.ret (.bin .Mult v1 v2)]
def Wc:List D3.S:=[.ret (.tup [])]
def Wd:List D3.S:=[.ret (.tup [(.tup [(.tup []),(.tup []),n1])])]
def We:List D3.S:=[.ret (.call "reason_of" 1 [(.frz (.comp2 (.call "term_of_both" 2 [v1,v2]) (.items v1) (.items v0) [] [2]))])]
def Wf:List D3.S:=[.ite (.cmp .Eq v1 (.tup [])) [.ret (.meth v0 "one" [])] [],.ret (.tup [(.tup [(.tup []),(.tup [v1]),n1])])]
def wQ:FD:=aN ["kind","pairs"] ["nought"] wG
def Wg:FD:=aN ["columns","at"] [] VU
def Kg:FD:=aN ["wanted","columns"] [] wH
def Kh:FD:=aN ["places","row"] [] wI
def Ki:FD:=aN ["asking"] [] VW
def Wh:FD:=aN ["column","columns"] [] VX
def Wi:FD:=aN ["columns","within"] ["at","column"] VY
def Kj:FD:=aN ["asking","within"] ["one","other","column"] wJ
def wR:FD:=aN ["asking","shapes"] ["within","deed"] VZ
def Kk:FD:=aN ["name","shapes"] [] V0
def Kl:FD:=aN ["kind","asking","store"] [] Ka
def wS:FD:=aN ["kind","asking","store"] [] rO
def Km:FD:=aN ["kind","asking","within"] ["deed"] V1
def Kn:FD:=aN ["kind","asking","within"] ["columns","pairs","places","notes","found","row","note","other"] wK
def Ko:FD:=aN ["terms"] ["found","facts","bars","times"] wL
def Kp:FD:=aN ["one","other"] [] V2
def wT:FD:=aN ["one","other"] ["found","bar"] V3
def Kq:FD:=aN ["_law_script","_law_k"] [] rP
def Kr:FD:=aN ["_law_cell","_law_many"] ["_law_letters","_law_signs","_law_size","_law_at","_law_names_here","_law_k","_law_name","_law_j","_law_drift"] wM
def Ks:FD:=aN ["_law_terms"] ["_law_known","_law_facts","_law_bars","_law_times_here","_law_stem"] V4
def wU:FD:=aN ["_law_way","_law_a","_law_b"] [] wN
def Kt:FD:=aN ["_law_way","_law_a","_law_b"] ["_law_terms","_law_facts","_law_bars","_law_times_here","_law_others","_law_more","_law_often","_law_barred"] V5
def rQ:FD:=aN ["_law_way","_law_cell","_law_names_here"] ["_law_one"] mM
def Ku:FD:=aN ["_law_known","_law_way","_law_row","_law_note_here"] [] V6
def Kv:FD:=aN ["_law_row"] ["_law_ranks","_law_value"] wO
def Kw:FD:=aN ["_law_known","_law_columns"] [] Kb
def Kx:FD:=aN ["_law_cell","_law_big"] ["_law_words"] wP
def Kz:FD:=aN ["_law_cells","_law_columns","_law_way","_law_names_here","_law_pool_here"] ["_law_known","_law_cell","_law_row"] Kc
def rR:FD:=aN ["_law_found","_law_due"] ["_law_k"] V7
def KA:FD:=aN ["_law_one","_law_other","_law_places","_law_way"] ["_law_there","_law_row","_law_note_here","_law_known","_law_values"] Ke
def wV:FD:=aN ["_law_script"] ["_law_way","_law_names_here","_law_pool_here","_law_cell","_law_columns","_law_places","_law_others","_law_cells","_law_cut","_law_mine","_law_yours","_law_one","_law_other","_law_store","_law_kind","_law_asking","_law_left_here","_law_again"] gJ
def wW:FD:=aN ["self","a"] [] V8
def wX:FD:=aN ["self"] [] V9
def KB:FD:=aN ["self"] [] Wa
def KE:FD:=aN ["self","a","b"] [] Wb
def KF:FD:=aN ["self"] [] Wc
def KG:FD:=aN ["self"] [] Wd
def KH:FD:=aN ["self","a","b"] [] We
def wY:FD:=aN ["self","a"] [] Wf
def Wj:CI:=#["Kind",["Kind"],[],[("lack","Kind.lack",2)]]
def Wl:CI:=#["Counts",["Counts","Kind"],[],[("nought","Counts.nought",1),("one","Counts.one",1),("plus","Counts.plus",3),("times","Counts.times",3),("many","Counts.many",3),("lack","Kind.lack",2)]]
def Wm:CI:=#["Reasons",["Reasons","Kind"],[],[("nought","Reasons.nought",1),("one","Reasons.one",1),("plus","Reasons.plus",3),("times","Reasons.times",3),("lack","Reasons.lack",2),("many","Reasons.many",3)]]
abbrev X5(s:Str)(d:FD):Str×FD:=(s,d)
abbrev X6(s:Str)(d:GV):Str×GV:=(s,d)
def T:List (Str×FD):=(List.append [("is_whole",aN ["thing"] [] [.never]),("is_name",aN ["thing"] [] [.never,.never,.never]),("is_name_sign",aN ["sign"] [] [.never]),("is_rising",aN ["things"] [] [.never]),("poured",aN ["kind","notes"] ["sums","halves"] [.never,.never,.never,.never]),("poured_groups",aN ["kind","groups"] ["sums"] [.never,.never]),("without_noughts",wQ),("rank",aN ["value"] [] [.never,.never]),("rank_of_row",aN ["row"] [] [.never]),("gathered",aN ["kind","pairs"] ["groups","row","note"] [.never,.never,.never]),("refuse_twice",Wg),("places_of",Kg),("values_at",Kh),("passes",aN ["test","columns","row"] ["word","one","other"] [.never,.never,.never,.never,.never,.never,.never,.never]),("value_of",aN ["part","columns","row"] [] [.never,.never]),("columns_in",aN ["test"] ["word"] [.never,.never,.never,.never]),("askings_within",Ki),("refuse_missing",Wh),("columns_of_pick",aN ["asking","within"] ["column"] [.never,.never]),("kept",Wi),("columns_of_keep",aN ["asking","within"] [] [.never]),("totalled",aN ["column","columns","within"] [] [.never,.never]),("columns_of_total",aN ["asking","within"] [] [.never]),("columns_of_call",aN ["asking","within"] ["columns","at"] [.never,.never,.never,.never]),("columns_of_join",aN ["asking","within"] ["one","other"] [.never,.never]),("columns_of_pour",aN ["asking","within"] ["one","other"] [.never,.never,.never]),("columns_of_leave",Kj),("columns_of",wR)] (List.append [("columns_of_table",Kk),("ask",Kl),("answered",wS),("answered_by",Km),("picked",aN ["kind","asking","within"] ["columns","pairs"] [.never,.never]),("kept_rows",aN ["kind","asking","within"] ["columns","pairs","places"] [.never,.never,.never]),("called_rows",aN ["kind","asking","within"] [] [.never]),("joined",aN ["kind","asking","within"] ["one","other","columns","shared","beside","places","found","row","note","rest","factor"] [.never,.never,.never,.never,.never,.never,.never,.never]),("rows_by",aN ["shared","places","some"] ["at","groups","row","note"] [.never,.never,.never,.never]),("poured_rows",aN ["kind","asking","within"] [] [.never]),("totals",aN ["kind","asking","within"] ["columns","pairs","at","places","found"] [.never,.never,.never,.never,.never]),("said",aN ["value"] [] [.never,.never]),("left_out",Kn),("reason_of",Ko),("term_of_both",Kp),("bars_of_both",wT),("is_reason",aN ["thing"] ["term"] [.never,.never,.never]),("is_term",aN ["thing"] ["facts","bars","times"] [.never,.never,.never,.never]),("is_facts",aN ["thing"] [] [.never,.never]),("is_bars",aN ["thing"] ["bar"] [.never,.never,.never]),("shown_reason",aN ["reason"] ["texts","facts","bars","times","factors","bar"] [.never,.never,.never,.never]),("_law_cell_at",Kq),("_law_names",Kr),("_law_normal",Ks),("_law_plus",wU),("_law_times",Kt),("_law_note",rQ),("_law_put",Ku)] [("_law_rank",Kv),("_law_sorted",Kw),("_law_pool",Kx),("_law_made",Kz),("_law_alike",rR),("_law_left",KA),("law",wV),("Kind.lack",wW),("Counts.nought",wX),("Counts.one",KB),("Counts.plus",aN ["self","a","b"] [] [.never]),("Counts.times",KE),("Counts.many",aN ["self","n","a"] [] [.never]),("Reasons.nought",KF),("Reasons.one",KG),("Reasons.plus",aN ["self","a","b"] [] [.never]),("Reasons.times",KH),("Reasons.lack",wY),("Reasons.many",aN ["self","n","a"] [] [.never,.never])]))
def TT:TB:=#[T,[],[Wj,Wl,Wm],[],[]]
abbrev okf(d:D):Res:=.ok .fz d
noncomputable abbrev Wk(k:Nat):WD:=WT TT k
noncomputable def GG:MG:=#[(List.append [("Counts",.cls),("DEEDS_asking",.con (.t [("pick","picked"),("keep","kept_rows"),("call","called_rows"),("join","joined"),("pour","poured_rows"),("total","totals"),("leave","left_out")])),("DEEDS_askings",.con (.t [("pick","columns_of_pick"),("keep","columns_of_keep"),("call","columns_of_call"),("join","columns_of_join"),("pour","columns_of_pour"),("total","columns_of_total"),("leave","columns_of_leave")])),("Reasons",.cls),("_law_alike",.fn 2),("_law_cell_at",.fn 2),("_law_left",.fn 4),("_law_made",.fn 5),("_law_names",.fn 2),("_law_normal",.fn 1),("_law_note",.fn 3),("_law_plus",.fn 3),("_law_pool",.fn 2),("_law_put",.fn 4),("_law_rank",.fn 1),("_law_sorted",.fn 2),("_law_times",.fn 3),("answered",.fn 3),("answered_by",.fn 3),("ask",.fn 3),("askings_within",.fn 1),("bars_of_both",.fn 2),("bool",.no),("called_rows",.fn 3),("columns_of",.fn 2),("columns_of_call",.fn 2),("columns_of_join",.fn 2),("columns_of_keep",.fn 2)] (List.append [("columns_of_leave",.fn 2),("columns_of_pick",.fn 2),("columns_of_pour",.fn 2),("columns_of_table",.fn 2),("columns_of_total",.fn 2),("dict",.no),("enumerate",.no),("int",.no),("isinstance",.no),("joined",.fn 3),("kept_rows",.fn 3),("left_out",.fn 3),("len",.no),("list",.no),("picked",.fn 3),("places_of",.fn 2),("poured_rows",.fn 3),("range",.no),("reason_of",.fn 1),("refuse_missing",.fn 2),("refuse_twice",.fn 2),("set",.no),("sorted",.no),("str",.no),("term_of_both",.fn 2),("totals",.fn 3),("tuple",.no),("values_at",.fn 2)] [("without_noughts",.fn 2)])),["Counts","Reasons"],[],[],[],[],[],[]]
def top(i:Nat):Stmt:=du.main.body.getD i (.Pass #[0,0,0,0])
abbrev wZ:Stmt:=top 84
def gK{m:Md}{i:Int}{d:D}(h:atI ds i=some d):cu fm (.ok m (.lst ds)) (.ok m' (.int i))=okf d:=bI (by show(atI ds i).map _=_;rw[h];rfl)
def dL{m:Md}{i:Int}{d:D}(h:atI ds i=some d):cu fm (.ok m (.tup ds)) (.ok m' (.int i))=okf d:=bI (by show(atI ds i).map _=_;rw[h];rfl)
theorem w4(U:List α)(v:Int)(n:Int)(hn:n=U.length)(h:0<n):∃c,c∈U/\atI U (v % n)=some c:=by have h0:=ud v (show n≠0 by lia);(have f:=vr v h;exists j,d,rr h0;have a:j<U.length:=by lia);exact#[U[j],sb a,by rw[d];exact c9 (gm a)]
inductive Pl:Nat->D->Prop where
 |int {n:_} (i:Int):Pl n (.int i)
 |str {n:_} (s:Str):Pl n (.str s)
 |tup {n:_}{ds:List D} (h:∀d∈ds,Pl n d) (hl:ds.length<=999):Pl (n+1) (.tup ds)
theorem Pl.mono{d:D}(h:Pl n d):∀{N:Nat},n<=N->Pl N d:=by induction h with|int b=>intro _ _;exact .int b|str b=>intro _ _;exact .str b|tup _ f a=>intro N hn;cases N with|zero=>lia|succ N=>exact .tup (λd hd=>a d hd (by lia)) f
def KI{x:D}(f:Pl n x)(a:Pl n y):Pl (n+1) (.tup [x,y]):=.tup (λd hd=>by
 simp only[dq,rj,jy]at hd;rcases hd with rfl|rfl
 . exact f
 . exact a) (show 2<=999 by decide)
theorem KJ:∀{n:Nat} (ds:List D),(∀d∈ds,∃p,aS d=some p/\p.depth<=n)->∃ps,cG ds=some ps/\PyData.depthAll ps<=n|n,[],_=>#[[],by simp[cG],by simp[PyData.depthAll]]|n,d::ds,h=>by exists p,e,l,h d c6;exists ps,E,L,KJ ds λx a=>h x (df a);exact#[p::ps,by simp[cG,e,E],by simp only[PyData.depthAll];lia]
theorem rS{d:D}(h:Pl n d):∃p,aS d=some p/\p.depth<=n:=by induction h with|int b=>exact#[.int b,by simp[aS],by simp[PyData.depth]]|str b=>exact#[.str b,by simp[aS],by simp[PyData.depth]]| @tup n ds h f a=>exists ps,e,l,KJ ds a;exact#[.tuple ps,by simp[aS,e],by simp only[PyData.depth];lia]
def gz(x y:D):Bool:=match aS x,aS y with|some p,some q=>PyData.eqv p q|_,_=>false
theorem KL{x:D}{m:Md}(d:Pl n x)(a:Pl n y)(hn:n<=50):ki neg m x m' y=some (.fz,.bl (if neg then !gz x y else gz x y)):=by exists p,ep,L,rS d;exists q,eq,l,rS a;unfold ki gz;rw[ep,eq];dsimp only;rw[aK (by unfold fM;rw[cw,fw,fw];lia)]
def KP{x:D}{m:Md}(d:Pl n x)(a:Pl n y)(hn:n<=50):cu (bA .Eq) (.ok m x) (.ok m' y)=okf (.bl (gz x y)):=bI (by
 show im (ki false) _ m x m' y=_;unfold im;rw[KL d a hn];rfl)
def KQ{x:D}{m:Md}(d:Pl n x)(a:Pl n y)(hn:n<=50):cu (bA .NotEq) (.ok m x) (.ok m' y)=okf (.bl (!gz x y)):=bI (by
 show im (ki true) _ m x m' y=_;unfold im;rw[KL d a hn];rfl)
def Wn{U:List (Md×D)}{d:D}(a:ds.length=n)(f:cY U=some ds)(h:Φ ds=.ok .fr d):aW n Φ (.ok U)=.ok .fr d:=by(show(match cY U with|some ds=>if ds.length=n then(match Φ ds with|.ok .bo _=>Res.stuck|r=>r)else .stuck|none=>.stuck)=_);rw[f];show(if ds.length=n then _ else _)=_;rw[aK a,h]
def rT{a b d:D}(h:Φ [a,b]=.ok .fr d):aW 2 Φ (.ok [(.fz,a),(.fz,b)])=.ok .fr d:=Wn (ds:=[a,b]) rfl rfl h
def Az{m:Md}{x:D}:cu fm (.ok m (.tup [x,y])) (.ok m' (.int 0))=okf x:=dL rfl
def AA{m:Md}{x:D}:cu fm (.ok m (.tup [x,y])) (.ok m' (.int 1))=okf y:=dL rfl
def oG{m:Md}{x z:D}:cu fm (.ok m (.tup [x,y,z])) (.ok m' (.int 0))=okf x:=dL rfl
def oH{m:Md}{x z:D}:cu fm (.ok m (.tup [x,y,z])) (.ok m' (.int 1))=okf y:=dL rfl
def oJ{m:Md}{x z:D}:cu fm (.ok m (.tup [x,y,z])) (.ok m' (.int 2))=okf z:=dL rfl
def AB:fL (.ok [])=okf (.tup []):=rfl
def AC{x:D}:fL (.ok [(.fz,x)])=okf (.tup [x]):=rfl
def iR{x z:D}:fL (.ok [(.fz,x),(.fz,y),(.fz,z)])=okf (.tup [x,y,z]):=rfl
def ez{f:Str}{d:FD}{m:Md}{v:D}(h:TT.T.lookup f=some d)(a:ds.length=d.ps.length)(l:cz (Wk k) d.b (eY d.N.length ds)=.rt m v):(Wk (k+1)).Φ f ds=.ok m v:=by rw[EO h];exact VG a l
theorem w6{α:Type}{enc:α->D}{p:α->Bool}{g:α->D}{k:D->Rho->Option Rho}{t e:Rho->Res}{a:Rho}:∀{U:List α},(∀x∈U,∃ρ1 m,k (enc x) a=some ρ1/\t ρ1=.ok m (.bl (p x))/\(p x=true->∃m',aM (e ρ1)=.ok m' (g x)))->cZ k t e a (U.map enc)=some ((U.filter p).map g)|[],_=>rfl|x::U,h=>by exists ρ1,m,o,l,E,h x c6;have d:=w6 λy f=>h y (df f);rw[dw];unfold cZ;rw[o];dsimp only;rw[l];cases q:p x with|true=>exists m',E,E q;simp[E,d,Dv,q]|false=>simp[d,Dv,q]
def rV{enc:α->D}(p:α->Bool)(g:α->D){k:D->Rho->Option Rho}{t e:Rho->Res}{m:Md}{U:List α}(a:U.length<sizeLine)(h:∀x∈U,∃ρ1 m,k (enc x) (cA aC Y++List.replicate n none)=some ρ1/\t ρ1=.ok m (.bl (p x))/\(p x=true->∃m',aM (e ρ1)=.ok m' (g x))):cF (.ok m (.lst (U.map enc))) Y aC n k t e=.ok .fr (.lst ((U.filter p).map g)):=by unfold cF;rw[Res.thn_ok];dsimp only;rw[aK (by simpa using a),w6 h]
def mN{enc:α->D}(g:α->D){k:D->Rho->Option Rho}{t e:Rho->Res}{m:Md}{U:List α}(d:U.length<sizeLine)(h:∀x∈U,∃ρ1 m,k (enc x) (cA aC Y++List.replicate n none)=some ρ1/\t ρ1=.ok m (.bl true)/\∃m',aM (e ρ1)=.ok m' (g x)):cF (.ok m (.lst (U.map enc))) Y aC n k t e=.ok .fr (.lst (U.map g)):=by(have:=rV (enc:=enc) (λ_=>true) g (Y:=Y) (aC:=aC) (n:=n) (k:=k) (t:=t) (e:=e) (m:=m) d λx a=>by exists ρ1,m,l,f,E,h x a;exact#[ρ1,m,l,f,λ_=>E]);rw[this,List.filter_eq_self.mpr λ_ _=>rfl]
theorem up{m:Nat}(h:n<m):∃k,m=k+1:=#[m-1,by lia]
def cL{d:D}{as:List (Md×D)}:aU (okf d) (.ok as)=.ok ((.fz,d)::as):=rfl
section
variable{W:WD}{s:D3.S}{r a b:List D3.S}{x:aI}{e c:E}{m:Md}{d:D}{l:List D}
def cy(h:ff W s Y=.nx ρ')(f:cz W r ρ'=x):cz W (s::r) Y=x:=by rw[rF h];exact f
def oI(h:ff W s Y=.rt m d):cz W (s::r) Y=.rt m d:=by rw[kK,h];rfl
def bB(h:br W e Y=okf d):cz W [.ret e] Y=.rt .fz d:=by rw[kK,IV,h];rfl
def w8(h:br W e Y=.ok .fr d):cz W [.ret e] Y=.rt .fr d:=by rw[kK,IV,h];rfl
def bT(h:br W c Y=.ok m (.bl false))(f:cz W b Y=x):ff W (.ite c a b) Y=x:=by rw[IW,h,Ag,f]
def eS(h:br W c Y=.ok m (.bl true))(f:cz W a Y=x):ff W (.ite c a b) Y=x:=by rw[IW,h,Af,f]
def eU(h:br W e Y=.ok m (.lst l)):br W (.tcall .tuple [e]) Y=okf (.tup l):=by show dP _ (aU (br W e Y) (.ok []))=_;rw[h];rfl
end
def AD{W:WD}{e:E}{m:Md}{d:D}(a:m ≠ .bo)(h:br W e Y=.ok m d):br W (.frz e) Y=okf d:=by show aM (br W e Y)=_;rw[h];cases m with|bo=>exact absurd rfl a|_=>rfl
def bJ{W:WD}{e:E}{d:D}(h:br W e Y=okf d):br W (.frz e) Y=okf d:=AD (by decide) h
def gM{W:WD}{e:E}{d:D}(h:br W e Y=.ok .fr d):br W (.frz e) Y=okf d:=AD (by decide) h
def cB{W:WD}{e:E}{d:D}(h:br W e Y=okf d):ff W (.set i e) Y=.nx (Y.set i (sf d)):=by rw[vM,h];rfl
def c1{W:WD}{f:Str}{e:E}{x d:D}(h:br W e Y=okf x)(a:W.Φ f [x]=okf d):br W (.call f 1 [e]) Y=okf d:=by show aW 1 (W.Φ f) (aU (br W e Y) (.ok []))=_;rw[h];exact fV a
def rW{W:WD}{a:E}{x:D}(d:br W a Y=okf x):br W (.tup [a]) Y=okf (.tup [x]):=by show fL (aU (br W a Y) (.ok []))=_;rw[d];rfl
def jO{W:WD}{a b:E}{x:D}(f:br W a Y=okf x)(d:br W b Y=okf y):br W (.tup [a,b]) Y=okf (.tup [x,y]):=by show fL (aU (br W a Y) (aU (br W b Y) (.ok [])))=_;rw[f,d];rfl
def mO{W:WD}{a b c:E}{x z:D}(l:br W a Y=okf x)(f:br W b Y=okf y)(d:br W c Y=okf z):br W (.tup [a,b,c]) Y=okf (.tup [x,y,z]):=by show fL (aU (br W a Y) (aU (br W b Y) (aU (br W c Y) (.ok []))))=_;rw[l,f,d];rfl
def AE{W:WD}{f:Str}{a b c:E}{x z:D}{r:Res}(A:br W a Y=okf x)(o:br W b Y=okf y)(l:br W c Y=okf z)(d:aW 3 (W.Φ f) (.ok [(.fz,x),(.fz,y),(.fz,z)])=r):br W (.call f 3 [a,b,c]) Y=r:=by show aW 3 (W.Φ f) (aU (br W a Y) (aU (br W b Y) (aU (br W c Y) (.ok []))))=_;rw[A,o,l];exact d
def nl{W:WD}{f:Str}{a b:E}{x:D}{r:Res}(o:br W a Y=okf x)(l:br W b Y=okf y)(d:aW 2 (W.Φ f) (.ok [(.fz,x),(.fz,y)])=r):br W (.call f 2 [a,b]) Y=r:=by show aW 2 (W.Φ f) (aU (br W a Y) (aU (br W b Y) (.ok [])))=_;rw[o,l];exact d
def KR{W:WD}{f:Str}{a b c d e:E}{x z u v:D}{r:Res}(G:br W a Y=okf x)(F:br W b Y=okf y)(B:br W c Y=okf z)(A:br W d Y=okf u)(o:br W e Y=okf v)(l:aW 5 (W.Φ f) (.ok [(.fz,x),(.fz,y),(.fz,z),(.fz,u),(.fz,v)])=r):br W (.call f 5 [a,b,c,d,e]) Y=r:=by show aW 5 (W.Φ f) (aU (br W a Y) (aU (br W b Y) (aU (br W c Y) (aU (br W d Y) (aU (br W e Y) (.ok []))))))=_;rw[G,F,B,A,o];exact l
def rX{W:WD}{e:E}{m:Md}{d:D}(j:Nat)(h:br W e Y=.ok m (.lst ds))(hd:ds[j]? = some d):br W (.ix e (.int (j:Int))) Y=okf d:=by show cu fm (br W e Y) (okf (.int j))=_;rw[h];exact gK (c9 hd)
def cE{W:WD}{e:E}{m:Md}{y:Str}{b:Bool}(h:br W e Y=.ok m (.str x))(a:(x==y)=b):br W (.cmp .Eq e (.str y)) Y=okf (.bl b):=by show cu (bA .Eq) (br W e Y) (okf (.str y))=_;rw[h];subst a;simp
theorem rY{k:D->Rho->Option Rho}{body:Rho->aI}(I:Nat->Rho->Prop):∀(ds:List D) (i:Nat) {Y:Rho},(∀j d,ds[j]? = some d->∀Y,I (i+j) Y->∃ρ1 a,k d Y=some ρ1/\body ρ1=.nx a/\I (i+j+1) a)->I i Y->∃ρ',bH k body ds Y=.nx ρ'/\I (i+ds.length) ρ'
 |[],i,Y,_,h=>#[Y,rfl,h]|d::ds,i,Y,hs,h=>by
  exists ρ1,a,A,r,o,hs 0 d rfl Y h;exists ρ',E,l,rY (k:=k) (body:=body) I ds (i+1) (λj d hd Y f=>by
   have:=hs (j+1) d (by rw[List.getElem?_cons_succ];exact hd) Y (by rw[show i+(j+1)=i+1+j by lia];exact f)
   rw[show i+(j+1)+1=i+1+j+1 by lia]at this
   exact this) o
  refine#[ρ',?_,by rw[show i+(d::ds).length=i+1+ds.length by rw[gg];lia];exact l]
  unfold bH;rw[A];dsimp only;rw[r];exact E
theorem xA{d:D}(h:(cC 0 (n:Int))[j]? = some d):j<n/\d=.int (j:Int):=by simp only[cC,h7]at h;by_cases a:j<n;{refine#[a,?_];rw[Bw (by lia)]at h;simp at h;exact h.symm};rw[BL (by simp;lia)]at h;cases h
def KS(n:Nat):(cC 0 (n:Int)).length=n:=by simp[cC]
def AF{W:WD}{a b:E}{x:Bool}(f:br W a Y=okf (.bl true))(d:br W b Y=okf (.bl x)):br W (.andL [a,b]) Y=okf (.bl x):=by rw[IA,vL,IT,f,d];rfl
def AG{W:WD}{a b c:E}{x:Bool}(l:br W a Y=okf (.bl true))(f:br W b Y=okf (.bl true))(d:br W c Y=okf (.bl x)):br W (.andL [a,b,c]) Y=okf (.bl x):=by rw[IA,vL,vL,IT,l,f,d];rfl
def KU{W:WD}{c:E}{b:Bool}(h:br W c Y=okf (.bl b)):fu W [c] Y=okf (.bl b):=by show eX (br W c Y) (okf (.bl true))=_;rw[h];cases b <;> rfl
structure KO(Kd No:D)(Ok:D->Prop)(pl:D->D->D):Prop where
 nought:∀k,eE TT.cl (Wk (k+1)).Φ "nought" (okf Kd) (.ok [])=okf No
 okn:Ok No
 okp:∀a b,Ok a->Ok b->Ok (pl a b)
 assoc:∀a b c,Ok a->Ok b->Ok c->pl (pl a b) c=pl a (pl b c)
 left:∀a,Ok a->pl No a=a
 plain:∀a,Ok a->Pl 8 a
section
variable{Ok:D->Prop}
theorem KO.okf(K:KO Kd No Ok pl):∀(l:List D) (x:D),Ok x->(∀d∈l,Ok d)->Ok (l.foldl pl x)|[],_,h,_=>h|a::l,x,h,f=>K.okf l _ (K.okp _ _ h (f a c6)) λd hd=>f d (df hd)
end
section
variable{Ok:D->Prop}
abbrev enc(e:N×D):D:=.tup [nD e.1,e.2]
theorem without(K:KO Kd No Ok pl)(k:Nat){es:List (N×D)}(l:es.length<=1000)(h:∀e∈es,Ok e.2):(Wk (k+2)).Φ "without_noughts" [Kd,.lst (es.map enc)]=.ok .fr (.lst ((es.filter λe=>!gz e.2 No).map enc)):=by(have f:sizeLine=16777216:=dz;refine ez (d:=wQ) rfl rfl ?_;show cz _ wG [sf Kd,sf (.lst (es.map enc)),none]=_;have n1:=K.nought k;have c1:cF (okf (.lst (es.map enc))) [sf Kd,sf (.lst (es.map enc)),sf No] [2] 2 (aO (.tp [.nm 1,.nm 2])) (λY=>fu (Wk (k+1)) [(.cmp .NotEq v2 v0)] Y) (λY=>br (Wk (k+1)) (.tup [v1,v2]) Y)=.ok .fr (.lst ((es.filter λe=>!gz e.2 No).map enc)):=by refine rV (enc:=enc) (λe=>!gz e.2 No) enc (by lia) λe a=>?_;have ne:cu (bA .NotEq) (okf e.2) (okf No)=okf (.bl (!gz e.2 No)):=KQ (K.plain _ (h e a)) (K.plain _ K.okn) (by decide);refine#[[sf No,sf (nD e.1),sf e.2],.fz,rfl,?_,λ_=>#[.fz,rfl]];exact KU ne);exact cy (cB (bJ (by rw[iP,iQ];exact n1))) (w8 (by rw[iO];exact c1))
end
def g9{k:D->Rho->Option Rho}{body:Rho->aI}{d:D}{ρ1 a:Rho}(l:k d Y=some ρ1)(f:body ρ1=.nx a):bH k body (d::ds) Y=bH k body ds a:=by(conv=>lhs;unfold bH);rw[l];dsimp only;rw[f]
inductive dM:N->Prop
 |i (n:Int):dM (.i n)
 |s (x:Str):dM (.s x)
def rk:N->N|.i n=>.t [.i 0,.i n,.s ""]|.s x=>.t [.i 1,.i 0,.s x]|.t ks=>.t ks
def uu:N->N|.t vs=>.t (vs.map rk)|k=>k
theorem KW(W:WD){A:Option (Bool×D)}:∀(vs a:List N) (x:Option (Bool×D)),(∀v∈vs,dM v)->a.length+vs.length<=10->∃y,bH (aO (.nm 2)) (cz W jN) (vs.map nD) [A,some (true,.lst (a.map nD)),x]=.nx [A,some (true,.lst ((a++vs.map rk).map nD)),y]|[],a,x,_,_=>#[x,by simp[bH]]|v::vs,a,x,h,d=>by(have r:sizeLine=16777216:=dz;have d:a.length+(vs.length+1)<=10:=d;have l:a.length<sizeLine:=by lia);(have B:cz W jN [A,some (true,.lst (a.map nD)),sf (nD v)]=.nx [A,some (true,.lst ((a++[rk v]).map nD)),sf (nD v)]:=by(have e:(a++[rk v]).map nD=a.map nD++[nD (rk v)]:=by simp);rw[e];cases h v c6 with|i n=>have i1:lF [(.fz,.int n),(.fz,.ty Ty.str.id)]=some (.fz,.bl false):=rfl;show cz W jN [A,some (true,.lst (a.map nD)),sf (.int n)]=.nx [A,some (true,.lst (a.map nD++[.tup [.int 0,.int n,.str ""]])),sf (.int n)];unfold jN;simp[Bn.f,i1,cL,iR,eZ,aM,l]|s y=>have i1:lF [(.fz,.str y),(.fz,.ty Ty.str.id)]=some (.fz,.bl true):=rfl;show cz W jN [A,some (true,.lst (a.map nD)),sf (.str y)]=.nx [A,some (true,.lst (a.map nD++[.tup [.int 1,.int 0,.str y]])),sf (.str y)];unfold jN;simp[Bn.f,i1,cL,iR,eZ,aM,l]);rw[dw,g9 (show aO (.nm 2) (nD v) [A,some (true,.lst (a.map nD)),x]=some [A,some (true,.lst (a.map nD)),sf (nD v)]from rfl) B];exists y,e,KW W vs (a++[rk v]) (sf (nD v)) (λu o=>h u (df o)) (by simp;lia);exact#[y,by rw[e];simp]
def Wo(k:Nat){vs:List N}(h:∀v∈vs,dM v)(f:vs.length<=10):(Wk (k+1)).Φ "_law_rank" [nD (.t vs)]=.ok .fr (.lst (vs.map λv=>nD (rk v))):=by(refine ez (d:=Kv) rfl rfl ?_;show cz _ wO [sf (nD (.t vs)),none,none]=_;have it:br (Wk k) (.items v0) [sf (nD (.t vs)),some (true,.lst []),none]=okf (.lst (vs.map nD)):=by show Res.ok .fz (.lst (nDL vs))=_;rw[fB]);exists y,e,KW (Wk k) (A:=sf (nD (.t vs))) vs [] none h (by simpa using f);(unfold wO;have a:ff (Wk k) (.set 1 (.lst [])) [sf (nD (.t vs)),none,none]=.nx [sf (nD (.t vs)),some (true,.lst []),none]:=rfl;have S:ff (Wk k) (.for (.items v0) (.nm 2) jN) [sf (nD (.t vs)),some (true,.lst []),none]=.nx [sf (nD (.t vs)),some (true,.lst ((vs.map rk).map nD)),y]:=by rw[jL,it];exact e);rw[rF a,rF S,gv];rfl
mutual
theorem xB:∀(k:N),bV (nD k)=some k|.i n|.s x=>by simp[nD,bV]|.t ks=>by rw[nD,bV,mP ks];rfl
theorem mP:∀(ks:List N),cT (nDL ks)=some ks|[]=>by rw[nDL,cT]|k::ks=>by rw[nDL,cT,xB k,mP ks]
end
theorem KY:∀{vs:List N},(∀v∈vs,dM v)->N.dpL vs=0|[],_=>by rw[N.dpL]|v::vs,h=>by rw[N.dpL,KY λu a=>h u (df a)];cases h v c6 <;> simp[N.dp]
structure Row(k:N):Prop where
 ex:∃vs,k=.t vs/\(∀v∈vs,dM v)/\vs.length<=10
theorem Row.key{k:N}(h:Row k):bS (nD k)=some k:=by(exists vs,rfl,a,_,h.ex;rw[nD];show(match cT (nDL vs)with|some ks=>if(N.t ks).dp<=8 then some (N.t ks)else none|none=>none)=_);rw[mP];dsimp only;rw[N.dp,KY a,aK (by lia)]
section
variable{Ok:D->Prop}
structure Gi(Ok:D->Prop)(kvs:GD)(n:Nat):Prop where
 len:kvs.length<=n
 nd:(kvs.map (·.1)).Nodup
 each:∀kv∈kvs,Row kv.1/\(∀d∈kv.2,Ok d)/\1<=kv.2.length/\kv.2.length<=n
theorem xC:∀{kvs:GD}{k:N}{ds:List D},bD kvs k=some ds->(k,ds)∈kvs|[],k,ds,h=>by cases h|kv::kvs,k,ds,h=>by unfold bD at h;rw[gu]at h;by_cases e:kv.1=k;{rw[ip e]at h;(have:kv.2=ds:=by simpa using h);rw[<- e,<- this];exact c6};rw[jw e]at h;exact df (xC h)
def Wp:∀{kvs:GD}{k:N},bD kvs k=none->∀kv∈kvs,kv.1≠k:=by intro kvs k h kv hkv e;unfold bD at h;rw[Option.map_eq_none_iff,Dw]at h;exact h kv hkv (by simpa using e)
theorem Gi.add{kvs:GD}(g:Gi Ok kvs n){k:N}{d:D}(hk:Row k)(hd:Ok d):Gi Ok (gI kvs k d) (n+1):=by
 unfold gI;cases e:bD kvs k with
 |some ds=>(have m:=xC e;exists _,E,J,B,g.each _ m;have fs:(λkv:N×List D=>((if kv.1=k then(kv.1,ds++[d])else kv:N×List D)).1)=λkv=>kv.1:=by funext kv;split <;> rfl);refine#[by show(kvs.map _).length<=_;rw[d3];have:=g.len;lia,by show((kvs.map _).map _).Nodup;rw[gv];show(kvs.map λkv=>((if kv.1=k then(kv.1,ds++[d])else kv:N×List D)).1).Nodup;rw[fs];exact g.nd,λkv a=>?_];exists K,l,rfl,d7.mp a;exists A,r,o,G,g.each _ l;split;{refine#[A,λx f=>?_,by simp,by simp;exact B];rcases ko.mp f with f|f;{exact E x f};rw[fj.mp f];exact hd};exact#[A,r,o,by lia]
 |none=>have nn:=Wp e;refine#[by rw[ik];have:=g.len;simp;lia,?_,λkv a=>?_];{rw[jt,ue];refine#[g.nd,by simp,λx f y F z=>?_];(exists kv,l,rfl,d7.mp f;have:y=k:=by simpa using F);exact nn kv l (z.trans this)};rcases ko.mp a with a|a;{exists A,r,o,G,g.each _ a;exact#[A,r,o,by lia]};rw[fj.mp a];exact#[hk,λx f=>by rw[fj.mp f];exact hd,by simp,by simp]
def val(pl:D->D->D)(No:D)(kvs:GD):List (N×D):=kvs.map λkv=>(kv.1,kv.2.foldl pl No)
def Wq(kvs:GD)(k:N):a6 (val pl No kvs) k=(bD kvs k).map λds=>ds.foldl pl No:=by unfold a6 bD val;induction kvs with|nil=>rfl|cons kv kvs a=>rw[dw,gu,gu];by_cases e:kv.1=k;{simp[e]};simp only[e,decide_false];exact a
def Wr(kvs:GD)(k:N)(d:D):val pl No (gI kvs k d)=cK (val pl No kvs) k (pl ((a6 (val pl No kvs) k).getD No) d):=by unfold cK;rw[Wq];unfold gI;cases e:bD kvs k with|some ds=>rw[ti,aK (show(some (ds.foldl pl No)).isSome=true from rfl)];unfold val kJ;rw[gv,gv];refine uf λkv _=>?_;show(_,_)=_;by_cases z:kv.1=k;{simp[z,List.foldl_append]};simp[z]|none=>rw[Option.map_none,ba (by simp)];unfold val;simp
def ig(a:List (N×D))(kvs:GD):GD:=a.foldl (λkvs e=>gI kvs e.1 e.2) kvs
end
def iJ(κ:α->N)(x:α):List α->List α|[]=>[x]|y::l=>if ltN (κ y) (κ x)=true then y::iJ κ x l else x::y::l
def fJ(κ:α->N)(l:List α):List α:=l.foldr (iJ κ) []
theorem KZ(κ:α->N)(f:α->D)(x:α):∀(l:List α),iK (κ x,f x) (l.map λe=>(κ e,f e))=(iJ κ x l).map λe=>(κ e,f e)|[]=>rfl|y::l=>by rw[dw];unfold iK iJ;dsimp only;split;{rw[KZ κ f x l];rfl};rfl
theorem rZ(κ:α->N)(f:α->D):∀(l:List α),gH (l.map λe=>(κ e,f e))=(fJ κ l).map λe=>(κ e,f e)|[]=>rfl|x::l=>by show iK (κ x,f x) (gH (l.map λe=>(κ e,f e)))=(iJ κ x (fJ κ l)).map _;rw[rZ κ f l,KZ]
theorem K0(κ:α->N)(x:α):∀(l:List α),(iJ κ x l).Perm (x::l)|[]=>jz _|y::l=>by unfold iJ;split;{exact((K0 κ x l).cons y).trans (List.Perm.swap x y l)};exact jz _
theorem oK(κ:α->N):∀(l:List α),(fJ κ l).Perm l|[]=>jz _|x::l=>(K0 κ x (fJ κ l)).trans ((oK κ l).cons x)
theorem K1{f:α->D}{κ:α->N}{kd:α->D}{Φ:D->Res}:∀{es:List α},(∀e∈es,aM (Φ (f e))=okf (kd e))->iM Φ (es.map f)=some (es.map kd)|[],_=>rfl|e::es,h=>by rw[dw];unfold iM;rw[h e c6,K1 (f:=f) (κ:=κ) (kd:=kd) λu a=>h u (df a)];rfl
theorem K2{κ:α->N}{kd:α->D}:∀{es:List α},(∀e∈es,fC (kd e)=sf (κ e))->fR false (es.map kd)=some (es.map κ)|[],_=>rfl|e::es,h=>by rw[dw];unfold fR;rw[h e c6,K2 (κ:=κ) λu a=>h u (df a)];rfl
def Ws{κ:α->N}{kd:α->D}{e:α}{es:List α}(h:fC (kd e)=sf (κ e)):fR true ((e::es).map kd)=none:=by rw[dw];unfold fR;rw[h];cases fR true (es.map kd) <;> rfl
def Wt{f:α->D}{κ:α->N}{kd:α->D}{Φ:D->Res}{m:Md}{d:D}{es:List α}(hd:kI m d=some (es.map f))(r:∀e∈es,aM (Φ (f e))=okf (kd e))(a:∀e∈es,fC (kd e)=sf (κ e))(ok:ow (es.map κ)=true)(o:es.length<eP):eR Φ (.ok m d)=.ok .fr (.lst ((fJ κ es).map f)):=by(have l:jD (es.map kd)=some (es.map κ):=by unfold jD;cases es with|nil=>rfl|cons e es=>rw[Ws (κ:=κ) (a e c6)];exact K2 a);(unfold eR;show(match kI m d with|some ds=>((match iM Φ ds with|some K=>((match jD K with|some ks=>if(ow ks&&decide (ds.length<eP))=true then Res.ok .fr (.lst ((gH (ks.zip ds)).map λp:N×D=>p.2))else .stuck|none=>.stuck))|none=>.stuck))|none=>.stuck)=_);rw[hd];dsimp only;rw[K1 (κ:=κ) r];dsimp only;rw[l];dsimp only;rw[ok,aK (by rw[d3];simpa using o),List.zip_map',rZ,gv];rfl
def AH{v:N}(h:dM v):(rk v).dp<=1:=by cases h <;> simp[rk,N.dp,N.dpL]
def Wu{u v:N}(d:dM u)(a:dM v)(e:rk u=rk v):u=v:=by cases d <;> cases a <;> simp_all[rk]
def AI{u v:N}(d:dM u)(a:dM v):ft (rk u) (rk v)=true:=by
 cases d with
 |i n=>cases a with|i m=>simp only[rk,ft,cM];split;{split;{rfl};rfl};rfl|s y=>simp[rk,ft,cM]
 |s x=>cases a with|i m=>simp[rk,ft,cM]|s y=>simp only[rk,ft,cM];repeat (first|rfl|split)
theorem K3:∀{us vs:List N},(∀u∈us,dM u)->(∀v∈vs,dM v)->cM (us.map rk) (vs.map rk)=true|[],_,_,_=>by rw[oa,cM]|_::_,[],_,_=>by rw[oa,dw,cM]|u::us,v::vs,f,d=>by rw[dw,dw,cM];split;{exact K3 (λx a=>f x (df a)) λx a=>d x (df a)};exact AI (f u c6) (d v c6)
theorem K4:∀{vs:List N},(∀v∈vs,dM v)->N.dpL (vs.map rk)<=1|[],_=>by rw[oa,N.dpL];lia|v::vs,h=>by rw[dw,N.dpL];have:=K4 λu a=>h u (df a);have:=AH (h v c6);lia
theorem xD:∀{us vs:List N},(∀u∈us,dM u)->(∀v∈vs,dM v)->us.map rk=vs.map rk->us=vs|[],[],_,_,_=>rfl|[],_::_,_,_,e|_::_,[],_,_,e=>by cases e|u::us,v::vs,f,d,e=>by rw[dw,dw]at e;exists l,E,List.cons.inj e;rw[Wu (f u c6) (d v c6) l,xD (λx a=>f x (df a)) (λx a=>d x (df a)) E]
theorem Wv(h:∀k∈ks,Row k)(nd:ks.Nodup):ow (ks.map uu)=true:=by unfold ow;rw[cw,cw];refine#[#[fq.mpr λk hk=>?_,fq.mpr λk hk=>fq.mpr λK A=>?_],ip ?_];{exists r,o,rfl,d7.mp hk;exists vs,rfl,d,_,(h r o).ex;refine ip ?_;show(N.t (vs.map rk)).dp<=8;rw[N.dp];have:=K4 d;lia};{exists r,o,rfl,d7.mp hk;exists vs,rfl,d,_,(h r o).ex;exists B,l,rfl,d7.mp A;exists us,rfl,f,_,(h B l).ex;show ft (.t (vs.map rk)) (.t (us.map rk))=true;rw[ft];exact K3 d f};refine ir.mpr (BX ?_ nd);intro a b ha hb hab e;exists vs,rfl,d,_,(h a ha).ex;exists us,rfl,f,_,(h b hb).ex;have e:N.t (vs.map rk)=N.t (us.map rk):=e;injection e with e;exact hab (by rw[xD d f e])
def Ww{k:N}(h:Row k):∃vs,k=.t vs/\fC (.lst (vs.map λv=>nD (rk v)))=sf (uu k):=by(exists vs,rfl,a,_,h.ex;refine#[vs,rfl,?_];have e:(vs.map λv=>nD (rk v))=nDL (vs.map rk):=by rw[fB,gv];rfl);rw[e];show(cT (nDL (vs.map rk))).map _=_;rw[mP];rfl
section
def Wx{W:WD}{f:Str}{a:E}(h:W.dp=true):br W (.srtf f a) Y=eR (λd=>W.Ψ f [d]) (br W a Y):=by show(if W.dp=true then _ else _)=_;rw[aK h]
end
def ce(ns:List Int)(i:Int):Int:=if 0<=i then(ns[i.toNat]?).getD 0 else 0
theorem cell(k:Nat)(ns:List Int){i:Int}(h0:0<=i):(Wk (k+1)).Φ "_law_cell_at" [.lst (ns.map .int),.int i]=okf (.int (ce ns i)):=by refine ez (d:=Kq) rfl rfl ?_;show cz _ rP [sf (.lst (ns.map .int)),sf (.int i)]=_;exists j,rfl,rr h0;unfold ce;rw[aK h0];by_cases h:j<ns.length;{have a:cu fm (okf (.lst (ns.map .int))) (okf (.int j))=okf (.int ns[j]):=gK (c9 (by rw[h7,gm h];rfl));(have h':((j:Int)<(ns.length:Int)):=by lia);simp[rP,h',a,h]};(have h':¬ ((j:Int)<(ns.length:Int)):=by lia);simp[rP,h',BL (Nat.le_of_not_lt h)]
def oM(k:Nat)(ns:List Int){i:Int}(h0:0<=i):aW 2 ((Wk (k+1)).Φ "_law_cell_at") (.ok [(.fz,.lst (ns.map .int)),(.fz,.int i)])=okf (.int (ce ns i)):=eL (cell k ns h0)
theorem oN{n:Int}(h0:0<=n)(a:n<=1000){m:Md}:gD (.ok [(m,.int n)])=okf (.lst (cC 0 n)):=by unfold gD;rw[bF.thn_ok];dsimp only;rw[aK];simp only[cw,fw];lia
theorem mem_range{d:D}{n:Int}(h:d∈cC 0 n):∃i:Nat,(i:Int)<n/\d=.int i:=by simp only[cC,d7,pa]at h;exists i,a,rfl,h;exact#[i,by lia,by simp]
def Wz(k:Nat)(i:Int):(Wk (k+1)).Φ "_law_alike" [.int i,.int i]=okf (.bl true):=
 ez (d:=rR) rfl rfl (cy (bT (m:=.fz) rfl rfl) (cy (bT (m:=.fz) rfl rfl) (oI (eS (m:=.fz) rfl (bB (AG rfl rfl (by simp:cu (bA .Eq) (okf (.int i)) (okf (.int i))=okf (.bl true))))))))
def WA(k:Nat)(z:Str):(Wk (k+1)).Φ "_law_alike" [.str z,.str z]=okf (.bl true):=
 ez (d:=rR) rfl rfl (cy (bT (m:=.fz) rfl rfl) (cy (bT (m:=.fz) rfl rfl) (cy (bT (m:=.fz) rfl rfl) (oI (eS (m:=.fz) rfl (bB (AF rfl (by simp:cu (bA .Eq) (okf (.str z)) (okf (.str z))=okf (.bl true)))))))))
theorem WB(k:Nat)(D:ds.length<=999)(hp:∀d∈ds,(Wk k).Φ "_law_alike" [d,d]=okf (.bl true)):(Wk (k+1)).Φ "_law_alike" [.tup ds,.tup ds]=okf (.bl true):=by
 exists ρ',e,x,rfl,rY (k:=aO (.nm 2)) (body:=cz (Wk k) wE) (λ_ Y=>∃x,Y=[sf (.tup ds),sf (.tup ds),x]) (cC 0 (ds.length:Int)) 0 (Y:=[sf (.tup ds),sf (.tup ds),none]) (λj d hd Y l=>by
  exists x,rfl,l;exists o,rfl,xA hd;have ix:cu fm (okf (.tup ds)) (okf (.int (j:Int)))=okf ds[j]:=dL (c9 (gm o));exact#[_,_,rfl,cy (bT (m:=.fz) (congrArg (λr=>iZ (iY r)) (nl (W:=Wk k) (Y:=[sf (.tup ds),sf (.tup ds),sf (.int (j:Int))]) (f:="_law_alike") (a:=.ix v0 v2) (b:=.ix v1 v2) ix ix (eL (hp ds[j] (sb o))))) rfl) rfl,_,rfl]) #[_,rfl]
 have ne:cu (bA .NotEq) (okf (.int (ds.length:Int))) (okf (.int (ds.length:Int)))=okf (.bl false):=by simp
 have B:=oN (m:=.fz) (n:=(ds.length:Int)) (by lia) (by lia)
 have S:ff (Wk k) (.for (.rng1 (.bcall .len [v1])) (.nm 2) wE) [sf (.tup ds),sf (.tup ds),none]=.nx [sf (.tup ds),sf (.tup ds),x]:=by rw[jL];show lJ (gD (.ok [(.fz,.int (ds.length:Int))])) _ _ _=_;rw[B];exact e
 have A:ff (Wk k) (.ite (.tru (.bcall .isinstance [v1,(.ty .tuple)])) [.ite (.orL [(.not (.tru (.bcall .isinstance [v0,(.ty .tuple)]))),(.cmp .NotEq (.bcall .len [v0]) (.bcall .len [v1]))]) [.ret (.bl false)] []] [.ite (.orL [(.not (.tru (.bcall .isinstance [v0,(.ty .list)]))),(.cmp .NotEq (.bcall .len [v0]) (.bcall .len [v1]))]) [.ret (.bl false)] []]) [sf (.tup ds),sf (.tup ds),none]=.nx [sf (.tup ds),sf (.tup ds),none]:=by refine eS (m:=.fz) rfl (cy (bT (m:=.fz) ?_ rfl) rfl);rw[z7,Vt,Vs];show om (okf (.bl false)) (cu (bA .NotEq) (okf (.int (ds.length:Int))) (okf (.int (ds.length:Int))))=_;rw[ne];rfl
 exact ez (d:=rR) rfl rfl (cy (bT (m:=.fz) rfl rfl) (cy (bT (m:=.fz) rfl rfl) (cy (bT (m:=.fz) rfl rfl) (cy (bT (m:=.fz) rfl rfl) (cy A (cy S rfl))))))
theorem K5:∀(n:Nat) {d:D},Pl n d->∀K,n<K->(Wk K).Φ "_law_alike" [d,d]=okf (.bl true):=by intro n d h;induction h with|int i=>intro K hk;exists K,rfl,up hk;exact Wz K i|str z=>intro K hk;exists K,rfl,up hk;exact WA K z|tup h f a=>intro K hk;exists K,rfl,up hk;exact WB K f λd hd=>a d hd K (by lia)
def l0:jZ (.ok [])=.ok .fr (.lst []):=by rfl
def tx(l:List Nat):Str:=#[l.toArray]
def AJ{l:List Nat}:(tx l).cps.toList=l:=by simp[tx]
def WC{a b:List Nat}(h:tx a=tx b):a=b:=by have:=congrArg (λz:Str=>z.cps.toList) h;simpa[AJ]using this
def WE{a b:List Nat}:tx a++tx b=tx (a++b):=by show(#[a.toArray++b.toArray]:Str)=_;simp[tx]
def xE{l:List Nat}:(tx l).length=l.length:=by simp[tx,Str.length]
def cN:Str:="abcdefghijklmnopqrstuvwxyz"
def dD:Str:=cN++("0123456789":Str)
def uv(j:Nat)(v:Int):Nat:=if j=0 then cN.cps.toList.getD (v % 26).toNat 0 else dD.cps.toList.getD (v % 36).toNat 0
theorem K6{n:Int}(hn:n=z.cps.toList.length)(h:0<n)(v:Int){m:Md}:cu fm (.ok m (.str z)) (.ok m' (.int (v % n)))=okf (.str (tx [z.cps.toList.getD (v % n).toNat 0])):=by have h0:=ud v (show n≠0 by lia);(have f:=vr v h;exists i,d,rr h0;have a:i<z.cps.toList.length:=by lia);rw[d];refine bI ?_;show(atI z.cps.toList (i:Int)).map _=_;rw[c9 (gm a)];rw[show((i:Int)).toNat=i from rfl,List.getD_eq_getElem?_getD,gm a];rfl
def WF:(26:Int)=cN.cps.toList.length:=by decide +kernel
def WG:(36:Int)=dD.cps.toList.length:=by decide +kernel
def dr(c:Int)(a k j:Nat):Int:=if j=a then c / 25+k else c / (7+6 * (j:Int))+11 * (j:Int)
def nm(c:Int)(a k s:Nat):List Nat:=(List.range s).map λj=>uv j (dr c a k j)
def WH(c:Int)(a k s:Nat):tx (nm c a k (s+1))=tx (nm c a k s)++tx [uv s (dr c a k s)]:=by rw[WE];unfold nm;rw[Dr,jt];rfl
section
variable{W:WD}{c:Int}{a s:Nat}{x1 x4 x6 x9 x10:Option (Bool×D)}
abbrev NS(c:Int)(a k:Nat)(x1 x4 x6:Option (Bool×D))(z:Str)(x9 x10:Option (Bool×D)):Rho:=[sf (.int c),x1,sf (.str cN),sf (.str dD),x4,sf (.int (a:Int)),x6,sf (.int (k:Int)),sf (.str z),x9,x10]
theorem WI(r:j<=4):cz W fH (NS c a k x1 x4 x6 (tx (nm c a k j)) (sf (.int (j:Int))) x10)=.nx (NS c a k x1 x4 x6 (tx (nm c a k (j+1))) (sf (.int (j:Int))) (sf (.int (dr c a k j)))):=by have l:cu (aX .Mult) (okf (.int 6)) (okf (.int (j:Int)))=okf (.int (6 * (j:Int))):=vP (by decide);have f:cu (aX .Mult) (okf (.int 11)) (okf (.int (j:Int)))=okf (.int (11 * (j:Int))):=vP (by decide);have D:cu (aX .FloorDiv) (okf (.int c)) (okf (.int (7+6 * (j:Int))))=okf (.int (c / (7+6 * (j:Int)))):=VA (by lia) (by lia);(have fst:cz W (fH.take 2) (NS c a k x1 x4 x6 (tx (nm c a k j)) (sf (.int (j:Int))) x10)=.nx (NS c a k x1 x4 x6 (tx (nm c a k j)) (sf (.int (j:Int))) (sf (.int (dr c a k j)))):=by unfold dr NS;generalize tx (nm c a k j)=z;generalize cN=LL at *;generalize dD=SS at *;by_cases w:j=a;{(have d:((j:Int)==(a:Int))=true:=by rw[w];exact oi _);rw[aK w];simp[fH,l,f,D,d]};have d:((j:Int)==(a:Int))=false:=lr.mpr (by lia);rw[ba w];simp[fH,l,f,D,d]);have o:=K6 WF (by decide) (dr c a k j) (m:=.fz) (m':=.fz);have E:=K6 WG (by decide) (dr c a k j) (m:=.fz) (m':=.fz);(have Z:(tx (nm c a k j)).length=j:=by rw[xE];unfold nm;simp);have ad:∀g,cu (aX .Add) (okf (.str (tx (nm c a k j)))) (okf (.str (tx [g])))=okf (.str (tx (nm c a k j)++tx [g])):=λg=>Jj (by rw[dz,Z,xE];simp;lia);(have snd:cz W [fH.getD 2 .never] (NS c a k x1 x4 x6 (tx (nm c a k j)) (sf (.int (j:Int))) (sf (.int (dr c a k j))))=.nx (NS c a k x1 x4 x6 (tx (nm c a k (j+1))) (sf (.int (j:Int))) (sf (.int (dr c a k j)))):=by rw[WH];unfold uv NS;clear fst;generalize dr c a k j=v at *;generalize tx (nm c a k j)=z at *;by_cases w:j=0;{rw[aK w];have ad:=ad (cN.cps.toList.getD (v % 26).toNat 0);generalize tx [cN.cps.toList.getD (v % 26).toNat 0]=y at *;generalize cN=LL at *;generalize dD=SS at *;subst w;simp[fH,o,ad]};have d:((j:Int)==0)=false:=lr.mpr (by lia);rw[ba w];have ad:=ad (dD.cps.toList.getD (v % 36).toNat 0);generalize tx [dD.cps.toList.getD (v % 36).toNat 0]=y at *;generalize cN=LL at *;generalize dD=SS at *;simp[fH,d,E,ad]);have split:fH=fH.take 2++[fH.getD 2 .never]:=rfl;rw[split,mK,fst,aI.thn_nx];exact snd
theorem E1(h:n<=1000){m:Md}:gD (.ok [(m,.int (n:Int))])=okf (.lst (cC 0 (n:Int))):=oN (by lia) (by lia)
theorem WJ(hs:s<=5):∃l f,bH (aO (.nm 9)) (cz W fH) (cC 0 (s:Int)) (NS c a k x1 x4 x6 (Str.ofString "") x9 x10)=.nx (NS c a k x1 x4 x6 (tx (nm c a k s)) l f):=by
 exists ρ',e,l,f,rfl,rY (k:=aO (.nm 9)) (body:=cz W fH) (λj Y=>∃l f,Y=NS c a k x1 x4 x6 (tx (nm c a k j)) l f) (cC 0 (s:Int)) 0 (Y:=NS c a k x1 x4 x6 (Str.ofString "") x9 x10)
  (λj d hd Y o=>by
   exists l,f,rfl,o;exists r,rfl,xA hd;rw[lA]
   exact#[_,_,rfl,WI (by lia),_,_,rfl]) #[_,_,rfl]
 exact#[l,f,by rw[e,lA,KS]]
theorem WK(hs:s<=5)(o:ds.length<100){x8:Option (Bool×D)}:∃l f d,cz W rL [sf (.int c),x1,sf (.str cN),sf (.str dD),sf (.int (s:Int)),sf (.int (a:Int)),some (true,.lst ds),sf (.int (k:Int)),x8,x9,x10]=.nx [sf (.int c),x1,sf (.str cN),sf (.str dD),sf (.int (s:Int)),sf (.int (a:Int)),some (true,.lst (ds++[.str (tx (nm c a k s))])),sf (.int (k:Int)),l,f,d]:=by exists f,d,e,WJ (W:=W) (c:=c) (a:=a) (k:=k) (x1:=x1) (x4:=sf (.int (s:Int))) (x6:=some (true,.lst ds)) (x9:=x9) (x10:=x10) hs;refine#[sf (.str (tx (nm c a k s))),f,d,?_];have E:br W (.rng1 v4) (NS c a k x1 (sf (.int (s:Int))) (some (true,.lst ds)) (Str.ofString "") x9 x10)=okf (.lst (cC 0 (s:Int))):=E1 (by lia);refine cy (ρ':=NS c a k x1 (sf (.int (s:Int))) (some (true,.lst ds)) (Str.ofString "") x9 x10) rfl (cy (ρ':=NS c a k x1 (sf (.int (s:Int))) (some (true,.lst ds)) (tx (nm c a k s)) f d) ?_ ?_);{rw[jL,E];exact e};rw[kK,vN];show((if ds.length<sizeLine then _ else _:aI)).thn _=_;rw[aK (by rw[dz];lia)];rfl
end
def o0(c:Int)(a s n:Nat):List Str:=(List.range n).map λk=>tx (nm c a k s)
def WL{W:WD}{B:List D3.S}{R L:List D}{f x2 x3 x4 d x6 A o l a:Option (Bool×D)}(E:gD (.ok [(.fz,.int 8)])=okf (.lst R))(e:bH (aO (.nm 7)) (cz W B) R [f,sf (.int 8),x2,x3,x4,d,x6,none,none,none,none]=.nx [f,sf (.int 8),x2,x3,x4,d,some (true,.lst L),A,o,l,a]):cz W [.for (.rng1 v1) (.nm 7) B,.retV 6] [f,sf (.int 8),x2,x3,x4,d,x6,none,none,none,none]=.rt .fr (.lst L):=by refine cy (ρ':=[f,sf (.int 8),x2,x3,x4,d,some (true,.lst L),A,o,l,a]) ?_ rfl;rw[jL];exact(congrArg (λr=>lJ r [f,sf (.int 8),x2,x3,x4,d,x6,none,none,none,none] (aO (.nm 7)) (cz W B)) E).trans e
theorem WM(j:Nat)(v:Int):uv j v<0x110000:=by(have n1:∀i<26,cN.cps.toList.getD i 0<0x110000:=by decide +kernel);(have n2:∀i<36,dD.cps.toList.getD i 0<0x110000:=by decide +kernel);unfold uv;split;{exact n1 _ (by lia)};exact n2 _ (by lia)
theorem AK(c:Int)(a:Nat){s:Nat}(l:s<=5):∀z∈o0 c a s 8,fO (.inr z)=true:=λz d=>by exists k,_,rfl,d7.mp d;have Z:sizeLine=16777216:=dz;show(decide ((tx (nm c a k s)).length<=sizeLine)&&PyData.strOk (tx (nm c a k s)))=true;rw[cw,fw];refine#[by rw[xE];simp[nm];lia,?_];unfold PyData.strOk;rw[<- Array.all_toList,AJ,fq];intro x f;exists j,_,rfl,d7.mp f;exact ip (WM _ _)
theorem names(K:Nat)(c:Int):∃zs:List Str,zs.length=8/\zs.Nodup/\(∀z∈zs,fO (.inr z)=true)/\(Wk (K+1)).Φ "_law_names" [.int c,.int 8]=.ok .fr (.lst (zs.map .str)):=by
 exists O,T,rr (show 0<=c % 5 by lia)
 obtain⟨s,hs,h1,G⟩:∃s:Nat,(1+c % 5)=(s:Int)/\1<=s/\s<=5:=#[1+O,by lia,by lia,by lia]
 have a0:=ud (c / 5) (show(s:Int)≠0 by lia)
 have a1:=vr (c / 5) (show(0:Int)<(s:Int) by lia)
 exists a,E,rr a0;have E:c / 5 % (s:Int)=(a:Int):=E;have S:a<s:=by lia
 refine#[o0 c a s 8,by simp[o0],?_,AK c a G,?_]
 . refine ir.mpr (BX (R:=λi j=>i<j) ?_ List.pairwise_lt_range);intro i j hi F hij e;rw[pa]at hi F;have e:=congrArg (λl:List Nat=>l[a]?) (WC e);simp only[nm,h7,Bw S,ti,By]at e;have d:∀k:Nat,dr c a k a=c / 25+k:=λk=>aK rfl;rw[d,d]at e;(have n1:∀i<26,∀j<26,cN.cps.toList.getD i 0=cN.cps.toList.getD j 0->i=j:=by decide +kernel);(have n2:∀i<36,∀j<36,dD.cps.toList.getD i 0=dD.cps.toList.getD j 0->i=j:=by decide +kernel);unfold uv at e;split at e;{have:=n1 _ (by lia) _ (by lia) e;lia};have:=n2 _ (by lia) _ (by lia) e;lia
 refine ez (d:=Kr) rfl rfl ?_;show cz _ wM [sf (.int c),sf (.int 8),none,none,none,none,none,none,none,none,none]=_;exists ρ',e,A,r,o,f,rfl,rY (k:=aO (.nm 7)) (body:=cz (Wk K) rL)
  (λj Y=>∃A r o f,Y=[sf (.int c),sf (.int 8),sf (.str cN),sf (.str dD),sf (.int (s:Int)),sf (.int (a:Int)),some (true,.lst ((o0 c a s j).map .str)),A,r,o,f])
  (cC 0 ((8:Nat):Int)) 0 (Y:=[sf (.int c),sf (.int 8),sf (.str cN),sf (.str dD),sf (.int (s:Int)),sf (.int (a:Int)),some (true,.lst []),none,none,none,none])
  (λj d hd Y B=>by
   exists A,r,o,f,rfl,B;exists F,rfl,xA hd;rw[lA];exists L,J,Z,e,WK (W:=Wk K) (c:=c) (a:=a) (k:=j) (s:=s) (x1:=sf (.int 8)) (x9:=o) (x10:=f) (x8:=r) G (ds:=(o0 c a s j).map .str) (by simp[o0];lia)
   refine#[_,_,rfl,e,sf (.int (j:Int)),L,J,Z,?_];have:(o0 c a s (j+1)).map D.str=(o0 c a s j).map D.str++[.str (tx (nm c a j s))]:=by unfold o0;rw[Dr,jt,jt];rfl
   rw[this]) #[_,_,_,_,rfl]
 have ad:cu (aX .Add) (okf (.str cN)) (okf (.str "0123456789"))=okf (.str dD):=Jj (by decide +kernel)
 have N:cu (aX .Mod) (okf (.int (c / 5))) (okf (.int (s:Int)))=okf (.int (a:Int)):=by rw[kL (by lia),E]
 rw[lA,KS]at e;have bd:wM=[.set 2 (.str cN),.set 3 (.frz (.bin .Add v2 (.str "0123456789"))),.set 4 (.frz (.bin .Add (.int 1) (.bin .Mod v0 (.int 5)))),.set 5 (.frz (.bin .Mod (.bin .FloorDiv v0 (.int 5)) v4)),.set 6 (.lst [])]++[.for (.rng1 v1) (.nm 7) rL,.retV 6]:=rfl;have p1:cz (Wk K) [.set 2 (.str cN),.set 3 (.frz (.bin .Add v2 (.str "0123456789"))),.set 4 (.frz (.bin .Add (.int 1) (.bin .Mod v0 (.int 5)))),.set 5 (.frz (.bin .Mod (.bin .FloorDiv v0 (.int 5)) v4)),.set 6 (.lst [])] [sf (.int c),sf (.int 8),none,none,none,none,none,none,none,none,none]=.nx [sf (.int c),sf (.int 8),sf (.str cN),sf (.str dD),sf (.int (s:Int)),sf (.int (a:Int)),some (true,.lst []),none,none,none,none]:=by clear e;generalize cN=LL at *;generalize dD=SS at *;simp[ad,hs,N,l0]
 have V:((8:Nat):Int)=8:=rfl;rw[V]at e;rw[bd,mK,p1,aI.thn_nx];exact WL (oN (by decide) (by decide)) e
def i0{a b:D}{m:Md}:cu fm (.ok m (.tup [a,b])) (.ok m' (.int 0))=okf a:=dL (c9 (j:=0) rfl)
def i1{a b:D}{m:Md}:cu fm (.ok m (.tup [a,b])) (.ok m' (.int 1))=okf b:=dL (c9 (j:=1) rfl)
def j0{a b c:D}{m:Md}:cu fm (.ok m (.tup [a,b,c])) (.ok m' (.int 0))=okf a:=dL (c9 (j:=0) rfl)
def j1{a b c:D}{m:Md}:cu fm (.ok m (.tup [a,b,c])) (.ok m' (.int 1))=okf b:=dL (c9 (j:=1) rfl)
def j2{a b c:D}{m:Md}:cu fm (.ok m (.tup [a,b,c])) (.ok m' (.int 2))=okf c:=dL (c9 (j:=2) rfl)
def t2{a b:D}:fL (.ok [(.fz,a),(.fz,b)])=okf (.tup [a,b]):=by rfl
def t3{a b c:D}:fL (.ok [(.fz,a),(.fz,b),(.fz,c)])=okf (.tup [a,b,c]):=by rfl
def h0{a:D}{m:Md}:cu fm (.ok m (.lst [a])) (.ok m' (.int 0))=okf a:=gK (c9 (j:=0) rfl)
def f0{a b c d:D}{m:Md}:cu fm (.ok m (.tup [a,b,c,d])) (.ok m' (.int 0))=okf a:=dL (c9 (j:=0) rfl)
def f1{a b c d:D}{m:Md}:cu fm (.ok m (.tup [a,b,c,d])) (.ok m' (.int 1))=okf b:=dL (c9 (j:=1) rfl)
def f2{a b c d:D}{m:Md}:cu fm (.ok m (.tup [a,b,c,d])) (.ok m' (.int 2))=okf c:=dL (c9 (j:=2) rfl)
def f3{a b c d:D}{m:Md}:cu fm (.ok m (.tup [a,b,c,d])) (.ok m' (.int 3))=okf d:=dL (c9 (j:=3) rfl)
abbrev Tp(C:List Str):D:=.tup (C.map .str)
def xF{C:List Str}:(C.map D.str).all bY=true:=by rw[List.all_map];exact fq.mpr λ_ _=>rfl
def K7{C:List Str}:((C.map D.str).any λy=>kj y (.str z))=decide (z∈C):=by rw[Bool.eq_iff_iff,List.any_map,List.any_eq_true,fw];constructor;{rintro⟨y,a,e⟩;have e:(y==z)=true:=e;rw[dc]at e;subst e;exact a};exact λh=>#[z,h,by show(z==z)=true;exact oi z]
def E2{m:Md}{C:List Str}:cu (bA .In) (.ok m (.str z)) (.ok m' (Tp C))=okf (.bl (decide (z∈C))):=by refine bI ?_;show(if(bY (.str z)&&(C.map D.str).all bY)=true then some (Md.fz,D.bl (if false=true then _ else((C.map D.str).any λy=>kj y (.str z))))else none)=_;rw[xF,K7];rfl
def WN{m:Md}{C:List Str}:cu (bA .NotIn) (.ok m (.str z)) (.ok m' (Tp C))=okf (.bl (!decide (z∈C))):=by refine bI ?_;show(if(bY (.str z)&&(C.map D.str).all bY)=true then some (Md.fz,D.bl (if true=true then !((C.map D.str).any λy=>kj y (.str z))else _))else none)=_;rw[xF,K7];rfl
section
variable{W:WD}{e:E}{m:Md}
theorem WO:eF ds none (some (i:Int))=ds.take i:=by unfold eF;rw[HT.yY,HT.o8,BA,Nat.sub_zero];by_cases h:i<=ds.length;{rw[Nat.min_eq_left h]};rw[Nat.min_eq_right (by lia),Dc,BB (by lia)]
theorem WP:eF ds (some (i:Int)) none=ds.drop i:=by unfold eF;rw[HT.yY,HT.o8];by_cases h:i<=ds.length;{rw[Nat.min_eq_left h];exact BB (by rw[Bm];lia)};rw[Nat.min_eq_right (by lia),tj,List.drop_of_length_le (by lia)];simp
def xG(h:br W e Y=.ok m (.int (i:Int))):ot (.ok m' (.lst ds)) (iu W none) (iu W (some e)) Y=.ok .fr (.lst (ds.take i)):=by simp only[iu,ot,Res.thn_ok,fK,h];rw[WO]
end
def WQ{W:WD}{e e':E}{m:Md}(h:br W e Y=.ok m (.int (i:Int)))(h':br W e' Y=.ok m' (.int (j:Int))){m0:Md}:ot (.ok m0 (.lst ds)) (iu W (some e)) (iu W (some e')) Y=.ok .fr (.lst (eF ds (some (i:Int)) (some (j:Int)))):=by simp only[iu,ot,Res.thn_ok,fK,h,h']
def E3{C:List Str}(hi:i<C.length){m:Md}:cu fm (.ok m (Tp C)) (.ok m' (.int (i:Int)))=okf (.str C[i]):=dL (c9 (by rw[h7,gm hi];rfl))
def E4:List Str:=[Str.ofString "join",Str.ofString "pour",Str.ofString "leave"]
def WR{m:Md}:cu (bA .In) (.ok m (.str z)) (.ok m' (.tup [.str (Str.ofString "join"),.str (Str.ofString "pour"),.str (Str.ofString "leave")]))=okf (.bl (decide (z∈E4))):=E2 (C:=E4)
def K8(k:Nat){x:D}{w:Str}(a:(w==Str.ofString "table")=false)(f:decide (w∈E4)=true):(Wk (k+1)).Φ "askings_within" [.tup [.str w,x,y]]=okf (.tup [x,y]):=by have E:=WR (m:=.fz) (m':=.fz) (z:=w);rw[f]at E;exact ez (d:=Ki) rfl rfl (cy (bT (m:=.fz) (cE (m:=.fz) rfl a) rfl) (oI (eS (m:=.fz) E (bB (jO rfl rfl)))))
def WS{w:Str}{d:D}(h:bR M (.inr w)=some d){m:Md}:cu qi (.ok m (.dct M)) (.ok m' (.str w))=okf d:=bI (by
 show(bR M (.inr w)).map _=_;rw[h];rfl)
def WU{w:Str}{d:D}(h:bR M (.inr w)=some d){m:Md}:cu (nj true) (.ok m (.str w)) (.ok m' (.dct M))=okf (.bl false):=bI (by
 show some (Md.fz,D.bl (if true=true then !(bR M (.inr w)).isSome else _))=_;rw[h];rfl)
def K9(k:Nat){w:Str}{d:D}(h:bR M (.inr w)=some d):(Wk (k+2)).Φ "columns_of" [.tup [.str "table",.str w],.dct M]=okf d:=
 ez (d:=wR) rfl rfl (oI (eS (m:=.fz) (cE (m:=.fz) rfl (by decide)) (bB (nl rfl rfl (eL (ez (d:=Kk) rfl rfl (cy (bT (m:=.fz) (WU h) rfl) (bB (WS h)))))))))
def xH:List (Str×Str):=[("pick","columns_of_pick"),("keep","columns_of_keep"),("call","columns_of_call"),("join","columns_of_join"),("pour","columns_of_pour"),("total","columns_of_total"),("leave","columns_of_leave")]
def La:List Str:=["columns_of_pick","columns_of_keep","columns_of_call","columns_of_join","columns_of_pour","columns_of_total","columns_of_leave"]
theorem Lb{W:WD}{M:D}:∀(U ys:List D),U.length=ys.length->(∀(i:Nat) (h:i<U.length) (h':i<ys.length),W.Φ "columns_of" [U[i],M]=okf ys[i])->cZ (aO (.nm 1)) (λY=>fu W [] Y) (λY=>br W (.call "columns_of" 2 [v1,v0]) Y) [sf M,none] U=some ys|[],[],_,_=>rfl|[],_::_,h,_|_::_,[],h,_=>by simp at h|x::U,y::ys,h,q=>by have d:=Lb (W:=W) (M:=M) U ys (by simpa using h) λi l f=>q (i+1) (by simpa using l) (by simpa using f);have k:aO (.nm 1) x [sf M,none]=some [sf M,sf x]:=rfl;have a:W.Φ "columns_of" [x,M]=okf y:=q 0 (by simp) (by simp);have e:br W (.call "columns_of" 2 [v1,v0]) [sf M,sf x]=okf y:=nl rfl rfl (eL a);rw[cZ,k];dsimp only;rw[IU];dsimp only;rw[e,d];rfl
def WV(k:Nat){A M r:D}{w f:Str}{U ys:List D}(l:cu fm (okf A) (okf (.int 0))=okf (.str w))(B:(w==Str.ofString "table")=false)(J:xH.lookup w=some f)(a:La.contains f=true)(o:(Wk k).Φ "askings_within" [A]=okf (.tup U))(G:U.length=ys.length)(hs:U.length<sizeLine)(F:∀(i:Nat) (h:i<U.length) (h':i<ys.length),(Wk k).Φ "columns_of" [U[i],M]=okf ys[i])(E:(Wk k).Φ f [A,.lst ys]=okf r):(Wk (k+1)).Φ "columns_of" [A,M]=okf r:=by(have L:aW 1 ((Wk k).Φ "askings_within") (.ok [(.fz,A)])=okf (.tup U):=fV o;have cr:aW 2 ((Wk k).Φ f) (.ok [(.fz,A),(.fz,.lst ys)])=okf r:=eL E;have cl:=Lb (W:=Wk k) (M:=M) U ys G F;refine ez (d:=wR) rfl rfl ?_;generalize Wk k=W at *;have K:cF (okf (.lst U)) [sf A,sf M,none,none] [1] 1 (aO (.nm 1)) (λY=>fu W [] Y) (λY=>br W (.call "columns_of" 2 [v1,v0]) Y)=.ok .fr (.lst ys):=by(show(if U.length<sizeLine then(match cZ (aO (.nm 1)) (λY=>fu W [] Y) (λY=>br W (.call "columns_of" 2 [v1,v0]) Y) [sf M,none] U with|some ys=>Res.ok .fr (.lst ys)|none=>.stuck)else .stuck)=_);rw[aK hs,cl]);(refine cy (bT (m:=.fz) (cE (m:=.fz) l B) rfl) (cy (ρ':=[sf A,sf M,sf (.lst ys),none]) ?_ (cy (cB (Eq.trans (congrArg (j9 xH) l) (show(match xH.lookup w with|some f=>Res.ok .fz (.fn f)|none=>.stuck)=_ by rw[J]))) (bB ?_))));{rw[rE,iO];show dA _ 2 (aM (cF (gW (aM (aW 1 (W.Φ "askings_within") (.ok [(.fz,A)])))) _ [1] 1 (aO (.nm 1)) (λY=>fu W [] Y) (λY=>br W (.call "columns_of" 2 [v1,v0]) Y)))=_;rw[L];exact congrArg (λr=>dA _ 2 (aM r)) K};show(if La.contains f=true then aW 2 (W.Φ f) (.ok [(.fz,A),(.fz,.lst ys)])else .stuck)=_;rw[aK a,cr]
abbrev Ky:=N×N
abbrev Tr:=Ky×Int
def hE(k:Ky):N:=.t [k.1,k.2]
end K46
variable{J A:List K46.Tr}
namespace K46
open D3
def dy(t:Tr):N:=.t [t.1.1,t.1.2,.i t.2]
def kl(a b:Ky):Bool:=ltN (hE a) (hE b)
def xI{a b:Ky}(h:hE a=hE b):a=b:=by unfold hE at h;simp only[N.t.injEq,vc,and_true]at h;exact th h.1 h.2
def xJ{a b:Tr}(h:dy a=dy b):a=b:=by unfold dy at h;simp only[N.t.injEq,vc,and_true,N.i.injEq]at h;exact th (th h.1 h.2.1) h.2.2
def xK(a:Ky):kl a a=false:=kE _
def WW{a b:Ky}(f:kl a b=false)(d:kl b a=false):a=b:=xI (qP _ _ f d)
def r6{a b:Tr}(h:a.1≠b.1):ltN (dy a) (dy b)=kl a.1 b.1:=by unfold kl hE dy;simp only[ltN,bC];by_cases E:a.1.1=b.1.1;{rw[aK E,aK E];by_cases d:a.1.2=b.1.2;{exact absurd (th E d) h};rw[ba d,ba d]};rw[ba E,ba E]
def bE(p:List Tr)(k:Ky):Int:=match p with|[]=>0|t::r=>(if t.1=k then t.2 else 0)+bE r k
def hL(p:List Tr)(k:Ky):Prop:=∃t∈p,t.1=k
theorem mQ:∀(p:List Tr) (t:Tr) (k:Ky),bE (p++[t]) k=bE p k+if t.1=k then t.2 else 0|[],t,k=>by simp[bE]|a::p,t,k=>by show(if a.1=k then a.2 else 0)+bE (p++[t]) k=(if a.1=k then a.2 else 0)+bE p k+_;rw[mQ p t k,Int.add_assoc]
theorem WX{p q:List Tr}(h:p.Perm q)(k:Ky):bE p k=bE q k:=by induction h with|nil=>rfl|cons x _ f=>show _+bE _ k=_+bE _ k;rw[f]|swap x y l=>show _+(_+bE l k)=_+(_+bE l k);lia|trans _ _ d a=>rw[d,a]
def Lc{p q:List Tr}(h:p.Perm q)(k:Ky):hL p k↔hL q k:=#[λ⟨t,m,e⟩=>#[t,h.mem_iff.mp m,e],λ⟨t,m,e⟩=>#[t,h.mem_iff.mpr m,e]]
theorem jP:∀{p:List Tr}{k:Ky},¬ hL p k->bE p k=0|[],k,_=>rfl|t::p,k,h=>by have d:¬ t.1=k:=λe=>h #[t,c6,e];have a:¬ hL p k:=λ⟨u,m,e⟩=>h #[u,df m,e];show(if t.1=k then t.2 else 0)+bE p k=0;rw[ba d,jP a];rfl
def oO{p:List Tr}{t:Tr}{k:Ky}:hL (p++[t]) k↔hL p k\/t.1=k:=by constructor;{rintro⟨u,m,e⟩;rcases ko.mp m with m|m;{exact .inl #[u,m,e]};cases fj.mp m;exact .inr e};rintro(⟨u,m,e⟩|e);{exact#[u,qx _ m,e]};exact#[t,iz _ (fj.mpr rfl),e]
def fY(p L:List Tr):Prop:=∀k n,(k,n)∈L↔hL p k/\n=bE p k
def c7(J:List Tr)(t:Tr):List Tr:=if(J.any λa=>decide (a.1=t.1))=true then J.map (λa=>if a.1=t.1 then(a.1,a.2+t.2)else a)else J++[t]
def mR{k:Ky}:(J.any λa=>decide (a.1=k))=true↔hL J k:=by rw[List.any_eq_true];constructor;{rintro⟨a,m,e⟩;exact#[a,m,lh e]};rintro⟨a,m,e⟩;exact#[a,m,ip e]
def xL{p L:List Tr}(h:fY p L)(k:Ky):hL L k↔hL p k:=by constructor;{rintro⟨⟨K,n⟩,m,rfl⟩;exact((h K n).mp m).1};intro q;exact#[(k,bE p k),(h k _).mpr #[q,rfl],rfl]
def Ld(J:List Tr)(t:Tr):(c7 J t).map (·.1)=if(J.any λa=>decide (a.1=t.1))=true then J.map (·.1)else J.map (·.1)++[t.1]:=by unfold c7;split;{rw[gv];refine uf λa _=>?_;show(if a.1=t.1 then(a.1,a.2+t.2)else a).1=a.1;split <;> rfl};rw[jt];rfl
theorem WY{p:List Tr}(t:Tr)(h:fY p J)(nd:(J.map (·.1)).Nodup):fY (p++[t]) (c7 J t)/\((c7 J t).map (·.1)).Nodup:=by
 refine#[λk n=>?_,?_]
 . unfold c7;by_cases q:(J.any λa=>decide (a.1=t.1))=true
   . rw[aK q];have hp:hL p t.1:=(xL h _).mp (mR.mp q);rw[oO,mQ];constructor
     . intro m;obtain⟨⟨K,N⟩,m',e⟩:=d7.mp m;have d:=(h K N).mp m';dsimp only at e;split at e;{rename_i E;cases e;rw[aK E.symm];exact#[.inl d.1,by rw[d.2]]};rename_i E;cases e;rw[ba (λz=>E z.symm)];exact#[.inl d.1,by rw[d.2];lia]
     . rintro⟨m,rfl⟩;have hk:hL p k:=by
         rcases m with m|m
         . exact m
         . rw[<- m];exact hp
       have m':=(h k _).mpr #[hk,rfl];refine d7.mpr #[(k,bE p k),m',?_];dsimp only;by_cases E:k=t.1
       . rw[aK E,aK E.symm]
       . rw[ba E,ba (λz=>E z.symm),ug]
   . rw[ba q];have hp:¬ hL p t.1:=λz=>q (mR.mpr ((xL h _).mpr z));rw[oO,mQ,ko,fj,h k n];by_cases E:t.1=k;{subst E;rw[aK rfl,jP hp,sd];constructor;{rintro(z|z);{exact absurd z.1 hp};exact#[.inr rfl,by rw[<- z]]};rintro⟨_,rfl⟩;exact .inr rfl};rw[ba E,ug];constructor;{rintro(z|z);{exact#[.inl z.1,z.2]};exact absurd (by rw[<- z]) E};rintro⟨z|z,e⟩;{exact .inl #[z,e]};exact absurd z E
 . rw[Ld];split;{exact nd};rename_i q;refine ue.mpr #[nd,qc _ _,λa l b f e=>?_];cases fj.mp f;exists u,mu,rfl,d7.mp l;exact q (mR.mpr #[u,mu,e])
theorem Le:∀(r p J:List Tr),fY p J->(J.map (·.1)).Nodup->fY (p++r) (r.foldl c7 J)/\((r.foldl c7 J).map (·.1)).Nodup|[],p,J,h,nd=>by rw[h5];exact#[h,nd]|t::r,p,J,h,nd=>by exists a,n1,WY t h nd;have:=Le r (p++[t]) _ a n1;rw[js]at this;exact this
def bM(ts:List Tr):List Tr:=ts.foldl c7 []
def Lf:fY [] []:=λk n=>Iff.intro (λh=>by cases h) (λh=>by obtain⟨⟨t,m,_⟩,_⟩:=h;cases m)
def kN(ts:List Tr):fY ts (bM ts)/\((bM ts).map (·.1)).Nodup:=by have:=Le ts [] [] Lf qb;rw[tz]at this;exact this
def c8(a:List Tr)(t:Tr):List Tr:=match a with|[]=>[t]|l::r=>if l.1=t.1 then(t.1,l.2+t.2)::r else t::l::r
def r8(r:List Tr):Prop:=r.Pairwise λa b=>kl b.1 a.1=true
def WZ{p f:List Tr}(t:Tr)(h:fY p f)(d:r8 f)(le:∀x∈p,ltN (dy t) (dy x)=false):fY (p++[t]) (c8 f t)/\r8 (c8 f t):=by
 cases f with
 |nil=>have hp:∀k,¬ hL p k:=λk z=>nomatch (h k _).mpr #[z,rfl];refine#[λk n=>?_,qc _ _];rw[oO,mQ,jP (hp k),sd];show(k,n)∈[t]↔_;rw[fj];constructor;{intro e;rw[<- e];exact#[.inr rfl,by rw[aK rfl]]};rintro⟨z|z,e⟩;{exact absurd z (hp k)};rw[aK z]at e;rw[e,<- z]
 |cons l r =>
  have o:(l.1,l.2)∈l::r:=c6;have o:=(h l.1 l.2).mp o;have dl:=(gx.mp d).1;have N:∀n,(l.1,n)∉r:=λn m=>by have:=dl _ m;rw[xK]at this;cases this
  unfold c8;dsimp only;by_cases e:l.1=t.1
  . rw[aK e];refine#[λk n=>?_,gx.mpr #[λa B=>by rw[<- e];exact dl a B,(gx.mp d).2]];rw[oO,mQ,dq];by_cases E:t.1=k;{subst E;rw[aK rfl];constructor;{rintro(z|z);{rw[Prod.mk.injEq]at z;exact#[.inr rfl,by rw[z.2,o.2,e]]};exact absurd z (by rw[<- e];exact N n)};rintro⟨_,z⟩;left;rw[z,o.2,e]};rw[ba E,ug];constructor;{rintro(z|z);{exact absurd (Prod.mk.injEq .. ▸ z).1.symm E};have:=(h k n).mp (df z);exact#[.inl this.1,this.2]};rintro⟨z|z,D⟩;{have:=(h k n).mpr #[z,D];rcases dq.mp this with m|m;{exact absurd (by rw[<- m]at e;exact e.symm) E};exact .inr m};exact absurd z E
  . rw[ba e];exists x,G,ex,o.1;have F:kl t.1 l.1=false:=by
      have:=le x G;rw[r6 (by rw[ex];exact λz=>e z.symm),ex]at this
      exact this
    have K:kl l.1 t.1=true:=by cases q:kl l.1 t.1 with|true=>rfl|false=>exact absurd (WW q F) e
    have hp:¬ hL p t.1:=λz=>by have:=(h t.1 _).mpr #[z,rfl];rcases dq.mp this with m|m;{exact e (by rw[<- m])};have:=dl _ m;rw[F]at this;cases this
    refine#[λk n=>?_,gx.mpr #[λa B=>?_,d]]
    . rw[oO,mQ,dq,h k n];by_cases E:t.1=k;{subst E;rw[aK rfl,jP hp,sd];constructor;{rintro(z|z);{exact#[.inr rfl,by rw[<- z]]};exact absurd z.1 hp};rintro⟨_,rfl⟩;exact .inl rfl};rw[ba E,ug];constructor;{rintro(z|z);{exact absurd (by rw[<- z]) E};exact#[.inl z.1,z.2]};rintro⟨z|z,D⟩;{exact .inr #[z,D]};exact absurd z E
    . rcases dq.mp B with rfl|B;{exact K};exact uM _ _ _ (dl a B) K
theorem Lg:∀(r p a:List Tr),fY p a->r8 a->gG ((p++r).map dy)->fY (p++r) (r.foldl c8 a)/\r8 (r.foldl c8 a)|[],p,a,h,d,_=>by rw[h5];exact#[h,d]|t::r,p,a,h,d,S=>by(have le:∀x∈p,ltN (dy t) (dy x)=false:=λx f=>by rw[jt]at S;exact(List.pairwise_append.mp S).2.2 _ (BY f) _ (BY c6));exists l,D,WZ t h d le;have:=Lg r (p++[t]) _ l D (by rw[js];exact S);rw[js]at this;exact this
theorem Lh:∀{a b:List Tr},a.map dy=b.map dy->a=b|[],[],_=>rfl|[],_::_,h|_::_,[],h=>by cases h|x::a,y::b,h=>by rw[dw,dw,vc]at h;rw[xJ h.1,Lh h.2]
def AL{ts S:List Tr}(hs:S.map dy=dC (ts.map dy)):(S.foldl c8 []).reverse.map dy=dC ((bM ts).map dy):=by
 have f:S.Perm ts:=by(have h0:(S.map dy).Perm (ts.map dy):=by rw[hs];exact jB _);(exists o,q1,r,uW h0;have:S=o:=by exact Lh r);rw[this];exact q1
 exists l,D,Lg S [] [] Lf .nil (by rw[tz,hs];exact lW _)
 rw[tz]at l;exists E,n2,kN ts;have d:(S.foldl c8 []).Nodup:=D.imp λ{a b} h e=>by subst e;rw[xK]at h;cases h
 have N:(bM ts).Nodup:=by have:=ir.mp n2;exact this.imp λ{a b} h e=>h (by rw[e])
 have B:(S.foldl c8 []).Perm (bM ts):=(Dx d N).mpr λ⟨k,n⟩=>by rw[l k n,E k n,Lc f k,WX f k]
 refine uP ?_ (((List.reverse_perm _).trans B).map dy);unfold gG;rw[ir,List.pairwise_reverse];refine D.imp λ{a b} h=>?_;have ne:a.1≠b.1:=λe=>by rw[e,xK]at h;cases h
 rw[r6 ne];exact nV h
theorem Li:∀{ks:List N},(∀k∈ks,aS (nD k)=some k.py)->cG (nDL ks)=some (N.pyL ks)|[],_=>by simp[nDL,cG,N.pyL]|k::ks,h=>by simp only[nDL,cG,N.pyL];rw[h k c6,Li λx a=>h x (df a)]
def r9(k:N):aS (nD k)=some k.py:=by induction k using N.ind with|hi n|hs x=>simp[nD,aS,N.py]|ht U a=>simp only[nD,aS,N.py];rw[Li a];rfl
theorem AM{x y:N}{m:Md}(d:x.dp<=50)(a:y.dp<=50):ki neg m (nD x) m' (nD y)=some (.fz,.bl (if neg then !decide (x=y)else decide (x=y))):=by unfold ki;rw[r9,r9];dsimp only;rw[aK (by unfold fM;rw[cw,fw,fw,N.py_depth,N.py_depth];lia),N.py_eqv]
def Lj{x y:N}{m:Md}(d:x.dp<=50)(a:y.dp<=50):cu (bA .Eq) (.ok m (nD x)) (.ok m' (nD y))=okf (.bl (decide (x=y))):=bI (by
 show im (ki false) _ m (nD x) m' (nD y)=_;unfold im;rw[AM d a];rfl)
def Lk(h:(N.t ks).dp<=8):bS (nD (.t ks))=some (.t ks):=by(rw[nD];show(match cT (nDL ks)with|some ks=>if(N.t ks).dp<=8 then some (N.t ks)else none|none=>none)=_);rw[mP];dsimp only;rw[aK h]
def W0(h:∀k∈ks,dJ k=true)(h0:ks≠[]):qj (nDL ks)=none:=by cases ks with|nil=>exact absurd rfl h0|cons k ks=>have:=h k c6;unfold dJ at this;split at this;{simp only[nDL,nD];rfl};cases this
def W1(ks:List N):(dC ks).length=ks.length:=(jB ks).length_eq
def sC{m:Md}{d:D}(hd:seqD d=some (nDL ks))(h:∀k∈ks,dJ k=true)(ok:mm ks=true):eJ [(m,d)]=some (.fr,.lst (nDL (dC ks))):=by(show(match seqD d with|some ds=>_|none=>none)=_);rw[hd];dsimp only;by_cases h0:ks=[];{subst h0;rfl};rw[W0 h h0,mP];dsimp only;rw[aK ok]
def isF(f:N):Prop:=∃U:List Str,f=.t (U.map .s)/\U.length<1000
theorem oP:∀{U ys:List N},(∀x∈U,∀y∈ys,ft x y=true)->cM U ys=true|[],_,_|_::_,[],_=>by simp[cM]|x::U,y::ys,h=>by rw[cM];split;{exact oP λa f b d=>h a (df f) b (df d)};exact h x c6 y c6
def E5{f g:N}(r:isF f)(o:isF g):ft f g=true:=by exists U,rfl,_,r;exists ys,rfl,_,o;rw[ft];refine oP λx l y d=>?_;exists a,_,rfl,d7.mp l;exists b,_,rfl,d7.mp d;rw[ft]
def E6{s t:Tr}(d:ft s.1.1 t.1.1=true)(a:ft s.1.2 t.1.2=true):ft (dy s) (dy t)=true:=by unfold dy;simp only[ft,cM];split;{split;{split <;> rfl};exact a};exact d
theorem xM:∀{U:List N}{n:Nat},(∀x∈U,x.dp<=n)->N.dpL U<=n|[],n,_=>by simp[N.dpL]|x::U,n,h=>by rw[N.dpL];have:=h x c6;have:=xM λy a=>h y (df a);lia
theorem E7{f:N}(h:isF f):f.dp<=1:=by(exists U,rfl,_,h;rw[N.dp];have:N.dpL (U.map N.s)<=0:=xM λx d=>by exists a,_,rfl,d7.mp d;rw[N.dp];exact dm 0);lia
def W2{t:Tr}(h:isF t.1.1):dJ (dy t)=true:=by exists U,e,_,h;unfold dy;rw[e];rfl
def oQ(t:Tr):nD (dy t)=.tup [nD t.1.1,nD t.1.2,.int t.2]:=by simp[dy,nD,nDL]
def K_eq(k:Ky):nD (hE k)=.tup [nD k.1,nD k.2]:=by simp[hE,nD,nDL]
abbrev tD(t:Tr):D:=nD (dy t)
def jQ(ts:List Tr):nDL (ts.map dy)=ts.map tD:=by rw[fB,gv];rfl
theorem W3(r:List D)(d:D):atI (r++[d]) (-1)=some d:=by unfold atI ixN;rw[ba (by decide),aK (by simp;lia)];(simp;have:(-1+((r.length:Int)+1)).toNat=r.length:=by lia);rw[this];simp
theorem W4(r:List D)(d:D):ixN (r++[d]).length (-1)=some r.length:=by unfold ixN;rw[ba (by decide),aK (by simp;lia)];simp;lia
def W5(r:List D)(d e:D):(r++[d]).set r.length e=r++[e]:=by simp
def jc(b:N)(k:Ky):Prop:=isF k.1/\k.2=b/\ft b b=true/\b.dp<=7
theorem jR{b:N}{k:Ky}(h:jc b k):k.1.dp<=1/\k.2.dp<=7/\(hE k).dp<=8/\∀n,(dy (k,n)).dp<=8:=by(have d:=E7 h.1;have a:k.2.dp<=7:=by rw[h.2.1];exact h.2.2.2);refine#[d,a,?_,λn=>?_];{simp only[hE,N.dp,N.dpL];lia};simp only[dy,N.dp,N.dpL];lia
def xN{b:N}{s t:Tr}(a:jc b s.1)(d:jc b t.1):ft (dy s) (dy t)=true:=E6 (E5 a.1 d.1) (by rw[a.2.1,d.2.1];exact a.2.2.1)
def Ll{b:N}{ts:List Tr}(h:∀t∈ts,jc b t.1)(o:ts.length<64):mm (ts.map dy)=true/\∀k∈ts.map dy,dJ k=true:=by(have d:∀k∈ts.map dy,dJ k=true:=λk hk=>by exists t,a,rfl,d7.mp hk;exact W2 (h t a).1);refine#[?_,d];unfold mm;simp only[cw,jr,fw,fq];refine#[#[#[λk hk=>?_,.inr d],λx l y f=>?_],by rw[d3];exact hB o nU];{exists t,a,rfl,d7.mp hk;exact ii ((jR (h t a)).2.2.2 t.2) (by decide)};exists s,hs,rfl,d7.mp l;exists t,a,rfl,d7.mp f;exact xN (h s hs) (h t a)
def E8:jZ (.ok [])=.ok .fr (.lst []):=rfl
def iS(t:Tr):tD t=.tup [nD t.1.1,nD t.1.2,.int t.2]:=oQ t
def AN{W:WD}{A x2 x3 x4:Option (Bool×D)}{t:Tr}:cz W fX [A,some (true,.lst []),sf (nD t.1.1),sf (nD t.1.2),sf (.int t.2)]=.nx [A,some (true,.lst [tD t]),sf (nD t.1.1),sf (nD t.1.2),sf (.int t.2)]:=by(have l0:eO [(.bo,.lst [])]=some (.fz,.int 0):=rfl;have a:eZ [A,some (true,.lst []),sf (nD t.1.1),sf (nD t.1.2),sf (.int t.2)] 1 (okf (.tup [nD t.1.1,nD t.1.2,.int t.2]))=.nx [A,some (true,.lst [tD t]),sf (nD t.1.1),sf (nD t.1.2),sf (.int t.2)]:=by rw[tD,oQ];rfl);simp[fX,l0,iR,a]
theorem AO{b:N}{W:WD}{A:Option (Bool×D)}{l t:Tr}{r:List D}(f:jc b l.1)(ht:jc b t.1)(F:r.length+1<sizeLine):cz W fX [A,some (true,.lst (r++[tD l])),sf (nD t.1.1),sf (nD t.1.2),sf (.int t.2)]=.nx [A,some (true,.lst (if l.1=t.1 then r++[tD (t.1,l.2+t.2)]else r++[tD l]++[tD t])),sf (nD t.1.1),sf (nD t.1.2),sf (.int t.2)]:=by(have l0:eO [(.bo,.lst (r++[tD l]))]=some (.fz,.int (r.length+1:Nat)):=by show some (Md.fz,D.int ((r++[tD l]).length:Nat))=_;rw[ik];rfl);(have i0:cu fm (.ok .bo (.lst (r++[tD l]))) (okf (.int (-1)))=okf (.tup [nD l.1.1,nD l.1.2,.int l.2]):=by rw[<- oQ];exact gK (W3 r _));have E:=Lj (m:=.fz) (m':=.fz) (x:=l.1.1) (y:=t.1.1) (by have:=(jR f).1;lia) (by have:=(jR ht).1;lia);have a:=Lj (m:=.fz) (m':=.fz) (x:=l.1.2) (y:=t.1.2) (by have:=(jR f).2.1;lia) (by have:=(jR ht).2.1;lia);(have d:(0:Int)<((r.length+1:Nat):Int):=by lia);(have o:eZ [A,some (true,.lst (r++[tD l])),sf (nD t.1.1),sf (nD t.1.2),sf (.int t.2)] 1 (okf (.tup [nD t.1.1,nD t.1.2,.int t.2]))=.nx [A,some (true,.lst (r++[tD l]++[tD t])),sf (nD t.1.1),sf (nD t.1.2),sf (.int t.2)]:=by rw[tD,tD,oQ t];show(if(r++[nD (dy l)]).length<sizeLine then _ else _)=_;rw[aK (by rw[ik];exact F)];rfl);(have B:iH [A,some (true,.lst (r++[tD l])),sf (nD t.1.1),sf (nD t.1.2),sf (.int t.2)] 1 (okf (.int (-1))) (okf (.tup [nD t.1.1,nD t.1.2,.int (l.2+t.2)]))=.nx [A,some (true,.lst (r++[tD (t.1,l.2+t.2)])),sf (nD t.1.1),sf (nD t.1.2),sf (.int t.2)]:=by(show(match ixN (r++[tD l]).length (-1)with|some j=>aI.nx (List.set [A,some (true,D.lst (r++[tD l])),sf (nD t.1.1),sf (nD t.1.2),sf (D.int t.2)] 1 (some (true,D.lst ((r++[tD l]).set j _))))|none=>.stuck)=_);rw[W4];dsimp only;rw[W5];have:tD (t.1,l.2+t.2)=.tup [nD t.1.1,nD t.1.2,.int (l.2+t.2)]:=oQ _;rw[this];rfl);by_cases c1:l.1.1=t.1.1;{by_cases c2:l.1.2=t.1.2;{have c:l.1=t.1:=th c1 c2;rw[aK c];rw[ip c1]at E;rw[ip c2]at a;generalize D.lst (r++[tD l])=L at *;simp[fX,l0,i0,oG,oH,oJ,E,a,d,iR,B]};have c:¬ l.1=t.1:=λe=>c2 (by rw[e]);rw[ba c];rw[ip c1]at E;rw[jw c2]at a;generalize D.lst (r++[tD l])=L at *;simp[fX,l0,i0,oG,oH,oJ,E,a,d,iR,o]};have c:¬ l.1=t.1:=λe=>c1 (by rw[e]);rw[ba c];rw[jw c1]at E;generalize D.lst (r++[tD l])=L at *;simp[fX,l0,i0,oG,oH,oJ,E,a,d,iR,o]
def W6(r:List Tr)(t:Tr):(c8 r t).length<=r.length+1:=by unfold c8;split;{simp};split <;> simp
def W7{b:N}{r:List Tr}{t:Tr}(h:∀x∈r,jc b x.1)(ht:jc b t.1):∀x∈c8 r t,jc b x.1:=by unfold c8;split;{intro x a;cases fj.mp a;exact ht};split;{intro x a;rcases dq.mp a with rfl|a;{exact ht};exact h x (df a)};intro x a;rcases dq.mp a with rfl|a;{exact ht};exact h x a
theorem Lm{b:N}{W:WD}{A:Option (Bool×D)}:∀(S a:List Tr) (x2 x3 x4:Option (Bool×D)),(∀t∈S,jc b t.1)->(∀t∈a,jc b t.1)->a.length+S.length<1000->∃o f d,bH (aO (.tp [.nm 2,.nm 3,.nm 4])) (cz W fX) (S.map tD) [A,some (true,.lst (a.reverse.map tD)),x2,x3,x4]=.nx [A,some (true,.lst ((S.foldl c8 a).reverse.map tD)),o,f,d]|[],a,x2,x3,x4,_,_,_=>#[x2,x3,x4,rfl]|t::S,a,x2,x3,x4,G,E,F=>by have B:=G t c6;rw[gg]at F;obtain⟨o,f,d,e⟩   := Lm (W:=W) (A:=A) S (c8 a t) (sf (nD t.1.1)) (sf (nD t.1.2)) (sf (.int t.2)) (λx K=>G x (df K)) (W7 E B) (by have:=W6 a t;lia);(refine#[o,f,d,?_];have L:cz W fX [A,some (true,.lst (a.reverse.map tD)),sf (nD t.1.1),sf (nD t.1.2),sf (.int t.2)]=.nx [A,some (true,.lst ((c8 a t).reverse.map tD)),sf (nD t.1.1),sf (nD t.1.2),sf (.int t.2)]:=by cases a with|nil=>exact AN (x2:=x2) (x3:=x3) (x4:=x4)|cons l r=>rw[BZ,jt];show cz W fX [A,some (true,.lst (r.reverse.map tD++[tD l])),_,_,_]=_;rw[AO (E l c6) B (by rw[d3,List.length_reverse,dz];rw[gg]at F;lia)];unfold c8;dsimp only;split;{rw[BZ,jt];rfl};rw[BZ,BZ,jt,jt];rfl);rw[dw,iS t];unfold bH;rw[show aO (.tp [.nm 2,.nm 3,.nm 4]) (.tup [nD t.1.1,nD t.1.2,.int t.2]) [A,some (true,.lst (a.reverse.map tD)),x2,x3,x4]=some [A,some (true,.lst (a.reverse.map tD)),sf (nD t.1.1),sf (nD t.1.2),sf (.int t.2)]from by simp];dsimp only;rw[L];exact e
theorem W8{b:N}{ts S:List Tr}(hs:S.map dy=dC (ts.map dy))(h:∀t∈ts,jc b t.1)(G:ts.length<60){d:D}(hd:d=.tup (ts.map tD)\/d=.lst (ts.map tD)):(Wk (k+1)).Φ "reason_of" [d]=okf (.tup (nDL (dC ((bM ts).map dy)))):=by exists ok,T,Ll h (hB G (by decide));(have K:∀t∈S,jc b t.1:=λt a=>by(have:dy t∈dC (ts.map dy):=by rw[<- hs];exact BY a);exists u,F,e,d7.mp ((jB _).mem_iff.mp this);rw[<- xJ e];exact h u F);(have lS:S.length<60:=by have:=congrArg List.length hs;rw[d3,W1,d3]at this;lia);(have e1:eJ [(.fz,d)]=some (.fr,.lst (S.map tD)):=by rw[<- jQ S,hs];exact sC (by rw[jQ];rcases hd with rfl|rfl <;> rfl) T ok);obtain⟨r,o,l,E⟩  :=Lm (W:=WT TT k) (A:=sf d) S [] none none none K (λt a=>nomatch a) (by simp;lia);(have Z:j5 [(.fz,.lst ((S.foldl c8 []).reverse.map tD))]=some (.fz,.tup (nDL (dC ((bM ts).map dy)))):=by show some (Md.fz,D.tup ((S.foldl c8 []).reverse.map tD))=_;rw[<- jQ,AL hs]);refine ez (d:=Ko) rfl rfl ?_;show cz _ wL [sf d,none,none,none,none]=_;have E:bH (aO (.tp [.nm 2,.nm 3,.nm 4])) (cz (Wk k) fX) (S.map tD) [sf d,some (true,.lst []),none,none,none]=_:=E;have V:∀{L:D},lP [sf d,some (true,L),r,o,l] 1=.nx [sf d,sf L,r,o,l]:=rfl;unfold wL;generalize fX=B at *;generalize (S.foldl c8 []).reverse.map tD=L at *;generalize nDL (dC ((bM ts).map dy))=M at *;generalize S.map tD=L0 at *;clear hd;simp[E8,e1,lJ,E,V,Ty.f,Z]
def F(ys:List Str):N:=.t (ys.map .s)
def kP(ys:List Str):nD (F ys)=.tup (ys.map .str):=by unfold F;rw[nD,fB,gv];congr 1
abbrev Rw:=List Str×N×Int
def gN(r:Rw):D:=.tup [.tup (r.1.map .str),nD r.2.1,.int r.2.2]
def tr(r:Rw):Tr:=((F (eQ r.1),r.2.1),r.2.2)
def kv(a:Tr):N×D:=(hE a.1,.int a.2)
theorem Ln:∀(U:List Str),qj (U.map .str)=some U|[]=>rfl|x::U=>by rw[dw];unfold qj;rw[Ln U];rfl
def Lo{U:List Str}{m:Md}{d:D}(hd:seqD d=some (U.map .str))(h:U.length<64):eJ [(m,d)]=some (.fr,.lst ((eQ U).map .str)):=by(show(match seqD d with|some ds=>_|none=>none)=_);rw[hd];dsimp only;rw[Ln];dsimp only;rw[aK h]
theorem sD:∀(J:List Tr) (k:Ky),a6 (J.map kv) (hE k)=(J.find? λa=>decide (a.1=k)).map λa=>.int a.2|[],k=>rfl|a::J,k=>by rw[dw];by_cases e:a.1=k;{rw[uH (p:=kv a) (by show hE a.1=_;rw[e]),List.find?_cons_of_pos (by simpa using e)];rfl};rw[uI (p:=kv a) (λz=>e (xI z)),sD J k,List.find?_cons_of_neg (by simpa using e)]
def xO{k:Ky}{n:Int}(nd:(J.map (·.1)).Nodup)(h:(k,n)∈J):J.find? (λa=>decide (a.1=k))=some (k,n):=by induction J with|nil=>cases h|cons a J d=>rw[dw,lg]at nd;rcases dq.mp h with e|h;{subst e;rw[List.find?_cons_of_pos (by simp)]};have:¬ a.1=k:=λe=>nd.1 (by rw[e];exact d7.mpr #[_,h,rfl]);rw[List.find?_cons_of_neg (by simpa using this)];exact d nd.2 h
def W9{t:Tr}(nd:(J.map (·.1)).Nodup):((c7 J t).map (·.1)).Nodup:=by rw[Ld];split;{exact nd};rename_i q;refine ue.mpr #[nd,qc _ _,λa f b d e=>?_];cases fj.mp d;exists u,mu,rfl,d7.mp f;exact q (mR.mpr #[u,mu,e])
theorem Lp(J:List Tr)(t:Tr):(c7 J t).length<=J.length+1:=by unfold c7;split;{rw[d3];lia};rw[ik];exact dm _
def hG(J:List Tr)(k:Ky):Int:=((J.find? λa=>decide (a.1=k)).map (·.2)).getD 0
def Xa(J:List Tr)(k:Ky):(a6 (J.map kv) (hE k)).getD (.int 0)=.int (hG J k):=by rw[sD];unfold hG;cases J.find? λa=>decide (a.1=k) <;> rfl
def Xb{t:Tr}(nd:(J.map (·.1)).Nodup):cK (J.map kv) (hE t.1) (.int (hG J t.1+t.2))=(c7 J t).map kv:=by unfold cK c7;rw[sD];by_cases q:(J.any λa=>decide (a.1=t.1))=true;{rw[aK q];obtain⟨⟨k,n⟩,m,e⟩:=mR.mp q;dsimp only at e;subst e;have f:=xO nd m;(have d:hG J t.1=n:=by unfold hG;rw[f];rfl);rw[aK (by rw[f];rfl),d,gv,gv];refine uf λa l=>?_;show(if hE a.1=hE t.1 then(hE a.1,D.int (n+t.2))else kv a)=kv (if a.1=t.1 then(a.1,a.2+t.2)else a);by_cases e:a.1=t.1;{rw[aK e,aK (by rw[e])];(have:a=(t.1,n):=by have:=xO nd (k:=t.1) (n:=a.2) (by rw[<- e];exact l);rw[f]at this;injection this with this;rw[this,<- e]);rw[this];rfl};rw[ba e,ba (λz=>e (xI z))]};rw[ba q];(have:(J.find? λa=>decide (a.1=t.1))=none:=by rw[Dw];intro a l z;exact q (mR.mpr #[a,l,lh z]));(have d:hG J t.1=0:=by unfold hG;rw[this];rfl);rw[ba (by rw[this];decide),d,sd,jt];rfl
def xP{k:Ky}(h:(hE k).dp<=8):bS (.tup [nD k.1,nD k.2])=some (hE k):=by rw[<- K_eq];exact Lk h
def oR{W:WD}{a:E}{m:Md}{d d':D}(h:br W a Y=.ok m d)(hs:eJ [(m,d)]=some (m',d')):br W (.srtw a) Y=.ok m' d':=by show dP eJ (aU (br W a Y) (.ok []))=_;rw[h];show Res.of (eJ [(m,d)])=_;rw[hs];rfl
theorem AQ{W:WD}{A d:Option (Bool×D)}{r:Rw}(nd:(J.map (·.1)).Nodup)(f:r.1.length<64)(a:(hE (tr r).1).dp<=8)(K:J.length<1000):cz W rM [A,some (true,.dtn (J.map kv)),sf (.tup (r.1.map .str)),sf (nD r.2.1),sf (.int r.2.2),d]=.nx [A,some (true,.dtn ((c7 J (tr r)).map kv)),sf (.tup (r.1.map .str)),sf (nD r.2.1),sf (.int r.2.2),sf (.tup [nD (tr r).1.1,nD (tr r).1.2])]:=by
 have B:eJ [(.fz,.tup (r.1.map .str))]=some (.fr,.lst ((eQ r.1).map .str)):=Lo rfl f;have G:nD r.2.1=nD (tr r).1.2:=rfl;have l:kC (.ok .bo (.dtn (J.map kv))) (okf (.tup [nD (tr r).1.1,nD (tr r).1.2])) (okf (.int 0))=okf (.int (hG J (tr r).1)):=by(show(match Md.fz,bS (.tup [nD (tr r).1.1,nD (tr r).1.2])with|.fz,some k=>Res.ok .fz ((a6 (J.map kv) k).getD (.int 0))|_,_=>.stuck)=_);rw[xP a];dsimp only;rw[Xa]
 have E : dW [A, some (true, .dtn (J.map kv)), sf (.tup (r.1.map .str)), sf (nD (tr r).1.2), sf (.int r.2.2), sf (.tup [nD (tr r).1.1, nD (tr r).1.2])] 1 (okf (.tup [nD (tr r).1.1, nD (tr r).1.2])) (okf (.int (hG J (tr r).1 + r.2.2))) =
     .nx [A,some (true,.dtn ((c7 J (tr r)).map kv)),sf (.tup (r.1.map .str)),sf (nD (tr r).1.2),sf (.int r.2.2),sf (.tup [nD (tr r).1.1,nD (tr r).1.2])]:=by
  show(match bS (.tup [nD (tr r).1.1,nD (tr r).1.2])with|some k=>if(J.map kv).length<sizeLine then aI.nx (List.set [A,some (true,D.dtn (J.map kv)),sf (D.tup (r.1.map .str)),sf (nD (tr r).1.2),sf (.int r.2.2),sf (.tup [nD (tr r).1.1,nD (tr r).1.2])] 1 (some (true,D.dtn (cK (J.map kv) k (.int (hG J (tr r).1+r.2.2))))))else .stuck|none=>.stuck)=_
  rw[xP a];dsimp only;rw[aK (by rw[d3,dz];lia)]
  have:=Xb (t:=tr r) nd;rw[show(tr r).2=r.2.2 from rfl]at this
  rw[this];rfl
 have o:D.tup ((eQ r.1).map D.str)=nD (tr r).1.1:=by rw[show(tr r).1.1=F (eQ r.1)from rfl,kP]
 rw[G];refine cy (cB (jO (bJ (Eq.trans (eU (oR rfl B)) (congrArg (Res.ok .fz) o))) rfl)) (cy ?_ rfl);rw[rC,z4,IL];show dW _ 1 (okf (.tup [nD (tr r).1.1,nD (tr r).1.2])) (cu (aX .Add) (kC (.ok .bo (.dtn (J.map kv))) (okf (.tup [nD (tr r).1.1,nD (tr r).1.2])) (okf (.int 0))) (okf (.int r.2.2)))=_;rw[l];exact E
theorem Lq{W:WD}{A:Option (Bool×D)}:∀(rs:List Rw) (J:List Tr) (x2 x3 x4 a:Option (Bool×D)),(J.map (·.1)).Nodup->(∀r∈rs,r.1.length<64/\(hE (tr r).1).dp<=8)->J.length+rs.length<1000->∃o l f d,bH (aO (.tp [.nm 2,.nm 3,.nm 4])) (cz W rM) (rs.map gN) [A,some (true,.dtn (J.map kv)),x2,x3,x4,a]=.nx [A,some (true,.dtn (((rs.map tr).foldl c7 J).map kv)),o,l,f,d]|[],J,x2,x3,x4,a,_,_,_=>#[x2,x3,x4,a,rfl]|r::rs,J,x2,x3,x4,a,nd,h,E=>by exists G,F,h r c6;rw[gg]at E;exists o,l,f,d,e,Lq (W:=W) (A:=A) rs (c7 J (tr r)) (sf (.tup (r.1.map .str))) (sf (nD r.2.1)) (sf (.int r.2.2)) (sf (.tup [nD (tr r).1.1,nD (tr r).1.2])) (W9 nd) (λx B=>h x (df B)) (by have:=Lp J (tr r);lia);refine#[o,l,f,d,?_];rw[dw];unfold bH;rw[show aO (.tp [.nm 2,.nm 3,.nm 4]) (gN r) [A,some (true,.dtn (J.map kv)),x2,x3,x4,a]=some [A,some (true,.dtn (J.map kv)),sf (.tup (r.1.map .str)),sf (nD r.2.1),sf (.int r.2.2),a]from by simp[gN]];dsimp only;rw[AQ nd G F (by lia)];exact e
def Xc{b:N}{ts:List Tr}(h:∀t∈ts,jc b t.1):∀t∈bM ts,jc b t.1:=λt d=>by exists u,a,e,(((kN ts).1 t.1 t.2).mp d).1;rw[<- e];exact h u a
theorem Lr:∀(r J:List Tr),(r.foldl c7 J).length<=J.length+r.length|[],J=>dm _|t::r,J=>by have d:=Lr r (c7 J t);have a:=Lp J t;rw[List.foldl_cons,gg];lia
def Ls(ts:List Tr):(bM ts).length<=ts.length:=by unfold bM;have:=Lr ts [];simpa using this
def nf(ts:List Tr):D:=.tup (nDL (dC ((bM ts).map dy)))
theorem Xd{b:N}{rs:List Rw}(h:∀r∈rs,r.1.length<64/\jc b (tr r).1)(hl:rs.length<64):(Wk (k+1)).Φ "_law_normal" [.lst (rs.map gN)]=okf (nf (rs.map tr)):=by
 have T:∀t∈rs.map tr,jc b t.1:=λt l=>by exists r,f,rfl,d7.mp l;exact(h r f).2
 exists tl,nd,kN (rs.map tr);have S:=Xc T;have al:(bM (rs.map tr)).length<64:=by have:=Ls (rs.map tr);rw[d3]at this;lia
 exists G,F,B,o,E,Lq (W:=Wk k) (A:=sf (.lst (rs.map gN))) rs [] none none none none qb (λr f=>#[(h r f).1,(jR (h r f).2).2.2.1]) (by simp;lia)
 have E:bH (aO (.tp [.nm 2,.nm 3,.nm 4])) (cz (Wk k) rM) (rs.map gN) [sf (.lst (rs.map gN)),some (true,.dtn []),none,none,none,none]=.nx [sf (.lst (rs.map gN)),some (true,.dtn ((bM (rs.map tr)).map kv)),G,F,B,o]:=E;have e6:cF (okf (.lst ((bM (rs.map tr)).map λa=>nD (hE a.1)))) [sf (.lst (rs.map gN)),sf (.dtf ((bM (rs.map tr)).map kv)),G,F,B,o] [1] 1 (aO (.nm 1)) (λY=>fu (Wk k) [] Y) (λY=>br (Wk k) (.tup [(.ix v1 (.int 0)),(.ix v1 (.int 1)),(.nix v0 v1)]) Y)=.ok .fr (.lst ((bM (rs.map tr)).map tD)):=by
  refine mN (enc:=λa:Tr=>nD (hE a.1)) tD (by rw[dz];lia) λa K=>?_
  refine#[[sf (.dtf ((bM (rs.map tr)).map kv)),sf (nD (hE a.1))],.fz,rfl,by simp,.fz,?_]
  have g:cu eI (okf (.dtf ((bM (rs.map tr)).map kv))) (okf (.tup [nD a.1.1,nD a.1.2]))=okf (.int a.2):=bI (by
   show(match some ((bM (rs.map tr)).map kv),bS (.tup [nD a.1.1,nD a.1.2])with|some kvs,some k=>(a6 kvs k).map λd=>(Md.fz,d)|_,_=>none)=_
   rw[xP (jR (S a K)).2.2.1];dsimp only;rw[sD,xO nd (k:=a.1) (n:=a.2) K];rfl)
  rw[iS a,K_eq];generalize D.dtf ((bM (rs.map tr)).map kv)=L at *;simp[Az,AA,g,iR]
 have Z:eJ [(.fr,.lst ((bM (rs.map tr)).map tD))]=some (.fr,.lst (nDL (dC ((bM (rs.map tr)).map dy)))):=by exists ok,V,Ll (λt l=>S t l) al;exact sC (by rw[jQ];rfl) V ok
 refine ez (d:=Ks) rfl rfl (cy rfl (cy E (cy rfl (bB (eU (m:=.fr) (oR (Eq.trans (congrArg (λr=>cF r _ [1] 1 _ _ _) ?_) e6) Z))))));show Res.ok .fz (.lst (((bM (rs.map tr)).map kv).map λkv=>nD kv.1))=_;rw[gv];rfl
def Sm(A B:List Tr):Prop:=∀k,(hL A k↔hL B k)/\bE A k=bE B k
def Sm.refl(A:List Tr):Sm A A:=λk=>#[Iff.rfl,rfl]
theorem Sm.symm{B:List Tr}(h:Sm A B):Sm B A:=λk=>#[(h k).1.symm,(h k).2.symm]
theorem Sm.trans{B C:List Tr}(h:Sm A B)(g:Sm B C):Sm A C:=λk=>#[(h k).1.trans (g k).1,(h k).2.trans (g k).2]
def AR{ts us:List Tr}(p:Sm ts us):nf ts=nf us:=by exists l,n1,kN ts;exists f,n2,kN us;have o:(bM ts).Nodup:=(ir.mp n1).imp λ{a b} h e=>h (by rw[e]);have D:(bM us).Nodup:=(ir.mp n2).imp λ{a b} h e=>h (by rw[e]);(have d:(bM ts).Perm (bM us):=(Dx o D).mpr λ⟨k,n⟩=>by rw[l k n,f k n,(p k).1,(p k).2]);unfold nf;rw[uO (lW _) (lW _) (((jB _).trans (d.map dy)).trans (jB _).symm)]
theorem sH:∀(A B:List Tr) (k:Ky),bE (A++B) k=bE A k+bE B k|[],B,k=>by simp[bE]|a::A,B,k=>by show _+bE (A++B) k=_+bE A k+_;rw[sH A B k,Int.add_assoc]
def Lu{B:List Tr}{k:Ky}:hL (A++B) k↔hL A k\/hL B k:=by constructor;{rintro⟨u,m,e⟩;exact(ko.mp m).elim (λm=>.inl #[u,m,e]) (λm=>.inr #[u,m,e])};rintro(⟨u,m,e⟩|⟨u,m,e⟩);{exact#[u,qx _ m,e]};exact#[u,iz _ m,e]
def Sm.app{d B a:List Tr}(h:Sm A d)(g:Sm B a):Sm (A++B) (d++a):=λk=>by refine#[?_,?_];{rw[Lu,Lu,(h k).1,(g k).1]};rw[sH,sH,(h k).2,(g k).2]
def Lv{ts:List Tr}:∃S:List Tr,S.Perm ts/\S.map dy=dC (ts.map dy):=by exists S,p,e,uW (jB (ts.map dy));exact#[S,p,e.symm]
def lq(A:List Tr):Prop:=(A.map (·.1)).Nodup/\gG (A.map dy)
theorem kQ:∀{A:List Tr}{k:Ky}{n:Int},(A.map (·.1)).Nodup->(k,n)∈A->bE A k=n|t::A,k,n,nd,h=>by rw[dw]at nd;exists n1,n2,gx.mp nd;show(if t.1=k then t.2 else 0)+bE A k=n;rcases dq.mp h with rfl|h;{rw[aK rfl,jP λ⟨u,m,e⟩=>n1 u.1 (BY m) e.symm];exact ug _};rw[ba (λe=>n1 k (d7.mpr #[_,h,rfl]) e),kQ n2 h];exact sd _
def Xe(nd:(A.map (·.1)).Nodup):fY A A:=λk n=>by constructor;{intro h;exact#[#[_,h,rfl],(kQ nd h).symm]};rintro⟨⟨t,m,rfl⟩,e⟩;have:(t.1,t.2)∈A:=m;rw[e,kQ nd this];exact m
def Lw(nd:(A.map (·.1)).Nodup):A.Nodup:=(ir.mp nd).imp λ{a b} h e=>h (by rw[e])
def Xf(nd:(A.map (·.1)).Nodup):(bM A).Perm A:=by exists a,n1,kN A;exact(Dx (Lw n1) (Lw nd)).mpr λ⟨k,n⟩=>by rw[a k n,Xe nd k n]
def Xg(h:lq A):nf A=.tup (A.map tD):=by unfold nf;rw[<- uP h.2 ((Xf h.1).symm.map dy),jQ]
def sJ(X:List Tr):∃S:List Tr,nf X=.tup (S.map tD)/\lq S/\Sm S X/\S.length<=X.length:=by exists S,p,e,Lv (ts:=bM X);exists d,n1,kN X;have nd:(S.map (·.1)).Nodup:=((p.map (·.1)).nodup_iff).mpr n1;have hs:∀k,hL S k↔hL X k:=λk=>(Lc p k).trans (xL d k);refine#[S,by unfold nf;rw[<- e,jQ],#[nd,by rw[e];exact lW _],λk=>#[hs k,?_],by rw[p.length_eq];exact Ls X];by_cases c:hL S k;{exists t,a,rfl,c;have:=((d t.1 t.2).mp (p.mem_iff.mp a)).2;rw[kQ nd (n:=t.2) a,this]};rw[jP c,jP λz=>c ((hs k).mpr z)]
def Xh{a b:N}(h:nD a=nD b):a=b:=by have:=congrArg bV h;rw[xB,xB]at this;injection this
def Xi{a b:Tr}(h:tD a=tD b):a=b:=xJ (Xh h)
theorem mS:∀{A B:List Tr},A.map tD=B.map tD->A=B|[],[],_=>rfl|[],_::_,h|_::_,[],h=>by cases h|a::A,b::B,h=>by rw[dw,dw,vc]at h;rw[Xi h.1,mS h.2]
abbrev rD(A:List Tr):D:=.tup (A.map tD)
open Classical in
noncomputable def uw(d:D):List Tr:=if h:∃S:List Tr,d=rD S then h.choose else[]
def oS(S:List Tr):uw (rD S)=S:=by unfold uw;have h:∃a:List Tr,rD S=rD a:=#[S,rfl];rw[dif_pos h];have:=h.choose_spec;injection this with this;exact(mS this).symm
noncomputable def ux(a b:D):D:=nf (uw a++uw b)
def gO(A B:List Tr):ux (rD A) (rD B)=nf (A++B):=by unfold ux;rw[oS,oS]
abbrev b0:N:=.t []
def gB(b:N):Prop:=ft b b=true/\b.dp<=7
def AS:gB b0:=#[by simp[ft,cM],by simp[N.dp,N.dpL]]
def iy(b:N)(z:Str):Ky:=(F [z],b)
def Fc(b:N)(P:List Str)(t:Tr):Prop:=(∃z∈P,t.1=iy b z)/\0<t.2
def AT(b:N)(P:List Str)(d:D):Prop:=∃S:List Tr,d=rD S/\lq S/\∀t∈S,Fc b P t
def Fc.K{b:N}{P:List Str}{t:Tr}(g:gB b)(h:Fc b P t):jc b t.1:=by obtain⟨⟨z,_,e⟩,_⟩:=h;rw[e];exact#[#[[z],rfl,by simp],rfl,g]
theorem Lx{α:Type}[BEq α][LawfulBEq α]:∀{l l':List α},l.Nodup->(∀y∈l,y∈l')->l.length<=l'.length|[],_,_,_=>gw _|a::l,l',f,B=>by(rw[lg]at f;have r:=B a c6;have:=Lx (l':=l'.erase a) f.2 λy o=>by have d:y≠a:=λe=>f.1 (e ▸ o);exact(List.mem_erase_of_ne d).mpr (B y (df o)));rw[List.length_erase_of_mem r]at this;have pos:0<l'.length:=List.length_pos_of_mem r;rw[gg];lia
def iT{b:N}{P:List Str}{S:List Tr}(a:lq S)(h:∀t∈S,Fc b P t):S.length<=P.length:=by(have:=Lx (l:=S.map (·.1)) (l':=P.map (iy b)) a.1 λy f=>by exists t,o,rfl,d7.mp f;exists z,d,e,(h t o).1;exact d7.mpr #[z,d,e.symm]);simpa using this
theorem Ly:∀{X:List Tr}{k:Ky},(∀t∈X,0<t.2)->0<=bE X k/\(hL X k->0<bE X k)|[],k,_=>#[Int.le_refl _,λ⟨_,m,_⟩=>nomatch m]|t::X,k,h=>by exists i1,a,Ly (X:=X) (k:=k) λu d=>h u (df d);have h0:=h t c6;show 0<=(if t.1=k then t.2 else 0)+bE X k/\(_->0<(if t.1=k then t.2 else 0)+bE X k);by_cases e:t.1=k;{rw[aK e];exact#[by lia,λ_=>by lia]};rw[ba e];refine#[by lia,λ⟨u,m,q⟩=>?_];rcases dq.mp m with rfl|m;{exact absurd q e};have:=a #[u,m,q];lia
def Xj{X:List Tr}(h:X≠[]):∃k,hL X k:=by exists t,l,rfl,vt h;exact#[t.1,t,c6,rfl]
theorem Xk{B:List Tr}{m:Md}(h:A.length+B.length<=1000):cu (aX .Add) (.ok m (.lst (A.map tD))) (.ok m' (.lst (B.map tD)))=.ok .fr (.lst ((A++B).map tD)):=by have:=vQ (m:=m) (n:=m') (x:=A.map tD) (y:=B.map tD) (by rw[d3,d3,dz];lia);rw[<- jt]at this;exact this
def AU(P:List Str)(t:Tr):Rw:=(match t.1.1 with|.t [.s z]=>[z]|_=>[],t.1.2,t.2)
def xQ{b:N}{P:List Str}{t:Tr}(h:Fc b P t):gN (AU P t)=tD t/\tr (AU P t)=t:=by obtain⟨⟨z,_,e⟩,_⟩:=h;exists k,n,t;cases e;refine#[?_,rfl];rw[iS];show D.tup [.tup [.str z],nD b,.int n]=.tup [nD (F [z]),nD b,.int n];rw[kP];rfl
def xR(k:Nat){b:N}(g:gB b){P:List Str}{X:List Tr}(h:∀t∈X,Fc b P t)(f:X.length<64):(Wk (k+1)).Φ "_law_normal" [.lst (X.map tD)]=okf (nf X):=by
 have l:(X.map (AU P)).map gN=X.map tD:=by rw[gv];exact uf λt a=>(xQ (h t a)).1
 have E:(X.map (AU P)).map tr=X:=by rw[gv];(conv=>rhs;rw[<- List.map_id X]);exact uf λt a=>(xQ (h t a)).2
 have:=Xd (k:=k) (rs:=X.map (AU P)) (λr d=>by
  exists t,a,rfl,d7.mp d;refine#[?_,by rw[(xQ (h t a)).2];exact(h t a).K g]
  obtain⟨⟨z,_,e⟩,_⟩:=h t a;exists kk,n,t;cases e
  exact(by decide:1<64)) (by rw[d3];exact f)
 rw[l,E]at this;exact this
def Lz{b:N}{P:List Str}{X:List Tr}(h:∀t∈X,Fc b P t):AT b P (nf X)/\(X≠[]->nf X ≠ .tup []):=by exists S,e,f,sm,_,sJ X;refine#[#[S,e,f,λt a=>?_],λl q=>?_];{exists u,d,E,(sm t.1).1.mp #[t,a,rfl];refine#[by rw[<- E];exact(h u d).1,?_];(have:t.2=bE X t.1:=by rw[<- (sm t.1).2];exact(kQ f.1 (n:=t.2) a).symm);rw[this];exact(Ly λu d=>(h u d).2).2 #[u,d,E]};exists k,hk,Xj l;exists t,a,_,(sm k).1.mpr hk;rw[e]at q;injection q with q;rw[vy]at q;rw[q]at a;cases a
def sK(h:lq A):nf A=rD A:=Xg h
def xS{b:N}{P:List Str}(a:P.length<=8){B:List Tr}(o:lq A)(l:lq B)(f:∀t∈A,Fc b P t)(d:∀t∈B,Fc b P t):A.length<=8/\B.length<=8/\∀t∈A++B,Fc b P t :=
 #[ii (iT o f) a,ii (iT l d) a,λt r=>(ko.mp r).elim (f t) (d t)]
def gS(b:N)(S:List Tr):List Tr:=S.map λt=>((t.1.1,b),t.2)
def sL{b:N}{P:List Str}{S:List Tr}(h:∀t∈S,Fc b P t):∀t∈gS b' S,Fc b' P t:=λt f=>by exists u,d,rfl,d7.mp f;obtain⟨⟨z,a,e⟩,hn⟩:=h u d;exact#[#[z,a,by rw[e];rfl],hn]
def E9{f F b:N}(h:f≠F):kl (f,b) (F,b)=kl (f,b') (F,b'):=by unfold kl hE;simp[ltN,bC,h]
def LA{b:N}{P:List Str}{S:List Tr}(h:∀t∈S,Fc b P t)(n:lq S):lq (gS b' S):=by(have K:∀t∈S,t.1=(t.1.1,b):=λt r=>by obtain⟨⟨z,_,e⟩,_⟩:=h t r;rw[e];rfl);have D:S.Pairwise λa c=>a.1≠c.1:=ir.mp n.1;have B:S.Pairwise λa c=>ltN (dy c) (dy a)=false:=ir.mp n.2;have o:S.Pairwise λa c=>a.1.1≠c.1.1/\ltN (dy c) (dy a)=false:=(D.and B).imp_of_mem λ{a c} f d q=>#[λe=>q.1 (by rw[K a f,K c d,e]),q.2];refine#[?_,?_];{unfold gS;rw[gv];exact ir.mpr (o.imp λ{a c} q e=>q.1 (congrArg (·.1) (show(a.1.1,b')=(c.1.1,b')from e)))};unfold gS;rw[gv];refine ir.mpr (o.imp_of_mem λ{a c} f d q=>?_);show ltN (dy ((c.1.1,b'),c.2)) (dy ((a.1.1,b'),a.2))=false;have ne:c.1.1≠a.1.1:=λe=>q.1 e.symm;rw[r6 (a:=((c.1.1,b'),c.2)) (b:=((a.1.1,b'),a.2)) (λe=>ne (congrArg (·.1) e))];have l:=q.2;rw[r6 (λe=>ne (congrArg (·.1) e)),K a f,K c d]at l;rw[<- l];exact E9 ne
def rN(S:List Tr):N:=.t (S.map dy)
def oT(S:List Tr):nD (rN S)=rD S:=by unfold rN;rw[nD,jQ]
def bN(S:List Tr):N:=.t [rN S]
theorem oU{b:N}{P:List Str}{S:List Tr}(g:gB b)(o:b.dp<=4)(h:∀t∈S,Fc b P t):gB (bN S)/\(b.dp<=1->(bN S).dp<=4):=by(have dp:(bN S).dp<=7/\(b.dp<=1->(bN S).dp<=4):=by(have q:∀m,b.dp<=m->1<=m->N.dpL (S.map dy)<=m+1:=λm r l=>xM λx a=>by exists t,d,rfl,d7.mp a;exists B,_,jR ((h t d).K g);have e:=((h t d).K g).2.1;simp only[dy,N.dp,N.dpL,e];lia);unfold bN rN;simp only[N.dp,N.dpL];refine#[by have:=q 4 o (by decide);lia,λl=>by have:=q 1 l (by decide);lia]);refine#[#[?_,dp.1],dp.2];unfold bN rN;rw[ft];refine oP λx a y f=>?_;rw[fj.mp a,fj.mp f,ft];refine oP λx a y f=>?_;exists s,hs,rfl,d7.mp a;exists t,d,rfl,d7.mp f;exact xN ((h s hs).K g) ((h t d).K g)
theorem Fa{i:Int}(h0:0<=i)(h:i<=10 ^ 51):bits i=true:=Ja (N:=10 ^ 61) (by lia)
def jS(S:List Tr):nD (bN S)=.tup [rD S]:=by unfold bN;rw[nD,nDL,nDL,oT]
def LD{b:N}{P:List Str}{S:List Tr}(g:gB b)(h:∀t∈S,Fc b P t):ft (rN S) (rN S)=true:=by unfold rN;rw[ft];refine oP λx d y a=>?_;exists s,hs,rfl,d7.mp d;exists t,f,rfl,d7.mp a;exact xN ((h s hs).K g) ((h t f).K g)
def Xl{W:WD}{A B:Option (Bool×D)}{d:D}:cz W rK [A,B,some (true,.lst []),sf d]=.nx [A,B,some (true,.lst [d]),sf d]:=by have l0:eO [(.bo,.lst [])]=some (.fz,.int 0):=rfl;have a:eZ [A,B,some (true,.lst []),sf d] 2 (okf d)=.nx [A,B,some (true,.lst [d]),sf d]:=rfl;simp[rK,l0,a]
def AV:(Wk (k+1)).Φ "bars_of_both" [.tup [],.tup []]=okf (.tup []):=by have s0:eJ [(.fz,.tup [])]=some (.fr,.lst []):=sC (ks:=[]) rfl (λk h=>nomatch h) (by decide);(have it:br (Wk k) (.items (.srtw (.bin .Add v0 v1))) [sf (.tup []),sf (.tup []),some (true,.lst []),none]=okf (.lst []):=by(show gW (aM (br (Wk k) (.srtw (.bin .Add v0 v1)) _))=_;have ad:br (Wk k) (.bin .Add v0 v1) [sf (.tup []),sf (.tup []),some (true,.lst []),none]=okf (.tup []):=by show cu (aX .Add) (okf (.tup [])) (okf (.tup []))=_;exact vR (x:=[]) (y:=[]) (by rw[dz];decide));rw[oR ad s0];rfl);exact ez (d:=wT) rfl rfl (cy rfl (cy (ρ':=[sf (.tup []),sf (.tup []),some (true,.lst []),none]) (by rw[jL];erw [it];rfl) (cy rfl (bB (eU (m:=.fz) rfl)))))
theorem AW{b:N}{P:List Str}{S:List Tr}(g:gB b)(o:b.dp<=4)(h:∀t∈S,Fc b P t)(ne:S≠[]):(Wk (k+1)).Φ "bars_of_both" [.tup [],nD (bN S)]=okf (nD (bN S)):=by
 have gb:=(oU g o h).1;have T:dJ (rN S)=true:=by exists t,l,rfl,vt ne;rfl
 have s0:eJ [(.fz,nD (bN S))]=some (.fr,.lst [rD S]):=by
  have:=sC (m:=.fz) (d:=nD (bN S)) (ks:=[rN S]) (by rw[jS];show some [rD S]=_;rw[nDL,nDL,oT]) (λk hk=>by rw[fj.mp hk];exact T) (by
   unfold mm;simp only[cw,jr,fw,fq];refine#[#[#[λk hk=>?_,.inr λk hk=>by rw[fj.mp hk];exact T],λx f y a=>?_],by rw[nB];exact hB (by decide) nU]
   . have d:=gb.2;unfold bN at d;simp only[N.dp,N.dpL]at d;rw[fj.mp hk];exact ii (show(rN S).dp<=8 by lia) (by decide)
   . rw[fj.mp f,fj.mp a];exact LD g h)
  rw[this];show some (Md.fr,D.lst (nDL [rN S]))=_;rw[nDL,nDL,oT]
 have it:br (Wk k) (.items (.srtw (.bin .Add v0 v1))) [sf (.tup []),sf (nD (bN S)),some (true,.lst []),none]=okf (.lst [rD S]):=by
  show gW (aM (br (Wk k) (.srtw (.bin .Add v0 v1)) _))=_;rw[oR (m:=.fz) (d:=nD (bN S)) (by
   show cu (aX .Add) (okf (.tup [])) (okf (nD (bN S)))=_;rw[jS]
   exact vR (x:=[]) (y:=[rD S]) (by rw[dz];show 0+1<=_;decide)) s0];rfl
 refine ez (d:=wT) rfl rfl (cy rfl (cy (ρ':=[sf (.tup []),sf (nD (bN S)),some (true,.lst [rD S]),sf (rD S)]) (by
  rw[jL];erw [it];show bH (aO (.nm 3)) (cz (Wk k) rK) [rD S] [sf (.tup []),sf (nD (bN S)),some (true,.lst []),none]=_;rw[g9 (ρ1:=[sf (.tup []),sf (nD (bN S)),some (true,.lst []),sf (rD S)]) rfl Xl];rfl) (cy rfl (bB ?_))))
 rw[jS];exact eU (m:=.fz) rfl
def AX{P:List Str}{t:Tr}(h:Fc b0 P t)(hn:t.2<=10 ^ 51)(a:(Wk (k+1)).Φ "bars_of_both" [.tup [],nD b']=okf (nD b')):(Wk (k+2)).Φ "term_of_both" [tD t,.tup [.tup [],nD b',.int 1]]=okf (tD ((t.1.1,b'),t.2)):=by obtain⟨⟨z,_,e⟩,h0⟩:=h;exists K,n,t;cases e;have mu:cu (aX .Mult) (okf (.int n)) (okf (.int 1))=okf (.int n):=Eq.trans (vO (Fa (Int.le_of_lt h0) hn) (by decide)) (by rw[Bh]);have st:eJ [(.fz,.tup ([z].map D.str))]=some (.fr,.lst ([z].map D.str)):=Lo (U:=[z]) rfl (show 1<64 by decide);have f0:nD (F [z])=.tup [.str z]:=kP [z];rw[iS,iS];show(Wk (k+2)).Φ "term_of_both" [.tup [nD (F [z]),nD (.t []),.int n],_]=okf (.tup [nD (F [z]),nD b',.int n]);rw[f0,show nD (.t [])=D.tup [] by rw[nD,nDL]];refine ez (d:=Kp) rfl rfl (bB (mO (bJ (eU (m:=.fr) (oR (m:=.fz) (d:=.tup [.str z]) ?_ st))) (bJ (nl (oH (m:=.fz) (m':=.fz)) (oH (m:=.fz) (m':=.fz)) (eL a))) (bJ ?_)));{show cu (aX .Add) (cu fm (okf (.tup [.tup [.str z],.tup [],.int n])) (okf (.int 0))) (cu fm (okf (.tup [.tup [],nD b',.int 1])) (okf (.int 0)))=_;rw[oG,oG];exact vR (x:=[.str z]) (y:=[]) (by rw[dz];show 1+0<=_;decide)};show cu (aX .Mult) (cu fm (okf (.tup [.tup [.str z],.tup [],.int n])) (okf (.int 2))) (cu fm (okf (.tup [.tup [],nD b',.int 1])) (okf (.int 2)))=_;rw[oJ,oJ];exact mu
def Fb{W:WD}{f:Str}{a:E}{x:D}{r:Res}(l:br W a Y=okf x)(d:aW 1 (W.Φ f) (.ok [(.fz,x)])=r):br W (.call f 1 [a]) Y=r:=by show aW 1 (W.Φ f) (aU (br W a Y) (.ok []))=_;rw[l];exact d
abbrev lt1(b':N):D:=.tup [.tup [],nD b',.int 1]
theorem c2{W:WD}{b':N}:∀{A:List Tr},(∀a∈A,W.Φ "term_of_both" [tD a,lt1 b']=okf (tD ((a.1.1,b'),a.2)))->i9 1 2 (λY=>fu W [] Y) (λY=>br W (.items v0) Y) (λY=>br W (.call "term_of_both" 2 [v1,v2]) Y) [sf (.tup [lt1 b']),none,none] (A.map tD)=some ((gS b' A).map tD)
 |[],_=>rfl|a::A,h=>by
  have f:=c2 (A:=A) λx l=>h x (df l);have o:=eL (h a c6);have d:cZ (lI 2) lT (λY=>br W (.call "term_of_both" 2 [v1,v2]) Y) [sf (.tup [lt1 b']),sf (tD a),none] [lt1 b']=some [tD ((a.1.1,b'),a.2)]:=
   w6 (α:=Unit) (enc:=λ_=>lt1 b') (p:=λ_=>true) (g:=λ_=>tD ((a.1.1,b'),a.2)) (U:=[()]) λb B =>
    #[[sf (.tup [lt1 b']),sf (tD a),sf (lt1 b')],.fz,rfl,rfl,λ_=>#[.fz,bJ (nl rfl rfl o)]]
  rw[dw];unfold i9;have r:fu W [] (List.set [sf (.tup [lt1 b']),none,none] 1 (sf (tD a)))=okf (.bl true):=rfl;have E:br W (.items v0) (List.set [sf (.tup [lt1 b']),none,none] 1 (sf (tD a)))=okf (.lst [lt1 b']):=rfl;have d:cZ (lI 2) lT (λY=>br W (.call "term_of_both" 2 [v1,v2]) Y) (List.set [sf (.tup [lt1 b']),none,none] 1 (sf (tD a))) [lt1 b']=_:=d;rw[r];dsimp only;rw[E];dsimp only;rw[d];dsimp only;rw[f];rfl
theorem LF{P:List Str}(g':gB b')(B:lq A)(f:∀t∈A,Fc b0 P t)(hn:∀t∈A,t.2<=10 ^ 51)(T:A.length<=8)(E:(Wk (k+1)).Φ "bars_of_both" [.tup [],nD b']=okf (nD b')):(Wk (k+3)).Φ "Reasons.times" [.ins "Reasons" [],rD A,.tup [lt1 b']]=okf (rD (gS b' A)):=by(have Z:sizeLine=16777216:=dz;have N:=LA (b':=b') f B;have F:=sL (b':=b') f;have L:(gS b' A).length=A.length:=by unfold gS;rw[d3]);exists S,p,e,Lv (ts:=gS b' A);have r:=fV (W8 (k:=k+1) e (λt D=>(F t D).K g') (by lia) (.inr rfl));(have r:aW 1 ((Wk (k+2)).Φ "reason_of") (.ok [(.fz,.lst ((gS b' A).map tD))])=okf (nf (gS b' A)):=r;rw[sK N]at r;have l:=c2 (W:=Wk (k+2)) (b':=b') (A:=A) λa o=>AX (f a o) (hn a o) E;have G:kA (okf (.lst (A.map tD))) [sf (.ins "Reasons" []),sf (rD A),sf (.tup [lt1 b'])] [2] (λY=>fu (Wk (k+2)) [] Y) (λY=>br (Wk (k+2)) (.items v0) Y) (λY=>br (Wk (k+2)) (.call "term_of_both" 2 [v1,v2]) Y)=.ok .fr (.lst ((gS b' A).map tD)):=by unfold kA;rw[Res.thn_ok];dsimp only;have l:i9 [2].length ([2].length+1) (λY=>fu (Wk (k+2)) [] Y) (λY=>br (Wk (k+2)) (.items v0) Y) (λY=>br (Wk (k+2)) (.call "term_of_both" 2 [v1,v2]) Y) (cA [2] [sf (.ins "Reasons" []),sf (rD A),sf (.tup [lt1 b'])]++List.replicate 2 none) (A.map tD)=_:=l;rw[l];dsimp only;rw[aK (by rw[d3,dz];lia)]);exact ez (d:=KH) rfl rfl (bB (Fb (gM (by rw[Vq];exact G)) r))
def AY:(Wk (k+2)).Φ "Reasons.lack" [.ins "Reasons" [],.tup []]=okf (.tup [lt1 b0]):=by have o:(Wk (k+1)).Φ "Reasons.one" [.ins "Reasons" []]=okf (.tup [lt1 b0]):=ez (d:=KG) rfl rfl (bB rfl);have a:Pl 1 (.tup []):=.tup (n:=0) (λd h=>by cases h) (by decide);have e:br (Wk (k+1)) (.cmp .Eq v1 (.tup [])) [sf (.ins "Reasons" []),sf (.tup [])]=okf (.bl true):=KP (m:=.fz) (m':=.fz) a a (by decide);exact ez (d:=wY) rfl rfl (oI (eS e (bB (by rw[iP,iQ];exact fV o))))
def xT(A:List Tr):gz (rD A) (.tup [])=true↔A=[]:=by(have E:=r9 (.t (A.map dy));rw[nD,jQ]at E;have a:aS (.tup [])=some (N.py (.t [])):=r9 (.t []);show(match aS (rD A),aS (.tup [])with|some p,some q=>PyData.eqv p q|_,_=>false)=true↔_);rw[E,a];dsimp only;rw[N.py_eqv,fw];constructor;{intro h;injection h with h;exact vy.mp h};intro h;rw[h];rfl
theorem AZ{S:List Tr}(ne:S≠[])(hp:Pl n (rD S))(hn:n<=49):(Wk (k+2)).Φ "Reasons.lack" [.ins "Reasons" [],rD S]=okf (.tup [lt1 (bN S)]):=by
 exists t,l,rfl,vt ne;have a:Pl (n+1) (.tup []):=.tup (n:=n) (λd h=>by cases h) (by decide)
 have e:br (Wk (k+1)) (.cmp .Eq v1 (.tup [])) [sf (.ins "Reasons" []),sf (rD (t::l))]=okf (.bl false):=Eq.trans (KP (m:=.fz) (m':=.fz) (hp.mono (p8 n)) a (by lia)) (by
  rw[Bool.eq_false_iff.mpr λh=>nomatch (xT (t::l)).mp h])
 refine ez (d:=wY) rfl rfl (cy (bT e rfl) (bB ?_));unfold lt1;rw[jS];exact rW (mO rfl (rW rfl) rfl)
theorem Fd{b:N}{P:List Str}{S:List Tr}(g:gB b)(o:b.dp<=4)(h:∀t∈S,Fc b P t)(ne:S≠[]){m:Md}:fQ (.ok m (.lst [rD S]))=.ok .fr (.lst [rD S]):=by
 have T:dJ (rN S)=true:=by exists t,l,rfl,vt ne;rfl
 have D:(rN S).dp<=8:=by have d:=(oU g o h).1.2;unfold bN at d;simp only[N.dp,N.dpL]at d;lia
 have e:bS (rD S)=some (rN S):=by rw[<- oT];unfold rN at D ⊢;exact Lk D
 have ok:mm [rN S]=true:=by unfold mm;simp only[cw,jr,fw,fq];refine#[#[#[λk hk=>?_,.inr λk hk=>by rw[fj.mp hk];exact T],λx f y a=>?_],by rw[nB];exact hB (by decide) nU];{rw[fj.mp hk];exact ii D (by decide)};rw[fj.mp f,fj.mp a];exact LD g h
 unfold fQ;rw[Res.thn_ok];dsimp only;rw[e];dsimp only;rw[aK ok,nDL,nDL,oT]
theorem A0{W:WD}{w a l x10:Option (Bool×D)}{L:List D}{n:Int}{d:D}(f:fQ (.ok .fr (.lst [d]))=.ok .fr (.lst [d]))(r:L.length<1000)(hn:bits n=true):cz W wB [w,a,l,some (true,.lst L),sf (.tup [.str z]),sf (.tup []),sf (.int n),sf (.tup []),sf (.tup [d]),sf (.int 1),x10]=.nx [w,a,l,some (true,.lst (L++[.tup [.tup [.str z],.tup [d],.int n]])),sf (.tup [.str z]),sf (.tup []),sf (.int n),sf (.tup []),sf (.tup [d]),sf (.int 1),sf (.tup [d])]:=by
 have o:cu (aX .Add) (.ok .fr (.lst [])) (.ok .fr (.lst [d]))=.ok .fr (.lst [d]):=vQ (x:=[]) (y:=[d]) (by rw[dz];show 0+1<=_;decide)
 have c1:cu (aX .Add) (.ok .fr (.lst [.str z])) (.ok .fr (.lst []))=.ok .fr (.lst [.str z]):=vQ (x:=[.str z]) (y:=[]) (by rw[dz];show 1+0<=_;decide)
 have mu:cu (aX .Mult) (okf (.int n)) (okf (.int 1))=okf (.int n):=Eq.trans (vO hn (by decide)) (by rw[Bh])
 refine cy (cB (d:=.tup [d]) (bJ (eU (m:=.fr) (l:=[d]) ?_))) (cy (ρ':=[w,a,l,some (true,.lst (L++[.tup [.tup [.str z],.tup [d],.int n]])),sf (.tup [.str z]),sf (.tup []),sf (.int n),sf (.tup []),sf (.tup [d]),sf (.int 1),sf (.tup [d])]) ?_ rfl)
 . show fQ (cu (aX .Add) (.ok .fr (.lst [])) (.ok .fr (.lst [d])))=_;rw[o,f]
 . rw[vN];have e:br W (.tup [(.frz (.tcall .tuple [(.bin .Add (.tcall .list [v4]) (.tcall .list [v7]))])),oz,(.frz (.bin .Mult v6 v9))]) [w,a,l,some (true,.lst L),sf (.tup [.str z]),sf (.tup []),sf (.int n),sf (.tup []),sf (.tup [d]),sf (.int 1),sf (.tup [d])]=okf (.tup [.tup [.str z],.tup [d],.int n]) :=
     mO (bJ (eU (m:=.fr) (l:=[.str z]) c1)) rfl (bJ mu)
   erw [e]
   show(if L.length<sizeLine then _ else _)=_;rw[aK (by rw[dz];lia)];rfl
theorem LG{W:WD}{w a:Option (Bool×D)}{P:List Str}{S:List Tr}(o:fQ (.ok .fr (.lst [rD S]))=.ok .fr (.lst [rD S])):∀(A:List Tr) (L:List D) (x4 f x6 x7 x8 x9 x10:Option (Bool×D)),(∀t∈A,Fc b0 P t/\t.2<=10 ^ 51)->L.length+A.length<1000->∃N K G E B r d,bH (aO (.tp [.nm 4,.nm 5,.nm 6])) (cz W wC) (A.map tD) [w,a,sf (.tup [lt1 (bN S)]),some (true,.lst L),x4,f,x6,x7,x8,x9,x10]=.nx [w,a,sf (.tup [lt1 (bN S)]),some (true,.lst (L++(gS (bN S) A).map tD)),N,K,G,E,B,r,d]|[],L,x4,f,x6,x7,x8,x9,x10,_,_=>#[x4,f,x6,x7,x8,x9,x10,by rw[show L++(gS (bN S) []).map tD=L from h5 L];rfl]|t::A,L,x4,f,x6,x7,x8,x9,x10,h,V=>by(rw[gg]at V;obtain⟨⟨⟨z,_,e⟩,h0⟩,hn⟩:=h t c6;exists ky,n,t;obtain rfl:ky=(F [z],b0):=e;have eT:tD ((F [z],b0),n)=.tup [.tup [.str z],.tup [],.int n]:=by rw[iS];show D.tup [nD (F [z]),nD (.t []),.int n]=_;rw[kP,show nD (.t [])=D.tup [] by rw[nD,nDL]];rfl);(have eB:tD ((F [z],bN S),n)=.tup [.tup [.str z],.tup [rD S],.int n]:=by rw[iS];show D.tup [nD (F [z]),nD (bN S),.int n]=_;rw[kP,jS];rfl);(have Z:lt1 (bN S)=.tup [.tup [],.tup [rD S],.int 1]:=by unfold lt1;rw[jS]);exists N,K,G,E,B,r,d,T,LG (W:=W) (w:=w) (a:=a) o A (L++[tD ((F [z],bN S),n)]) (sf (.tup [.str z])) (sf (.tup [])) (sf (.int n)) (sf (.tup [])) (sf (.tup [rD S])) (sf (.int 1)) (sf (.tup [rD S])) (λu o=>h u (df o)) (by rw[ik,nB];lia);refine#[N,K,G,E,B,r,d,?_];have st:=A0 (W:=W) (w:=w) (a:=a) (l:=sf (.tup [lt1 (bN S)])) (x10:=x10) (L:=L) (z:=z) (n:=n) o (by lia) (Fa (Int.le_of_lt h0) hn);(rw[<- eB]at st;have body:cz W wC [w,a,sf (.tup [lt1 (bN S)]),some (true,.lst L),sf (.tup [.str z]),sf (.tup []),sf (.int n),x7,x8,x9,x10]=.nx [w,a,sf (.tup [lt1 (bN S)]),some (true,.lst (L++[tD ((F [z],bN S),n)])),sf (.tup [.str z]),sf (.tup []),sf (.int n),sf (.tup []),sf (.tup [rD S]),sf (.int 1),sf (.tup [rD S])]:=by refine cy (ρ':=[w,a,sf (.tup [lt1 (bN S)]),some (true,.lst (L++[tD ((F [z],bN S),n)])),sf (.tup [.str z]),sf (.tup []),sf (.int n),sf (.tup []),sf (.tup [rD S]),sf (.int 1),sf (.tup [rD S])]) ?_ rfl;rw[jL];show bH (aO (.tp [.nm 7,.nm 8,.nm 9])) (cz W wB) [lt1 (bN S)] [w,a,sf (.tup [lt1 (bN S)]),some (true,.lst L),sf (.tup [.str z]),sf (.tup []),sf (.int n),x7,x8,x9,x10]=_;rw[g9 (ρ1:=[w,a,sf (.tup [lt1 (bN S)]),some (true,.lst L),sf (.tup [.str z]),sf (.tup []),sf (.int n),sf (.tup []),sf (.tup [rD S]),sf (.int 1),x10]) (by rw[Z];rfl) st];rfl);rw[dw,eT,g9 (ρ1:=[w,a,sf (.tup [lt1 (bN S)]),some (true,.lst L),sf (.tup [.str z]),sf (.tup []),sf (.int n),x7,x8,x9,x10]) rfl body,T,js];rfl
theorem Xm(k:Nat){b:N}{P:List Str}{S:List Tr}(g:gB b)(r:b.dp<=4)(h:∀t∈S,Fc b P t)(ne:S≠[])(T:lq A)(l:∀t∈A,Fc b0 P t)(hn:∀t∈A,t.2<=10 ^ 51)(hl:A.length<=8):(Wk (k+2)).Φ "_law_times" [.int 1,rD A,.tup [lt1 (bN S)]]=okf (rD (gS (bN S) A)):=by have V:=(oU g r h).1;exists K,G,F,E,D,B,f,e,LG (W:=Wk (k+1)) (w:=sf (.int 1)) (a:=sf (rD A)) (Fd g r h ne) A [] none none none none none none none (λt o=>#[l t o,hn t o]) (by show 0+A.length<1000;lia);(have Z:(gS (bN S) A).length=A.length:=by unfold gS;rw[d3]);have L:=xR k V (sL (b':=bN S) l) (by lia);rw[sK (LA l T)]at L;refine ez (d:=Kt) rfl rfl (cy (bT (m:=.fz) rfl rfl) (cy rfl (cy (ρ':=[sf (.int 1),sf (rD A),sf (.tup [lt1 (bN S)]),some (true,.lst ((gS (bN S) A).map tD)),K,G,F,E,D,B,f]) ?_ (cy rfl (bB (Fb (x:=.lst ((gS (bN S) A).map tD)) rfl (fV L)))))));rw[jL];exact e
structure KM(Kd No:D)(way:Int)(Ok Br:D->Prop)(Bd:Int->D->Prop)(pl lf:D->D->D):Prop extends KO Kd No Ok pl where
 right:∀a,Ok a->pl a No=a
 eqn:∀a,Ok a->(gz a No=true↔a=No)
 nz:∀a b,Ok a->Ok b->a≠No->pl a b≠No
 lplus:∀k a b,Ok a->Ok b->(Wk (k+3)).Φ "_law_plus" [.int way,a,b]=okf (pl a b)
 bd0:Bd 0 No
 bdm:∀m m' a,m<=m'->Bd m a->Bd m' a
 bdp:∀m n a b,0<=m->0<=n->Ok a->Ok b->Bd m a->Bd n b->Bd (m+n) (pl a b)
 br0:Br No
 brk:∀a,Ok a->Br a
 brl:∀a b,Ok a->Ok b->Br (lf a b)
 lf0:∀a,Ok a->lf a No=a
 plf:∀a b,Ok a->Br b->Pl 20 (lf a b)
 eqf:∀a b,Ok a->Br b->(gz (lf a b) No=true↔lf a b=No)
 tml:∀k a b,Ok a->Bd (10 ^ 50) a->Br b->∃c,eE TT.cl (Wk (k+3)).Φ "lack" (okf Kd) (.ok [(.fz,b)])=okf c/\eE TT.cl (Wk (k+3)).Φ "times" (okf Kd) (.ok [(.fz,a),(.fz,c)])=okf (lf a b)
 law:∀k a b,Ok a->a≠No->Bd (10 ^ 50) a->Br b->b≠No->(way=0/\lf a b=No)\/(way=1/\lf a b≠No/\(Wk (k+2)).Φ "_law_times" [.int way,a,.tup [.tup [.tup [],.tup [b],.int 1]]]=okf (lf a b))
def Fe(d:D):Prop:=∃i:Int,0<=i/\d=.int i
def LH(m:Int)(d:D):Prop:=∃i:Int,i<=m/\d=.int i
def Xn:D->D->D|.int i,.int j=>.int (i+j)|d,_=>d
def uy(a b:D):D:=match b with|.int j=>if j=0 then a else .int 0|_=>a
def A1{j:Int}:(Wk (k+3)).Φ "Kind.lack" [.ins "Counts" [],.int j]=okf (.int (if j=0 then 1 else 0)):=by(have o:eE TT.cl (Wk (k+2)).Φ "one" (okf (.ins "Counts" [])) (.ok [])=okf (.int 1):=by show aW 1 ((Wk (k+2)).Φ "Counts.one") (.ok [(.fz,.ins "Counts" [])])=_;exact fV (ez (d:=KB) rfl rfl (bB rfl)));(have n:eE TT.cl (Wk (k+2)).Φ "nought" (okf (.ins "Counts" [])) (.ok [])=okf (.int 0):=by show aW 1 ((Wk (k+2)).Φ "Counts.nought") (.ok [(.fz,.ins "Counts" [])])=_;exact fV (ez (d:=wX) rfl rfl (bB rfl)));(have c:br (Wk (k+2)) (.cmp .Eq v1 (.meth v0 "nought" [])) [sf (.ins "Counts" []),sf (.int j)]=okf (.bl (j==0)):=by show cu (bA .Eq) (okf (.int j)) (br (Wk (k+2)) (.meth v0 "nought" []) _)=_;rw[iP,iQ];erw [n];rfl);by_cases h:j=0;{subst h;exact ez (d:=wW) rfl rfl (oI (eS c (bB (by rw[iP,iQ];exact o))))};rw[ba h];rw[lr.mpr h]at c;exact ez (d:=wW) rfl rfl (cy (bT c rfl) (bB (by rw[iP,iQ];exact n)))
theorem Xo:KM (.ins "Counts" []) (.int 0) 0 Fe Fe LH Xn uy where
 nought k:=by show aW 1 ((Wk (k+1)).Φ "Counts.nought") (.ok [(.fz,.ins "Counts" [])])=_;exact fV (ez (d:=wX) rfl rfl (bB rfl))
 okn:=#[0,by decide,rfl]
 okp:=fun|_,_,⟨i,f,rfl⟩,⟨j,o,rfl⟩=>#[i+j,by lia,rfl]
 assoc:=fun|_,_,_,⟨i,f,rfl⟩,⟨j,o,rfl⟩,⟨l,E,rfl⟩=>congrArg D.int (Int.add_assoc i j l)
 left:=fun|_,⟨i,f,rfl⟩=>congrArg D.int (sd i)
 plain:=fun|_,⟨i,f,rfl⟩=>.int i
 right:=fun|_,⟨i,f,rfl⟩=>congrArg D.int (ug i)
 eqn a ha:=by exists i,f,rfl,ha;show PyData.eqv (.int i) (.int 0)=true↔_;rw[D.int.injEq];simp[PyData.eqv]
 nz a b ha hb h e:=by(exists i,f,rfl,ha;exists j,o,rfl,hb;have e:i+j=0:=by injection e);exact h (by rw[show i=0 by lia])
 lplus k a b ha hb:=by exists i,f,rfl,ha;exists j,o,rfl,hb;exact ez (d:=wU) rfl rfl (oI (eS (m:=.fz) rfl (bB rfl)))
 bd0:=#[0,by decide,rfl]
 bdm m m' a h:=λ⟨i,f,e⟩=>#[i,by lia,e]
 bdp m n a b _ _ _ _:=by rintro⟨i,f,rfl⟩ ⟨j,o,rfl⟩;exact#[i+j,by lia,rfl]
 br0:=#[0,by decide,rfl]
 brk a h:=h
 brl:=by rintro _ _ ⟨i,f,rfl⟩ ⟨j,o,rfl⟩;unfold uy;by_cases h:j=0;{exact#[i,f,aK h]};exact#[0,by decide,ba h]
 lf0 a h:=rfl
 plf:=by rintro _ _ ⟨i,f,rfl⟩ ⟨j,o,rfl⟩;unfold uy;by_cases h:j=0;{show Pl 20 (if j=0 then _ else _);rw[aK h];exact .int i};show Pl 20 (if j=0 then _ else _);rw[ba h];exact .int 0
 eqf:=by(rintro _ _ ⟨i,f,rfl⟩ ⟨j,o,rfl⟩;have e:∀x:Int,gz (.int x) (.int 0)=true↔(D.int x)=.int 0:=λx=>by show PyData.eqv (.int x) (.int 0)=true↔_;rw[D.int.injEq];simp[PyData.eqv]);unfold uy;by_cases h:j=0;{show gz (if j=0 then _ else _) _=true↔(if j=0 then _ else _)=_;rw[aK h];exact e i};show gz (if j=0 then _ else _) _=true↔(if j=0 then _ else _)=_;rw[ba h];exact e 0
 tml k a b ha hb hr:=by(exists i,f,rfl,ha;exists B,r,e,hb;cases e;exists j,o,rfl,hr;refine#[.int (if j=0 then 1 else 0),eL A1,?_];have mu:cu (aX .Mult) (okf (.int i)) (okf (.int (if j=0 then 1 else 0)))=okf (uy (.int i) (.int j)):=by refine Eq.trans (vO (Fa f (by lia)) (by split <;> decide)) ?_;unfold uy;by_cases h:j=0;{show _=Res.ok .fz (if j=0 then _ else _);rw[aK h,aK h,Bh]};show _=Res.ok .fz (if j=0 then _ else _);rw[ba h,ba h,Int.mul_zero]);show aW 3 ((Wk (k+3)).Φ "Counts.times") (.ok [(.fz,.ins "Counts" []),(.fz,.int i),(.fz,_)])=_;exact fW (ez (d:=KE) rfl rfl (bB mu))
 law k a b ha na hb hr nb:=by exists j,o,rfl,hr;exact .inl #[rfl,ba λh=>nb (by rw[h])]
def LI{m:Int}:∀{X:List Tr}{k:Ky},(X.map (·.1)).Nodup->0<=m->(∀t∈X,t.2<=m)->bE X k<=m:=λ{X k} nd h0 h=>by by_cases c:hL X k;{exists t,a,rfl,c;rw[kQ nd (n:=t.2) a];exact h t a};rw[jP c];exact h0
def CL(m:Int)(d:D):Prop:=∃S:List Tr,d=rD S/\∀t∈S,t.2<=m
def mU{b:N}{S:List Tr}{P:List Str}(l:Pl (n+1) (nD b))(h:∀t∈S,Fc b P t)(f:S.length<=999):Pl (n+3) (rD S):=by refine .tup (n:=n+2) (λd hd=>?_) (by rw[d3];exact f);exists t,a,rfl,d7.mp hd;obtain⟨⟨z,_,e⟩,_⟩:=h t a;rw[iS,e];refine .tup (n:=n+1) (λd hd=>?_) (show 3<=999 by decide);simp only[dq,rj,jy]at hd;rcases hd with rfl|rfl|rfl;{show Pl (n+1) (nD (F [z]));rw[kP];exact .tup (n:=n) (λd hd=>by rw[fj.mp hd];exact .str z) (show 1<=999 by decide)};{exact l};exact .int _
def sM(n:Nat):Pl (n+1) (nD b0):=by rw[show nD b0=D.tup [] by rw[nD,nDL]];exact .tup (n:=n) (λd h=>by cases h) (by decide)
def LJ{S:List Tr}(h:Pl n (rD S)):Pl (n+1) (nD (bN S)):=by rw[jS];exact .tup (n:=n) (λd hd=>by rw[fj.mp hd];exact h) (show 1<=999 by decide)
def Xp{P:List Str}{S:List Tr}(h:∀t∈S,Fc b0 P t):gS b0 S=S:=by unfold gS;(conv=>rhs;rw[<- List.map_id S]);refine uf λt a=>?_;obtain⟨⟨z,_,e⟩,_⟩:=h t a;exists k,n,t;cases e;rfl
noncomputable def A2(a e:D):D:=match uw e with|[]=>a|t::l=>rD (gS (bN (t::l)) (uw a))
def oV(a:D):A2 a (rD [])=a:=by unfold A2;rw[oS]
def mV{S:List Tr}(A:List Tr)(h:S≠[]):A2 (rD A) (rD S)=rD (gS (bN S) A):=by exists t,l,rfl,vt h;unfold A2;rw[oS,oS]
def LK(P:List Str)(e:D):Prop:=∃(S:List Tr) (b:N),e=rD S/\gB b/\b.dp<=4/\(∀t∈S,Fc b P t)/\S.length<=8/\Pl 5 (nD b)
def xU{P:List Str}(f:P.length<=8)(d:lq A)(a:∀t∈A,Fc b0 P t):LK P (rD A) :=
 #[A,b0,rfl,AS,by simp[N.dp,N.dpL],a,ii (iT d a) f,sM 4]
def LM(b:N)(A:List Tr):(gS b A).length=A.length:=by unfold gS;rw[d3]
def Xq{b:N}(h:rD A ≠ .tup []):rD (gS b A) ≠ .tup []:=λe=>by injection e with e;unfold gS at e;rw[gv,vy]at e;exact h (by rw[e];rfl)
theorem LN{P:List Str}(G:P.length<=8):KM (.ins "Reasons" []) (.tup []) 1 (AT b0 P) (LK P) CL ux A2 where
 nought k:=by show aW 1 ((Wk (k+1)).Φ "Reasons.nought") (.ok [(.fz,.ins "Reasons" [])])=_;exact fV (ez (d:=KF) rfl rfl (bB rfl))
 okn:=#[[],rfl,#[qb,List.Pairwise.nil],λt E=>nomatch E]
 okp a b ha o:=by exists A,rfl,l,f,ha;exists B,rfl,K,L,o;rw[gO];exact(Lz (xS G l K f L).2.2).1
 assoc a b c ha o hc:=by exists A,rfl,l,f,ha;exists B,rfl,K,L,o;exists C,rfl,nC,hC,hc;rw[gO,gO];exists S,e,_,sm,_,sJ (A++B);exists S',V,_,aa,_,sJ (B++C);rw[e,V,gO,gO];refine AR ((sm.app (.refl C)).trans ?_);rw[js];exact Sm.app (.refl A) aa.symm
 left a ha:=by exists A,rfl,l,f,ha;show ux (rD []) (rD A)=_;rw[gO];exact sK l
 right a ha:=by exists A,rfl,l,f,ha;show ux (rD A) (rD [])=_;rw[gO,h5];exact sK l
 nz a b ha o h:=by exists A,rfl,l,f,ha;exists B,rfl,K,L,o;rw[gO];refine(Lz (xS G l K f L).2.2).2 λe=>?_;exists e1,_,List.append_eq_nil_iff.mp e;exact h (by rw[e1];rfl)
 lplus k a b ha o:=by exists A,rfl,l,f,ha;exists B,rfl,K,L,o;exists W,lB,ae,xS G l K f L;have ca:=Xk (A:=A) (B:=B) (m:=.fr) (m':=.fr) (by lia);have r:=fV (xR (k+1) AS ae (by rw[ik];lia));rw[gO];refine ez (d:=wU) rfl rfl ?_;show cz (Wk (k+2)) wN [sf (.int 1),sf (rD A),sf (rD B)]=_;unfold wN;refine cy (bT (m:=.fz) (by rfl) rfl) (bB ?_);show aW 1 ((Wk (k+2)).Φ "_law_normal") (aU (aM (cu (aX .Add) (.ok .fr (.lst (A.map tD))) (.ok .fr (.lst (B.map tD))))) (.ok []))=_;rw[ca];exact r
 bd0:=#[[],rfl,λt E=>nomatch E]
 bdm m m' a h:=λ⟨S,e,q⟩=>#[S,e,λt E=>Int.le_trans (q t E) h]
 bdp m n a b m0 n0 ha o:=by rintro⟨Z,rfl,qA⟩ ⟨B',rfl,qB⟩;exists A,e,l,f,ha;exists B,V,K,L,o;injection e with e;injection V with V;(cases mS e;cases mS V;rw[gO];exists S,e,nr,sm,_,sJ (Z++B');refine#[S,e,λt E=>?_];have:t.2=bE (Z++B') t.1:=by rw[<- (sm t.1).2];exact(kQ nr.1 (n:=t.2) E).symm);rw[this,sH];have:=LI (k:=t.1) l.1 m0 qA;have:=LI (k:=t.1) K.1 n0 qB;lia
 plain:=by rintro _ ⟨A,rfl,l,f⟩;exact mU (n:=5) (sM 5) f (by have:=iT l f;lia)
 eqn:=by rintro _ ⟨A,rfl,l,f⟩;rw[xT];exact#[λh=>by rw[h];rfl,λh=>by injection h with h;exact vy.mp h]
 br0:=xU G (A:=[]) #[qb,List.Pairwise.nil] λt E=>nomatch E
 brk:=by rintro _ ⟨A,rfl,l,f⟩;exact xU G l f
 brl:=by rintro _ _ ⟨A,rfl,l,f⟩ ⟨S,rfl,nS,F⟩;by_cases h:S=[];{subst h;rw[oV];exact xU G l f};rw[mV A h];have g:=oU AS (by simp[N.dp,N.dpL]) F;exact#[_,bN S,rfl,g.1,g.2 (by simp[N.dp,N.dpL]),sL f,by rw[LM];exact ii (iT l f) G,LJ (mU (n:=1) (sM 1) F (by have:=iT nS F;lia))]
 lf0:=by rintro _ ⟨A,rfl,l,f⟩;exact oV _
 plf:=by rintro _ _ ⟨A,rfl,l,f⟩ ⟨S,b,rfl,g,o,F,hl,T⟩;have W:=iT l f;by_cases h:S=[];{subst h;rw[oV];exact(mU (n:=5) (sM 5) f (by lia)).mono (by decide)};rw[mV A h];exact(mU (n:=7) (LJ (mU (n:=4) T F (by lia))) (sL f) (by rw[LM];lia)).mono (by decide)
 eqf:=by(rintro _ _ ⟨A,rfl,l,f⟩ ⟨S,b,rfl,g,o,F,hl,T⟩;have e:∀X:List Tr,gz (rD X) (.tup [])=true↔rD X=.tup []:=λX=>by rw[xT];exact#[λh=>by rw[h];rfl,λh=>by injection h with h;exact vy.mp h]);by_cases h:S=[];{subst h;rw[oV];exact e _};rw[mV A h];exact e _
 tml k a b ha o hr:=by exists A,rfl,l,f,ha;exists Z,e,hn,o;injection e with e;cases mS e;exists S,b,rfl,g,o,F,hl,T,hr;have W:=ii (iT l f) G;have hn:∀t∈A,t.2<=10 ^ 51:=λt E=>Int.le_trans (hn t E) (by decide);by_cases h:S=[];{subst h;refine#[.tup [lt1 b0],eL (AY (k:=k+1)),?_];rw[oV];have t:=LF (k:=k) AS l f hn W (by rw[show nD b0=D.tup [] by rw[nD,nDL]];exact AV);rw[Xp f]at t;exact fW t};refine#[.tup [lt1 (bN S)],eL (AZ (k:=k+1) h (mU (n:=4) T F (by lia)) (by decide)),?_];rw[mV A h];exact fW (LF (k:=k) (oU g o F).1 l f hn W (AW g o F h))
 law k a b ha na o hr nb:=by exists A,rfl,l,f,ha;exists Z,e,hn,o;injection e with e;cases mS e;exists S,b,rfl,g,o,F,hl,T,hr;have h:S≠[]:=λh=>nb (by rw[h];rfl);have t:=Xm k g o F h l f (λt E=>Int.le_trans (hn t E) (by decide)) (ii (iT l f) G);unfold lt1 at t;rw[jS]at t;refine .inr #[rfl,?_,?_];{rw[mV A h];exact Xq na};rw[mV A h];exact t
abbrev κ(e:N×D):N:=uu e.1
def jm(P:List (N×D))(k:N):List D:=(P.filter λe=>decide (e.1=k)).map (·.2)
theorem LO{k j:N}{v:List D}:∀{kvs:GD},(bD kvs k).isSome=true->bD (kJ kvs k v) j=if j=k then some v else bD kvs j
 |[],h=>by simp[bD]at h|kv::kvs,h=>by
  by_cases e:kv.1=k
  . by_cases z:j=k
    . simp[bD,kJ,gu,e,z]
    . have Z:¬ k=j:=λq=>z q.symm;have o:¬ kv.1=j:=λq=>z (q.symm.trans e);rw[ba z];have:∀(l:GD),bD (kJ l k v) j=bD l j:=λl=>by
        induction l with|nil=>rfl|cons a l d=>unfold bD kJ at *;rw[dw,gu,gu];by_cases q:a.1=k;{rw[aK q,show decide (a.1=j)=false by simp[q,Z]];simpa using d};rw[ba q];by_cases f:a.1=j;{rw[show decide (a.1=j)=true by simp[f]]};rw[show decide (a.1=j)=false by simp[f]];exact d
      exact this _
  . (have h':(bD kvs k).isSome=true:=by simpa[bD,gu,e]using h);have d:=LO (j:=j) (v:=v) h';unfold bD kJ at *;rw[dw,gu,gu,ba e];by_cases q:kv.1=j;{have:¬ j=k:=λz=>e (q.trans z);rw[show decide (kv.1=j)=true by simp[q],ba this]};rw[show decide (kv.1=j)=false by simp[q]];exact d
def Xr(kvs:GD)(k j:N)(d:D):(bD (gI kvs k d) j).getD []=(bD kvs j).getD []++if k=j then[d]else[]:=by unfold gI;cases e:bD kvs k with|some ds=>dsimp only;rw[LO (by rw[e];rfl)];by_cases q:j=k;{rw[aK q,aK q.symm,q,e];rfl};rw[ba q,ba λz=>q z.symm,h5]|none=>(dsimp only;have h:∀j,bD (kvs++[(k,[d])]) j=(bD kvs j).or (if k=j then some [d]else none):=λj=>by unfold bD;rw[List.find?_append];cases kvs.find? λkv=>decide (kv.1=j)with|some x=>rfl|none=>by_cases q:k=j;{simp[gu,q]};simp[gu,q]);rw[h];by_cases q:k=j;{rw[aK q,aK q,<- q,e];rfl};rw[ba q,ba q,h5,Option.or_none]
def Xs(e:N×D)(P:List (N×D))(k:N):jm (e::P) k=(if e.1=k then[e.2]else[])++jm P k:=by unfold jm;by_cases q:e.1=k;{rw[List.filter_cons_of_pos (by simp[q]),aK q];rfl};rw[List.filter_cons_of_neg (by simp[q]),ba q];rfl
theorem LP:∀(P:List (N×D)) (kvs:GD) (k:N),(bD (ig P kvs) k).getD []=(bD kvs k).getD []++jm P k|[],kvs,k=>by show _=_++[];rw[h5];rfl|e::P,kvs,k=>by show(bD (ig P (gI kvs e.1 e.2)) k).getD []=_;rw[LP P,Xr,Xs,js]
theorem LQ:∀{kvs:GD}{k:N}{ds:List D},(kvs.map (·.1)).Nodup->(k,ds)∈kvs->bD kvs k=some ds|kv::kvs,k,ds,nd,h=>by rw[dw,lg]at nd;rcases dq.mp h with e|h;{subst e;simp[bD,gu]};have:¬ kv.1=k:=λz=>nd.1 (z ▸ d7.mpr #[_,h,rfl]);have a:=LQ nd.2 h;simpa[bD,gu,this]using a
section
variable{Ok:D->Prop}
def Xt:Gi Ok [] 0:=#[dm _,qb,λkv h=>nomatch h]
theorem LR:∀(P:List (N×D)) (kvs:GD) (n:Nat),(∀e∈P,Row e.1/\Ok e.2)->Gi Ok kvs n->Gi Ok (ig P kvs) (n+P.length)|[],kvs,n,_,g=>g|e::P,kvs,n,h,g=>by exists r,o,h e c6;have:=LR P (gI kvs e.1 e.2) (n+1) (λu a=>h u (df a)) (g.add r o);show Gi Ok (ig P (gI kvs e.1 e.2)) (n+(P.length+1));rw[show n+(P.length+1)=n+1+P.length by lia];exact this
def oW{P:List (N×D)}(h:∀e∈P,Row e.1/\Ok e.2):Gi Ok (ig P []) P.length:=by have:=LR P [] 0 h Xt;rwa [lA]at this
def LS{P:List (N×D)}(h:∀e∈P,Row e.1/\Ok e.2){k:N}:(k,ds)∈ig P []↔ds=jm P k/\ds≠[]:=by have g:=oW h;have q:=LP P [] k;have q:(bD (ig P []) k).getD []=jm P k:=q;constructor;{intro m;rw[LQ g.nd m]at q;have:=(g.each _ m).2.2.1;exact#[q,λz=>by rw[z]at this;simp at this]};rintro⟨rfl,ne⟩;cases e:bD (ig P []) k with|none=>rw[e]at q;exact absurd q.symm ne|some ds=>rw[e]at q;have q:ds=jm P k:=q;rw[<- q];exact xC e
def xV{P:List (N×D)}{k:N}{d:D}(h:d∈jm P k):(k,d)∈P:=by exists e,a,rfl,d7.mp h;exists l,f,Bg.mp a;rw[<- lh f];exact l
def Xu(P:List (N×D))(k:N):(jm P k).length<=P.length:=by unfold jm;rw[d3];exact List.length_filter_le _ _
def LU(K:KM Kd No way Ok Br Bd pl lf)(l:List D)(x:D)(a:Ok x)(h:∀d∈l,Ok d):Ok (l.foldl pl x):=K.toKO.okf l x a h
theorem LV(K:KM Kd No way Ok Br Bd pl lf):∀(l:List D) (x:D),Ok x->x≠No->(∀d∈l,Ok d)->l.foldl pl x≠No|[],x,_,n,_=>n|d::l,x,a,n,h=>LV K l (pl x d) (K.okp _ _ a (h d c6)) (K.nz _ _ a (h d c6) n) λu f=>h u (df f)
def Xv(K:KM Kd No way Ok Br Bd pl lf){l:List D}(h:∀d∈l,Ok d/\d≠No)(ne:l≠[]):l.foldl pl No≠No:=by cases l with|nil=>exact absurd rfl ne|cons d l=>exists a,o,h d c6;show l.foldl pl (pl No d)≠No;rw[K.left d a];exact LV K l d a o λu f=>(h u (df f)).1
theorem LW(K:KM Kd No way Ok Br Bd pl lf){b:Int}(f:0<=b):∀(l:List D) (x:D) (m:Int),0<=m->Ok x->Bd m x->(∀d∈l,Ok d/\Bd b d)->Bd (m+l.length * b) (l.foldl pl x)|[],x,m,_,_,a,_=>by simpa using a|d::l,x,m,F,o,a,h=>by exists r,G,h d c6;have B:=LW K f l (pl x d) (m+b) (by lia) (K.okp _ _ o r) (K.bdp m b x d F f o r a G) λu E=>h u (df E);(have e:m+b+(l.length:Int) * b=m+((d::l).length:Int) * b:=by rw[gg];push_cast;rw[Int.add_mul];lia);rw[<- e];exact B
def Xw{j k:N}(f:Row j)(hk:Row k)(e:uu j=uu k):j=k:=by exists us,rfl,d,_,f.ex;exists vs,rfl,a,_,hk.ex;have e:N.t (us.map rk)=N.t (vs.map rk):=e;injection e with e;rw[xD d a e]
theorem LX:∀{l:List (N×D)},(∀e∈l,Row e.1)->(l.map (·.1)).Nodup->(l.map κ).Nodup|[],_,_=>qb|e::l,h,nd=>by rw[dw,lg]at nd ⊢;refine#[λq=>?_,LX (λu a=>h u (df a)) nd.2];exists u,a,E,d7.mp q;have:=Xw (h u (df a)) (h e c6) E;exact nd.1 (this ▸ d7.mpr #[u,a,rfl])
def LY{P:List (N×D)}(h:∀e∈P,Row e.1/\Ok e.2):((val pl No (ig P [])).map (·.1)).Nodup:=by unfold val;rw[gv];exact(oW h).nd
def xW{P:List (N×D)}(h:∀e∈P,Row e.1/\Ok e.2){k:N}{d:D}:(k,d)∈val pl No (ig P [])↔jm P k≠[]/\d=(jm P k).foldl pl No:=by unfold val;constructor;{intro m;exists kv,a,e,d7.mp m;cases e;exists E,f,(LS h (k:=kv.1) (ds:=kv.2)).mp a;exact#[E ▸ f,by rw[<- E]]};rintro⟨ne,rfl⟩;exact d7.mpr #[(k,jm P k),(LS h).mpr #[rfl,ne],rfl]
def LZ{P:List (N×D)}{k:N}(ne:jm P k≠[]):∃d,(k,d)∈P:=by cases e:jm P k with|nil=>exact absurd e ne|cons d l=>exact#[d,xV (by rw[e];exact c6)]
end
def LB(v:N):Prop:=dM v/\∀i:Int,v=.i i->i<=10 ^ 51
structure dE(w:Nat)(k:N):Prop where
 ex:∃vs,k=.t vs/\vs.length=w/\∀v∈vs,LB v
theorem dE.row{w:Nat}{k:N}(d:w<=10)(h:dE w k):Row k:=by exists vs,e,f,a,h.ex;exact#[vs,e,λv m=>(a v m).1,by lia]
theorem L1:∀{V:List (N×D)},(V.map (·.1)).Nodup->∀e∈V,a6 V e.1=some e.2|[],_,e,h=>by cases h|g::V,nd,e,a=>by rw[dw,lg]at nd;rcases dq.mp a with rfl|a;{rw[uH (p:=e) rfl]};rw[uI (p:=g) (λz=>nd.1 (d7.mpr #[e,a,z.symm]))];exact L1 nd.2 e a
def Xx{V:List (N×D)}(nd:(V.map (·.1)).Nodup){e:N×D}(d:e∈V)(a:Row e.1):cu eI (okf (.dtf V)) (okf (nD e.1))=okf e.2:=bI (by
 show eI .fz (.dtf V) .fz (nD e.1)=_;unfold eI;rw[a.key];show(a6 V e.1).map _=_;rw[L1 nd e d];rfl)
theorem fB:∀(ks:List N),nDL ks=ks.map nD|[]=>by rw[nDL];rfl|k::ks=>by rw[nDL,fB ks];rfl
theorem Xy{k:N}(h:Row k):Pl 1 (nD k):=by exists vs,rfl,a,l,h.ex;rw[nD];refine .tup (λd hd=>?_) (by rw[fB,d3];lia);rw[fB]at hd;exists v,f,rfl,d7.mp hd;cases a v f with|i n=>rw[nD];exact .int n|s x=>rw[nD];exact .str x
abbrev Tb(C:List Str)(R:List (N×D)):D:=.tup [Tp C,.tup (R.map enc)]
abbrev oX(pl:D->D->D)(No:D)(P:List (N×D)):List (N×D):=fJ κ (val pl No (ig P []))
structure TR(No:D)(Ok:D->Prop)(Bd:Int->D->Prop)(w n:Nat)(b:Int)(R:List (N×D)):Prop where
 each:∀e∈R,dE w e.1/\Ok e.2/\e.2≠No/\Bd b e.2
 len:R.length<=n
section
variable{Ok:D->Prop}{w:Nat}{b:Int}{P:List (N×D)}
def TR.ro(t:TR No Ok Bd w n b R)(d:w<=10):∀e∈R,Row e.1/\Ok e.2:=λe a=>#[(t.each e a).1.row d,(t.each e a).2.1]
theorem TR.sum(K:KM Kd No way Ok Br Bd pl lf)(t:TR No Ok Bd w n b P)(l:w<=10)(f:0<=b):TR No Ok Bd w n (n * b) (oX pl No P):=by have h:=t.ro l;refine#[λe a=>?_,?_];{have a:=(oK κ _).mem_iff.mp a;exists ne,E,(xW h (k:=e.1) (d:=e.2)).mp a;exists d,hd,LZ ne;have q:∀d∈jm P e.1,Ok d/\d≠No/\Bd b d:=λd hd=>(t.each _ (xV hd)).2;refine#[(t.each _ hd).1,?_,?_,?_];{rw[E];exact LU K _ _ K.okn λd hd=>(q d hd).1};{rw[E];exact Xv K (λd hd=>#[(q d hd).1,(q d hd).2.1]) ne};rw[E];refine K.bdm _ _ _ ?_ (LW K f (jm P e.1) No 0 (Int.le_refl _) K.okn K.bd0 λd hd=>#[(q d hd).1,(q d hd).2.2]);rw[sd];have r:=Xu P e.1;have o:=t.len;exact Int.mul_le_mul_of_nonneg_right (by lia) f};rw[(oK κ _).length_eq];unfold val;rw[d3];exact ii (oW h).len t.len
def Ff{W:WD}{f:Str}{a b c:E}{x z:D}(o:br W a Y=okf x)(l:br W b Y=okf y)(d:br W c Y=okf z)(h:jE (W.Mu f) i Y n (.ok [(.fz,x),(.fz,y),(.fz,z)])=.nx ρ'):ff W (.cmu i f n [a,b,c]) Y=.nx ρ':=by rw[Ab];show jE _ _ _ _ (aU (br W a Y) (aU (br W b Y) (aU (br W c Y) (.ok []))))=_;rw[o,l,d];exact h
def L3{N:Nat}{g:Rho->aI}{d d':D}(a:ds.length+1=n)(h:g (l5 N d ds)=.nx ρ')(h0:ρ'[0]? = some (some (true,d'))):jF n N g d ds=some d':=by unfold jF;rw[aK a,h];dsimp only;rw[h0]
abbrev bP:List D3.S:=[.ite (.nin false v2 v0) [.nput 0 v2 (.call "_law_plus" 3 [v1,(.nix v0 v2),v3])] [.nput 0 v2 v3]]
theorem Fh(K:KM Kd No way Ok Br Bd pl lf)(k:Nat){V:List (N×D)}{r:N}{d:D}(F:Row r)(W:∀e∈V,Ok e.2)(hd:Ok d)(hl:V.length<1000):(Wk (k+4)).Mu "_law_put" (.dtn V) [.int way,nD r,d]=some (.dtn (cK V r (pl ((a6 V r).getD No) d))):=by
 have Z:sizeLine=16777216:=dz;have L:V.length<sizeLine:=by lia
 rw[Ai (d:=Ku) rfl rfl];have B:cu (dU false) (okf (nD r)) (.ok .bo (.dtn V))=okf (.bl (a6 V r).isSome):=bI (by
  show dU false .fz (nD r) .bo (.dtn V)=_;unfold dU;rw[F.key];rfl)
 generalize a:l5 4 (.dtn V) [.int way,nD r,d]=Y;have E:Y=[some (true,.dtn V),sf (.int way),sf (nD r),sf d]:=by rw[<- a];rfl
 have l:br (Wk (k+3)) v2 Y=okf (nD r):=by rw[E];rfl
 have o:br (Wk (k+3)) v0 Y=.ok .bo (.dtn V):=by rw[E];rfl
 cases e:a6 V r with
 |none=>(rw[e]at B;have G:dW Y 0 (okf (nD r)) (br (Wk (k+3)) v3 Y)=.nx (Y.set 0 (some (true,.dtn (cK V r d)))):=by(rw[E];show(match bS (nD r)with|some k=>if V.length<sizeLine then aI.nx _ else .stuck|none=>.stuck)=_);rw[F.key];dsimp only;rw[aK L]);(have ev:ut (Wk (k+3)) bP Y=.nx (Y.set 0 (some (true,.dtn (cK V r d)))):=by show oo (cu (dU false) (br (Wk (k+3)) v2 Y) (br (Wk (k+3)) v0 Y)) Y _ _=_;rw[l,o,B];exact G);rw[pr,K.left d hd];exact L3 rfl (by rw[<- a]at ev;exact ev) rfl
 |some x =>
  rw[e]at B;have T:Ok x:=by unfold a6 at e;cases f:V.find? (λkv=>decide (kv.1=r))with|none=>rw[f]at e;cases e|some y=>rw[f]at e;cases e;exact W _ (Dt f)
  have nx:cu eI (.ok .bo (.dtn V)) (okf (nD r))=okf x:=bI (by
   show eI .bo (.dtn V) .fz (nD r)=_;unfold eI;rw[F.key];show(a6 V r).map _=_;rw[e];rfl)
  have S:=K.lplus k x d T hd;have G:dW Y 0 (okf (nD r)) (br (Wk (k+3)) (.call "_law_plus" 3 [v1,(.nix v0 v2),v3]) Y)=.nx (Y.set 0 (some (true,.dtn (cK V r (pl x d))))):=by(have cs:br (Wk (k+3)) (.call "_law_plus" 3 [v1,(.nix v0 v2),v3]) Y=okf (pl x d):=by rw[E];exact AE rfl nx rfl (fW S));(rw[cs,E];show(match bS (nD r)with|some k=>if V.length<sizeLine then aI.nx _ else .stuck|none=>.stuck)=_);rw[F.key];dsimp only;rw[aK L]
  have ev:ut (Wk (k+3)) bP Y=.nx (Y.set 0 (some (true,.dtn (cK V r (pl x d))))):=by show oo (cu (dU false) (br (Wk (k+3)) v2 Y) (br (Wk (k+3)) v0 Y)) Y _ _=_;rw[l,o,B];exact G
  exact L3 rfl (by rw[<- a]at ev;exact ev) rfl
theorem Fi(K:KM Kd No way Ok Br Bd pl lf)(k i:Nat){P:List (N×D)}{e:N×D}(h:∀u∈P,Row u.1/\Ok u.2)(a:Row e.1/\Ok e.2)(F:P.length<1000)(hi:Y[i]? = some (some (true,.dtn (val pl No (ig P []))))):jE ((Wk (k+4)).Mu "_law_put") i Y 4 (.ok [(.fz,.int way),(.fz,nD e.1),(.fz,e.2)])=.nx (Y.set i (some (true,.dtn (val pl No (ig (P++[e]) []))))):=by
 have g:=oW h;have ge:ig (P++[e]) []=gI (ig P []) e.1 e.2:=by unfold ig;rw[List.foldl_append];rfl
 have E:val pl No (ig (P++[e]) [])=cK (val pl No (ig P [])) e.1 (pl ((a6 (val pl No (ig P [])) e.1).getD No) e.2):=by rw[ge,Wr]
 have f:=Fh K k (V:=val pl No (ig P [])) (r:=e.1) (d:=e.2) a.1 (λu l=>by
  exists _,o,(xW h (k:=u.1) (d:=u.2)).mp l;rw[o];exact LU K _ _ K.okn λd hd=>(h _ (xV hd)).2) a.2 (by
  unfold val;rw[d3];have:=g.len;lia)
 unfold jE;rw[hi];show(match(WT TT (k+4)).Mu "_law_put" (.dtn (val pl No (ig P []))) [.int way,nD e.1,e.2]with|some B=>aI.nx (Y.set i (some (true,B)))|none=>.stuck)=_
 rw[f,E]
theorem L4(k:Nat){V:List (N×D)}{c:D}(l:∀e∈V,Row e.1)(nd:(V.map (·.1)).Nodup)(L:V.length<=60):(Wk (k+3)).Φ "_law_sorted" [.dtf V,c]=okf (.tup [c,.tup ((fJ κ V).map enc)]):=by
 have Z:sizeLine=16777216:=dz;refine ez (d:=Kw) rfl rfl ?_;show cz _ Kb [sf (.dtf V),sf c]=_;have S:eR (λd=>(Wk (k+1)).Φ "_law_rank" [d]) (okf (.dtf V))=.ok .fr (.lst ((fJ κ V).map λe=>nD e.1)):=by
  have K:∀e:N×D,∃kd:D,e∈V->aM ((Wk (k+1)).Φ "_law_rank" [nD e.1])=okf kd/\fC kd=sf (uu e.1):=λe=>by by_cases a:e∈V;{exists vs,ev,F,Ww (l e a);exists o,E,B,hn,(l e a).ex;(have:o=vs:=by rw[ev]at E;injection E with z;exact z.symm);subst this;refine#[_,λ_=>#[?_,F]];rw[ev,Wo k B hn];rfl};exact#[.non,λz=>absurd z a]
  exact Wt (f:=λe:N×D=>nD e.1) (κ:=κ) (kd:=λe=>Classical.choose (K e)) rfl (λe a=>(Classical.choose_spec (K e) a).1) (λe a=>(Classical.choose_spec (K e) a).2) (by
   have:=Wv (ks:=V.map λe=>e.1) (λk hk=>by exists e,a,rfl,d7.mp hk;exact l e a) nd
   rw[gv]at this
   exact this) (hB (by lia:V.length<64) nU)
 have G:br (Wk (k+2)) (.items (.srtf "_law_rank" v0)) [sf (.dtf V),sf c]=okf (.lst ((fJ κ V).map λe=>nD e.1)):=by show gW (aM (br (Wk (k+2)) (.srtf "_law_rank" v0) _))=_;rw[Wx rfl];show gW (aM (eR (λd=>(Wk (k+1)).Φ "_law_rank" [d]) (okf (.dtf V))))=_;rw[S];rfl
 have r:=oK κ V;have c1:cF (okf (.lst ((fJ κ V).map λe=>nD e.1))) [sf (.dtf V),sf c] [0] 1 (aO (.nm 1)) (λY=>fu (Wk (k+2)) [] Y) (λY=>br (Wk (k+2)) (.tup [v1,(.nix v0 v1)]) Y)=.ok .fr (.lst ((fJ κ V).map enc)):=by refine mN (enc:=λe:N×D=>nD e.1) enc (by rw[r.length_eq];lia) λe a=>?_;have a:=r.mem_iff.mp a;have nx:=Xx nd a (l e a);refine#[[sf (.dtf V),sf (nD e.1)],.fz,rfl,rfl,.fz,?_];show aM (fL (aU (okf (nD e.1)) (aU (cu eI (okf (.dtf V)) (okf (nD e.1))) (.ok []))))=_;rw[nx];rfl
 exact bB (jO rfl (bJ (eU (by rw[iO,G];exact c1))))
end
def big:Int:=100000000000000000000000000000000000000000000000000
def pw{m:Md}:cu (aX .Pow) (.ok m (.int 10)) (.ok m' (.int 50))=okf (.int big):=by rfl
def Fj{m:Md}:cu (aX .Pow) (.ok m (.int 10)) (.ok m' (.int 40))=okf (.int 10000000000000000000000000000000000000000):=by rfl
def L5{a b c:D}:jZ (.ok [(.fz,a),(.fz,b),(.fz,c)])=.ok .fr (.lst [a,b,c]):=rfl
def hO:List Str:=["x","","ab","X y","~0"]
theorem Fk(k:Nat)(c:Int):∃vs:List N,vs.length=3/\(∀v∈vs,LB v)/\(Wk (k+1)).Φ "_law_pool" [.int c,.int big]=.ok .fr (.lst (vs.map nD)):=by(have f:0<big:=by decide);(have r:big<=10 ^ 51:=by decide);(have l:=kL (m:=.fz) (n:=.fz) (i:=c) f;have n1:=vr c f;have n2:0<=big / 3:=by decide);exists d,hd,E,w4 (hO.map D.str) c 5 rfl (by decide);exists t,o,rfl,d7.mp hd;have ix:=gK (m:=.fz) (m':=.fz) E;refine#[[.i (c % big-big / 3),.i (c / 7 % 3),.s t],rfl,λv a=>?_,?_];{simp only[dq,rj,jy]at a;rcases a with rfl|rfl|rfl;{exact#[.i _,λi e=>by injection e with e;lia]};{exact#[.i _,λi e=>by injection e with e;lia]};exact#[.s _,λi e=>by cases e]};refine ez (d:=Kx) rfl rfl ?_;show cz (Wk k) wP [sf (.int c),sf (.int big),none]=_;unfold wP;have S:ff (Wk k) (.set 2 (.frz (.lst [(.str "x"),(.str ""),(.str "ab"),(.str "X y"),(.str "~0")]))) [sf (.int c),sf (.int big),none]=.nx [sf (.int c),sf (.int big),sf (.lst (hO.map D.str))]:=rfl;rw[rF S];generalize hO.map D.str=TX at *;generalize big=B at *;simp[ix,l,L5,nD]
theorem A3(k:Nat)(c:Int)(P:D):∃d,Fe d/\d ≠ .int 0/\LH (10 ^ 40) d/\(Wk (k+2)).Φ "_law_note" [.int 0,.int c,P]=okf d:=by(have p:=Fj (m:=.fz) (m':=.fz);have E:(10:Int) ^ 40=10000000000000000000000000000000000000000:=by decide);(have B:(0:Int)<10000000000000000000000000000000000000000:=by decide);have a:=kL (m:=.fz) (n:=.fz) (i:=c) B;have n1:=vr c B;have n2:=ud c (show(10000000000000000000000000000000000000000:Int)≠0 by decide);refine#[.int (1+c % 10000000000000000000000000000000000000000),#[_,by lia,rfl],λe=>by injection e with e;lia,#[_,by lia,rfl],?_];refine ez (d:=rQ) rfl rfl ?_;show cz (Wk (k+1)) mM [sf (.int 0),sf (.int c),sf P,none]=_;unfold mM;refine oI (eS (m:=.fz) (by rfl) (bB ?_));show cu (aX .Add) (okf (.int 1)) (cu (aX .Mod) (okf (.int c)) (cu (aX .Pow) (okf (.int 10)) (okf (.int 40))))=_;rw[p,a];simp
def A4(z:Str)(n:Int):tD (iy b0 z,n)=.tup [.tup [.str z],.tup [],.int n]:=by rw[iS];show D.tup [nD (F [z]),nD (.t []),.int n]=_;rw[kP,nD,nDL];rfl
def A5(t:Tr):lq [t]:=#[by simp,qc _ _]
def Xz{W:WD}{a b:E}{x:D}(f:br W a Y=okf x)(d:br W b Y=okf y):br W (.lst [a,b]) Y=.ok .fr (.lst [x,y]):=by show jZ (aU (br W a Y) (aU (br W b Y) (.ok [])))=_;rw[f,d];rfl
theorem A6(k:Nat)(c:Int)(W:zs.length=8):∃d,AT b0 zs d/\d ≠ .tup []/\CL (10 ^ 40) d/\(Wk (k+2)).Φ "_law_note" [.int 1,.int c,.lst (zs.map .str)]=okf d:=by
 have K:=LN (P:=zs) (by lia)
 have r:∀v:Int,∃z∈zs,atI (zs.map D.str) (v % 8)=some (.str z):=λv=>by exists d,hd,ed,w4 (zs.map D.str) v 8 (by rw[d3,W];rfl) (by decide);exists z,r,rfl,d7.mp hd;exact#[z,r,ed]
 exists a,F,e1,r c;exists l,E,e2,r (c / 32);have n3:0<=c / 256 % 3/\c / 256 % 3<3:=by lia
 have f1:Fc b0 zs (iy b0 a,1):=#[#[a,F,rfl],Int.one_pos];have f2:Fc b0 zs (iy b0 l,1+c / 256 % 3):=#[#[l,E,rfl],by show 0<1+c / 256 % 3;lia]
 have o:AT b0 zs (rD [(iy b0 a,1)]):=#[_,rfl,A5 _,λt f=>by rw[fj.mp f];exact f1]
 have B:AT b0 zs (rD [(iy b0 l,1+c / 256 % 3)]):=#[_,rfl,A5 _,λt f=>by rw[fj.mp f];exact f2]
 have N:rD [(iy b0 a,1)] ≠ .tup []:=λz=>by injection z with z;cases z
 have G:CL 1 (rD [(iy b0 a,1)]):=#[_,rfl,λt f=>by rw[fj.mp f];exact Int.le_refl _]
 have b2:CL 3 (rD [(iy b0 l,1+c / 256 % 3)]):=#[_,rfl,λt f=>by rw[fj.mp f];show 1+c / 256 % 3<=3;lia]
 have i1:=gK (m:=.fz) (m':=.fz) e1;have V:=gK (m:=.fz) (m':=.fz) e2;have S:ff (Wk (k+1)) (.set 3 (.tup [(.tup [(.ix v2 (.bin .Mod v1 (.int 8)))]),(.tup []),(.int 1)])) [sf (.int 1),sf (.int c),sf (.lst (zs.map .str)),none]=.nx [sf (.int 1),sf (.int c),sf (.lst (zs.map .str)),sf (tD (iy b0 a,1))]:=by rw[A4];generalize zs.map D.str=Z at *;simp[i1,AB,AC,iR]
 have pre:ff (Wk (k+1)) (.ite (.cmp .Eq v0 (.int 0)) [.ret (.bin .Add (.int 1) (.bin .Mod v1 (.bin .Pow (.int 10) (.int 40))))] []) [sf (.int 1),sf (.int c),sf (.lst (zs.map .str)),none]=.nx [sf (.int 1),sf (.int c),sf (.lst (zs.map .str)),none]:=bT (m:=.fz) (by rfl) rfl
 cases q:(c / 8 % 4==1)with
 |true =>
  refine#[ux (rD [(iy b0 a,1)]) (rD [(iy b0 l,1+c / 256 % 3)]),K.okp _ _ o B,K.nz _ _ o B N,K.bdm _ _ _ (by decide) (K.bdp 1 3 _ _ (by decide) (by decide) o B G b2),?_]
  rw[gO];refine ez (d:=rQ) rfl rfl ?_;show cz (Wk (k+1)) mM [sf (.int 1),sf (.int c),sf (.lst (zs.map .str)),none]=_;have L:=fV (xR k AS (P:=zs) (X:=[(iy b0 a,1)]++[(iy b0 l,1+c / 256 % 3)]) (λt f=>by
   rcases ko.mp f with h|h
   . rw[fj.mp h];exact f1
   . rw[fj.mp h];exact f2) (by show 2<64;lia))
  have ev:br (Wk (k+1)) (.tup [(.tup [(.ix v2 (.bin .Mod (.bin .FloorDiv v1 (.int 32)) (.int 8)))]),(.tup []),(.frz (.bin .Add (.int 1) (.bin .Mod (.bin .FloorDiv v1 (.int 256)) (.int 3))))]) [sf (.int 1),sf (.int c),sf (.lst (zs.map .str)),sf (tD (iy b0 a,1))]=okf (tD (iy b0 l,1+c / 256 % 3)):=by rw[A4 l];generalize zs.map D.str=Z at *;generalize tD (iy b0 a,1)=T at *;simp[V,AB,AC,iR]
  refine cy pre (cy S (oI (eS (m:=.fz) (by simp[q]) (bB (Fb (gM (Xz rfl ev)) L)))))
 |false=>refine#[rD [(iy b0 a,1)],o,N,K.bdm _ _ _ (by decide) G,?_];refine ez (d:=rQ) rfl rfl ?_;show cz (Wk (k+1)) mM [sf (.int 1),sf (.int c),sf (.lst (zs.map .str)),none]=_;unfold mM;exact cy pre (cy S (cy (bT (m:=.fz) (by simp[q]) rfl) (bB rfl)))
def sN(k:Nat)(way:Int)(zs:List Str)(Ok:D->Prop)(Bd:Int->D->Prop)(No:D):Prop:=∀c:Int,∃d,Ok d/\d≠No/\Bd (10 ^ 40) d/\(Wk k).Φ "_law_note" [.int way,.int c,.lst (zs.map .str)]=okf d
section
variable{Ok:D->Prop}
abbrev mq(pl:D->D->D)(No:D)(way:Int)(a:Option (Bool×D))(C zs:List Str)(vs:List N)(P:List (N×D))(x6 x7:Option (Bool×D)):Rho :=
 [a,sf (Tp C),sf (.int way),sf (.lst (zs.map .str)),sf (.lst (vs.map nD)),some (true,.dtn (val pl No (ig P []))),x6,x7]
theorem A7(K:KM Kd No way Ok Br Bd pl lf)(k:Nat){w:Nat}(hw:w<=3){C:List Str}(hC:C.length=w){vs:List N}(h3:vs.length=3)(E:∀v∈vs,LB v)(hn:sN (k+4) way zs Ok Bd No){P:List (N×D)}(h:TR No Ok Bd w P.length (10 ^ 40) P)(hl:P.length<100)(c:Int)(r x7:Option (Bool×D)):∃e T,TR No Ok Bd w (P++[e]).length (10 ^ 40) (P++[e])/\cz (Wk (k+4)) wD (mq pl No way r C zs vs P (sf (.int c)) x7)=.nx (mq pl No way r C zs vs (P++[e]) (sf (.int c)) T):=by
 have B:∀v:Int,∃u∈vs,atI (vs.map nD) (v % 3)=some (nD u):=λv=>by exists d,hd,ed,w4 (vs.map nD) v 3 (by rw[d3,h3];rfl) (by decide);exists u,hu,rfl,d7.mp hd;exact#[u,hu,ed]
 exists o,m1,e1,B c;exists f,m2,e2,B (c / 3);exists a,m3,e3,B (c / 9);exists d,S,nd,bd,en,hn (c / 27);have i1:=gK (m:=.fz) (m':=.fz) e1;have i2:=gK (m:=.fz) (m':=.fz) e2;have i3:=gK (m:=.fz) (m':=.fz) e3;have L:dE w (.t ([o,f,a].take w)):=#[_,rfl,by rw[pd];show min w 3=w;lia,λv m=>by
  have m:=List.mem_of_mem_take m;simp only[dq,rj,jy]at m;rcases m with rfl|rfl|rfl
  . exact E _ m1
  . exact E _ m2
  . exact E _ m3]
 have tr:TR No Ok Bd w (P++[(N.t ([o,f,a].take w),d)]).length (10 ^ 40) (P++[(N.t ([o,f,a].take w),d)]):=#[λe he=>by
  rcases ko.mp he with F|F
  . exact h.each e F
  . rw[fj.mp F];exact#[L,S,nd,bd],dm _]
 refine#[(.t ([o,f,a].take w),d),sf (.lst [nD o,nD f,nD a]),tr,?_];have W:ff (Wk (k+4)) (.set 7 (.frz (.lst [(.ix v4 (.bin .Mod v6 (.int 3))),(.ix v4 (.bin .Mod (.bin .FloorDiv v6 (.int 3)) (.int 3))),(.ix v4 (.bin .Mod (.bin .FloorDiv v6 (.int 9)) (.int 3)))]))) (mq pl No way r C zs vs P (sf (.int c)) x7)=.nx (mq pl No way r C zs vs P (sf (.int c)) (sf (.lst [nD o,nD f,nD a]))):=by unfold mq;generalize vs.map nD=V at *;generalize zs.map D.str=Z at *;generalize val pl No (ig P [])=G at *;generalize nD o=w1 at *;generalize nD f=w2 at *;generalize nD a=w3 at *;simp[i1,i2,i3,L5]
 have cm:=Fi K k 5 (P:=P) (e:=(.t ([o,f,a].take w),d)) (h.ro (by lia)) #[L.row (by lia),S] (by lia) (Y:=mq pl No way r C zs vs P (sf (.int c)) (sf (.lst [nD o,nD f,nD a]))) rfl
 have et:nD (N.t ([o,f,a].take w))=.tup ([nD o,nD f,nD a].take w):=by rw[nD,fB,B0];rfl
 dsimp only at cm;rw[et]at cm;have ln:br (Wk (k+4)) (.bcall .len [v1]) (mq pl No way r C zs vs P (sf (.int c)) (sf (.lst [nD o,nD f,nD a])))=okf (.int (w:Int)):=by show Res.of (some (Md.fz,D.int ((C.map D.str).length:Int)))=_;rw[d3,hC];rfl
 have fd:br (Wk (k+4)) (.frz (.bin .FloorDiv v6 (.int 27))) (mq pl No way r C zs vs P (sf (.int c)) (sf (.lst [nD o,nD f,nD a])))=okf (.int (c / 27)):=by unfold mq;simp
 exact cy W (cy (Ff rfl (bJ (eU (m:=.fr) (l:=[nD o,nD f,nD a].take w) (xG (ds:=[nD o,nD f,nD a]) (m':=.fz) ln))) (bJ (AE rfl fd rfl (fW en))) cm) rfl)
theorem L6(K:KM Kd No way Ok Br Bd pl lf)(k:Nat){w:Nat}(o:w<=3){C zs:List Str}(B:C.length=w){vs:List N}(E:vs.length=3)(r:∀v∈vs,LB v)(hn:sN (k+4) way zs Ok Bd No)(a:Option (Bool×D)):∀(cs:List Int) (P:List (N×D)) (x6 x7:Option (Bool×D)),TR No Ok Bd w P.length (10 ^ 40) P->P.length+cs.length<100->∃d G f,TR No Ok Bd w (P.length+cs.length) (10 ^ 40) d/\bH (aO (.nm 6)) (cz (Wk (k+4)) wD) (cs.map .int) (mq pl No way a C zs vs P x6 x7)=.nx (mq pl No way a C zs vs d G f)|[],P,x6,x7,h,l=>#[P,x6,x7,h,rfl]|c::cs,P,x6,x7,h,l=>by have l:P.length+(cs.length+1)<100:=l;exists e,f,t,L,A7 K k o B E r hn h (by lia) c a x7;exists d,F,Z,t',S,L6 K k o B E r hn a cs (P++[e]) (sf (.int c)) f t (by rw[ik,nB];lia);refine#[d,F,Z,?_,by exact Eq.trans (g9 rfl L) S];(have:(P++[e]).length+cs.length=P.length+(c::cs).length:=by rw[ik,nB,gg];lia);rw[<- this];exact t'
theorem L7(K:KM Kd No way Ok Br Bd pl lf)(k:Nat){w:Nat}(a:w<=3){C:List Str}(o:C.length=w){vs:List N}(r:vs.length=3)(f:∀v∈vs,LB v)(hn:sN (k+4) way zs Ok Bd No)(E:cs.length<=40):∃P,TR No Ok Bd w 40 (10 ^ 40) P/\(Wk (k+5)).Φ "_law_made" [.lst (cs.map .int),Tp C,.int way,.lst (zs.map .str),.lst (vs.map nD)]=okf (Tb C (oX pl No P)):=by
 exists P,D,B,t,e,L6 K k a o r f hn (sf (.lst (cs.map .int))) cs [] none none #[λe h=>(nomatch h),dm _] (by show 0+cs.length<100;lia)
 have T:TR No Ok Bd w 40 (10 ^ 40) P:=#[t.each,by have:=t.len;have:P.length<=0+cs.length:=this;lia]
 refine#[P,T,?_];have h:=T.ro (by lia)
 have g:=oW h;have S:=L4 (k+1) (V:=val pl No (ig P [])) (c:=Tp C) (λe l=>by
  exists ne,_,(xW h (k:=e.1) (d:=e.2)).mp l;exists d,hd,LZ ne
  exact(h _ hd).1) (LY h) (by unfold val;rw[d3];have:=g.len;have:=T.len;lia)
 refine ez (d:=Kz) rfl rfl ?_;show cz (Wk (k+4)) Kc [sf (.lst (cs.map .int)),sf (Tp C),sf (.int way),sf (.lst (zs.map .str)),sf (.lst (vs.map nD)),none,none,none]=_;exact cy rfl (cy e (cy rfl (bB (eL S))))
end
def sO:N->List N|.t vs=>vs|_=>[]
def sub(ps:List Nat)(k:N):N:=.t (ps.map λi=>(sO k).getD i (.i 0))
theorem dE.at{w:Nat}{k:N}(h:dE w k)(hi:i<w):∃v,LB v/\(sO k).getD i (.i 0)=v/\∀m m':Md,cu fm (.ok m (nD k)) (.ok m' (.int (i:Int)))=okf (nD v):=by(exists vs,rfl,f,d,h.ex;have a:i<vs.length:=by lia);refine#[vs[i],d _ (sb a),by show vs.getD i (.i 0)=_;simp[a],λm m'=>?_];rw[nD,fB];exact dL (c9 (by rw[h7,gm a];rfl))
theorem dE.sub{w:Nat}{k:N}(h:dE w k)(hp:∀i∈ps,i<w):dE ps.length (sub ps k) :=
 #[_,rfl,d3 _,λv a=>by
  exists i,f,rfl,d7.mp a;exists u,d,e,_,h.at (hp i f);rw[e];exact d]
abbrev a7(ps:List Nat):List D:=ps.map λ(i:Nat)=>.int (i:Int)
theorem L8{W:WD}{k:N}{w:Nat}(h:dE w k)(hp:∀i∈ps,i<w)(f:ps.length<=10){m:Md}(d:cA aC Y=[sf (nD k)]):cF (.ok m (.lst (a7 ps))) Y aC 1 (aO (.nm 1)) (λY=>fu W [] Y) (λY=>br W (.ix v0 v1) Y)=.ok .fr (.lst (nDL ((ps.map λi=>(sO k).getD i (.i 0))))):=by have Z:sizeLine=16777216:=dz;rw[fB,gv];refine mN (enc:=λi:Nat=>D.int (i:Int)) (λi=>nD ((sO k).getD i (.i 0))) (by lia) λi a=>?_;exists v,_,e,ix,h.at (hp i a);refine#[[sf (nD k),sf (.int (i:Int))],.fz,by rw[d];rfl,rfl,.fz,?_];show aM (cu fm (okf (nD k)) (okf (.int (i:Int))))=_;rw[ix,e];rfl
def oY{C:List Str}(hi:i<C.length):C.getD i ""=C[i]:=by simp[hi]
abbrev fh(C:List Str)(ps:List Nat):List Str:=ps.map λi=>C.getD i ""
theorem L9:∀{C:List Str}{i:Nat} (hi:i<C.length),C.Nodup->(C.map D.str).findIdx? (λz=>kj z (.str C[i]))=some i|z::C,0,_,_=>by rw[dw,q5];show(if kj (.str z) (.str z)=true then _ else _)=_;rw[aK (by show(z==z)=true;exact oi z)]|z::C,i+1,hi,nd=>by(rw[lg]at nd;have a:i<C.length:=by simpa using hi);rw[dw,q5];show(if kj (.str z) (.str C[i])=true then _ else _)=_;have:(z==C[i])=false:=lr.mpr λe=>nd.1 (e ▸ sb a);rw[ba (by show ¬ (z==C[i])=true;rw[this];decide)];exact congrArg (Option.map λi=>i+1) (L9 a nd.2)
def A8{C:List Str}(nd:C.Nodup)(hi:i<C.length){m:Md}:nP (.ok m (Tp C)) (.ok m' (.str C[i]))=okf (.int (i:Int)):=by(show(if(bY (.str C[i])&&(C.map D.str).all bY)=true then(match(C.map D.str).findIdx? (λz=>kj z (.str C[i]))with|some j=>Res.ok .fz (.int (j:Nat))|none=>.stuck)else .stuck)=_);rw[aK (by rw[xF];rfl),L9 hi nd]
theorem XA(k:Nat){C:List Str}(nd:C.Nodup)(hp:∀i∈ps,i<C.length)(f:ps.length<=10):(Wk (k+1)).Φ "places_of" [Tp (fh C ps),Tp C]=.ok .fr (.lst (a7 ps)):=by
 have Z:sizeLine=16777216:=dz;refine ez (d:=Kg) rfl rfl ?_;show cz (Wk k) wH [sf (Tp (fh C ps)),sf (Tp C)]=_;unfold wH;refine w8 ?_;have c:cF (okf (.lst (ps.map λi=>D.str (C.getD i "")))) [sf (Tp (fh C ps)),sf (Tp C)] [1] 1 (aO (.nm 1)) (λY=>fu (Wk k) [] Y) (λY=>br (Wk k) (.tidx v0 v1) Y)=.ok .fr (.lst (a7 ps)):=by refine mN (enc:=λi:Nat=>D.str (C.getD i "")) (λi=>D.int (i:Int)) (by lia) λi a=>?_;refine#[[sf (Tp C),sf (.str (C.getD i ""))],.fz,rfl,rfl,.fz,?_];show aM (nP (okf (Tp C)) (okf (.str (C.getD i ""))))=_;rw[oY (hp i a),A8 nd (hp i a)];rfl
 have e:(fh C ps).map D.str=ps.map λi=>D.str (C.getD i ""):=by unfold fh;rw[gv];rfl
 have it:br (Wk k) (.items v0) [sf (Tp (fh C ps)),sf (Tp C)]=okf (.lst (ps.map λi=>D.str (C.getD i ""))):=by rw[<- e];rfl
 rw[iO,it];exact c
def XB(k:Nat){r:N}{w:Nat}(h:dE w r)(hp:∀i∈ps,i<w)(a:ps.length<=10):(Wk (k+1)).Φ "values_at" [.lst (a7 ps),nD r]=okf (nD (sub ps r)):=by refine ez (d:=Kh) rfl rfl ?_;show cz (Wk k) wI [sf (.lst (a7 ps)),sf (nD r)]=_;unfold wI;rw[sub,nD];exact bB (eU (m:=.fr) (L8 (m:=.fz) h hp a rfl))
def XC{k:N}(h:k∉R.map (·.1)):a6 R k=none:=by unfold a6;rw[Option.map_eq_none_iff,Dw];intro e a q;exact h (d7.mpr #[e,a,by simpa using q])
def Ma{k:N}{d:D}(h:k∉R.map (·.1)):cK R k d=R++[(k,d)]:=by unfold cK;rw[XC h];rfl
theorem xX{k:N}{d:D}(hk:Row k)(h:k∉R.map (·.1))(a:R.length<1000)(e:Y[i]? = some (some (true,.dtn R))):dW Y i (okf (nD k)) (okf d)=.nx (Y.set i (some (true,.dtn (R++[(k,d)])))):=by(unfold dW;rw[e];show(match bS (nD k)with|some k=>if R.length<sizeLine then aI.nx (Y.set i (some (true,.dtn (cK R k d))))else .stuck|none=>.stuck)=_);rw[hk.key];dsimp only;rw[aK (by rw[dz];lia),Ma h]
theorem Mb:∀(R J:List (N×D)),((J++R).map (·.1)).Nodup->n8 J R=J++R|[],J,_=>(h5 J).symm|e::R,J,h=>by(have ne:e.1∉J.map (·.1):=λm=>by rw[jt,ue]at h;exact h.2.2 e.1 m e.1 c6 rfl);show n8 (cK J e.1 e.2) R=_;rw[Ma ne,Mb R (J++[e]) (by rw[js];exact h),js];rfl
theorem Mc{W:WD}{a b c w x7 x8:Option (Bool×D)}:∀(R J:List (N×D)) (d x6:Option (Bool×D)),((J++R).map (·.1)).Nodup->(∀e∈R,Row e.1)->J.length+R.length<1000->∃l f,bH (aO (.tp [.nm 5,.nm 6])) (cz W wF) (R.map enc) [a,b,c,w,some (true,.dtn J),d,x6,x7,x8]=.nx [a,b,c,w,some (true,.dtn (J++R)),l,f,x7,x8]
 |[],J,d,x6,_,_,_=>#[d,x6,by rw[h5];rfl]|e::R,J,d,x6,nd,h,B=>by
  rw[gg]at B;have ne:e.1∉J.map (·.1):=λm=>by rw[jt,ue]at nd;exact nd.2.2 e.1 m e.1 c6 rfl
  exists l,f,o,Mc (W:=W) (a:=a) (b:=b) (c:=c) (w:=w) (x7:=x7) (x8:=x8) R (J++[e]) (sf (nD e.1)) (sf e.2) (by rw[js];exact nd) (λu r=>h u (df r)) (by rw[ik,nB];lia)
  refine#[l,f,?_];have body:cz W wF [a,b,c,w,some (true,.dtn J),sf (nD e.1),sf e.2,x7,x8]=.nx [a,b,c,w,some (true,.dtn (J++[e])),sf (nD e.1),sf e.2,x7,x8] :=
   cy (ρ':=[a,b,c,w,some (true,.dtn (J++[e])),sf (nD e.1),sf e.2,x7,x8]) (by rw[rC];exact xX (h e c6) ne (by lia) rfl) rfl
  rw[dw,g9 (ρ1:=[a,b,c,w,some (true,.dtn J),sf (nD e.1),sf e.2,x7,x8]) rfl body,o,js];rfl
section
variable{Ok:D->Prop}
def lv(lf:D->D->D)(No:D)(R2:List (N×D))(ps:List Nat)(e:N×D):N×D:=(e.1,lf e.2 ((a6 R2 (sub ps e.1)).getD No))
def gq(lf:D->D->D)(No:D)(R2:List (N×D))(ps:List Nat)(R:List (N×D)):List (N×D):=(R.map (lv lf No R2 ps)).filter λu=>!gz u.2 No
def Me(R2:List (N×D))(ps:List Nat)(e:N×D)(R:List (N×D)):gq lf No R2 ps (e::R)=(if gz (lv lf No R2 ps e).2 No=true then[]else[lv lf No R2 ps e])++gq lf No R2 ps R:=by unfold gq;rw[dw,Dv];cases h:gz (lv lf No R2 ps e).2 No <;> rfl
def sP{k:N}{d:D}(h:a6 R k=some d):∃e∈R,e.2=d:=by unfold a6 at h;exists e,a,rfl,og.mp h;exact#[e,Dt a,rfl]
theorem xY(K:KM Kd No way Ok Br Bd pl lf)(k:Nat){one other:Option (Bool×D)}{w:Nat}{ps:List Nat}(hp:∀i∈ps,i<w)(G:ps.length<=10){R2:List (N×D)}(h2:∀e∈R2,Br e.2/\e.2≠No):∀(R J:List (N×D)) (l x6 x8:Option (Bool×D)),(∀e∈R,dE w e.1/\Ok e.2/\e.2≠No/\Bd (10 ^ 50) e.2)->w<=10->((J++R).map (·.1)).Nodup->J.length+R.length<1000->∃f d a,bH (aO (.tp [.nm 5,.nm 6])) (cz (Wk (k+2)) oF) (R.map enc) [one,other,sf (.lst (a7 ps)),sf (.int way),sf (.dtf R2),l,x6,some (true,.dtn J),x8]=.nx [one,other,sf (.lst (a7 ps)),sf (.int way),sf (.dtf R2),f,d,some (true,.dtn (J++gq lf No R2 ps R)),a]
 |[],J,l,x6,x8,_,_,_,_=>#[l,x6,x8,by rw[show J++gq lf No R2 ps []=J from h5 J];rfl]|e::R,J,l,x6,x8,h,F,nd,hl=>by
  rw[gg]at hl;exists E,o,nz,bd,h e c6;have rs:=(E.sub hp).row G;have ne:e.1∉J.map (·.1):=λm=>by rw[jt,ue]at nd;exact nd.2.2 e.1 m e.1 c6 rfl
  have T:((J++[lv lf No R2 ps e]++R).map (·.1)).Nodup:=by(have e1:(J++[lv lf No R2 ps e]++R).map (·.1)=(J++e::R).map (·.1):=by simp[lv]);rw[e1];exact nd
  have V:((J++R).map (·.1)).Nodup:=by refine List.Nodup.sublist ?_ nd;exact((List.sublist_cons_self e R).append_left J).map _
  have tl := fun u Z => h u (List.mem_cons_of_mem _ Z); have zq : ff (Wk (k + 2)) (.set 8 (.frz (.tcall .tuple [(.comp (.ix v0 v1) (.items v2) [] [5] (.nm 1) 1)]))) [one, other, sf (.lst (a7 ps)), sf (.int way), sf (.dtf R2), sf (nD e.1), sf e.2, some (true, .dtn J), x8] =
      .nx [one,other,sf (.lst (a7 ps)),sf (.int way),sf (.dtf R2),sf (nD e.1),sf e.2,some (true,.dtn J),sf (nD (sub ps e.1))] :=
   cB (bJ (by rw[sub,nD];exact eU (m:=.fr) (by rw[iO];exact L8 (m:=.fz) E hp G rfl)))
  have r:br (Wk (k+2)) (.nin true v8 v4) [one,other,sf (.lst (a7 ps)),sf (.int way),sf (.dtf R2),sf (nD e.1),sf e.2,some (true,.dtn J),sf (nD (sub ps e.1))]=okf (.bl (!(a6 R2 (sub ps e.1)).isSome)):=bI (by
   show dU true .fz (nD (sub ps e.1)) .fz (.dtf R2)=_;unfold dU;rw[rs.key];rfl)
  have kept : ∀ {s : D3.S}, lf e.2 ((a6 R2 (sub ps e.1)).getD No) ≠ No → ff (Wk (k + 2)) s [one, other, sf (.lst (a7 ps)), sf (.int way), sf (.dtf R2), sf (nD e.1), sf e.2, some (true, .dtn J), sf (nD (sub ps e.1))] = .nx [one, other, sf (.lst (a7 ps)), sf (.int way), sf (.dtf R2), sf (nD e.1), sf e.2, some (true, .dtn (J ++ [lv lf No R2 ps e])), sf (nD (sub ps e.1))] →
      oF=[.set 8 (.frz (.tcall .tuple [(.comp (.ix v0 v1) (.items v2) [] [5] (.nm 1) 1)])),s]->Br ((a6 R2 (sub ps e.1)).getD No) ->
      ∃f d a,bH (aO (.tp [.nm 5,.nm 6])) (cz (Wk (k+2)) oF) ((e::R).map enc) [one,other,sf (.lst (a7 ps)),sf (.int way),sf (.dtf R2),l,x6,some (true,.dtn J),x8] =
   .nx [one,other,sf (.lst (a7 ps)),sf (.int way),sf (.dtf R2),f,d,some (true,.dtn (J++gq lf No R2 ps (e::R))),a]:=λ{s} hn hs hb B=>by
   exists f,d,a,W,xY K k (one:=one) (other:=other) hp G h2 R (J++[lv lf No R2 ps e]) (sf (nD e.1)) (sf e.2) (sf (nD (sub ps e.1))) tl F T (by rw[ik,nB];lia)
   refine#[f,d,a,?_];have q:¬ gz (lv lf No R2 ps e).2 No=true:=λz=>hn ((K.eqf _ _ o B).mp z);rw[dw,g9 (ρ1:=[one,other,sf (.lst (a7 ps)),sf (.int way),sf (.dtf R2),sf (nD e.1),sf e.2,some (true,.dtn J),x8]) rfl (by rw[hb];exact cy zq (cy hs rfl)),W,Me,ba q,js]
  cases q:a6 R2 (sub ps e.1)with
  |none=>(have L:lv lf No R2 ps e=(e.1,e.2):=by unfold lv;rw[q,pr,K.lf0 _ o]);rw[q,pr]at kept;rw[q]at r;exact kept (by rw[K.lf0 _ o];exact nz) (eS r (cy (ρ':=[one,other,sf (.lst (a7 ps)),sf (.int way),sf (.dtf R2),sf (nD e.1),sf e.2,some (true,.dtn (J++[lv lf No R2 ps e])),sf (nD (sub ps e.1))]) (by rw[rC,L];exact xX (E.row F) ne (by lia) rfl) rfl)) rfl K.br0|some b =>
   exists u,Z,rfl,sP q;exists B,nb,h2 u Z;rw[q,vz]at kept;rw[q]at r;have L:lv lf No R2 ps e=(e.1,lf e.2 u.2):=by unfold lv;rw[q,vz]
   rcases K.law k e.2 u.2 o nz bd B nb with⟨w0,l0⟩|⟨w1,l1,lt⟩
   . exists f,d,a,W,xY K k (one:=one) (other:=other) hp G h2 R J (sf (nD e.1)) (sf e.2) (sf (nD (sub ps e.1))) tl F V (by lia);(refine#[f,d,a,?_];have qe:gz (lv lf No R2 ps e).2 No=true:=by rw[L];exact(K.eqf _ _ o B).mpr l0);(have cf:br (Wk (k+2)) (.cmp .Eq v3 (.int 1)) [one,other,sf (.lst (a7 ps)),sf (.int way),sf (.dtf R2),sf (nD e.1),sf e.2,some (true,.dtn J),sf (nD (sub ps e.1))]=okf (.bl false):=by rw[w0];rfl);have body:cz (Wk (k+2)) oF [one,other,sf (.lst (a7 ps)),sf (.int way),sf (.dtf R2),sf (nD e.1),sf e.2,some (true,.dtn J),x8]=.nx [one,other,sf (.lst (a7 ps)),sf (.int way),sf (.dtf R2),sf (nD e.1),sf e.2,some (true,.dtn J),sf (nD (sub ps e.1))]:=cy zq (cy (bT r (cy (bT cf rfl) rfl)) rfl);rw[dw,g9 (ρ1:=[one,other,sf (.lst (a7 ps)),sf (.int way),sf (.dtf R2),sf (nD e.1),sf e.2,some (true,.dtn J),x8]) rfl body,W,Me,aK qe];rfl
   . have nx:cu eI (okf (.dtf R2)) (okf (nD (sub ps e.1)))=okf u.2:=bI (by
       show eI .fz (.dtf R2) .fz (nD (sub ps e.1))=_;unfold eI;rw[rs.key];show(a6 R2 (sub ps e.1)).map _=_;rw[q];rfl)
     have ct:br (Wk (k+2)) (.cmp .Eq v3 (.int 1)) [one,other,sf (.lst (a7 ps)),sf (.int way),sf (.dtf R2),sf (nD e.1),sf e.2,some (true,.dtn J),sf (nD (sub ps e.1))]=okf (.bl true):=by rw[w1];rfl
     have ca:br (Wk (k+2)) (.call "_law_times" 3 [v3,v6,(.tup [(.tup [(.tup []),(.tup [(.nix v4 v8)]),(.int 1)])])]) [one,other,sf (.lst (a7 ps)),sf (.int way),sf (.dtf R2),sf (nD e.1),sf e.2,some (true,.dtn J),sf (nD (sub ps e.1))]=okf (lf e.2 u.2):=
      AE rfl rfl (rW (mO rfl (rW nx) rfl)) (fW lt)
     exact kept l1 (bT r (cy (eS ct (cy (ρ':=[one,other,sf (.lst (a7 ps)),sf (.int way),sf (.dtf R2),sf (nD e.1),sf e.2,some (true,.dtn (J++[lv lf No R2 ps e])),sf (nD (sub ps e.1))]) (by rw[rC,ca,L];exact xX (E.row F) ne (by lia) rfl) rfl)) rfl)) rfl B
end
def uz(l:List (N×D)):Prop:=l.Pairwise λx y=>ltN (κ y) (κ x)=false
def XD(l:List (N×D)):uz (fJ κ l):=by have h:=u5 (l.map λe=>(κ e,enc e));rw[rZ]at h;unfold iL at h;rw[ir]at h;exact h
def XF{l:List (N×D)}(h:uz l)(nd:(l.map κ).Nodup):(fJ κ l).map enc=l.map enc:=by have z:(l.map λe=>(κ e,enc e))=gH (l.map λe=>(κ e,enc e)):=Hw (by unfold iL;rw[ir];exact h) (jz _) (by rw[gv];exact nd);rw[rZ]at z;have:=congrArg (List.map λq:N×D=>q.2) z;simpa[gv,Function.comp_def]using this.symm
section
variable{Ok:D->Prop}
def XG{R2:List (N×D)}(h:uz R):uz (gq lf No R2 ps R) :=
 List.Pairwise.filter _ (ir.mpr h)
def oZ(R2:List (N×D))(ps:List Nat)(R:List (N×D)):((gq lf No R2 ps R).map (·.1)).Sublist (R.map (·.1)):=by have:=((List.filter_sublist (l:=R.map (lv lf No R2 ps)) (p:=λu=>!gz u.2 No)).map (·.1));rw[gv]at this;exact this
def Mf{R2:List (N×D)}{u:N×D}(h:u∈gq lf No R2 ps R):∃e∈R,u=lv lf No R2 ps e/\gz u.2 No=false:=by exists f,d,Bg.mp h;exists e,a,rfl,d7.mp f;exact#[e,a,rfl,by simpa using d]
theorem Mg(K:KM Kd No way Ok Br Bd pl lf)(k:Nat){w:Nat}(hp:∀i∈ps,i<w)(Z:ps.length<=10){c c':D}{R2:List (N×D)}(F:∀e∈R1,dE w e.1/\Ok e.2/\e.2≠No/\Bd (10 ^ 50) e.2)(r:w<=10)(f:(R1.map (·.1)).Nodup)(s1:uz R1)(l1:R1.length<=60)(E:∀e∈R2,Row e.1/\Br e.2/\e.2≠No)(o:(R2.map (·.1)).Nodup)(l2:R2.length<=60):(Wk (k+4)).Φ "_law_left" [.tup [c,.tup (R1.map enc)],.tup [c',.tup (R2.map enc)],.lst (a7 ps),.int way]=okf (.tup [c,.tup ((gq lf No R2 ps R1).map enc)]):=by exists L,G,e1,Mc (W:=Wk (k+3)) (a:=sf (.tup [c,.tup (R1.map enc)])) (b:=sf (.tup [c',.tup (R2.map enc)])) (c:=sf (.lst (a7 ps))) (w:=sf (.int way)) (x7:=none) (x8:=none) R2 [] none none o (λe l=>(E e l).1) (by show 0+R2.length<1000;lia);exists z5,z6,z8,e2,xY K (k+1) (one:=sf (.tup [c,.tup (R1.map enc)])) (other:=sf (.tup [c',.tup (R2.map enc)])) hp Z (λe l=>(E e l).2) R1 [] L G none F r f (by show 0+R1.length<1000;lia);(have ln:(gq lf No R2 ps R1).length<=R1.length:=by have:=(oZ (lf:=lf) (No:=No) R2 ps R1).length_le;rwa [d3,d3]at this);(have nd:((gq lf No R2 ps R1).map (·.1)).Nodup:=(oZ R2 ps R1).nodup f;have B:∀e∈gq lf No R2 ps R1,Row e.1:=λu T=>by exists e,l,rfl,_,Mf T;exact(F e l).1.row r);have S:=L4 k (V:=gq lf No R2 ps R1) (c:=c) B nd (by lia);rw[XF (XG s1) (LX B nd)]at S;refine ez (d:=KA) rfl rfl ?_;show cz (Wk (k+3)) Ke [sf (.tup [c,.tup (R1.map enc)]),sf (.tup [c',.tup (R2.map enc)]),sf (.lst (a7 ps)),sf (.int way),none,none,none,none,none]=_;exact cy rfl (cy e1 (cy rfl (cy rfl (cy e2 (cy rfl (bB (eL S)))))))
end
theorem Mh:∀{R:List (N×D)},(∀e∈R,Row e.1)->jG (R.map enc)=some R|[],_=>rfl|e::R,h=>by(have p:n5 (enc e)=some e:=by show(bS (nD e.1)).map (λk=>(k,e.2))=_;rw[(h e c6).key];rfl);rw[dw,jG,p];dsimp only;rw[Mh λu a=>h u (df a)];rfl
def A9(h:∀e∈R,Row e.1)(nd:(R.map (·.1)).Nodup):jH (okf (.tup (R.map enc)))=.ok .fr (.dtn R):=by(show(match jG (R.map enc)with|some R=>Res.ok .fr (.dtn (n8 [] R))|none=>.stuck)=_);rw[Mh h];dsimp only;rw[Mb R [] nd];rfl
section
variable{Ok:D->Prop}
theorem XH(K:KM Kd No way Ok Br Bd pl lf)(k:Nat){es:List (N×D)}(l:es.length<=1000)(h:∀e∈es,Pl 20 e.2):(Wk (k+2)).Φ "without_noughts" [Kd,.lst (es.map enc)]=.ok .fr (.lst ((es.filter λe=>!gz e.2 No).map enc)):=by
 have f:sizeLine=16777216:=dz;have pn:Pl 20 No:=by have:=K.plf No No K.okn K.br0;rwa [K.lf0 No K.okn]at this
 refine ez (d:=wQ) rfl rfl ?_;show cz _ wG [sf Kd,sf (.lst (es.map enc)),none]=_;have n1:=K.nought k;have c1:cF (okf (.lst (es.map enc))) [sf Kd,sf (.lst (es.map enc)),sf No] [2] 2 (aO (.tp [.nm 1,.nm 2])) (λY=>fu (Wk (k+1)) [(.cmp .NotEq v2 v0)] Y) (λY=>br (Wk (k+1)) (.tup [v1,v2]) Y)=.ok .fr (.lst ((es.filter λe=>!gz e.2 No).map enc)):=by refine rV (enc:=enc) (λe=>!gz e.2 No) enc (by lia) λe a=>?_;have ne:cu (bA .NotEq) (okf e.2) (okf No)=okf (.bl (!gz e.2 No)):=KQ (h e a) pn (by decide);refine#[[sf No,sf (nD e.1),sf e.2],.fz,rfl,?_,λ_=>#[.fz,rfl]];exact KU ne
 exact cy (cB (bJ (by rw[iP,iQ];exact n1))) (w8 (by rw[iO];exact c1))
abbrev So(Kd a b c d:D)(ps:List Nat)(R2:List (N×D))(L:List D)(x8 x9 x10:Option (Bool×D)):Rho:=[sf Kd,sf a,sf b,sf c,sf d,sf (.lst (a7 ps)),some (true,.dtn R2),some (true,.lst L),x8,x9,x10]
theorem Mi(K:KM Kd No way Ok Br Bd pl lf)(k:Nat){a b c d:D}{w:Nat}{ps:List Nat}(hp:∀i∈ps,i<w)(E:ps.length<=10){R2:List (N×D)}(G:∀e∈R2,Br e.2):∀(R:List (N×D)) (L:List D) (x8 x9 x10:Option (Bool×D)),(∀e∈R,dE w e.1/\Ok e.2/\Bd (10 ^ 50) e.2)->L.length+R.length<1000->∃r o f,bH (aO (.tp [.nm 8,.nm 9])) (cz (Wk (k+3)) wA) (R.map enc) (So Kd a b c d ps R2 L x8 x9 x10)=.nx (So Kd a b c d ps R2 (L++(R.map (lv lf No R2 ps)).map enc) r o f)|[],L,x8,x9,x10,_,_=>#[x8,x9,x10,by rw[show L++(([]:List (N×D)).map (lv lf No R2 ps)).map enc=L from h5 L];rfl]|e::R,L,x8,x9,x10,h,hl=>by(rw[gg]at hl;exists F,oe,be,h e c6;have Z:=(F.sub hp).row E;generalize l:(a6 R2 (sub ps e.1)).getD No=g;have bg:Br g:=by cases q:a6 R2 (sub ps e.1)with|none=>rw[q,pr]at l;exact l ▸ K.br0|some z=>rw[q,vz]at l;exists u,B,eu,sP q;rw[<- l,<- eu];exact G u B);exists y,l1,T,K.tml k e.2 g oe be bg;have n1:=K.nought (k+2);exists r,o,f,ih,Mi K k (a:=a) (b:=b) (c:=c) (d:=d) hp E G R (L++[enc (lv lf No R2 ps e)]) (sf (nD e.1)) (sf e.2) (sf g) (λu B=>h u (df B)) (by rw[ik,nB];lia);(refine#[r,o,f,?_];have V:aW 2 ((Wk (k+3)).Φ "values_at") (.ok [(.fz,.lst (a7 ps)),(.fz,nD e.1)])=okf (nD (sub ps e.1)):=eL (XB (k+2) F hp E);have W:ff (Wk (k+3)) (.set 10 (.frz (.nget v6 (.call "values_at" 2 [v5,v8]) (.meth v0 "nought" [])))) (So Kd a b c d ps R2 L (sf (nD e.1)) (sf e.2) x10)=.nx (So Kd a b c d ps R2 L (sf (nD e.1)) (sf e.2) (sf g)):=by(refine cB (bJ ?_);rw[IL,iP,iQ];show kC (.ok .fr (.dtn R2)) (aW 2 ((Wk (k+3)).Φ "values_at") (.ok [(.fz,.lst (a7 ps)),(.fz,nD e.1)])) (eE TT.cl (Wk (k+3)).Φ "nought" (okf Kd) (.ok []))=_;rw[V,n1];show(match(Md.fz:Md),bS (nD (sub ps e.1))with|.fz,some k=>Res.ok .fz ((a6 R2 k).getD No)|_,_=>.stuck)=_);rw[Z.key];dsimp only;rw[l]);(have S:ff (Wk (k+3)) (.app 7 (.tup [v8,(.frz (.meth v0 "times" [v9,(.frz (.meth v0 "lack" [oz]))]))])) (So Kd a b c d ps R2 L (sf (nD e.1)) (sf e.2) (sf g))=.nx (So Kd a b c d ps R2 (L++[enc (lv lf No R2 ps e)]) (sf (nD e.1)) (sf e.2) (sf g)):=by(have ee:br (Wk (k+3)) (.tup [v8,(.frz (.meth v0 "times" [v9,(.frz (.meth v0 "lack" [oz]))]))]) (So Kd a b c d ps R2 L (sf (nD e.1)) (sf e.2) (sf g))=okf (.tup [nD e.1,lf e.2 g]):=by refine jO rfl (bJ ?_);rw[iP,iQ];show eE TT.cl (Wk (k+3)).Φ "times" (okf Kd) (aU (okf e.2) (aU (aM (br (Wk (k+3)) (.meth v0 "lack" [oz]) _)) (.ok [])))=_;rw[iP,iQ];show eE TT.cl (Wk (k+3)).Φ "times" (okf Kd) (aU (okf e.2) (aU (aM (eE TT.cl (Wk (k+3)).Φ "lack" (okf Kd) (.ok [(.fz,g)]))) (.ok [])))=_;rw[l1];exact T);rw[vN];erw [ee];show(if L.length<sizeLine then _ else _)=_;rw[aK (by rw[dz];lia)];(have:enc (lv lf No R2 ps e)=.tup [nD e.1,lf e.2 g]:=by rw[<- l];rfl);rw[this];rfl);have body:cz (Wk (k+3)) wA (So Kd a b c d ps R2 L (sf (nD e.1)) (sf e.2) x10)=.nx (So Kd a b c d ps R2 (L++[enc (lv lf No R2 ps e)]) (sf (nD e.1)) (sf e.2) (sf g)):=cy W (cy S rfl);rw[dw,g9 (ρ1:=So Kd a b c d ps R2 L (sf (nD e.1)) (sf e.2) x10) rfl body,ih,js];rfl
theorem XI(K:KM Kd No way Ok Br Bd pl lf)(k:Nat){A:D}{C:List Str}(nd:C.Nodup)(hp:∀i∈ps,i<C.length)(E:ps.length<=10){R2:List (N×D)}(F:∀e∈R1,dE C.length e.1/\Ok e.2/\Bd (10 ^ 50) e.2)(Z:R1.length<=60)(B:∀e∈R2,Row e.1/\Br e.2)(o:(R2.map (·.1)).Nodup):(Wk (k+4)).Φ "left_out" [Kd,A,.lst [Tb C R1,Tb (fh C ps) R2]]=okf (Tb C (gq lf No R2 ps R1)):=by exists V,T,G,lo,Mi K k (a:=A) (b:=.lst [Tb C R1,Tb (fh C ps) R2]) (c:=Tp C) (d:=.tup (R1.map enc)) hp E (λe f=>(B e f).2) R1 [] none none none F (by show 0+R1.length<1000;lia);(have W:=XH K (k+1) (es:=R1.map (lv lf No R2 ps)) (by rw[d3];lia) λu r=>by exists e,f,rfl,d7.mp r;refine K.plf _ _ (F e f).2.1 ?_;cases q:a6 R2 (sub ps e.1)with|none=>exact K.br0|some z=>exists u,r,L,sP q;rw[vz,<- L];exact(B u r).2);have S:=A9 (λe f=>(B e f).1) o;refine ez (d:=Kn) rfl rfl ?_;show cz (Wk (k+3)) wK [sf Kd,sf A,sf (.lst [Tb C R1,Tb (fh C ps) R2]),none,none,none,none,none,none,none,none]=_;unfold wK;refine cy rfl (cy (cB (gM (nl rfl rfl (rT (XA (k+2) nd hp E))))) (cy (ρ':=[sf Kd,sf A,sf (.lst [Tb C R1,Tb (fh C ps) R2]),sf (Tp C),sf (.tup (R1.map enc)),sf (.lst (a7 ps)),some (true,.dtn R2),none,none,none,none]) ?_ (cy rfl (cy lo (cy rfl (bB (jO rfl (bJ (eU (m:=.fr) (l:=(gq lf No R2 ps R1).map enc) (nl rfl rfl (rT W))))))))) ));rw[vM,z9];show dA _ 6 (jH (okf (.tup (R2.map enc))))=_;rw[S];rfl
end
def xZ{w:Str}{d:D}(h:bR M (.inr w)=some d){m:Md}:cu qi (.ok m (.dcf M)) (.ok m' (.str w))=okf d:=bI (by
 show(bR M (.inr w)).map _=_;rw[h];rfl)
abbrev Mp(a b:Str)(x y:D):List (Key×D):=[(.inr a,x),(.inr b,y)]
def sQ{a b:Str}{x:D}:bR (Mp a b x y) (.inr a)=some x:=by simp[bR,gu]
def sR{a b:Str}(h:a≠b){x:D}:bR (Mp a b x y) (.inr b)=some y:=by simp[bR,gu,h]
def Mj(k:Nat){w:Str}{d:D}(h:bR M (.inr w)=some d):(Wk (k+1)).Φ "answered" [Kd,.tup [.str "table",.str w],.dcf M]=okf d:=by refine ez (d:=wS) rfl rfl ?_;show cz (Wk k) rO [sf Kd,sf (.tup [.str "table",.str w]),sf (.dcf M)]=_;simp[rO,i0,i1,xZ h]
def sS:List (Str×Str):=[("pick","picked"),("keep","kept_rows"),("call","called_rows"),("join","joined"),("pour","poured_rows"),("total","totals"),("leave","left_out")]
def Fl:List Str:=["picked","kept_rows","called_rows","joined","poured_rows","totals","left_out"]
theorem Ml{W:WD}{Kd S:D}:∀(U ys:List D),U.length=ys.length->(∀(i:Nat) (h:i<U.length) (h':i<ys.length),W.Φ "answered" [Kd,U[i],S]=okf ys[i])->cZ (aO (.nm 2)) (λY=>fu W [] Y) (λY=>br W (.call "answered" 3 [v0,v2,v1]) Y) [sf Kd,sf S,none] U=some ys|[],[],_,_=>rfl|[],_::_,h,_|_::_,[],h,_=>by simp at h|x::U,y::ys,h,q=>by have d:=Ml (W:=W) (Kd:=Kd) (S:=S) U ys (by simpa using h) λi l f=>q (i+1) (by simpa using l) (by simpa using f);have k:aO (.nm 2) x [sf Kd,sf S,none]=some [sf Kd,sf S,sf x]:=rfl;have a:W.Φ "answered" [Kd,x,S]=okf y:=q 0 (by simp) (by simp);have e:br W (.call "answered" 3 [v0,v2,v1]) [sf Kd,sf S,sf x]=okf y:=AE rfl rfl rfl (fW a);rw[cZ,k];dsimp only;rw[IU];dsimp only;rw[e,d];rfl
def XJ(k:Nat){A S r:D}{w f:Str}{U ys:List D}(l:cu fm (okf A) (okf (.int 0))=okf (.str w))(E:(w==Str.ofString "table")=false)(L:sS.lookup w=some f)(a:Fl.contains f=true)(o:(Wk (k+1)).Φ "askings_within" [A]=okf (.tup U))(K:U.length=ys.length)(hs:U.length<sizeLine)(G:∀(i:Nat) (h:i<U.length) (h':i<ys.length),(Wk (k+1)).Φ "answered" [Kd,U[i],S]=okf ys[i])(F:(Wk k).Φ f [Kd,A,.lst ys]=okf r):(Wk (k+2)).Φ "answered" [Kd,A,S]=okf r:=by
 have B:(Wk (k+1)).Φ "answered_by" [Kd,A,.lst ys]=okf r:=by(have cr:aW 3 ((Wk k).Φ f) (.ok [(.fz,Kd),(.fz,A),(.fz,.lst ys)])=okf r:=fW F;refine ez (d:=Km) rfl rfl ?_;show cz (Wk k) [.set 3 (.deed "DEEDS_asking" sS (.ix v1 (.int 0))),.ret (.callv 3 Fl 3 [v0,v1,v2])] [sf Kd,sf A,sf (.lst ys),none]=_;generalize Wk k=W at *;refine cy (cB (Eq.trans (congrArg (j9 sS) l) (show(match sS.lookup w with|some f=>Res.ok .fz (.fn f)|none=>.stuck)=_ by rw[L]))) (bB ?_));show(if Fl.contains f=true then aW 3 (W.Φ f) (.ok [(.fz,Kd),(.fz,A),(.fz,.lst ys)])else .stuck)=_;rw[aK a,cr]
 have V:aW 1 ((Wk (k+1)).Φ "askings_within") (.ok [(.fz,A)])=okf (.tup U):=fV o;have Z:aW 3 ((Wk (k+1)).Φ "answered_by") (.ok [(.fz,Kd),(.fz,A),(.fz,.lst ys)])=okf r:=fW B;have cl:=Ml (W:=Wk (k+1)) (Kd:=Kd) (S:=S) U ys K G;refine ez (d:=wS) rfl rfl ?_;show cz (Wk (k+1)) rO [sf Kd,sf A,sf S]=_;generalize Wk (k+1)=W at *;have N:br W (.items (.call "askings_within" 1 [v1])) [sf Kd,sf A,sf S]=okf (.lst U):=by simp[V]
 have T:cF (okf (.lst U)) [sf Kd,sf A,sf S] [0,2] 1 (aO (.nm 2)) (λY=>fu W [] Y) (λY=>br W (.call "answered" 3 [v0,v2,v1]) Y)=.ok .fr (.lst ys):=by(show(if U.length<sizeLine then(match cZ (aO (.nm 2)) (λY=>fu W [] Y) (λY=>br W (.call "answered" 3 [v0,v2,v1]) Y) [sf Kd,sf S,none] U with|some ys=>Res.ok .fr (.lst ys)|none=>.stuck)else .stuck)=_);rw[aK hs,cl]
 exact cy (bT (m:=.fz) (by simp[l,E]) rfl) (bB (AE rfl rfl (gM (by rw[iO,N];exact T)) Z))
def Ba(k:Nat){A c r:D}{a b:Str}(l:a≠b)(E:fO (.inr a)=true)(kb:fO (.inr b)=true){C f:List Str}{R2:List (N×D)}(G:(Wk k).Φ "columns_of" [A,.dct (Mp a b (Tp C) (Tp f))]=okf c)(F:(Wk k).Φ "answered" [Kd,A,.dcf (Mp a b (Tb C R1) (Tb f R2))]=okf r):(Wk (k+1)).Φ "ask" [Kd,A,.dcf (Mp a b (Tb C R1) (Tb f R2))]=okf r:=by
 have Z:sizeLine=16777216:=dz;have W:=eL G;have cr:=fW F;have ga:=xZ (sQ (a:=a) (b:=b) (x:=Tb C R1) (y:=Tb f R2)) (m:=.fz) (m':=.fz);have gb:=xZ (sR l (x:=Tb C R1) (y:=Tb f R2)) (m:=.fz) (m':=.fz);refine ez (d:=Kl) rfl rfl ?_;generalize L:Mp a b (Tb C R1) (Tb f R2)=S at *;show cz (Wk k) Ka [sf Kd,sf A,sf (.dcf S)]=_;have kk:br (Wk k) (.kkeys v2) [sf Kd,sf A,sf (.dcf S)]=okf (.lst [.str a,.str b]):=by show lZ (okf (.dcf S))=_;rw[<- L];unfold lZ;show(if(fO (.inr a)&&(fO (.inr b)&&true))=true then Res.ok .fz (.lst [.str a,.str b])else .stuck)=_;rw[E,kb];rfl
 have ca:∀{z:Str}{C:List Str}{R:List (N×D)},cu qi (okf (.dcf S)) (okf (.str z))=okf (Tb C R)->br (Wk k) (.ix (.dix v0 v1) (.int 0)) [sf (.dcf S),sf (.str z)]=okf (Tp C):=λ{z C R} h=>by show cu fm (cu qi (okf (.dcf S)) (okf (.str z))) (okf (.int 0))=_;rw[h,i0]
 have dl:ox (aO (.nm 1)) (λY=>br (Wk k) v1 Y) (λY=>br (Wk k) (.ix (.dix v0 v1) (.int 0)) Y) [sf (.dcf S),none] [.str a,.str b] []=some (Mp a b (Tp C) (Tp f)):=by(have B:aO (.nm 1) (.str a) [sf (.dcf S),none]=some [sf (.dcf S),sf (.str a)]:=rfl;have o:aO (.nm 1) (.str b) [sf (.dcf S),none]=some [sf (.dcf S),sf (.str b)]:=rfl;have V:∀z:Str,br (Wk k) v1 [sf (.dcf S),sf (.str z)]=okf (.str z):=λz=>rfl;have K:∀z:Str,gC (.str z)=some (.inr z):=λz=>rfl;have fz:∀C:List Str,aM (okf (Tp C))=okf (Tp C):=λ_=>rfl;have p1:fN [] (.inr a) (Tp C)=[(.inr a,Tp C)]:=rfl;have p2:fN [(.inr a,Tp C)] (.inr b) (Tp f)=Mp a b (Tp C) (Tp f):=by simp[fN,l]);rw[ox,B];dsimp only;rw[V,ca ga,fz];dsimp only;rw[K];dsimp only;rw[aK (by simp[Z]),p1,ox,o];dsimp only;rw[V,ca gb,fz];dsimp only;rw[K];dsimp only;rw[aK (by simp[Z]),p2,ox]
 have T:br (Wk k) (.frz (.dcomp v1 (.ix (.dix v0 v1) (.int 0)) (.kkeys v2) [2] (.nm 1) 1)) [sf Kd,sf A,sf (.dcf S)]=okf (.dct (Mp a b (Tp C) (Tp f))):=by(refine gM ?_;rw[Vp,kk];show(match ox (aO (.nm 1)) (λY=>br (WT TT k) v1 Y) (λY=>br (WT TT k) (.ix (.dix v0 v1) (.int 0)) Y) [sf (.dcf S),none] [.str a,.str b] []with|some z=>Res.ok .fr (.dct z)|none=>.stuck)=_);rw[dl]
 exact cy (ρ':=[sf Kd,sf A,sf (.dcf S)]) (by rw[Vu,nl rfl T W];rfl) (bB cr)
abbrev Al(x y:D):D:=.tup [.str "leave",x,y]
theorem Mm{W:WD}{a l h:Option (Bool×D)}{C:List Str}:∀(H:List Str) (x:Option (Bool×D)),(∀z∈H,z∈C)->∃y,bH (aO (.nm 4)) (cz W vZ) (H.map .str) [a,l,sf (Tp C),h,x]=.nx [a,l,sf (Tp C),h,y]|[],x,_=>#[x,rfl]|z::H,x,hs=>by exists y,d,Mm (W:=W) (a:=a) (l:=l) (h:=h) H (sf (.str z)) λu f=>hs u (df f);have e:=WN (m:=.fz) (m':=.fz) (z:=z) (C:=C);rw[ip (hs z c6)]at e;have body:cz W vZ [a,l,sf (Tp C),h,sf (.str z)]=.nx [a,l,sf (Tp C),h,sf (.str z)]:=cy (bT (m:=.fz) e rfl) rfl;exact#[y,by rw[dw,g9 (ρ1:=[a,l,sf (Tp C),h,sf (.str z)]) rfl body,d]]
def XM(k:Nat){A:D}{C H:List Str}(hs:∀z∈H,z∈C):(Wk (k+1)).Φ "columns_of_leave" [A,.lst [Tp C,Tp H]]=okf (Tp C):=by exists y,e,Mm (W:=Wk k) (a:=sf A) (l:=sf (.lst [Tp C,Tp H])) (h:=sf (Tp H)) H none hs;refine ez (d:=Kj) rfl rfl ?_;show cz (Wk k) wJ [sf A,sf (.lst [Tp C,Tp H]),none,none,none]=_;unfold wJ;exact cy rfl (cy e rfl)
def Mn(k:Nat){x M:D}{C H:List Str}(hs:∀z∈H,z∈C)(d:(Wk (k+2)).Φ "columns_of" [x,M]=okf (Tp C))(a:(Wk (k+2)).Φ "columns_of" [y,M]=okf (Tp H)):(Wk (k+3)).Φ "columns_of" [Al x y,M]=okf (Tp C):=by have Z:sizeLine=16777216:=dz;refine WV (k+2) (w:="leave") (f:="columns_of_leave") (U:=[x,y]) (ys:=[Tp C,Tp H]) j0 (by decide) (by decide) (by decide) (K8 (k+1) (by decide) (by decide)) rfl (by simp[Z]) (λi h h'=>?_) (XM (k+1) hs);match i,h with|0,_=>exact d|1,_=>exact a
section
variable{Ok:D->Prop}
def Mo(K:KM Kd No way Ok Br Bd pl lf)(k:Nat){x S:D}{C:List Str}(nd:C.Nodup)(hp:∀i∈ps,i<C.length)(r:ps.length<=10){R2:List (N×D)}(E:∀e∈R1,dE C.length e.1/\Ok e.2/\Bd (10 ^ 50) e.2)(l:R1.length<=60)(B:∀e∈R2,Row e.1/\Br e.2)(a:(R2.map (·.1)).Nodup)(o:(Wk (k+5)).Φ "answered" [Kd,x,S]=okf (Tb C R1))(d:(Wk (k+5)).Φ "answered" [Kd,y,S]=okf (Tb (fh C ps) R2)):(Wk (k+6)).Φ "answered" [Kd,Al x y,S]=okf (Tb C (gq lf No R2 ps R1)):=by have Z:sizeLine=16777216:=dz;refine XJ (k+4) (w:="leave") (f:="left_out") (U:=[x,y]) (ys:=[Tb C R1,Tb (fh C ps) R2]) j0 (by decide) (by decide) (by decide) (K8 (k+4) (by decide) (by decide)) rfl (by simp[Z]) (λi h h'=>?_) (XI K k nd hp r E l B a);match i,h with|0,_=>exact o|1,_=>exact d
end
theorem Mq:∀(ds:List D),(∀d∈ds,∀p,aS d=some p->PyData.eqv p p=true)->∀ps,cG ds=some ps->PyData.eqvAll ps ps=true|[],_,ps,h=>by simp[cG]at h;subst h;simp[PyData.eqvAll]|d::ds,hd,ps,h=>by(have h:(match aS d,cG ds with|some p,some ps=>some (p::ps)|_,_=>none)=some ps:=by rw[cG]at h;exact h);cases e:aS d with|none=>rw[e]at h;cases h|some p=>cases E:cG ds with|none=>rw[e,E]at h;cases h|some a=>rw[e,E]at h;cases h;rw[PyData.eqvAll,hd d c6 p e,Mq ds (λx f=>hd x (df f)) a E];rfl
def Mr{d:D}(h:Pl n d):∀p,aS d=some p->PyData.eqv p p=true:=by induction h with|int b|str b=>intro p h;simp[aS]at h;subst h;simp[PyData.eqv]| @tup n ds h f a=>intro p hp;cases e:cG ds with|none=>rw[aS,e]at hp;cases hp|some ps=>rw[aS,e]at hp;cases hp;rw[PyData.eqv];exact Mq ds a ps e
theorem XN{a b:Str}(f:a≠b){x:D}(hn:n<=40)(o:Pl n x)(l:Pl n y){m:Md}:cu qk (.ok m (.dcf (Mp a b x y))) (.ok m' (.dct (Mp a b x y)))=okf (.bl true):=bI (by
 exists p,ep,B,rS o;exists q,eq,L,rS l;have r:fM p=true:=by unfold fM;rw[fw];lia
 have S:fM q=true:=by unfold fM;rw[fw];lia
 have d:=Mr o p ep;have V:=Mr l q eq;have h:D3.e9 (Mp a b x y) (Mp a b x y)=some true:=by rw[D3.e9,sQ];dsimp only;rw[ep];dsimp only;rw[r,D3.e9,sR f];dsimp only;rw[eq];dsimp only;rw[S,D3.e9,d,V];rfl
 show(D3.e9 (Mp a b x y) (Mp a b x y)).map _=_;rw[h];rfl)
def Mt{W:WD}{f K d V:E}{a b:Str}{x:D}(l:a≠b)(r:br W f Y=okf (.str a))(o:br W K Y=okf (.str b))(B:br W d Y=okf x)(G:br W V Y=okf y):br W (.disp [f,K] [d,V]) Y=.ok .fr (.dct (Mp a b x y)):=by(have p1:fN [] (.inr a) x=[(.inr a,x)]:=rfl;have p2:fN [(.inr a,x)] (.inr b) y=Mp a b x y:=by simp[fN,l]);rw[Vr];show gX Y [(br W f,br W d),(br W K,br W V)] []=_;simp[gX,r,o,B,G,aM,gC,p1,p2]
def Mv{W:WD}{f a:E}{d:D}(r:br W f Y=okf d)(o:br W a Y=okf d)(l:W.Φ "_law_alike" [d,d]=okf (.bl true)):ff W (.ite (.not (.tru (.call "_law_alike" 2 [f,a]))) [.ret (.bl false)] []) Y=.nx Y:=by refine bT (m:=.fz) ?_ rfl;show iZ (iY (aW 2 (W.Φ "_law_alike") (aU (br W f Y) (aU (br W a Y) (.ok [])))))=_;rw[r,o];show iZ (iY (aW 2 (W.Φ "_law_alike") (.ok [(.fz,d),(.fz,d)])))=_;rw[eL l];rfl
def Mw(n:Nat):cC 0 (n:Int)=(List.range n).map λ(i:Nat)=>D.int (i:Int):=by unfold cC;simp
def hV(c:Int):List Nat:=(List.range (c / 6 % 4).toNat).map λ(k:Nat)=>((c+(k:Int) * (1+c / 3 % 2)) % 3).toNat
theorem Mx(c:Int):∀i∈hV c,i<3:=λi a=>by exists k,_,rfl,d7.mp a;lia
theorem yA(c:Int):(hV c).length<=10:=by unfold hV;rw[d3,rg];lia
theorem Bb(c:Int):(hV c).Nodup:=by
 unfold hV;refine ir.mpr (BX (R:=λi j=>i<j) ?_ List.pairwise_lt_range);intro i j hi hj a e;rw[pa]at hi hj;have hs:c / 3 % 2=0\/c / 3 % 2=1:=by lia
 have a:(i=0/\j=1)\/(i=0/\j=2)\/(i=1/\j=2):=by omega
 rcases hs with hs|hs <;> rw[hs]at e <;> rcases a with⟨rfl,rfl⟩|⟨rfl,rfl⟩|⟨rfl,rfl⟩ <;> simp at e <;> lia
def XO{C:List Str}(nd:C.Nodup)(hp:∀i∈ps,i<C.length)(N:ps.Nodup):(fh C ps).Nodup/\∀z∈fh C ps,z∈C:=by refine#[ir.mpr (BX ?_ N),λz d=>?_];{intro i j a hj hij e;rw[oY (hp i a),oY (hp j hj)]at e;exact hij ((CN nd).mp e)};exists i,a,rfl,d7.mp d;rw[oY (hp i a)];exact sb _
theorem XQ{W:WD}{C:List Str}(hp:∀i∈ps,i<C.length)(f:ps.length<=10)(a:cA [5] Y=[sf (Tp C)]):cF (okf (.lst (a7 ps))) Y [5] 1 (aO (.nm 1)) (λY=>fu W [] Y) (λY=>br W (.ix v0 v1) Y)=.ok .fr (.lst ((fh C ps).map .str)):=by have Z:sizeLine=16777216:=dz;unfold fh;rw[gv];refine mN (enc:=λi:Nat=>D.int (i:Int)) (λi=>D.str (C.getD i "")) (by lia) λi d=>?_;refine#[[sf (Tp C),sf (.int (i:Int))],.fz,by rw[a];rfl,rfl,.fz,?_];show aM (cu fm (okf (Tp C)) (okf (.int (i:Int))))=_;rw[E3 (hp i d),oY (hp i d)];rfl
theorem XR{W:WD}(c:Int)(a:cA [4] Y=[sf (.int c)]):cF (okf (.lst (cC 0 (c / 6 % 4)))) Y [4] 1 (aO (.nm 1)) (λY=>fu W [] Y) (λY=>br W (.bin .Mod (.bin .Add v0 (.bin .Mult v1 (.bin .Add (.int 1) (.bin .Mod (.bin .FloorDiv v0 (.int 3)) (.int 2))))) (.int 3)) Y)=.ok .fr (.lst (a7 (hV c))):=by have Z:sizeLine=16777216:=dz;exists n,hn,rr (show 0<=c / 6 % 4 by lia);have hn:c / 6 % 4=(n:Int):=hn;unfold a7 hV;rw[hn,Mw,gv,ph];refine mN (enc:=λi:Nat=>D.int (i:Int)) (λi=>D.int (((c+(i:Int) * (1+c / 3 % 2)) % 3).toNat:Int)) (by rw[rg];lia) λi d=>?_;have d:=pa.mp d;refine#[[sf (.int c),sf (.int (i:Int))],.fz,by rw[a];rfl,rfl,.fz,?_];have mu:cu (aX .Mult) (okf (.int (i:Int))) (okf (.int (1+c / 3 % 2)))=okf (.int ((i:Int) * (1+c / 3 % 2))):=vP (by lia);have e:(((c+(i:Int) * (1+c / 3 % 2)) % 3).toNat:Int)=(c+(i:Int) * (1+c / 3 % 2)) % 3:=Int.toNat_of_nonneg (ud _ (by decide));rw[e];simp[mu]
def Fm{C:List Str}(h:C.length=3):fh C [0,1,2]=C:=by match C,h with|[a,b,c],_=>rfl
theorem sU(o:8<=n){C:List Str}(l:C.length<=999)(h:∀e∈R,Row e.1/\Pl n e.2)(f:R.length<=999):Pl (n+3) (Tb C R):=by refine KI ?_ (.tup (λd hd=>?_) (by rw[d3];exact f));{refine .tup (λd hd=>?_) (by rw[d3];exact l);exists z,_,rfl,d7.mp hd;exact .str z};exists e,a,rfl,d7.mp hd;exact(KI ((Xy (h e a).1).mono (by lia)) (h e a).2)
section
variable{Ok:D->Prop}
def My(K:KM Kd No way Ok Br Bd pl lf){R2:List (N×D)}(G:∀e∈R1,Row e.1/\Ok e.2)(F:∀e∈R2,Br e.2):∀u∈gq lf No R2 ps R1,Row u.1/\Pl 20 u.2/\u.2≠No/\((∀e∈R2,Ok e.2)->Br u.2):=λu d=>by(exists e,E,rfl,q,Mf d;exists r,o,G e E;have B:∀(a:D->Prop),a No->(∀e∈R2,a e.2)->a ((a6 R2 (sub ps e.1)).getD No):=λa l f=>by cases q:a6 R2 (sub ps e.1)with|none=>exact l|some z=>exists u,d,L,sP q;rw[vz,<- L];exact f u d);have b:=B Br K.br0 F;exact#[r,K.plf _ _ o b,λz=>(Bool.eq_false_iff.mp q) ((K.eqf _ _ o b).mpr z),λh=>K.brl _ _ o (B Ok K.okn h)]
abbrev QQ(ns:List Int)(way:Int)(Z:List D)(x3 x4:Option (Bool×D))(C:List Str)(ps:List Nat)(x7 x8 x9 x10 l:Option (Bool×D))(o T S Kd:D)(f d a:Option (Bool×D)):Rho :=
 [sf (.lst (ns.map .int)),sf (.int way),sf (.lst Z),x3,x4,sf (Tp C),sf (.lst (a7 ps)),x7,x8,x9,x10,l,sf o,sf T,sf S,sf Kd,f,d,a]
theorem Bc(K:KM Kd No way Ok Br Bd pl lf){ns:List Int}{Z:List D}{a b:Str}(f:a≠b)(ka:fO (.inr a)=true)(kb:fO (.inr b)=true)(za:Z[6]? = some (.str a))(zb:Z[7]? = some (.str b)){C:List Str}(hC:C.length=3)(nd:C.Nodup)(hp:∀i∈ps,i<3)(hq:ps.length<=10)(np:ps.Nodup){R2:List (N×D)}(t1:TR No Ok Bd 3 40 (40 * 10 ^ 40) R1)(t2:TR No Ok Bd ps.length 40 (40 * 10 ^ 40) R2)(s1:uz R1)(n1:(R1.map (·.1)).Nodup)(n2:(R2.map (·.1)).Nodup)(x3 x4 x7 x8 x9 x10 ae:Option (Bool×D)):cz (Wk 39) (gJ.drop 18) (QQ ns way Z x3 x4 C ps x7 x8 x9 x10 ae (Tb C R1) (Tb (fh C ps) R2) (.dcf (Mp a b (Tb C R1) (Tb (fh C ps) R2))) Kd none none none)=.rt .fz (.bl true):=by(have zl:sizeLine=16777216:=dz;have l:∀i∈ps,i<C.length:=λi h=>by rw[hC];exact hp i h);(have E:∀i∈[0,1,2],i<C.length:=λi h=>by rw[hC];simp at h;lia);(exists _,hm,XO nd l np;have q1:∀e∈R1,dE C.length e.1/\Ok e.2/\e.2≠No/\Bd (10 ^ 50) e.2:=λe d=>by exists r,o,n,b,t1.each e d;exact#[by rw[hC];exact r,o,n,K.bdm _ _ _ (by decide) b]);have T:=t1.ro (by decide);(have L:=t2.ro hq;have l1:=t1.len;have l2:=t2.len;have B:∀e∈R1,dE C.length e.1/\Ok e.2/\Bd (10 ^ 50) e.2:=λe d=>#[(q1 e d).1,(q1 e d).2.1,(q1 e d).2.2.2];have g2:∀e∈R2,Row e.1/\Br e.2:=λe d=>#[(L e d).1,K.brk _ (L e d).2];have S:=My K (R1:=R1) (R2:=R2) (ps:=ps) T λe d=>(g2 e d).2;have g3:∀e∈gq lf No R2 ps R1,Row e.1/\Br e.2:=λe d=>#[(S e d).1,(S e d).2.2.2 λe d=>(L e d).2];have n3:((gq lf No R2 ps R1).map (·.1)).Nodup:=(oZ R2 ps R1).nodup n1;have l3:(gq lf No R2 ps R1).length<=40:=by have:=(oZ (lf:=lf) (No:=No) R2 ps R1).length_le;rw[d3,d3]at this;lia);(have o2:=My K (R1:=R1) (R2:=gq lf No R2 ps R1) (ps:=[0,1,2]) T λe d=>(g3 e d).2;have l4:(gq lf No (gq lf No R2 ps R1) [0,1,2] R1).length<=40:=by have:=(oZ (lf:=lf) (No:=No) (gq lf No R2 ps R1) [0,1,2] R1).length_le;rw[d3,d3]at this;lia);have ma:=λk=>Mj k (Kd:=Kd) (sQ (a:=a) (b:=b) (x:=Tb C R1) (y:=Tb (fh C ps) R2));have mb:=λk=>Mj k (Kd:=Kd) (sR f (x:=Tb C R1) (y:=Tb (fh C ps) R2));have ca:=λk=>K9 k (sQ (a:=a) (b:=b) (x:=Tp C) (y:=Tp (fh C ps)));have cb:=λk=>K9 k (sR f (x:=Tp C) (y:=Tp (fh C ps)));have G:=λk=>Mo K k nd l hq B (by lia) g2 n2 (ma (k+4)) (mb (k+4));have F:=λk=>Mn (k+1) hm (ca (k+1)) (cb (k+1));have ak:=fW (Ba 38 f ka kb (F 34) (G 32));have aj:=fW (Ba 38 f ka kb (Mn 35 (λz h=>h) (ca 35) (F 33)) (Mo K 32 nd E (by decide) B (by lia) g3 n3 (ma 36) (by rw[Fm hC];exact G 31)));have ah:aW 4 ((Wk 39).Φ "_law_left") (.ok [(.fz,Tb C R1),(.fz,Tb (fh C ps) R2),(.fz,.lst (a7 ps)),(.fz,.int way)])=okf (Tb C (gq lf No R2 ps R1)):=JP (Mg K 35 l hq (c:=Tp C) (c':=Tp (fh C ps)) q1 (by lia) n1 s1 (by lia) (λe d=>#[(g2 e d).1,(g2 e d).2,(t2.each e d).2.2.1]) n2 (by lia));have ag:aW 4 ((Wk 39).Φ "_law_left") (.ok [(.fz,Tb C R1),(.fz,Tb C (gq lf No R2 ps R1)),(.fz,.lst (a7 [0,1,2])),(.fz,.int way)])=okf (Tb C (gq lf No (gq lf No R2 ps R1) [0,1,2] R1)):=JP (Mg K 35 E (by decide) (c:=Tp C) (c':=Tp C) q1 (by lia) n1 s1 (by lia) (λe d=>#[(g3 e d).1,(g3 e d).2,(S e d).2.2.1]) n3 (by lia));have aq:=K5 23 (sU (n:=20) (by decide) (C:=C) (by lia) (λe d=>#[(S e d).1,(S e d).2.1]) (by lia)) 39 (by decide);have am:=K5 23 (sU (n:=20) (by decide) (C:=C) (by lia) (λe d=>#[(o2 e d).1,(o2 e d).2.1]) (by lia)) 39 (by decide);have aa:=sU (n:=8) (by decide) (C:=C) (by lia) (λe d=>#[(T e d).1,K.plain _ (T e d).2]) (by lia);have V:=sU (n:=8) (by decide) (C:=fh C ps) (by rw[d3];lia) (λe d=>#[(L e d).1,K.plain _ (L e d).2]) (by lia);have ai:=XN f (by decide) aa V (m:=.fz) (m':=.fr);clear q1 B T L g2 g3 S o2 ma mb ca cb G F aa V t1 t2 hm hp l E n3 l3 l4;generalize Tb C (gq lf No (gq lf No R2 ps R1) [0,1,2] R1)=U2 at *;generalize Tb C (gq lf No R2 ps R1)=U1 at *;generalize Tb C R1=T1 at *;generalize Tb (fh C ps) R2=T2 at *;have i3:∀{Y:Rho},cR Y 2=okf (.lst Z)->br (Wk 39) (.ix v2 (.int 6)) Y=okf (.str a):=λ{Y} h=>rX 6 (m:=.fz) h za;have i4:∀{Y:Rho},cR Y 2=okf (.lst Z)->br (Wk 39) (.ix v2 (.int 7)) Y=okf (.str b):=λ{Y} h=>rX 7 (m:=.fz) h zb;generalize Wk 39=W at *;refine cy (cB (mO rfl (jO rfl (i3 rfl)) (jO rfl (i4 rfl)))) (cy (cB (bJ ah)) (cy (Mv (bJ ak) rfl aq) (cy (cB (mO rfl (jO rfl (i3 rfl)) rfl)) (cy (Mv (bJ aj) (bJ ag) am) (bB ?_)))));exact Eq.trans (congrArg (cu qk (okf (.dcf (Mp a b T1 T2)))) (Mt f (i3 rfl) (i4 rfl) rfl rfl)) ai
end
def kk:Nat:=39
theorem XS{ns:List Int}:∃cs:List Int,cs.length<=40/\D3.eF (ns.map D.int) (some ((5:Nat):Int)) (some ((45:Nat):Int))=cs.map .int:=by refine#[(ns.drop (min 5 ns.length)).take (min 45 ns.length-min 5 ns.length),?_,?_];{rw[pd];lia};unfold D3.eF;rw[HT.o8,HT.o8,d3,B0,List.map_drop]
abbrev eH(j:Int):E:=.frz (.comp (.ix v0 v1) (.rng1 (.bcall .len [v8])) [(.cmp .Eq (.bin .Mod v1 (.int 2)) (.int j))] [8] (.nm 1) 1)
def XT:∀n,n<41->((List.range n).filter λ(i:Nat)=>(i:Int) % 2==0).length<=20/\((List.range n).filter λ(i:Nat)=>(i:Int) % 2==1).length<=20:=by decide +kernel
theorem Mz{W:WD}(B:cs.length<=40){j:Int}(l:j=0\/j=1)(f:cA [8] Y=[sf (.lst (cs.map .int))])(o:cR Y 8=okf (.lst (cs.map .int))):∃es:List Int,es.length<=20/\br W (eH j) Y=okf (.lst (es.map .int)):=by have Z:sizeLine=16777216:=dz;have a:=XT cs.length (by lia);refine#[((List.range cs.length).filter λ(i:Nat)=>(i:Int) % 2==j).map λi=>cs.getD i 0,?_,gM ?_];{rw[d3];rcases l with rfl|rfl;{exact a.1};exact a.2};(have r:br W (.rng1 (.bcall .len [v8])) Y=okf (.lst ((List.range cs.length).map λ(i:Nat)=>D.int (i:Int))):=by(show gD (aU (dP eO (aU (cR Y 8) (.ok []))) (.ok []))=_;rw[o];have:dP eO (aU (okf (.lst (cs.map .int))) (.ok []))=okf (.int (cs.length:Int)):=by show Res.of (some (Md.fz,D.int ((cs.map D.int).length:Int)))=_;rw[d3];rfl);rw[this,<- Mw];exact oN (by lia) (by lia));rw[iO,r,gv];refine rV (enc:=λ(i:Nat)=>D.int (i:Int)) (λ(i:Nat)=>(i:Int) % 2==j) (λi=>D.int (cs.getD i 0)) (by rw[rg];lia) λi d=>?_;have d:=pa.mp d;refine#[[sf (.lst (cs.map .int)),sf (.int (i:Int))],.fz,by rw[f];rfl,?_,λ_=>#[.fz,?_]];{generalize cs.map D.int=L at *;simp};show aM (cu fm (okf (.lst (cs.map .int))) (okf (.int (i:Int))))=_;(have:cs.getD i 0=cs[i]:=by simp[d]);rw[this,gK (c9 (v:=D.int cs[i]) (by rw[h7,gm d];rfl))];rfl
def XU{W:WD}{e:E}{m:Md}(h:br W e Y=.ok m (.int (i:Int))):ot (.ok m' (.lst ds)) (iu W (some e)) (iu W none) Y=.ok .fr (.lst (ds.drop i)):=by simp only[iu,ot,Res.thn_ok,fK,h];rw[WP]
theorem Be(c:Int):(hV c).length<=3:=by unfold hV;rw[d3,rg];lia
abbrev gV(ns:List Int)(way:Int)(zs:List Str)(vs:List N)(x4 r x6 x7 x8 x9 x10 o l f d a:Option (Bool×D)):Rho :=
 [sf (.lst (ns.map .int)),sf (.int way),sf (.lst (zs.map .str)),sf (.lst (vs.map nD)),x4,r,x6,x7,x8,x9,x10,o,l,f,d,a,none,none,none]
theorem Bf(d:Int){ns:List Int}{vs:List N}(B:cs.length<=40)(E:aW 2 ((Wk 39).Φ "_law_cell_at") (.ok [(.fz,.lst (ns.map .int)),(.fz,.int 4)])=okf (.int d))(x4 a x6 x7:Option (Bool×D)):∃(es fs:List Int) (x9:Option (Bool×D)),es.length<=40/\fs.length<=40/\cz (Wk 39) ((gJ.drop 8).take 4) (gV ns way zs vs x4 a x6 x7 (sf (.lst (cs.map .int))) none none none none none none none)=.nx (gV ns way zs vs x4 a x6 x7 (sf (.lst (cs.map .int))) x9 (sf (.lst (es.map .int))) (sf (.lst (fs.map .int))) none none none none):=by
 exists j,o,rr (show 0<=d / 2 % ((cs.length:Int)+1)from ud _ (by lia))
 have o:d / 2 % ((cs.length:Int)+1)=(j:Int):=o;have L:dP eO (aU (okf (.lst (cs.map .int))) (.ok []))=okf (.int (cs.length:Int)):=by show Res.of (some (Md.fz,D.int ((cs.map D.int).length:Int)))=_;rw[d3];rfl
 have fd:cu (aX .FloorDiv) (okf (.int d)) (okf (.int 2))=okf (.int (d / 2)):=by simp
 have pl:cu (aX .Add) (okf (.int (cs.length:Int))) (okf (.int 1))=okf (.int ((cs.length:Int)+1)):=by simp
 have F:cu (aX .Mod) (okf (.int (d / 2))) (okf (.int ((cs.length:Int)+1)))=okf (.int (j:Int)):=Eq.trans (kL (by lia)) (by rw[o])
 have r:ff (Wk 39) (.set 9 (.frz (.bin .Mod (.bin .FloorDiv (.call "_law_cell_at" 2 [v0,(.int 4)]) (.int 2)) (.bin .Add (.bcall .len [v8]) (.int 1))))) (gV ns way zs vs x4 a x6 x7 (sf (.lst (cs.map .int))) none none none none none none none)=.nx (gV ns way zs vs x4 a x6 x7 (sf (.lst (cs.map .int))) (sf (.int (j:Int))) none none none none none none):=by refine cB (bJ ?_);show cu (aX .Mod) (cu (aX .FloorDiv) (aW 2 ((Wk 39).Φ "_law_cell_at") (.ok [(.fz,.lst (ns.map .int)),(.fz,.int 4)])) (okf (.int 2))) (cu (aX .Add) (dP eO (aU (okf (.lst (cs.map .int))) (.ok []))) (okf (.int 1)))=_;rw[E,L,fd,pl,F]
 have f:ff (Wk 39) (.set 10 (.frz (.slice v8 none (some v9)))) (gV ns way zs vs x4 a x6 x7 (sf (.lst (cs.map .int))) (sf (.int (j:Int))) none none none none none none)=.nx (gV ns way zs vs x4 a x6 x7 (sf (.lst (cs.map .int))) (sf (.int (j:Int))) (sf (.lst ((cs.take j).map .int))) none none none none none):=by rw[B0];exact cB (gM (xG (W:=Wk 39) (ds:=cs.map .int) (m':=.fz) (e:=.var 9) (i:=j) (m:=.fz) rfl))
 have S:ff (Wk 39) (.set 11 (.frz (.slice v8 (some v9) none))) (gV ns way zs vs x4 a x6 x7 (sf (.lst (cs.map .int))) (sf (.int (j:Int))) (sf (.lst ((cs.take j).map .int))) none none none none none)=.nx (gV ns way zs vs x4 a x6 x7 (sf (.lst (cs.map .int))) (sf (.int (j:Int))) (sf (.lst ((cs.take j).map .int))) (sf (.lst ((cs.drop j).map .int))) none none none none):=by rw[List.map_drop];exact cB (gM (XU (W:=Wk 39) (ds:=cs.map .int) (m':=.fz) (e:=.var 9) (i:=j) (m:=.fz) rfl))
 have G:=kL (m:=.fz) (n:=.fz) (i:=d) (j:=2) (by decide)
 have cd:∀Y:Rho,cR Y 0=okf (.lst (ns.map .int))->br (Wk 39) (.cmp .Eq (.bin .Mod (.call "_law_cell_at" 2 [v0,(.int 4)]) (.int 2)) (.int 1)) Y=cu (bA .Eq) (okf (.int (d % 2))) (okf (.int 1)):=λY h=>by show cu (bA .Eq) (cu (aX .Mod) (aW 2 ((Wk 39).Φ "_law_cell_at") (aU (cR Y 0) (aU (okf (.int 4)) (.ok [])))) (okf (.int 2))) (okf (.int 1))=_;rw[h];show cu (bA .Eq) (cu (aX .Mod) (aW 2 ((Wk 39).Φ "_law_cell_at") (.ok [(.fz,.lst (ns.map .int)),(.fz,.int 4)])) (okf (.int 2))) (okf (.int 1))=_;rw[E,G]
 have T:(cs.take j).length<=40:=by rw[pd];lia
 have K:(cs.drop j).length<=40:=by rw[Bm];lia
 have l:d % 2=0\/d % 2=1:=by lia
 rcases l with l|l
 . rw[l]at cd;exact#[cs.take j,cs.drop j,_,T,K,cy r (cy f (cy S (cy (bT (m:=.fz) (Eq.trans (cd _ rfl) rfl) rfl) rfl)))]
 . rw[l]at cd;exists es,le,Z,Mz (W:=Wk 39) B (j:=0) (.inl rfl) (Y:=gV ns way zs vs x4 a x6 x7 (sf (.lst (cs.map .int))) (sf (.int (j:Int))) (sf (.lst ((cs.take j).map .int))) (sf (.lst ((cs.drop j).map .int))) none none none none) rfl rfl;exists fs,lf,V,Mz (W:=Wk 39) B (j:=1) (.inr rfl) (Y:=gV ns way zs vs x4 a x6 x7 (sf (.lst (cs.map .int))) (sf (.int (j:Int))) (sf (.lst (es.map .int))) (sf (.lst ((cs.drop j).map .int))) none none none none) rfl rfl;refine#[es,fs,_,by lia,by lia,cy r (cy f (cy S (cy (eS (m:=.fz) (Eq.trans (cd _ rfl) rfl) (cy (ρ':=gV ns way zs vs x4 a x6 x7 (sf (.lst (cs.map .int))) (sf (.int (j:Int))) (sf (.lst (es.map .int))) (sf (.lst ((cs.drop j).map .int))) none none none none) ?_ (cy (ρ':=gV ns way zs vs x4 a x6 x7 (sf (.lst (cs.map .int))) (sf (.int (j:Int))) (sf (.lst (es.map .int))) (sf (.lst (fs.map .int))) none none none none) ?_ rfl))) rfl)))];{rw[rE];exact Eq.trans (congrArg (dA _ 10) Z) rfl};rw[rE];exact Eq.trans (congrArg (dA _ 11) V) rfl
section
variable{Ok:D->Prop}
theorem MA(K:KM Kd No way Ok Br Bd pl lf)(c:Int){ns:List Int}(h8:zs.length=8)(nd:zs.Nodup)(V:∀z∈zs,fO (.inr z)=true){vs:List N}(h3:vs.length=3)(W:∀v∈vs,LB v){es fs:List Int}(le:es.length<=40)(L:fs.length<=40)(hn:sN 38 way zs Ok Bd No)(x4 x8 x9:Option (Bool×D))(hk:∀E x6 x7 x10 l f d a:Option (Bool×D),cz (Wk 39) [.set 15 (.frz (.mk0 "Counts")),.ite (.cmp .Eq v1 (.int 1)) [.set 15 (.frz (.mk0 "Reasons"))] []] (gV ns way zs vs x4 E x6 x7 x8 x9 x10 l f d a none)=.nx (gV ns way zs vs x4 E x6 x7 x8 x9 x10 l f d a (sf Kd))):cz (Wk 39) (gJ.drop 12) (gV ns way zs vs x4 (sf (Tp (zs.take 3))) (sf (.lst (a7 (hV c)))) (sf (Tp (fh (zs.take 3) (hV c)))) x8 x9 (sf (.lst (es.map .int))) (sf (.lst (fs.map .int))) none none none none)=.rt .fz (.bl true):=by
 have hC:(zs.take 3).length=3:=by rw[pd];lia
 have S:6<zs.length:=by lia
 have G:7<zs.length:=by lia
 have o:zs[6]≠zs[7]:=λe=>by have:=(CN nd).mp e;lia
 have B:(zs.map D.str)[6]? = some (.str zs[6]):=by rw[h7,gm S];rfl
 have r:(zs.map D.str)[7]? = some (.str zs[7]):=by rw[h7,gm G];rfl
 have hH:(fh (zs.take 3) (hV c)).length=(hV c).length:=d3 _;exists P1,T,m1,L7 K 34 (by decide) hC h3 W hn le
 refine cy (cB (bJ (KR rfl rfl rfl rfl rfl (mJ (ds:=[_,_,_,_,_]) rfl rfl m1)))) ?_;exists P2,t2,m2,L7 K 34 (Be c) hH h3 W hn L;refine cy (cB (bJ (KR rfl rfl rfl rfl rfl (mJ (ds:=[_,_,_,_,_]) rfl rfl m2)))) ?_;have F:∀{w:Nat}{P:List (N×D)},TR No Ok Bd w 40 (10 ^ 40) P->w<=3->((oX pl No P).map (·.1)).Nodup:=λ{w P} t hw=>((oK κ _).map (·.1)).nodup_iff.mpr (LY (t.ro (by lia)))
 have tl:=Bc K (ns:=ns) (Z:=zs.map .str) o (V _ (sb S)) (V _ (sb G)) B r hC ((List.take_sublist 3 zs).nodup nd) (Mx c) (yA c) (Bb c) (T.sum K (by decide) (by decide)) (t2.sum K (yA c) (by decide)) (XD _) (F T (by decide)) (F t2 (Be c)) (sf (.lst (vs.map nD))) x4 (sf (Tp (fh (zs.take 3) (hV c)))) x8 x9 (sf (.lst (es.map .int))) (sf (.lst (fs.map .int)))
 generalize Tb (zs.take 3) (oX pl No P1)=T1 at *;generalize Tb (fh (zs.take 3) (hV c)) (oX pl No P2)=T2 at *;refine cy (ρ':=gV ns way zs vs x4 (sf (Tp (zs.take 3))) (sf (.lst (a7 (hV c)))) (sf (Tp (fh (zs.take 3) (hV c)))) x8 x9 (sf (.lst (es.map .int))) (sf (.lst (fs.map .int))) (sf T1) (sf T2) (some (true,.dct (Mp zs[6] zs[7] T1 T2))) none) (by rw[vM];exact congrArg (dA _ 14) (Mt o (rX 6 (m:=.fz) rfl B) (rX 7 (m:=.fz) rfl r) rfl rfl)) (cy (ρ':=gV ns way zs vs x4 (sf (Tp (zs.take 3))) (sf (.lst (a7 (hV c)))) (sf (Tp (fh (zs.take 3) (hV c)))) x8 x9 (sf (.lst (es.map .int))) (sf (.lst (fs.map .int))) (sf T1) (sf T2) (sf (.dcf (Mp zs[6] zs[7] T1 T2))) none) rfl ?_)
 show cz _ ([.set 15 (.frz (.mk0 "Counts")),.ite (.cmp .Eq v1 (.int 1)) [.set 15 (.frz (.mk0 "Reasons"))] []]++gJ.drop 18) _=_;rw[mK,hk,aI.thn_nx];exact tl
end
theorem main(ns:List Int)(aa:ns.length<=63):(Wk (kk+1)).Φ ("law":Str) (pQ ns)=okf (.bl true):=by refine ez (d:=wV) rfl rfl ?_;show cz (Wk 39) gJ [sf (.lst (ns.map .int)),none,none,none,none,none,none,none,none,none,none,none,none,none,none,none,none,none,none]=_;have c0:=oM 38 ns (i:=0) (by decide);have c1:=oM 38 ns (i:=1) (by decide);have c2:=oM 38 ns (i:=2) (by decide);have c3:=oM 38 ns (i:=3) (by decide);have c4:=oM 38 ns (i:=4) (by decide);(exists zs,F,nd,K,en,names 38 (ce ns 1);exists vs,L,G,ep,Fk 38 (ce ns 2);have en:=rT en;have ep:=rT ep;exists cs,V,ec,XS (ns:=ns);generalize ce ns 1=n1 at *;generalize ce ns 2=n2 at *;generalize ce ns 3=c at *;generalize ce ns 4=u at *;generalize ce ns 0=h at *;have Z:h % 2=0\/h % 2=1:=by lia);have T:=kL (m:=.fz) (n:=.fz) (i:=h) (j:=2) (by decide);(generalize h % 2=w at *;have hC:(zs.take 3).length=3:=by rw[pd];lia);(have hp:∀i∈hV c,i<(zs.take 3).length:=λi h=>by rw[hC];exact Mx c i h);(have S:=XR (W:=Wk 39) c (Y:=gV ns w zs vs (sf (.int c)) (sf (Tp (zs.take 3))) none none none none none none none none none none) rfl;have hd:=XQ (W:=Wk 39) hp (yA c) (Y:=gV ns w zs vs (sf (.int c)) (sf (Tp (zs.take 3))) (sf (.lst (a7 (hV c)))) none none none none none none none none none) rfl;have N:br (Wk 39) (.rng1 (.bin .Mod (.bin .FloorDiv v4 (.int 6)) (.int 4))) (gV ns w zs vs (sf (.int c)) (sf (Tp (zs.take 3))) none none none none none none none none none none)=okf (.lst (cC 0 (c / 6 % 4))):=by(have h1:cu (aX .FloorDiv) (okf (.int c)) (okf (.int 6))=okf (.int (c / 6)):=by simp);show gD (aU (cu (aX .Mod) (cu (aX .FloorDiv) (okf (.int c)) (okf (.int 6))) (okf (.int 4))) (.ok []))=_;rw[h1,kL (by decide)];exact oN (by lia) (by lia));(have p1:cz (Wk 39) (gJ.take 8) [sf (.lst (ns.map .int)),none,none,none,none,none,none,none,none,none,none,none,none,none,none,none,none,none,none]=.nx (gV ns w zs vs (sf (.int c)) (sf (Tp (zs.take 3))) (sf (.lst (a7 (hV c)))) (sf (Tp (fh (zs.take 3) (hV c)))) (sf (.lst (cs.map .int))) none none none none none none none):=by refine cy (ρ':=[sf (.lst (ns.map .int)),sf (.int w),none,none,none,none,none,none,none,none,none,none,none,none,none,none,none,none,none]) (cB (bJ (Eq.trans (congrArg (cu (aX .Mod) · (okf (.int 2))) c0) T))) (cy (cB (gM (nl (bJ c1) rfl en))) (cy (cB (gM (nl (bJ c2) (bJ pw) ep))) (cy (cB (bJ c3)) ?_)));refine cy (ρ':=gV ns w zs vs (sf (.int c)) (sf (Tp (zs.take 3))) none none none none none none none none none none) (cB (bJ ?_)) (cy (ρ':=gV ns w zs vs (sf (.int c)) (sf (Tp (zs.take 3))) (sf (.lst (a7 (hV c)))) none none none none none none none none none) (by rw[rE,iO];erw [N,S];rfl) (cy (cB (bJ (eU (m:=.fr) hd))) (cy (cB (gM ?_)) rfl)));{rw[Tp,B0];exact eU (m:=.fr) (xG (W:=Wk 39) (ds:=zs.map .str) (m':=.fz) (e:=.int 3) (i:=3) (m:=.fz) rfl)};rw[<- ec];exact WQ (W:=Wk 39) (ds:=ns.map .int) (m0:=.fz) (e:=.int 5) (e':=.int 45) (i:=5) (j:=45) (m:=.fz) (m':=.fz) rfl rfl);exists es,fs,x9,le,lf,p2,Bf u (way:=w) (zs:=zs) (vs:=vs) V c4 (sf (.int c)) (sf (Tp (zs.take 3))) (sf (.lst (a7 (hV c)))) (sf (Tp (fh (zs.take 3) (hV c))));have ea:gJ=gJ.take 8++((gJ.drop 8).take 4++gJ.drop 12):=rfl;rw[ea,mK,p1,aI.thn_nx,mK,p2,aI.thn_nx];rcases Z with rfl|rfl;{exact MA Xo c F nd K L G le lf (λc=>A3 36 c _) _ _ _ λE D B r o l f a=>cy (ρ':=gV ns 0 zs vs _ E D B _ _ r o l f a (sf (.ins "Counts" []))) rfl (cy (bT (m:=.fz) rfl rfl) rfl)};exact MA (LN (P:=zs) (by lia)) c F nd K L G le lf (λc=>A6 36 c F) _ _ _ λE D B r o l f a=>cy (ρ':=gV ns 1 zs vs _ E D B _ _ r o l f a (sf (.ins "Counts" []))) rfl (cy (ρ':=gV ns 1 zs vs _ E D B _ _ r o l f a (sf (.ins "Reasons" []))) (eS (m:=.fz) rfl (cy (ρ':=gV ns 1 zs vs _ E D B _ _ r o l f a (sf (.ins "Reasons" []))) rfl rfl)) rfl)
end K46
noncomputable def W.Fast.tw3433393381556688130:PySem.Program:=du
def W.Fast.te3433393381556688130:du=W.Fast.tw3433393381556688130:=rfl
noncomputable def PySem.W.Fast.tw3433393381556688130:=PySem.Challenge.pw_whencewise_k46_leave
theorem PySem.W.Fast.te3433393381556688130:PySem.Challenge.pw_whencewise_k46_leave=PySem.W.Fast.tw3433393381556688130:=rfl
namespace K46
open PySem.W Tp
def tw:Prod.fst (true,du)=true:=by k_qdec
noncomputable def as:List Addr:=[2,3,15,22,23,24,25,28,35,36,37,40,47,48,49,52,59,60,61,64,71,72,73,76,78,79,81,82,83,86,87,88,90,91,93,94,102,104,105,107,108,109,110,111,112,113,116,123,125,126,128,129,130,132,133,135,136,137,139,140,142,143,144,146,147,149,150,151,153,154,156,157,158,160,161,163,164,165,167,168,170,171,172,173,174,177,180,181,182,185,186,187,190,191,192,195,196,197,199,200,202,203,204,207,208,209,211,212,214,215,216,218,219,221,222,223,226,227,228,231,232,233,235,236,238,239,240,242,243,245,246,247,250,251,252,254,255,257,258,259,261,262,264,265,266,268,269,271,272,273,275,276,278,279,280,282,283,285,286,287,289,290,292,293,294,296,297,299,300,301,303,304,306,307,308,311,312,313,315,316,318,319,320,322,323,325,326,327,328,331,332,333,335,336,338,339,340,343,344,345,348,349,350,352,353,355,356,357,360,361,362,365,366,367,369,370,372,373,374,377,378,379,381,382,384,385,386,388,389,391,392,393,396,397,398,400,401,403,404,405,407,408,410,411,412,413,420,422,423,425,426,427,429,430,432,433,434,436,437,439,440,441,444,445,446,448,449,451,452,453,456,457,458,460,461,463,464,465,467,468,470,471,472,473,474,477,479,480,482,483,484,486,487,489,490,491,493,494,496,497,498,501,502,503,505,506,508,509,510,513,514,515,517,518,520,521,522,524,525,527,528,529,531,532,534,535,536,538,539,541,542,543,546,547,548,550,551,553,554,555,557,558,560,561,562,564,565,567,568,569,571,572,574,575,576,578,579,581,582,583,586,587,588,590,591,593,594,595,597,598,600,601,602,604,605,607,608,609,612,613,614,617,618]
noncomputable def ts:List Addr:=[77,84,89,103,124,131,138,145,152,159,166,178,183,188,193,198,205,210,217,224,229,234,241,248,253,260,267,274,281,288,295,302,309,314,321,329,334,341,346,351,358,363,368,375,380,387,394,399,406,421,428,435,442,447,454,459,466,478,485,492,499,504,511,516,523,530,537,544,549,556,563,570,577,584,589,596,603,610,615]
def pre(w:dh)(os:OsState):topGo treeTable du w 11 an 12 #[boot_heap w.params,#[],boot_drawn,boot_toks,os] (topStub du)=some ((sh w.params (sA w.params) 15 187 os).abs,#[denote treeTable (cd du),cd du,z0,[topFrame z0]]):=by rw[du,Fast.te3433393381556688130,Fast.te203182992438928480,Fast.te13144403056285818395,Fast.te15667345088766844465,Fast.te14364793385576792824,Fast.te11892475500146522536];kernel_rfl
def blk(w:dh)(s:cc):segRun treeTable du w 11 an 1 1 s (blockOf du.main.body (ev du) (cd du) z0 [topFrame z0])=some (.next,s,cd du,z0):=by kernel_rfl
def Fn(w:dh)(os:OsState):go treeTable du w 1000 (du.main.body.take 42) (sh w.params (sA w.params) 15 187 os) (cd du) z0=some (mid w.params (du.main.body.take 42) os,cd du,#[153,0,157,14]) :=
 byRow2 "special-get-raises" (P:=λw=>∀os:OsState,go treeTable du w 1000 (du.main.body.take 42) (sh w.params (sA w.params) 15 187 os) (cd du) z0=some (mid w.params (du.main.body.take 42) os,cd du,#[153,0,157,14]))
  (λw os=>by
   rw[mid,du,Fast.te3433393381556688130,Fast.te203182992438928480,Fast.te13144403056285818395,Fast.te5678740263434597267,Fast.te14364793385576792824,Fast.te10212481707522018265]
   kernel_rfl)
  (λw os=>by
   rw[mid,du,Fast.te3433393381556688130,Fast.te203182992438928480,Fast.te13144403056285818395,Fast.te5678740263434597267,Fast.te14364793385576792824,Fast.te10212481707522018265]
   kernel_rfl) w os
def Fo(w:dh)(os:OsState):go treeTable du w 1000 (du.main.body.drop 42) (mid w.params (du.main.body.take 42) os) (cd du) #[153,0,157,14]=some (sh w.params (lay w.params du.main.body (sA w.params)) 619 1033 os,cd du,#[420,0,448,87]) :=
 byRow2 "special-get-raises" (P:=λw=>∀os:OsState,go treeTable du w 1000 (du.main.body.drop 42) (mid w.params (du.main.body.take 42) os) (cd du) #[153,0,157,14]=some (sh w.params (lay w.params du.main.body (sA w.params)) 619 1033 os,cd du,#[420,0,448,87]))
  (λw os=>by
   rw[mid,du,Fast.te3433393381556688130,Fast.te203182992438928480,Fast.te13144403056285818395,Fast.te5678740263434597267,Fast.te14364793385576792824,Fast.te10212481707522018265]
   kernel_rfl)
  (λw os=>by
   rw[mid,du,Fast.te3433393381556688130,Fast.te203182992438928480,Fast.te13144403056285818395,Fast.te5678740263434597267,Fast.te14364793385576792824,Fast.te10212481707522018265]
   kernel_rfl) w os
def run(w:dh)(os:OsState):go treeTable du w 1000 du.main.body (sh w.params (sA w.params) 15 187 os) (cd du) z0=some (sh w.params (lay w.params du.main.body (sA w.params)) 619 1033 os,cd du,#[420,0,448,87]):=by have:=jk (r:=(du.main.body.drop 42)) (Fn w os);rw[List.take_append_drop]at this;rw[this];exact Fo w os
def tabs:=@D3.aTZ K46.GG (KK du.main.body as) "DEEDS_asking" "DEEDS_askings" [("pick","picked"),("keep","kept_rows"),("call","called_rows"),("join","joined"),("pour","poured_rows"),("total","totals"),("leave","left_out")] [("pick","columns_of_pick"),("keep","columns_of_keep"),("call","columns_of_call"),("join","columns_of_join"),("pour","columns_of_pour"),("total","columns_of_total"),("leave","columns_of_leave")] (by decide +kernel) (λP=>by kernel_rfl) (λP=>by kernel_rfl) (λP=>by kernel_rfl) (λP=>by kernel_rfl) (by decide) (by decide) (by decide) (by decide)
def yB(w:dh):(λos=>((staticsOk (importedModules du.main.body) (boot_heap w.params) (H1 du.main.body 619 w.params)&&namesBound du (H1 du.main.body 619 w.params)&&gensDone (S1 du.main.body 619 1033 w.params os)&&laidKept (boot_heap w.params) (H1 du.main.body 619 w.params)),openSeen (vw du) (los du.main.body) (importedModules du.main.body) (xt PySem.Challenge.rw_whencewise_k46_leave.row) true (S1 du.main.body 619 1033 w.params os),(hk du.main.body (as++ts)).obs (S1 du.main.body 619 1033 w.params os)))=λ_=>(true,openGood (vw du) (los du.main.body),(hk du.main.body (as++ts)).val w):=by rw[du,Fast.te14387180822208032119,Fast.te3433393381556688130,Fast.te5923862056798008813,Fast.te9407923862454927560,Fast.te15884229538025494872,Fast.te4187177175401517315,Fast.te18076920544200396443,Fast.te9318435048543301240,Fast.te17808466708180730929,Fast.te2368527892694137696];kernel_rfl
def tb(P:Params):D3.rG (KK du.main.body as P) (KK du.main.body (as++ts) P)=true:=by kernel_rfl
def gf(P:Params):D3.vY (KK du.main.body as P) GG TT=true:=by kernel_rfl
abbrev dl:DefRec:=#["law",L2.nF wZ,L2.gR wZ,L2.dG wZ,#[420,0,448,87]]
end K46
open PySem.W
set_option maxRecDepth 100000 in
set_option maxHeartbeats 0 in
theorem PySem.Challenge.cw_whencewise_k46_leave_holds : PySem.Challenge.rw_whencewise_k46_leave.Holds := by
 w_on;o_law
 exact Tp.head (p:=PySem.Challenge.rw_whencewise_k46_leave) (d:=K46.dl) (Tp.left (by kernel_rfl) K46.pre K46.blk K46.run (by kernel_rfl) (by kernel_rfl) (λ_=>by kernel_rfl) K46.yB) (by assumption) (by kernel_rfl) (by kernel_rfl) rfl rfl (by decide +kernel) #[rfl,rfl,rfl,rfl,rfl,by decide +kernel] (by w_witness2)
  (D3.walkG (K:=Tp.KK PySem.Challenge.pw_whencewise_k46_leave.main.body K46.as) (Kf:=Tp.KK PySem.Challenge.pw_whencewise_k46_leave.main.body (K46.as++K46.ts)) (kk:=K46.kk) (e:=K46.wV) rfl rfl rfl (λw h a=>W.kIn_of a) (Tp.KK_sub _ _ _) (Tp.KK_nd _ _) K46.tb K46.gf K46.tabs rfl rfl #[rfl,by decide,by decide] K46.main)
