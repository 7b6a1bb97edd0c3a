import PyProof.Rows.All
import Wide.All
import OpenK.AllK
import Wide.FinOn
import Lean
import PyProof.EqAt
import PyProof.EqKinds
import PyProof.TupleCall
import PySem.Challenge.RW_whencewise_k43_pick_keep_call
set_option compiler.extract_closed false
set_option bootstrap.genMatcherCode false
set_option maxHeartbeats 0
set_option linter.all false
section
open PySem PySem.Spec PyProof.Rows
def ig:=@decide_eq_false
def lz:=@beq_eq_false_iff_ne
def pq:=@Paired.length
def fo:=@Heap.get?_push_size
def dy:=@Heap.lt_size
def gq:=@Nat.lt_of_lt_of_le
def ky:=@Nat.lt_irrefl
def gx:=@Nat.ne_of_lt
def mq:=@List.mem_filter
def oo:=@List.mem_range
def qy:=@Array.getElem?_eq_some_iff
def ir:=@Nat.le_trans
def AQ:=@Nat.le_of_lt
def pv:=@List.filterMap_cons
def cy:=@List.mem_cons
def ii:=@List.mem_append
def oq:=@List.mem_append_left
def lA:=@List.getElem?_eq_some_iff
def AS:=@List.getElem_inj
def nq:=@List.getElem?_set_self
def h5:=@List.getElem?_set_ne
def jw:=@Option.some.inj
def jh:=@wpAny_mono
def qz:=@wpAny_truthy_bool
def lB:=@Array.length_toList
def AT:=@wpAny_execs_nil
def pz:=@wpAny_passesOwn
def fq:=@Bool.false_ne_true
def p7:=@Nat.ne_of_gt
def ci:=@wpAny_pure
def bp:=@wpAny_bind
def dg:=@Nat.le_refl
def AU:=@wpAny_pyIter_tuple
def AV:=@PyProof.Rows.callWith_type1
def Ce:=@List.mem_filterMap
def iu:=@List.mem_append_right
def dj:=@sizeLine_eq
def fh:=@List.size_toArray
def Cf:=@Array.mem_toList_iff
def ck:=@beq_iff_eq
def q0:=@Heap.size_push
def AW:=@Nat.le_of_eq
def Cg:=@Nat.lt_succ_self
def gy:=@Nat.zero_le
def AX:=@Calls.spliced_nil
def rc:=@Calls.spliced_cons
def ij:=@List.append_nil
def ue:=@wpAny_standAt
def ik:=@List.nodup_cons
def AY:=@List.of_mem_zip
def Ci:=@W.cellsFrom_some
def re:=@List.length_take
def nr:=@PySem.mem_of_lookup
def p8:=@List.getElem?_append_right
def p9:=@List.getElem?_replicate
def nu:=@List.getElem?_append_left
def gz:=@List.getElem?_map
def rh:=@List.mem_of_getElem?
def im:=@List.length_append
def du:=@List.length_map
def qa:=@wpAny_Call_Name_kw
def AZ:=@concat_meets
def Cj:=@noFill_tuple_add
def Ck:=@F.slot_tuple_add
def Cm:=@F.entry_tuple_add
def Cn:=@F.args_tuple_add_2
def rj:=@Int.toNat_natCast
def ji:=@if_false
def rq:=@Prod.ext
def ot:=@if_true
def mr:=@wpAny_field
def Co:=@List.length_drop
def jj:=@wpAny_holding
def qb:=@wpAny_callSpecial?_slot
def A0:=@PyProof.Rows.slot_tuple_getitem
def li:=@wpAny_call_entry
def A1:=@wpAny_typeOf
def cc:=@Bool.and_eq_true
def lj:=@wpAny_newObj_type
def A2:=@Heap.get?_update_self
def Cp:=@Heap.get?_update_other
def mf:=@List.length_set
def A3:=@Option.getD_none
def jk:=@List.all_cons
def A4:=@List.any_cons
def A5:=@Calls.callWith_builtin
def A6:=@Calls.evalArgs_plain
def A7:=@List.length_singleton
def ft:=@List.find?_cons
def gh:=@List.length_cons
def qc:=@List.length_nil
def cu:=@List.map_cons
def ll:=@List.map_nil
def uf:=@Option.map_eq_some_iff
def Cq:=@tupleKind_room_in1
def ug:=@Option.isSome_map
def Cr:=@getitemInPython_of_ne
def qd:=@wpAny_specialOf
def Cs:=@wpAny_operating
def Ct:=@wpAny_letTemporaryGo
def gS:=@decide_eq_true
def qe:=@codeAny_mono
def uh:=@List.cons.injEq
def ou:=@List.cons_append
def lm:=@Nat.add_assoc
def A8:=@wpAny_forIn_list
def rr:=@wpAny_rule
def Cu:=@SeqAt.eqAt_reads
def A9:=@Nat.min_le_left
def Cv:=@wpAny_isInstance
def mw:=@Bool.false_eq_true
def ow:=@List.nil_append
def h7:=@List.lookup_cons
def fe:=@decide_eq_true_eq
def kz:=@of_decide_eq_true
def jx:=@Bool.or_eq_true
def qf:=@W.kia_one
def r0:=@List.getElem?_set
def ui:=@List.getElem?_range
def r4:=@Option.map_some
def Ba:=@List.drop_eq_getElem_cons
def gg:=@List.getElem?_eq_getElem
def uj:=@List.drop_length
def uk:=@List.forIn_nil
def Cy:=@List.forIn_cons
def qg:=@LawfulMonad.pure_bind
def nv:=@beq_self_eq_true
def Cz:=@Nat.lt_succ_of_lt
def CA:=@Option.some.injEq
def ul:=@wpAny_call
def Bb:=@W.callWith_K
def sb:=@Nat.le_succ
def Bc:=@List.drop_zero
def Bd:=@List.take_of_length_le
def mh:=@Nat.zero_add
def gV:=@List.mem_singleton
def qh:=@List.findIdx?_cons
def se:=@List.zip_cons_cons
def Be:=@F.slot_tuple_iterator_next
def ES:=@F.entry_tuple_iterator_next
def ET:=@F.args_tuple_iterator_next_1
def um:=@wpAny_setField
def Bf:=@Obj.data_mapFields
def mi:=@Heap.SameBut.update
def mj:=@List.mem_nil_iff
def h9:=@or_false
def Bg:=@wpAny_attempt
def CB:=@wpAny_pyIter_enum
def CC:=@List.take_length
def CF:=@wpAny_Call_method
def kS:=@List.pairwise_map
def k0:=@W.mg_of
def Bh:=@Bool.not_eq_true'
def CG:=@List.ext_getElem
def CH:=@wpAny_pyIter_keyiter
def ml:=@List.nodup_nil
def qi:=@Array.getD_eq_getD_getElem?
def CJ:=@Array.perm_iff_toList_perm
def Bi:=@Array.getElem?_toList
def Bj:=@Array.Perm.refl
def CL:=@of_decide_eq_false
def jy:=@List.Perm.refl
def ox:=@List.pairwise_singleton
def gr:=@List.pairwise_cons
def uo:=@PyProof.Rows.listItems_at
def oy:=@PyProof.Rows.listUpdate_at
def uq:=@PyProof.Rows.get?_update_seq
def ur:=@PyProof.Rows.seqEpoch_at
def sg:=@wpAny_newList
def CM:=@Heap.get?_update_ne
def oz:=@List.length_range
def CN:=@bne_self_eq_false
def sj:=@codeAny_builtin
def Bk:=@Heap.size_update
def fi:=@List.all_eq_true
def fu:=@List.map_map
def Bl:=@wpAny_dictEntries
def CO:=@wpAny_dictEpoch
def Bm:=@F.slot_dict_keyiterator_next
def EU:=@F.entry_dict_keyiterator_next
def EV:=@F.args_dict_keyiterator_next_1
def Bo:=@wpAny_typeNameOfWhole_keyiter
def Bp:=@wpAny_fieldsOf
def Bq:=@wpAny_typeNameOf_keyiter
def CP:=@Array.getElem?_eq_getElem
def CQ:=@wpAny_isOneOf_keyiter
def de:=@List.mem_map
def Br:=@Around.under_plainId
def CS:=@F.slot_list_lt
def mz:=@List.not_mem_nil
def CT:=@List.range_succ
def hL:=@List.map_append
def sk:=@List.nodup_append
def EW:=@F.slot_dict_setdefault
def CU:=@List.mem_of_find?_eq_some
def o0:=@bne_iff_ne
def sq:=@List.contains_iff_mem
def Bs:=@Nat.lt_of_le_of_lt
def CV:=@Nat.add_le_add_left
def sr:=@List.isEmpty_iff
def CW:=@Array.eq_empty_of_size_eq_zero
def ss:=@Int.emod_nonneg
def Bt:=@Int.emod_lt_of_pos
def sv:=@Int.eq_ofNat_of_zero_le
def mm:=@List.getElem_mem
def CY:=@List.getElem?_cons_succ
def qj:=@List.map_congr_left
def ut:=@List.Pairwise.imp_of_mem
def CZ:=@List.pairwise_lt_range
def sy:=@Int.add_zero
def tc:=@Int.zero_add
def tf:=@List.append_assoc
def Bu:=@List.mem_map_of_mem
def Bv:=@List.perm_ext_iff_of_nodup
def Bw:=@List.reverse_cons
def C0:=@List.map_eq_nil_iff
def C1:=@List.filter_cons_of_pos
def C3:=@List.filter_cons_of_neg
end
abbrev dh:=PySem.Challenge.pw_whencewise_k43_pick_keep_call
abbrev ba:=PySem.Value
abbrev bz:=PySem.Shared
abbrev di:=PySem.Around
abbrev cw:=PySem.World
abbrev e7:=PySem.Program
theorem al{c:Prop}{_:Decidable c}(h:c){α:Sort u}{t e:α}:ite c t e=t:=_root_.if_pos h
theorem a0{c:Prop}{_:Decidable c}(h:¬c){α:Sort u}{t e:α}:ite c t e=e:=_root_.if_neg h
local macro_rules
|`(tactic|exists$a,*)=>do
 let p<-a.getElems.pop.mapM λx=>if x.raw.isIdent then`(Lean.Parser.Tactic.rcasesPatLo|$(⟨x.raw⟩):ident)else`(Lean.Parser.Tactic.rcasesPatLo|_)
 `(tactic|obtain⟨$p,*⟩:=$(a.getElems.back!))
local macro_rules
|`(#[$a,*])=>if a.getElems.isEmpty then `(List.toArray [])else`(⟨$a,*⟩)
abbrev dc := PySem.Value -> PySem.Shared -> Prop
abbrev Fg := PySem.W.Frag
abbrev eh := List (PySem.Addr × PySem.Obj)
abbrev fg := PySem.Str -> Option PySem.Value
def cs {c : Type} {a b : c} {l : List c} (h : a ∈ l) : a ∈ b :: l := List.mem_cons_of_mem _ h
def cj {b : Type} {a : b} {l : List b} : a ∈ a :: l := List.mem_cons_self
def hps {h : PySem.Heap} {o p : PySem.Obj} {b : PySem.Addr} (e : h.get? b = some o) : (h.push p).get? b = some o := PySem.Heap.get?_push_of_some _ e
set_option Elab.async false
set_option maxRecDepth 100000
noncomputable section
open PySem PySem.Spec PyProof.Rows
namespace L2
abbrev Key:=Sum Int Str
def lF:Key->ba->Bool|.inl k,v=>Value.isInt k v|.inr x,v=>Value.isStrOf x v
def C4(w:cw):Key->Int|.inl k=>hashInt k|.inr x=>hashStr w x
def iJ:∀{k:Key}{v:ba},lF k v=true->(∃i t,k=Sum.inl i/\v=Value.int i t)\/(∃x t,k=Sum.inr x/\v=Value.str x t)|.inl i,v,h=>by exists t,e,Value.isInt_shape (k:=i) (v:=v) h;exact .inl #[i,t,rfl,e]|.inr x,v,h=>by exists t,e,Value.isStrOf_shape (x:=x) (v:=v) h;exact .inr #[x,t,rfl,e]
def Mw(i:Int)(t:Tok):lF (.inl i) (.int i t)=true:=by simp[lF,Value.isInt]
def Mx(x:Str)(t:Tok):lF (.inr x) (.str x t)=true:=by simp[lF,Value.isStrOf]
def My(a b:Int):decide ((Sum.inl a:Key)=Sum.inl b)=(a==b):=by by_cases e:a=b;{subst e;simp};have h:¬ (Sum.inl a:Key)=Sum.inl b:=λq=>e (Sum.inl.inj q);rw[ig h];exact(lz.mpr e).symm
def Mz(a b:Str):decide ((Sum.inr a:Key)=Sum.inr b)=decide (a=b):=by by_cases e:a=b;{subst e;simp};have h:¬ (Sum.inr a:Key)=Sum.inr b:=λq=>e (Sum.inr.inj q);rw[ig h,ig e]
def MA(a:Int)(b:Str):decide ((Sum.inl a:Key)=Sum.inr b)=false:=ig (λq=>nomatch q)
def MB(a:Str)(b:Int):decide ((Sum.inr a:Key)=Sum.inl b)=false:=ig (λq=>nomatch q)
noncomputable def cI(prog:e7)(w:cw):PySem.KeyKind prog w Key where
 is:=lF
 hash:=C4 w
 inj:=λv a b ha c=>by rcases iJ ha with⟨i,t,rfl,rfl⟩|⟨x,t,rfl,rfl⟩;{rcases iJ c with⟨j,u,rfl,e⟩|⟨y,u,rfl,e⟩;{injection e with E _;rw[E]};exact nomatch e};rcases iJ c with⟨j,u,rfl,e⟩|⟨y,u,rfl,e⟩;{exact nomatch e};injection e with E _;rw[E]
 byValue:=λk v h=>by rcases iJ h with⟨i,t,rfl,rfl⟩|⟨x,t,rfl,rfl⟩ <;> rfl
 pyHash:=λH h=>by rcases iJ H with⟨i,t,rfl,rfl⟩|⟨x,t,rfl,rfl⟩;{exact wpAny_pyHash_int h};exact wpAny_pyHash_str h
 eqBool:=λd H h=>by rcases iJ d with⟨i,t,rfl,rfl⟩|⟨x,t,rfl,rfl⟩;{rcases iJ H with⟨j,u,rfl,rfl⟩|⟨y,u,rfl,rfl⟩;{rw[My]at h;exact wpAny_eqBool_int h};rw[MA]at h;exact SeqAt.EqAt.int_str i t y u _ _ _ _ h};rcases iJ H with⟨j,u,rfl,rfl⟩|⟨y,u,rfl,rfl⟩;{rw[MB]at h;exact SeqAt.EqAt.str_int x t j u _ _ _ _ h};rw[Mz]at h;exact wpAny_eqBool_str h
 «strs»:=λk x t v h=>by rcases iJ h with⟨i,u,rfl,e⟩|⟨y,u,rfl,e⟩;{exact nomatch e};injection e with E _;subst E;cases v <;> rfl
def MD(prog:e7)(w:cw)(i:Int)(t:Tok):(cI prog w).is (.inl i) (.int i t)=true:=Mw i t
def ME(prog:e7)(w:cw)(x:Str)(t:Tok):(cI prog w).is (.inr x) (.str x t)=true:=Mx x t
inductive V where
 |non|bl (b:Bool)|int (i:Int)|str (x:Str)|byt (b:Array UInt8)|flt (b:UInt64)|ref (a:Addr)|ty (n:String)
 deriving DecidableEq
def aH:V->ba->Prop|.non,u=>u=Value.none|.bl b,u=>u=Value.bool b|.int i,u=>∃t,u=Value.int i t|.str x,u=>∃t,u=Value.str x t|.byt b,u=>∃t,u=Value.bytes b t|.flt b,u=>∃t,u=Value.float b t|.ref a,u=>u=Value.ref a|.ty n,u=>u=Value.type n
abbrev aO:List V->List ba->Prop:=Paired aH
theorem aO.length{U:List V}{us:List ba}(r:aO U us):U.length=us.length:=pq r
theorem aO.get:∀{U:List V}{us:List ba}{i:Nat}{x:V},aO U us->U[i]? = some x->∃u,us[i]? = some u/\aH x u|_,_,_,_,.nil,e=>by simp at e|_,_,0,_,.cons r _,e=>by simp at e;subst e;exact#[_,rfl,r]|_,_,i+1,x,.cons _ t,e=>by exists u,H,h,aO.get (i:=i) (x:=x) t (by simpa using e);exact#[u,by simpa using H,h]
theorem aO.set{x:V}{u:ba}(r:aH x u):∀{U:List V}{us:List ba} (i:Nat),aO U us->aO (U.set i x) (us.set i u)|_,_,_,.nil=>.nil|_,_,0,.cons _ t=>.cons r t|_,_,i+1,.cons q t=>.cons q (aO.set r i t)
theorem aO.append:∀{U ys:List V}{us ws:List ba},aO U us->aO ys ws->aO (U++ys) (us++ws)|_,_,_,_,.nil,s=>s|_,_,_,_,.cons r t,s=>.cons r (aO.append t s)
theorem aO.take:∀{U:List V}{us:List ba} (n:Nat),aO U us->aO (U.take n) (us.take n)|_,_,0,_|_,_,_+1,.nil=>.nil|_,_,n+1,.cons r t=>.cons r (aO.take n t)
theorem aO.drop:∀{U:List V}{us:List ba} (n:Nat),aO U us->aO (U.drop n) (us.drop n)|_,_,0,r=>r|_,_,_+1,.nil=>.nil|_,_,n+1,.cons _ t=>aO.drop n t
def cU:Option V->Option ba->Prop|some v,some u=>aH v u|none,none=>True|_,_=>False
def KV{κ:Type}:List (κ×V)->List (κ×ba)->Prop:=Paired λ(p:κ×V) (q:κ×ba)=>p.1=q.1/\aH p.2 q.2
def kV:Key->V|.inl i=>.int i|.inr x=>.str x
inductive N where|i (n:Int)|s (x:Str)|t (U:List N)
mutual
def fY(w:cw):N->Int|.i n=>hashInt n|.s x=>hashStr w x|.t U=>reduceHash (Builtin.Tuple.tupleHashOf (eV w U))
def eV(w:cw):List N->List Int|[]=>[]|x::U=>fY w x::eV w U
end
def yM(w:cw)(x:N×Addr×ba):DictEntry:=#[fY w x.1,.ref x.2.1,x.2.2]
inductive HO where
 /-- a list -/
 |lst (U:List V)
 /-- a tuple (never changes) -/
 |tup (U:List V)
 /-- a dict whose keys are ints and iI;one whose keys are tuples of ints and iI (the empty one is Ap) -/
 |dK (kvs:List (Key×V))|dT (kvs:List (List Key×V))
 |dN (kvs:List (N×Addr×V))
 /-- a set of ints: its members,its size -/
 |set (S:Key->Bool) (n:Nat)
 /-- an instance of the class at C,its dict at dx,its attributes -/
 |ins (C dx:Addr) (fs:List (Str×V))
 /-- the dict of the instance at x -/
 |own (x:Addr)
 /-- the dict of an exception -/
 |xd (fs:List (Str×V))
 /-- a bound method,f of x -/
 |met (f x:Addr)
 /-- a range object lo,lo+1,.. below hi -/
 |rng (lo hi:Int)
 /-- a thing that is known to the object (the script;a dict while a loop walks it): read,never written while it is so -/
 |frz (o:Obj) (u:HO)
 /-- a code object's table -/
 |tbl (ps:Array ba)
 /-- a code record of that name -/
 |crec (q:Str)
 /-- any other thing,by what is true of its one object (a def of one's own: SetO a S n:=HO.ext λh=>..) -/
 |ext (φ:Heap->Prop)
abbrev Hp:=Addr->Option HO
noncomputable def MF(q:Str):Option Str:=if q="valued.<locals>." then some "worth" else if q="lifted.<locals>." then some "lift" else none
end L2
open L2
variable{α:Type}{U ys:List L2.V}{us vs its:List ba}{x q qual z:Str}{u cdv:ba}{H H' F' F1 F0 H0:L2.Hp}{b it l dx I:Addr}{h h' base hp:Heap}{items:Array ba}{P prog:e7}{w:cw}{e c tg iter value elt ke ea:Expr}{aA pins':eh}{s s':bz}{t' i j k n ep:Nat}{ch fp:List Addr}{v:L2.V}{Q:dc}{pos pos' p sp apos p2 cpos ap cp p1 q1 q':Pos}{st:Stmt}{body sts:List Stmt}{kvs:List (L2.N×Addr×L2.V)}{mA mg:fg}{fd:FuncData}{ps zs loose aM tgN:List Str}{outer:List Env}{ks:List L2.N}{sc scope:Scope}{env:Env}{XP:(Str->Option ba)->Heap->Prop}{YP:cw->Heap->Prop}{ifs elts:List Expr}{aD:List Nat}{neg:Bool}{fa:Str->Addr}{way:Int}
namespace L2
def pD(q:Str)(l:Nat):Str:=match MF q with|some n=>n|none=>if q="_law_way.<locals>." then(([(274,"_law_wheeled"),(277,"_law_whether"),(280,"_law_priced"),(285,"_law_halved"),(288,"_law_paired"),(291,"_law_heaped")]:List (Nat×Str)).lookup l).getD "<lambda>" else "<lambda>"
inductive HT where|tup (U:List V)|crec (q:Str)
def HT.ho:HT->HO|.tup U=>.tup U|.crec q=>.crec q
noncomputable def upd(H:Hp)(a:Addr)(o:HO):Hp:=λb=>if b=a then some o else H b
def aY{a:Addr}{o:HO}:upd H a o a=some o:=by unfold upd;rw[al rfl]
def aP{a:Addr}{o:HO}(h:b≠a):upd H a o b=H b:=by unfold upd;rw[a0 h]
def bV{a:Addr}{o:HO}(h:H a=some o)(h':H b=none):a≠b:=by intro e;subst e;rw[h]at h';cases h'
def gX(h:Heap)(a:Addr)(items:Array ba):Prop:=∃o,h.get? a=some o/\o.cls=.type "tuple" /\ o.dict=none/\∃n,o.data=.seq items n
def gX.isTup{a:Addr}(x:gX h a items):IsTup h a items:=by exists o,e,c,_,n,d,x;exact#[o,e,c,n,d]
def gX.new(h:Heap)(items:Array ba):gX (h.push { cls:=.type "tuple",data:=.seq items }) h.objs.size items:=#[_,fo _ rfl,rfl,rfl,_,rfl]
section
variable(P:e7)(w:cw)
def bS(H:Hp)(h:Heap)(a:Addr):HO->Prop
 |.lst U=>U.length<=sizeLine/\∃(its:List ba) (n:Nat),aO U its/\h.get? a=some { cls:=.type "list",data:=.seq its.toArray n }|.tup U=>U.length<=sizeLine/\∃its:List ba,aO U its/\gX h a its.toArray|.dK kvs=>kvs.length<=sizeLine/\(a==sysModules)=false/\∃vs,KV kvs vs/\h.DictOf (cI P w) a vs| .dT kvs=>kvs.length ≤ sizeLine/\(a == sysModules)=false/\∃ U:List (List Key × Addr × ba),
     Paired (λ(p:List Key×V) (q:List Key×Addr×ba)=>p.1=q.1/\H q.2.1=some (.tup (p.1.map kV))/\aH p.2 q.2.2) kvs U /\
     ∃o es ep,h.get? a=some o/\o.ExactDict/\o.data=.dict es ep/\es.toList=U.map (entryOfKey (tupleKind (cI P w)))/\(U.map (·.1)).Nodup
 | .dN kvs => kvs.length ≤ sizeLine ∧ (a == sysModules) = false ∧ ∃ U : List (N × Addr × ba), Paired (fun (p : N × Addr × V) (q : N × Addr × ba) => p.1 = q.1 ∧ p.2.1 = q.2.1 ∧ aH p.2.2 q.2.2) kvs U ∧
     ∃o es ep,h.get? a=some o/\o.ExactDict/\o.data=.dict es ep/\es.toList=U.map (yM w)/\(U.map (·.1)).Nodup
 |.set S n=>h.SetOf (cI P w) a S n| .ins C dx fs => H dx = some (.own a) ∧ fs.length ≤ 1000 ∧ dx ≠ a ∧ h.get? a = some (W.instObj C dx) ∧
     ∃mA,h.Ns1 dx mA/\(∀f,cU (fs.lookup f) (mA f))/\PySem.Within mA (fs.map (·.1))
 |.own _=>∃o,h.get? a=some o|.xd fs=>∃mA,h.Ns1 a mA/\∀f,cU (fs.lookup f) (mA f)|.rng lo y=>∃t u v,h.get? a=some { cls:=.type "range",data:=.fields (List.toArray [.int lo t,.int y u,.int 1 v]) }|.frz o u=>h.get? a=some o/\bS H h a u|.tbl ps=>∃(q:Str) (m:Array ba),ps[0]? = some (.str q 0)/\h.get? a=some #[.none,none,.fields m,#[]]/\TriplesOk m.toList/\∀z cv,codeAmong z m.toList=some cv->∃c,cv=.ref c/\H c=some (.crec (q++pD q z.line))|.crec q=>∃O vs t,h.get? a=some O/\O.data=.fields vs/\vs[1]? = some (.str q t)|.met f x=>h.get? a=some (W.methodObj (.ref f) (.ref x))|.ext d=>d h/\(∃o,h.get? a=some o)/\∀r g:Heap,d r->(∀o,r.get? a=some o->g.get? a=some o)->d g
def fj(H:Hp)(h:Heap):Prop:=∀a o,H a=some o->bS P w H h a o
end
section
variable{a:Addr}{o:HO}
theorem bS.lt(x:bS P w H h a o):a<h.objs.size:=by cases o with|lst U=>exists _,_,_,_,e,x;exact dy e|tup U=>exists _,_,_,p,x;exact p.isTup.lt|dK kvs|dT kvs|dN kvs=>exists _,_,_,_,o,_,_,e,_,x;exact dy e|set S n=>exists o,_,_,_,e,_,x;exact dy e|ins C dx fs=>exists _,_,_,e,_,x;exact dy e|own y=>exists _,e,x;exact dy e|xd fs=>obtain⟨_,⟨_,_,_,e,_⟩,_⟩:=x;exact dy e|rng lo g=>exists _,_,_,e,x;exact dy e|frz ob u=>exists e,_,x;exact dy e|tbl ps|crec q=>exists _,_,_,e,_,x;exact dy e|met f y=>exact dy (show h.get? a=some _ from x)|ext d=>obtain⟨_,⟨_,e⟩,_⟩:=x;exact dy e
theorem Paired.mapP{α g:Type}{F G:α->g->Prop}:∀{d:List α}{L:List g},Paired F d L->(∀a b,F a b->G a b)->Paired G d L|_,_,.nil,_=>.nil|_,_,.cons r t,f=>.cons (f _ _ r) (Paired.mapP t f)
def bS.stay(x:bS P w H h a o)(k:∀b u,(b=a\/H b=some (.own a))->h.get? b=some u->h'.get? b=some u)(ho:∀b,H b=some (.own a)->H' b=some (.own a))(ht:∀(b:Addr) (u:HT),H b=some u.ho->H' b=some u.ho):bS P w H' h' a o:=by
 induction o with
 |lst U=>exists z,its,n,r,e,x;exact#[z,its,n,r,k _ _ (.inl rfl) e]|tup U=>exists z,its,r,ob,e,c,x;exact#[z,its,r,ob,k _ _ (.inl rfl) e,c]|dK kvs=>exists z,y,vs,r,ob,es,ep,e,c,x;exact#[z,y,vs,r,ob,es,ep,k _ _ (.inl rfl) e,c]|dT kvs=>exists z,y,U,r,ob,es,ep,e,c,x;exact#[z,y,U,Paired.mapP r λp q z=>#[z.1,ht _ (.tup _) z.2.1,z.2.2],ob,es,ep,k _ _ (.inl rfl) e,c]|dN kvs=>exists z,y,U,r,ob,es,ep,e,c,x;exact#[z,y,U,r,ob,es,ep,k _ _ (.inl rfl) e,c]|set S n=>exists ob,es,ep,t,e,c,x;exact#[ob,es,ep,t,k _ _ (.inl rfl) e,c]|ins C dx fs=>obtain⟨d,z,ne,e,mA,⟨O,es,ep,E,c⟩,r⟩:=x;exact#[ho _ d,z,ne,k _ _ (.inl rfl) e,mA,#[O,es,ep,k _ _ (.inr d) E,c],r]|own y=>exists ob,e,x;exact#[ob,k _ _ (.inl rfl) e]|xd fs=>obtain⟨mA,⟨O,es,ep,e,c⟩,r⟩:=x;exact#[mA,#[O,es,ep,k _ _ (.inl rfl) e,c],r]|rng lo L=>exists t,u,v,e,x;exact#[t,u,v,k _ _ (.inl rfl) e]|frz ob u A=>exists e,q,x;exact#[k _ _ (.inl rfl) e,A q]|tbl ps =>
  exists q,m,J,E,F,D,x;exact#[q,m,J,k _ _ (.inl rfl) E,F,λz cv f=>by
   exists c,B,G,D z cv f;exact#[c,B,ht _ (.crec _) G]]
 |crec q=>exists g,vs,t,e,r,x;exact#[g,vs,t,k _ _ (.inl rfl) e,r]|met f y=>have e:h.get? a=some (W.methodObj (.ref f) (.ref y)):=x;show h'.get? a=some (W.methodObj (.ref f) (.ref y));exact k a _ (.inl rfl) e|ext K=>obtain⟨p,⟨o,e⟩,st⟩:=x;exact#[st _ _ p λo q=>k _ _ (.inl rfl) q,#[o,k _ _ (.inl rfl) e],st]
theorem fj.lt(x:fj P w H h)(e:H a=some o):a<h.objs.size:=(x a o e).lt
def fj.fresh(x:fj P w H h)(e:h.objs.size<=a):H a=none:=by cases q:H a with|none=>rfl|some u=>exact absurd (gq (x.lt q) e) (ky _)
def fj.kept(x:fj P w H h)(k:∀b u,h.get? b=some u->h'.get? b=some u):fj P w H h':=λa o e =>
 (x a o e).stay (λb u _ q=>k b u q) (λ_ q=>q) λ_ _ q=>q
def fj.laid(x:fj P w H h)(k:∀b u,h.get? b=some u->h'.get? b=some u)(hp:h.objs.size<=a)(new:bS P w (upd H a o) h' a o):fj P w (upd H a o) h':=λb u e=>by have hn:=x.fresh hp;by_cases d:b=a;{subst d;rw[aY]at e;cases e;exact new};rw[aP d]at e;exact(x b u e).stay (λc v _ q=>k c v q) (λc q=>by rw[aP (bV q hn)];exact q) λc U q=>by rw[aP (bV q hn)];exact q
end
def Rd(H:Hp)(a:Addr)(u:HO):Prop:=H a=some u\/∃o,H a=some (.frz o u)
def Rd.ok{a:Addr}{u:HO}(r:Rd H a u)(x:fj P w H h):bS P w H h a u:=by rcases r with r|⟨o,r⟩;{exact x a u r};exists _,q,x a _ r;exact q
def uu:Option HO->Prop|some (.lst _)|some (.dK _)|some (.dT _)|some (.dN _)|some (.set _ _)|some (.ins _ _ _)|some (.ext _)=>True|_=>False
section
variable{x e:Addr}{a:HO}
def fj.write(ok:fj P w H h)(mu:uu (H x))(t:e=x\/H e=some (.own x))(k:∀b u,b≠e->h.get? b=some u->h'.get? b=some u)(o:∃u,h'.get? e=some u)(new:bS P w (upd H x a) h' x a):fj P w (upd H x a) h':=λb u q=>by
 have N:∀c y,H c=some (.own y)->c≠x:=λc y r z=>by subst z;rw[r]at mu;exact mu
 have f:∀(c:Addr) (u:HT),H c=some u.ho->c≠x:=λc u r z=>by subst z;rw[r]at mu;cases u <;> exact mu
 by_cases m:b=x
 . subst m;rw[aY]at q;cases q;exact new
 . rw[aP m]at q;by_cases d:b=e
   . have q':H b=some (.own x):=by
       rcases t with z|z
       . exact absurd (d.trans z) m
       . rw[d];exact z
     rw[q]at q';cases q';exists v,A,o;exact#[v,by rw[d];exact A]
   . (refine(ok b u q).stay (λc v g r=>k c v ?_ r) (λc r=>by rw[aP (N c b r)];exact r) λc U r=>by rw[aP (f c U r)];exact r);rcases g with rfl|g;{exact d};rintro rfl;rcases t with z|z;{exact N c b g z};rw[g]at z;cases z;exact m rfl
end
structure Un(fs ex:List Addr)(H H':Hp)(h h':Heap):Prop where
 keep:∀b o,h.get? b=some o->H b=none->b∉fs->b∉ex->h'.get? b=some o
 slot:∀b o,h.get? b=some o->H b=none->b∈fs->b∉ex->∃sl,h'.get? b=some {o with slots:=sl}
 free:∀b o,h.get? b=some o->H b=none->b∉ex->H' b=none
 there:∀b o,h.get? b=some o->b∉ex->∃o',h'.get? b=some o'
 tups:∀b U,H b=some (.tup U)->H' b=some (.tup U)
 frzs:∀b o u,H b=some (.frz o u)->H' b=some (.frz o u)
 tbls:∀b ps,H b=some (.tbl ps)->∃more,H' b=some (.tbl (ps++more))
section
variable{fs ex:List Addr}{H1:Hp}{d:Heap}{a x e:Addr}{o:HO}
def Un.any(u:Un fs ex H H1 h d){ob:Obj}(q:h.get? b=some ob)(n:H b=none)(hx:b∉ex):∃S,d.get? b=some {ob with slots:=S}:=by by_cases f:b∈fs;{exact u.slot b ob q n f hx};exact#[ob.slots,u.keep b ob q n f hx]
def Un.kept(k:∀b u,h.get? b=some u->h'.get? b=some u):Un fs ex H H h h' :=
 #[λb ob q _ _ _=>k b ob q,λb ob q _ _ _=>#[ob.slots,k b ob q],λ_ _ _ n _=>n,λb ob q _=>#[ob,k b ob q],λ_ _ q=>q,λ_ _ _ q=>q,λ_ ps q=>#[#[],by rw[q];simp]]
def Un.refl:Un fs ex H H h h:=Un.kept λ_ _ q=>q
def Un.laid(k:∀b u,h.get? b=some u->h'.get? b=some u)(hp:h.objs.size<=a)(hn:H a=none):Un fs ex H (upd H a o) h h' where
 keep:=λb u q _ _ _=>k b u q
 slot:=λb u q _ _ _=>#[u.slots,k b u q]
 free:=λb u q n _=>by rw[aP (gx (gq (dy q) hp))];exact n
 there:=λb u q _=>#[u,k b u q]
 tups:=λb U q=>by rw[aP (bV q hn)];exact q
 frzs:=λb u U q=>by rw[aP (bV q hn)];exact q
 tbls:=λb ps q=>#[#[],by rw[aP (bV q hn),q];simp]
def Un.write(mu:uu (H x))(y:e=x\/H e=some (.own x))(k:∀b u,b≠e->h.get? b=some u->h'.get? b=some u)(m:∃u,h'.get? e=some u):Un fs ex H (upd H x o) h h':=by
 have hx:∀b,H b=none->b≠x:=λb n z=>by subst z;rw[n]at mu;exact mu
 have t:∀b,H b=none->b≠e:=λb n z=>by subst z;rcases y with r|r;{exact hx b n r};rw[n]at r;cases r
 have g:∀b u,H b=some u -> ¬ uu (some u)->b≠x:=λb u q nm z=>by subst z;rw[q]at mu;exact nm mu
 refine#[λb u q n _ _=>k b u (t b n) q,λb u q n _ _=>#[u.slots,k b u (t b n) q],λb u q n _=>by rw[aP (hx b n)];exact n,λb u q _=>?_,
  λb U q=>by rw[aP (g b _ q λz=>z)];exact q,λb u U q=>by rw[aP (g b _ q λz=>z)];exact q,λb ps q=>#[#[],by rw[aP (g b _ q λz=>z),q];simp]]
 by_cases f:b=e
 . subst f;exact m
 . exact#[u,k b u f q]
end
def Bx(h:Heap)(H:Hp):List Addr:=(List.range h.objs.size).filter λa=>(H a).isSome
def iK(h:Heap)(H:Hp):Heap:=W.hideAll h (Bx h H)
def MH(h:Heap)(H:Hp):(iK h H).objs.size=h.objs.size:=W.hideAll_size _ _
def tL{o:Obj}(e:h.get? b=some o)(n:H b=none):(iK h H).get? b=some o :=
 W.hideAll_get _ e λa=>by have q:(H b).isSome=true:=(mq.mp a).2;rw[n]at q;simp at q
def MI{o:Obj}(e:(iK h H).get? b=some o):h.get? b=some o/\H b=none:=by have E:h.get? b=some o:=W.of_hideAll (Bx h H) e;refine#[E,?_];cases q:H b with|none=>rfl|some x=>have a:b∈Bx h H:=mq.mpr #[oo.mpr (dy E),by simp[q]];have z:(iK h H).get? b=none:=W.hideAll_none (Bx h H) a;rw[z]at e;cases e
def MJ(g h:Heap)(L:Addr):eh:=(List.range h.objs.size).filterMap λa=>if a=L\/(g.get? a).isSome=true then none else(h.get? a).map λo=>(a,o)
def rest(g h:Heap)(L d:Addr):eh:=(MJ g h L).filter λp=>decide (p.1≠d)
structure Mod(K:Fg)(mg:fg)(base:Heap):Prop where
 kin:K.In base
 glob:base.Ns mainGlobals mg
 blt:∃mb,base.Ns builtinsNs mb/\∀x:Str,x ≠ "__name__"->mb x=bootBuiltins x
 nolimit:base.NoLimit
 bmod:∃bm ob,mg "__builtins__"=some (.ref bm)/\bm≠builtinsNs/\base.get? bm=some ob/\ob.cls=.type "module" /\ ob.dict=some builtinsNs/\ob.data=.plain
def By(base:Heap)(H:Hp)(q:Str)(cd:ba):Prop:=∃c T ps,cd=.ref c/\W.CodeHd base c T/\H T=some (.tbl ps)/\ps[0]? = some (.str (q++".<locals>.") 0)
def By.mono{cd:ba}(x:By base H q cd)(t:∀b ps,H b=some (.tbl ps)->∃more,H' b=some (.tbl (ps++more))):By base H' q cd:=by exists c,T,ps,g,f,d,E,x;exists m,a,t T ps d;refine#[c,T,_,g,f,a,?_];rw[Array.getElem?_append_left (by have:=(qy.mp E).1;exact this)];exact E
def lG(K:Fg)(base:Heap)(H:Hp):Prop:=∀cd q,W.codeIn K cd q=true->By base H q cd
theorem lG.mono{K:Fg}(x:lG K base H)(t:∀b ps,H b=some (.tbl ps)->∃more,H' b=some (.tbl (ps++more))):lG K base H':=λcd q e=>(x cd q e).mono t
structure Cx where
 prog:e7
 w:cw
 K:Fg
 mg:fg
 base:Heap
 A:di
 N:List Str
 s₀:bz
 H₀:Hp
 env:Env
 outer:List Env
 stack:List Env
 ex:List Addr
 fn:Str->Bool
 calm:Bool
 pn:eh
 xe:dc
def gj(l:List Env):List Addr:=l.filterMap (·.frame)
end L2
variable{X:L2.Cx}
namespace L2
abbrev Cx.fs(X:Cx):List Addr:=gj X.outer
def Bz(sc:Scope)(x:Str):Prop:=sc.names.lookup x=some .local\/sc.names.lookup x=some .cell\/sc.names.lookup x=some .free
def Loc(sc:Scope)(x:Str):Prop:=sc.names.lookup x=some .local\/sc.names.lookup x=some .cell
def Look(env:Env)(h:Heap)(m:fg)(x:Str)(u:ba):Prop :=
 (env.kindOf x=some .local/\m x=some u)\/((env.kindOf x=some .cell\/env.kindOf x=some .free)/\∃c,env.cells.lookup x=some c/\h.IsCell c (some u))
structure Cx.Ok(X:Cx):Prop where
 mod:Mod X.K X.mg X.base
 kind:X.env.scope.kind=.function
 glob:X.env.globals=mainGlobals
 blt:X.env.builtins=builtinsNs
 above:X.s₀.heap.objs.size<=X.env.locals
 inj:∀x y c,X.env.cells.lookup x=some c->X.env.cells.lookup y=some c->x=y
 has:∀x,(X.env.kindOf x=some .cell\/X.env.kindOf x=some .free)->∃c,X.env.cells.lookup x=some c
 cab:∀x c,X.fn x=true->X.env.cells.lookup x=some c->X.s₀.heap.objs.size<=c
 hd:X.calm=true->X.A.handled=none
 frames:X.A.frames=some X.stack
 stk:X.stack=X.outer\/(X.stack=X.env::X.outer/\X.env.frame=some X.env.locals)
 exf:∀b∈X.ex,b≠X.env.locals/\∀x c,X.env.cells.lookup x=some c->c≠b
 bs:∀b o,X.base.get? b=some o->X.s₀.heap.get? b=some o/\X.H₀ b=none
 bsz:X.base.objs.size<=X.s₀.heap.objs.size
 noex:∀b o,X.base.get? b=some o->b∉X.ex
 exfs:∀b∈X.ex,b∉X.fs
 funs:X.s₀.heap.FunFrames X.base X.outer
 frf:∀b∈X.fs,X.H₀ b=none
 tabs:lG X.K X.base X.H₀
structure Inv(X:Cx)(aA:eh)(σ:List (Option V))(H:Hp)(s:bz):Prop where
 ok:X.Ok
 os:s.os=X.s₀.os
 bare:AllBare s.gens
 base:Un X.fs X.ex X.H₀ H X.s₀.heap s.heap
 loc:∃m,s.heap.Ns X.env.locals m/\∀(i:Nat) (x:Str) (v:V),X.N[i]? = some x->σ[i]? = some (some v)->Bz X.env.scope x->∃u,aH v u/\Look X.env s.heap m x u
 cell:∀x c,X.env.cells.lookup x=some c->∃v,s.heap.IsCell c v
 free:H X.env.locals=none
 freeC:∀x c,X.env.cells.lookup x=some c->H c=none
 pin:∀p∈X.pn++aA,s.heap.get? p.1=some p.2/\H p.1=none/\p.1≠X.env.locals/\p.1∉X.fs/\∀v,p.2.data ≠ .cell v
 hok:fj X.prog X.w H s.heap
 len:σ.length=X.N.length
section
variable{f:List (Option V)}
def Cx.Ok.nofr(ok:X.Ok){o:Obj}(e:X.base.get? b=some o):b∉X.fs:=λa=>by have:=(ok.funs.mem a).1;rw[e]at this;cases this
theorem Inv.bs(I:Inv X aA f H s):∀b o,X.base.get? b=some o->s.heap.get? b=some o/\H b=none:=λb o e =>
 #[I.base.keep b o (I.ok.bs b o e).1 (I.ok.bs b o e).2 (I.ok.nofr e) (I.ok.noex b o e),I.base.free b o (I.ok.bs b o e).1 (I.ok.bs b o e).2 (I.ok.noex b o e)]
def Inv.bk(I:Inv X aA f H s):∀b o,X.base.get? b=some o->s.heap.get? b=some o:=λb o e=>(I.bs b o e).1
theorem Inv.mod(I:Inv X aA f H s):Mod X.K X.mg X.base:=I.ok.mod
def Inv.kIn(I:Inv X aA f H s):X.K.In s.heap:=I.ok.mod.kin.keeps I.bk
theorem Inv.lt(I:Inv X aA f H s):X.env.locals<s.heap.objs.size:=let⟨_,hn,_⟩:=I.loc;hn.lt
def Inv.sz(I:Inv X aA f H s):X.s₀.heap.objs.size<=s.heap.objs.size:=ir I.ok.above (AQ I.lt)
def Inv.nofs(I:Inv X aA f H s){a:Addr}(h:s.heap.objs.size<=a):a∉X.fs:=λd=>by exists _,o,ho,_,I.ok.funs.mem d;exact absurd (gq (dy ho) (ir I.sz h)) (ky _)
def Inv.cne(I:Inv X aA f H s):∀x c,X.env.cells.lookup x=some c->c≠X.env.locals:=λx c e z=>by exists v,o,ho,hd,I.cell x c e;obtain⟨m,⟨O,es,ep,a,d,_⟩,_⟩:=I.loc;rw[z,a]at ho;cases ho;rw[d]at hd;cases hd
theorem Inv.funs(I:Inv X aA f H s):s.heap.FunFrames X.base X.outer:=by(have all:∀(l:List Env),(∀b∈gj l,b∈X.fs)->X.s₀.heap.FunFrames X.base l->s.heap.FunFrames X.base l:=by intro l;induction l with|nil=>intro _ _;trivial|cons env r g=>intro hs hl;obtain⟨hk,⟨L,o,hf,hn,ho,hd⟩,m⟩:=hl;have d:L∈X.fs:=hs L (by unfold gj;rw[pv,hf];exact cj);exists S,e,I.base.slot L o ho (I.ok.frf L d) d λz=>I.ok.exfs L z d;exact#[hk,#[L,_,hf,hn,e,hd],g (λb a=>hs b (by unfold gj;rw[pv,hf];exact cs a)) m]);exact all X.outer (λ_ a=>a) I.ok.funs
theorem Inv.stack(I:Inv X aA f H s):s.heap.FunFrames X.base X.stack:=by rcases I.ok.stk with e|⟨e,hf⟩;{rw[e];exact I.funs};rw[e];exists m,hn,_,I.loc;refine .cons (by rw[I.ok.kind];decide) hf hn ?_ I.funs;exact Heap.get?_none_of_le (ir I.ok.bsz I.ok.above)
def Inv.stkSub(I:Inv X aA f H s):∀b∈gj X.stack,b∈X.env.locals::X.fs:=λb a=>by rcases I.ok.stk with e|⟨e,hf⟩;{rw[e]at a;exact cs a};rw[e]at a;unfold gj at a;rw[pv,hf]at a;exact a
def Inv.stkFree(I:Inv X aA f H s):∀b∈gj X.stack,H b=none:=λb a=>by rcases cy.mp (I.stkSub b a)with e|a;{rw[e];exact I.free};exists _,o,ho,_,I.ok.funs.mem a;exact I.base.free b o ho (I.ok.frf b a) λz=>I.ok.exfs b z a
def Inv.step{g':Array GenState}{d':Drawn}(I:Inv X aA f H s)(a:∀b∈ch,(b∈X.ex\/X.s₀.heap.objs.size<=b)/\b≠X.env.locals/\(∀x c,X.env.cells.lookup x=some c->c≠b)/\∀p∈X.pn++aA,p.1≠b)(keep:∀b o,b≠X.env.locals->b∉X.fs->b∉ch->s.heap.get? b=some o->H b=none->h'.get? b=some o)(slot:∀b o,b≠X.env.locals->b∈X.fs->b∉ch->s.heap.get? b=some o->H b=none->∃B,h'.get? b=some {o with slots:=B})(free:∀b o,b∉ch->s.heap.get? b=some o->H b=none->H' b=none)(there:∀b o,b∉ch->s.heap.get? b=some o->∃O,h'.get? b=some O)(tups:∀b U,H b=some (.tup U)->H' b=some (.tup U))(frzs:∀b o u,H b=some (.frz o u)->H' b=some (.frz o u))(tbls:∀b ps,H b=some (.tbl ps)->∃more,H' b=some (.tbl (ps++more)))(ns:∀m,s.heap.Ns X.env.locals m->h'.Ns X.env.locals m)(hok:fj X.prog X.w H' h')(J:AllBare g'):Inv X aA f H' {s with heap:=h',gens:=g',drawn:=d',toks:=t'}:=by(have y:∀b o,X.s₀.heap.get? b=some o->b≠X.env.locals:=λb o e=>gx (gq (dy e) I.ok.above);have g:∀b o,X.s₀.heap.get? b=some o->b∉X.ex->b∉ch:=λb o e hx t=>by rcases(a b t).1 with z|z;{exact hx z};exact absurd (gq (dy e) z) (ky _));(have C:∀x c,X.env.cells.lookup x=some c->∀v,s.heap.IsCell c v->h'.IsCell c v:=λx c e v ⟨o,ho,hd⟩=>by have N:c∉ch:=λz=>(a c z).2.2.1 x c e rfl;by_cases D:c∈X.fs;{exists B,q,slot c o (I.cne x c e) D N ho (I.freeC x c e);exact#[_,q,hd]};exact#[o,keep c o (I.cne x c e) D N ho (I.freeC x c e),hd]);refine#[I.ok,I.os,J,#[λb o e n t hx=>?_,λb o e n t hx=>?_,λb o e n hx=>?_,λb o e hx=>?_,λb U e=>tups b U (I.base.tups b U e),λb o U e=>frzs b o U (I.base.frzs b o U e),λb ps e=>?_],?_,λx c e=>?_,?_,λx c e=>?_,λp hp=>?_,hok,I.len];{exact keep b o (y b o e) t (g b o e hx) (I.base.keep b o e n t hx) (I.base.free b o e n hx)};{exists B,E,I.base.slot b o e n t hx;exists S,A,slot b _ (y b o e) t (g b o e hx) E (I.base.free b o e n hx);exact#[S,A]};{exists O,E,I.base.there b o e hx;exact free b O (g b o e hx) E (I.base.free b o e n hx)};{exists O,E,I.base.there b o e hx;exact there b O (g b o e hx) E};{exists F,E,I.base.tbls b ps e;exists M,A,tbls b _ E;exact#[F++M,by rw[A,Array.append_assoc]]};{exists m,hn,G,I.loc;refine#[m,ns m hn,λi x v E A K=>?_];exists u,r,l,G i x v E A K;refine#[u,r,?_];rcases l with l|⟨k,c,e,z⟩;{exact .inl l};exact .inr #[k,c,e,C x c e _ z]};{exists v,z,I.cell x c e;exact#[v,C x c e v z]};{obtain⟨m,⟨o,_,_,ho,_⟩,_⟩:=I.loc;exact free _ o (λz=>(a _ z).2.1 rfl) ho I.free};{exists v,o,ho,hd,I.cell x c e;exact free c o (λz=>(a c z).2.2.1 x c e rfl) ho (I.freeC x c e)};exists e,n,ne,nf,d,I.pin p hp;have N:p.1∉ch:=λz=>(a p.1 z).2.2.2 p hp rfl;exact#[keep p.1 p.2 ne nf N e n,free p.1 p.2 N e n,ne,nf,d]
def Inv.un(I:Inv X aA f H s)(u:Un X.fs [] H H' s.heap h')(hok:fj X.prog X.w H' h'):Inv X aA f H' {s with heap:=h',toks:=t'}:=by
 obtain⟨m,⟨o,es,ep,ho,r⟩,_⟩:=id I.loc;exists S,y,u.any ho I.free (by simp)
 exact I.step (g':=s.gens) (d':=s.drawn) (ch:=[]) (λ_ z=>nomatch z) (λb o _ d _ e n=>u.keep b o e n d (by simp)) (λb o _ d _ e n=>u.slot b o e n d (by simp)) (λb o _ e n=>u.free b o e n (by simp)) (λb o _ e=>u.there b o e (by simp)) u.tups u.frzs u.tbls (λM t=>by
  exists O,E,g,a,R,t;rw[ho]at a;cases a;exact#[_,E,g,y,R]) hok I.bare
def Inv.call{g':Array GenState}{d':Drawn}(I:Inv X aA f H s)(u:Un (gj X.stack) ch H H' s.heap h')(hok:fj X.prog X.w H' h')(B:AllBare g')(g:∀b∈ch,(b∈X.ex\/X.s₀.heap.objs.size<=b)/\b≠X.env.locals/\(∀x c,X.env.cells.lookup x=some c->c≠b)/\∀p∈X.pn++aA,p.1≠b):Inv X aA f H' {s with heap:=h',gens:=g',drawn:=d',toks:=t'}:=by
 obtain⟨m,⟨o,es,ep,ho,r⟩,_⟩:=id I.loc;exists S,t,u.any ho I.free λz=>(g _ z).2.1 rfl;exact I.step (ch:=ch) g (λb o t C a e n=>u.keep b o e n (λz=>(cy.mp (I.stkSub b z)).elim t C) a) (λb o _ _ a e n=>u.any e n a) (λb o a e n=>u.free b o e n a) (λb o a e=>u.there b o e a) u.tups u.frzs u.tbls (λM A=>by
  exists O,E,y,d,R,A;rw[ho]at d;cases d;exact#[_,E,y,t,R]) hok B
def Inv.turned(I:Inv X aA f H s)(k:∀b o,b≠it->s.heap.get? b=some o->h'.get? b=some o)(hn:H it=none)(d:it≠X.env.locals)(B:it∈X.ex\/X.s₀.heap.objs.size<=it)(A:∀x c,X.env.cells.lookup x=some c->c≠it)(y:∀p∈X.pn++aA,p.1≠it):Inv X aA f H {s with heap:=h',toks:=t'}:=by
 have N:∀b u,H b=some u->b≠it:=λb u e z=>by rw[z,hn]at e;cases e
 refine I.step (g':=s.gens) (d':=s.drawn) (ch:=[it]) (λb t=>?_) (λb o _ _ a e _=>k b o (λz=>a (by simp[z])) e) (λb o _ _ a e _=>#[o.slots,k b o (λz=>a (by simp[z])) e]) (λ_ _ _ _ n=>n)
  (λb o a e=>#[o,k b o (λz=>a (by simp[z])) e]) (λ_ _ e=>e) (λ_ _ _ e=>e) (λb ps e=>#[#[],by rw[e];simp]) (λm g=>?_) (λb u e=>?_) I.bare
 . (have e:b=it:=by simpa using t);subst e;exact#[B,d,A,y]
 . exists o,es,ep,ho,r,g;exact#[o,es,ep,k _ o (Ne.symm d) ho,r]
 . refine(I.hok b u e).stay (λc v a q=>k c v ?_ q) (λ_ q=>q) λ_ _ q=>q;rcases a with z|z;{rw[z];exact N b u e};exact N c _ z
def Inv.tok(I:Inv X aA f H s)(t:Nat):Inv X aA f H {s with toks:=t}:=I.un (h':=s.heap) (t':=t) Un.refl I.hok
theorem Inv.kept(I:Inv X aA f H s)(k:∀b u,s.heap.get? b=some u->h'.get? b=some u):Inv X aA f H {s with heap:=h',toks:=t'}:=I.un (Un.kept k) (I.hok.kept k)
theorem Inv.laid{a:Addr}{o:HO}(I:Inv X aA f H s)(k:∀b u,s.heap.get? b=some u->h'.get? b=some u)(hp:s.heap.objs.size<=a)(new:bS X.prog X.w (upd H a o) h' a o):Inv X aA f (upd H a o) {s with heap:=h',toks:=t'}:=I.un (Un.laid k hp (I.hok.fresh hp)) (I.hok.laid k hp new)
theorem Inv.write{x e:Addr}{o:HO}(I:Inv X aA f H s)(mu:uu (H x))(d:e=x\/H e=some (.own x))(k:∀b u,b≠e->s.heap.get? b=some u->h'.get? b=some u)(a:∃u,h'.get? e=some u)(new:bS X.prog X.w (upd H x o) h' x o):Inv X aA f (upd H x o) {s with heap:=h',toks:=t'}:=I.un (Un.write mu d k a) (I.hok.write mu d k a new)
def Inv.weak{a:List (Option V)}(I:Inv X aA f H s)(g:a.length=f.length)(w:∀(i:Nat) v,a[i]? = some (some v)->f[i]? = some (some v)):Inv X aA a H s :=
 #[I.ok,I.os,I.bare,I.base,let⟨m,hn,d⟩:=I.loc;#[m,hn,λi x v r o E=>d i x v r (w i v o) E],I.cell,I.free,I.freeC,I.pin,I.hok,g.trans I.len]
def Inv.pins_of(I:Inv X aA f H s)(h:∀p∈pins',s.heap.get? p.1=some p.2/\H p.1=none/\p.1≠X.env.locals/\p.1∉X.fs/\∀v,p.2.data ≠ .cell v):Inv X pins' f H s :=
 #[I.ok,I.os,I.bare,I.base,I.loc,I.cell,I.free,I.freeC,λp hp=>(ii.mp hp).elim (λz=>I.pin p (oq _ z)) (h p),I.hok,I.len]
def yN{N:List Str}(hN:N.Nodup)(a:N[i]? = some x)(b:N[j]? = some x):i=j:=by exists m,d,lA.mp a;exists g,E,lA.mp b;exact(AS hN).mp (d.trans E.symm)
def yO{M:Model}{A:di}{E:dc}{Q:Unit->bz->Prop}(I:Inv X aA f H s)(hN:X.N.Nodup)(hi:X.N[i]? = some x)(hx:Loc X.env.scope x)(r:aH v u)(h:∀s',Inv X aA (f.set i (some v)) H s'->(∃a,Heap.SameBut a s.heap s'.heap/\(a=X.env.locals\/X.env.cells.lookup x=some a))->Q () s')(hf:X.fn x=true\/X.env.scope.names.lookup x=some .local:=by first|exact .inl rfl|exact .inr rfl|assumption):wpAny M A (storeName X.env x u) Q E s:=by
 exists m,hn,hl,id I.loc;have O:(X.env.scope.kind == .class||(X.env.scope.kind == .module&&X.env.locals != X.env.globals))=false:=by rw[I.ok.kind];rfl
 have D:i<f.length:=by rw[I.len];exact(lA.mp hi).1
 have cne:=I.cne;have t:∀{a:Addr}{h':Heap},(∃o,s.heap.get? a=some o/\H a=none)->Heap.SameBut a s.heap h'->fj X.prog X.w H h':=λ{a h'} ha hs b ob e=>by exists _,_,dH,ha;refine(I.hok b ob e).stay (λc W B q=>(hs.2 c ?_).trans q) (λ_ q=>q) λ_ _ q=>q;rintro rfl;rcases B with rfl|B;{rw[dH]at e;cases e};rw[dH]at B;cases B
 rcases hx with hk|hk
 . refine wpAny_storeName_local hk hn (λh' ae hs=>?_) O;exists oL,_,_,aa,_,id hn;refine h _ #[I.ok,I.os,I.bare,#[λb o e n J hx=>?_,λb o e n J hx=>?_,I.base.free,λb o e hx=>?_,I.base.tups,I.base.frzs,I.base.tbls],#[_,ae,λj y V g C e3=>?_],λy c e=>?_,I.free,I.freeC,λp hp=>?_,t #[oL,aa,I.free] hs,by simpa using I.len] #[_,hs,.inl rfl];{exact(hs.2 b (gx (gq (dy e) I.ok.above))).trans (I.base.keep b o e n J hx)};{exists Z,g,I.base.slot b o e n J hx;exact#[Z,(hs.2 b (gx (gq (dy e) I.ok.above))).trans g]};{exists o',g,I.base.there b o e hx;exact#[o',(hs.2 b (gx (gq (dy e) I.ok.above))).trans g]};{by_cases F:j=i;{subst F;rw[hi]at g;cases g;rw[nq D]at C;cases C;exact#[u,r,.inl #[hk,by simp]]};rw[h5 (Ne.symm F)]at C;exists Y,r',q,hl j y V g C e3;refine#[Y,r',?_];rcases q with⟨k,e⟩|⟨k,c,e,z⟩;{refine .inl #[k,?_];have:y≠x:=λe=>F (yN hN g (e ▸ hi));simp[this,e]};exact .inr #[k,c,e,z.sameBut hs (cne y c e)]};{exists W,z,I.cell y c e;exact#[W,z.sameBut hs (cne y c e)]};exists e,n,ne,nf,d,I.pin p hp;exact#[(hs.2 p.1 ne).trans e,n,ne,nf,d]
 . have G:X.fn x=true:=by
     rcases hf with z|z
     . exact z
     . rw[z]at hk;cases hk
   exists c,B,I.ok.has x (.inl hk);exists W,z,I.cell x c B;refine wpAny_storeName_cell I.ok.kind hk B z (λh' S hs=>?_);exists oc,L,K,id z;refine h {s with heap:=h'} #[I.ok,I.os,I.bare,#[λb o e n J hx=>?_,λb o e n J hx=>?_,I.base.free,λb o e hx=>?_,I.base.tups,I.base.frzs,I.base.tbls],#[m,hn.sameBut hs (Ne.symm (cne x c B)),λj y V g C e3=>?_],λy T e=>?_,I.free,I.freeC,λp hp=>?_,t #[oc,L,I.freeC x c B] hs,by simpa using I.len] #[c,hs,.inr B]
   . exact(hs.2 b (gx (gq (dy e) (I.ok.cab x c G B)))).trans (I.base.keep b o e n J hx)
   . exists Z,g,I.base.slot b o e n J hx;exact#[Z,(hs.2 b (gx (gq (dy e) (I.ok.cab x c G B)))).trans g]
   . exists o',g,I.base.there b o e hx;exact#[o',(hs.2 b (gx (gq (dy e) (I.ok.cab x c G B)))).trans g]
   . by_cases F:j=i;{subst F;rw[hi]at g;cases g;rw[nq D]at C;cases C;exact#[u,r,.inr #[.inl hk,c,B,S]]};rw[h5 (Ne.symm F)]at C;exists Y,r',q,hl j y V g C e3;refine#[Y,r',?_];rcases q with q|⟨k,T,e,z'⟩;{exact .inl q};refine .inr #[k,T,e,z'.sameBut hs ?_];rintro rfl;exact F (yN hN g (I.ok.inj _ _ _ e B ▸ hi))
   . by_cases R:T=c;{subst R;exact#[_,S]};exists w2,z2,I.cell y T e;exact#[w2,z2.sameBut hs R]
   . exists e,n,ne,nf,d,I.pin p hp;refine#[(hs.2 p.1 ?_).trans e,n,ne,nf,d];intro q;rw[q,L]at e;have q':oc=p.2:=jw e;exact d W (by rw[<- q'];exact K)
def yP{M:Model}{A:di}{E:dc}{Q:Unit->bz->Prop}(I:Inv X aA f H s)(hN:X.N.Nodup)(hi:X.N[i]? = some x)(hx:Loc X.env.scope x)(r:aH v u)(h:∀s',Inv X aA (f.set i (some v)) H s'->Q () s')(hf:X.fn x=true\/X.env.scope.names.lookup x=some .local:=by first|exact .inl rfl|exact .inr rfl|assumption):wpAny M A (storeName X.env x u) Q E s :=
 yO I hN hi hx r (λs' a _=>h s' a) hf
def Inv.call'(I:Inv X aA f H s)(ho:s'.os=s.os)(u:Un (gj X.stack) ch H H' s.heap s'.heap)(hok:fj X.prog X.w H' s'.heap)(d:AllBare s'.gens)(a:∀b∈ch,(b∈X.ex\/X.s₀.heap.objs.size<=b)/\b≠X.env.locals/\(∀x c,X.env.cells.lookup x=some c->c≠b)/\∀p∈X.pn++aA,p.1≠b):Inv X aA f H' s':=by exists h',g',d',t',o,s';have e:o=s.os:=ho;subst e;exact I.call (g':=g') (t':=t') (d':=d') u hok d a
end
abbrev XK:=ba->Option Addr->Hp->Prop
abbrev St:=List (Option V)
abbrev VK:=V->Hp->Prop
abbrev TE:=St->Hp->VK->Prop
abbrev TT:=St->Hp->(Bool->Hp->Prop)->Prop
abbrev TA:=St->Hp->(List V->Hp->Prop)->Prop
end L2
variable{σ:L2.St}{ta te tl tv td:L2.TE}{tt:L2.TT}
namespace L2
structure gM where
 nx:St->Hp->Prop
 rt:VK
 bk:St->Hp->Prop:=λ_ _=>False
 ct:St->Hp->Prop:=λ_ _=>False
abbrev TS:=gM->St->Hp->Prop
def EP(X:Cx)(aA:eh)(σ:St)(Q:VK)(u:ba)(s':bz):Prop:=∃v H',Inv X aA σ H' s'/\aH v u/\Q v H'
def TP(X:Cx)(aA:eh)(σ:St)(Q:Bool->Hp->Prop)(b:Bool)(s':bz):Prop:=∃H',Inv X aA σ H' s'/\Q b H'
def AP(X:Cx)(aA:eh)(σ:St)(Q:List V->Hp->Prop)(us:List ba)(s':bz):Prop:=∃vs H',Inv X aA σ H' s'/\aO vs us/\Q vs H'
def SP(X:Cx)(aA:eh)(D:gM)(f:Flow)(s':bz):Prop :=
 match f with|.next=>∃a H',Inv X aA a H' s'/\D.nx a H'|.brk=>∃a H',Inv X aA a H' s'/\D.bk a H'|.cont=>∃a H',Inv X aA a H' s'/\D.ct a H'|.ret u=>∃v a H',Inv X aA a H' s'/\aH v u/\D.rt v H'
def PE(X:Cx)(e:Expr)(t:TE):Prop :=
 ∀(aA:eh) (s:bz) (σ:St) (H:Hp) (Q:VK),Inv X aA σ H s->t σ H Q->wpAny (model X.prog X.w) X.A (eval e X.env) (EP X aA σ Q) X.xe s
def PT(X:Cx)(e:Expr)(t:TT):Prop :=
 ∀(aA:eh) (s:bz) (σ:St) (H:Hp) (Q:Bool->Hp->Prop),Inv X aA σ H s->t σ H Q->wpAny (model X.prog X.w) X.A (isTrue e X.env (eval e X.env)) (TP X aA σ Q) X.xe s
def PW(X:Cx)(e:Expr)(t:TT):Prop :=
 ∀(dO:Sem ba) (aA:eh) (s:bz) (σ:St) (H:Hp) (Q:Bool->Hp->Prop),Inv X aA σ H s->t σ H Q->wpAny (model X.prog X.w) X.A (isTrue e X.env dO) (TP X aA σ Q) X.xe s
def PW.pt{t:TT}(h:PW X e t):PT X e t:=h _
def PA(X:Cx)(es:List Expr)(t:TA):Prop :=
 ∀(pos:Pos) (aA:eh) (s:bz) (σ:St) (H:Hp) (Q:List V->Hp->Prop),Inv X aA σ H s->t σ H Q->wpAny (model X.prog X.w) X.A (spliced (backTo pos (starEach es X.env))) (AP X aA σ Q) X.xe s
def PS(X:Cx)(st:Stmt)(t:TS):Prop :=
 ∀(aA:eh) (s:bz) (σ:St) (H:Hp) (D:gM),Inv X aA σ H s->t D σ H->wpAny (model X.prog X.w) X.A (exec st X.env) (SP X aA D) X.xe s
def ie(X:Cx)(st:List Stmt)(t:TS):Prop :=
 ∀(aA:eh) (s:bz) (σ:St) (H:Hp) (D:gM),Inv X aA σ H s->t D σ H->wpAny (model X.prog X.w) X.A (execs st X.env) (SP X aA D) X.xe s
def thn{t:Sem α}{Q d:α->bz->Prop}{M:Model}{A:di}{E:dc}(h:wpAny M A t Q E s)(f:∀a s,Q a s->d a s):wpAny M A t d E s:=jh h f λ_ _ x=>x
section
def fZ(i:Nat):TE:=λσ H Q=>∃v,σ[i]? = some (some v)/\Q v H
def tC(v:V):TE:=λ_ H Q=>Q v H
def iL(hN:X.N[i]? = some x)(d:Bz X.env.scope x)(hd:(x==("__debug__":Str))=false:=by decide)(a:(x==("__classdict__":Str))=false:=by decide):PE X (.Name x pos) (fZ i):=by intro aA s σ H Q I h;exists v,e,h,h;exists m,hn,g,I.loc;exists u,r,l,g i x v hN e d;have f:EP X aA σ Q u s:=#[v,H,I,r,h];rcases l with⟨hk,hm⟩|⟨hk,c,hc,cR⟩;{exact wpAny_Name (wpAny_loadName_local I.ok.kind hk hn hm f) hd};rcases hk with hk|hk;{exact wpAny_Name (wpAny_loadName_cell I.ok.kind hk hc cR f) hd};exact wpAny_Name (wpAny_loadName_free I.ok.kind hk hc cR f a) hd
def MK{i j pos:_}:PE X (.Constant (.int i) j pos) (tC (.int i)):=λ_ _ _ H _ I h=>wpAny_Constant_int #[.int i,H,I.tok _,#[_,rfl],h]
def uv{b j pos:_}:PE X (.Constant (.bool b) j pos) (tC (.bl b)):=λ_ _ _ H _ I h=>Constant_bool #[.bl b,H,I,rfl,h]
def ML{j pos:_}:PE X (.Constant .none j pos) (tC .non):=λ_ _ _ H _ I h=>Constant_none #[.non,H,I,rfl,h]
def MM{x j pos:_}:PE X (.Constant (.str x) j pos) (tC (.str x)):=λ_ _ _ H _ I h=>Calls.Constant_str #[.str x,H,I.tok _,#[_,rfl],h]
def Gl(X:Cx)(x:Str):Prop:=X.env.kindOf x=some .globalImplicit
def nJ{E:dc}{σ:St}(I:Inv X aA σ H s)(d:Gl X x)(a:X.mg x=some u)(h:Q u s)(hd:(x==("__debug__":Str))=false:=by decide):wpAny (model X.prog X.w) X.A (eval (.Name x pos) X.env) Q E s:=
 Calls.Name_function_global I.ok.kind d (Calls.loadGlobal_global (by rw[I.ok.glob];exact I.mod.glob.keeps I.bk) a h) hd
def jY{E:dc}{σ:St}(I:Inv X aA σ H s)(f:Gl X x)(d:X.mg x=none)(a:bootBuiltins x=some u)(h:Q u s)(hn:x ≠ "__name__":=by decide)(hd:(x==("__debug__":Str))=false:=by decide):wpAny (model X.prog X.w) X.A (eval (.Name x pos) X.env) Q E s:=by exists M,m,g,I.mod.blt;exact Calls.Name_function_global I.ok.kind f (Calls.loadGlobal_builtin (by rw[I.ok.glob];exact I.mod.glob.keeps I.bk) d (by rw[I.ok.blt];exact m.keeps I.bk) ((g x hn).trans a) h) hd
def tM(d:Gl X x)(a:X.mg x=some u)(r:aH v u)(hd:(x==("__debug__":Str))=false:=by decide):PE X (.Name x pos) (tC v):=
 λ_ _ _ H _ I h=>nJ I d a #[v,H,I,r,h] hd
def MN(f:Gl X x)(d:X.mg x=none)(a:bootBuiltins x=some u)(r:aH v u)(hn:x ≠ "__name__":=by decide)(hd:(x==("__debug__":Str))=false:=by decide):PE X (.Name x pos) (tC v):=
 λ_ _ _ H _ I h=>jY I f d a #[v,H,I,r,h] hn hd
variable{a b:Expr}{tb:TE}
variable{d f:TT}{rest:List Expr}
def tN(t u:TT):TT:=λσ H Q=>t σ H λc H1=>if c=true then u σ H1 Q else Q false H1
def EX(t u:TT):TT:=λσ H Q=>t σ H λc H1=>if c=true then Q true H1 else u σ H1 Q
def C5(t:TT):TT:=λσ H Q=>t σ H λc H1=>Q (!c) H1
def MO(ha:PT X a d):PW X (.BoolOp .And [a] pos) d:=by intro W aA s σ H Q I h;refine isTrue_and (thn (ha aA s σ H Q I h) λc S e=>?_);cases c with|true=>exact isTrue_and_nil e|false=>exact e
def MP(ha:PT X a d):PW X (.BoolOp .Or [a] pos) d:=by intro W aA s σ H Q I h;refine isTrue_or (thn (ha aA s σ H Q I h) λc S e=>?_);cases c with|false=>exact isTrue_or_nil e|true=>exact e
def MQ(ha:PT X a d)(m:PW X (.BoolOp .And (b::rest) pos) f):PW X (.BoolOp .And (a::b::rest) pos) (tN d f):=by intro W aA s σ H Q I h;refine isTrue_and (thn (ha aA s σ H _ I h) λc S ⟨H1,g,q1⟩=>?_);cases c with|true=>exact m W aA S σ H1 Q g q1|false=>exact#[H1,g,q1]
def uw(ha:PT X a d)(m:PW X (.BoolOp .Or (b::rest) pos) f):PW X (.BoolOp .Or (a::b::rest) pos) (EX d f):=by intro W aA s σ H Q I h;refine isTrue_or (thn (ha aA s σ H _ I h) λc S ⟨H1,g,q1⟩=>?_);cases c with|true=>exact#[H1,g,q1]|false=>exact m W aA S σ H1 Q g q1
def MR(ha:PT X a d):PT X (.UnaryOp .Not a pos) (C5 d):=by intro aA s σ H Q I h;exact isTrue_not (ha aA s σ H (λc H1=>Q (!c) H1) I h)
def yQ(ta tb:TE):TE:=λσ H Q=>ta σ H λx H1=>∃c,x=.bl c/\if c=true then tb σ H1 Q else Q (.bl false) H1
def ux(ta tb:TE):TE:=λσ H Q=>ta σ H λx H1=>∃c,x=.bl c/\if c=true then Q (.bl true) H1 else tb σ H1 Q
def yR(ta:TE):TE:=λσ H Q=>ta σ H λx H1=>∃c,x=.bl c/\Q (.bl (!c)) H1
def MS{op}{t:TE}(h:PE X a t):PE X (.BoolOp op [a] pos) t:=λaA s σ H Q I g=>BoolOp_one (h aA s σ H Q I g)
def MT(ha:PE X a ta)(m:PE X (.BoolOp .And (b::rest) pos) tb):PE X (.BoolOp .And (a::b::rest) pos) (yQ ta tb):=by intro aA s σ H Q I h;refine BoolOp_and (thn (ha aA s σ H _ I h) λv S ⟨x,H1,g,r,q1⟩=>?_);exists c,rfl,q1,q1;cases r;refine qz ?_;cases c with|true=>exact m aA S σ H1 Q g q1|false=>exact#[.bl false,H1,g,rfl,q1]
def uy(ha:PE X a ta)(m:PE X (.BoolOp .Or (b::rest) pos) tb):PE X (.BoolOp .Or (a::b::rest) pos) (ux ta tb):=by intro aA s σ H Q I h;refine BoolOp_or (thn (ha aA s σ H _ I h) λv S ⟨x,H1,g,r,q1⟩=>?_);exists c,rfl,q1,q1;cases r;refine qz ?_;cases c with|false=>exact m aA S σ H1 Q g q1|true=>exact#[.bl true,H1,g,rfl,q1]
def MU(ha:PE X a ta):PE X (.UnaryOp .Not a pos) (yR ta):=by intro aA s σ H Q I h;refine UnaryOp_ (thn (ha aA s σ H _ I h) λv S ⟨x,H1,g,r,q1⟩=>?_);exists c,rfl,q1,q1;cases r;exact not_of (qz #[.bl (!c),H1,g,rfl,q1])
end
def dz(K:Fg)(H:Hp)(a:Addr)(U:List V):Prop :=
 Rd H a (.lst U) \/
  ∃(o:Obj) (its:Array ba) (n:Nat),K.lookup a=some o/\o.cls=.type "list" /\ o.dict=none/\o.data=.seq its n/\its.size<=sizeLine/\aO U its.toList
def d3(K:Fg)(H:Hp)(a:Addr)(U:List V):Prop :=
 Rd H a (.tup U) \/
  ∃(o:Obj) (its:Array ba) (n:Nat),K.lookup a=some o/\o.cls=.type "tuple" /\ o.dict=none/\o.data=.seq its n/\its.size<=sizeLine/\aO U its.toList
def C6:ba->Option V|.none=>some .non|.bool b=>some (.bl b)|.int i _=>some (.int i)|.str x _=>some (.str x)|.bytes b _=>some (.byt b)|.float b _=>some (.flt b)|.ref a=>some (.ref a)|.type n=>some (.ty n)|_=>none
def aH.abs{x:V}(r:aH x u):C6 u=some x:=by cases x with|non|bl _=>cases r;rfl|int _|str _|byt _|flt _=>exists t,rfl,r;rfl|ref _|ty _=>cases r;rfl
def aH.inj{x y:V}(r:aH x u)(q:aH y u):x=y:=jw (r.abs.symm.trans q.abs)
theorem aO.inj:∀{U ys:List V}{us:List ba},aO U us->aO ys us->U=ys|_,_,_,.nil,.nil=>rfl|_,_,_,.cons r t,.cons R t'=>by rw[r.inj R,aO.inj t t']
section
variable{σ:St}{a:Addr}
def dz.of{K:Fg}(h:H a=some (.lst U)):dz K H a U:=.inl (.inl h)
def d3.of{K:Fg}(h:H a=some (.tup U)):d3 K H a U:=.inl (.inl h)
theorem Inv.list(I:Inv X aA σ H s)(h:dz X.K H a U):∃its:List ba,aO U its/\PlainL s.heap a its.toArray/\U.length<=sizeLine:=by rcases h with h|⟨o,its,n,hk,hc,hd,hs,hz,r⟩;{exists z,its,n,r,e,h.ok I.hok;exact#[its,r,#[_,n,e,rfl,rfl,rfl],z]};refine#[its.toList,r,#[o,n,I.kIn a o hk,hc,hd,by simpa using hs],?_];have e:=r.length;simp only[lB]at e;lia
theorem Inv.tuple(I:Inv X aA σ H s)(h:d3 X.K H a U):∃its:List ba,aO U its/\IsTup s.heap a its.toArray/\U.length<=sizeLine:=by rcases h with h|⟨o,its,n,hk,hc,hdt,hs,hz,r⟩;{exists z,its,r,p,h.ok I.hok;exact#[its,r,p.isTup,z]};refine#[its.toList,r,#[o,I.kIn a o hk,hc,n,by simpa using hs],?_];have e:=r.length;simp only[lB]at e;lia
def Inv.list_inj(I:Inv X aA σ H s)(h:dz X.K H a U)(h':dz X.K H a ys):U=ys:=by obtain⟨its,r,⟨o,n,e,_,_,d⟩,_⟩:=I.list h;obtain⟨f,R,⟨O,N,E,_,_,D⟩,_⟩:=I.list h';rw[e]at E;cases E;rw[d]at D;injection D with g _;(have:its=f:=by simpa using congrArg Array.toList g);subst this;exact r.inj R
def Inv.tuple_inj(I:Inv X aA σ H s)(h:d3 X.K H a U)(h':d3 X.K H a ys):U=ys:=by obtain⟨its,r,⟨o,e,_,n,d⟩,_⟩:=I.tuple h;obtain⟨f,R,⟨O,E,_,N,D⟩,_⟩:=I.tuple h';rw[e]at E;cases E;rw[d]at D;injection D with g _;(have:its=f:=by simpa using congrArg Array.toList g);subst this;exact r.inj R
end
abbrev Cx.wish(X:Cx)(E:dc):Cx:={X with xe:=E}
section
variable{rest:List Stmt}{t u:TS}
def uz:TS:=λD σ H=>D.nx σ H
def u1(t u:TS):TS:=λD σ H=>t {D with nx:=u D} σ H
def MV:ie X [] uz:=λ_ _ σ H _ I h=>AT #[σ,H,I,h]
def tO(g:PS X st t)(d:ie X rest u):ie X (st::rest) (u1 t u):=by intro aA s σ H D I h;refine wpAny_execs_cons (thn (g aA s σ H {D with nx:=u D} I h) λf S q=>?_);cases f with|next=>exists a,H',m,q,q;exact d aA S a H' D m q|ret v|brk|cont=>exact q
def tP(a:PS X st t):ie X [st] t:=by intro aA s σ H D I h;refine wpAny_execs_cons (thn (a aA s σ H D I h) λf S q=>?_);cases f with|next=>exact AT q|ret v|brk|cont=>exact q
def Inv.quiet{σ:St}(I:Inv X aA σ H s):interactive X.env=false:=by simp[interactive,I.ok.kind]
def tQ(te:TE):TS:=λD σ H=>te σ H λ_ H1=>D.nx σ H1
def pE(a:PE X e te)(hs:swapsWith e none pos.line X.env=pure false:=by rfl):PS X (.Expr e pos) (tQ te):=by intro aA s σ H D I h;exact wpAny_Expr_any (thn (a aA s σ H _ I h) λv S ⟨x,H1,d,r,q1⟩=>#[σ,H1,d,q1]) I.quiet hs
def C7(te:TE):TS:=λD σ H=>te σ H D.rt
def yS(a:PE X e te):PS X (.Return (some e) pos) (C7 te):=by intro aA s σ H D I h;exact wpAny_Return_some (thn (a aA s σ H _ I h) λv S ⟨x,H1,d,r,q1⟩=>#[x,σ,H1,d,r,q1])
def C8(c:TT)(t u:TS):TS:=λD σ H=>c σ H λb H1=>if b=true then t D σ H1 else u D σ H1
def yT{a b:List Stmt}{T:TT}(g:PT X c T)(ha:ie X a t)(m:ie X b u):PS X (.If c a b pos) (C8 T t u):=by intro aA s σ H D I h;refine wpAny_If (thn (g aA s σ H _ I h) λd S ⟨H1,f,q1⟩=>?_);cases d with|true=>exact ha aA S σ H1 D f q1|false=>exact m aA S σ H1 D f q1
end
abbrev TG:=V->St->Hp->(St->Hp->Prop)->Prop
abbrev ng:=List V->St->Hp->(St->Hp->Prop)->Prop
def PG(X:Cx)(T:Expr)(t:TG):Prop :=
 ∀(aA:eh) (s:bz) (σ:St) (H:Hp) (v:V) (u:ba) (Q:St->Hp->Prop),Inv X aA σ H s->aH v u->t v σ H Q ->
  wpAny (model X.prog X.w) X.A (assign T X.env u) (λ_ s'=>∃a H',Inv X aA a H' s'/\Q a H') X.xe s
def th(X:Cx)(ts:List Expr)(t:ng):Prop :=
 ∀(aA:eh) (s:bz) (σ:St) (H:Hp) (vs:List V) (us:List ba) (Q:St->Hp->Prop),Inv X aA σ H s->aO vs us->t vs σ H Q ->
  wpAny (model X.prog X.w) X.A (assignInOrder ((assignEach ts X.env).map (·.2)) us) (λ_ s'=>∃a H',Inv X aA a H' s'/\Q a H') X.xe s
abbrev C9:=V->V->V->Hp->(Hp->Prop)->Prop
def Db(X:Cx)(t:C9):Prop :=
 ∀(aA:eh) (s:bz) (σ:St) (H:Hp) (o i v:V) (O a u:ba) (Q:Hp->Prop),Inv X aA σ H s->aH o O->aH i a->aH v u->t o i v H Q ->
  wpAny (model X.prog X.w) X.A (setItem O a u) (λ_ s'=>∃H',Inv X aA σ H' s'/\Q H') X.xe s
def nK(i:Nat):TG:=λv σ H Q=>Q (σ.set i (some v)) H
def MW(hN:X.N.Nodup)(hi:X.N[i]? = some x)(hx:Loc X.env.scope x)(hf:X.fn x=true\/X.env.scope.names.lookup x=some .local:=by first|exact .inl rfl|exact .inr rfl|assumption):PG X (.Name x pos) (nK i):=by intro aA s σ H v u Q I r h;exact wpAny_assign_Name (yP I hN hi hx r (λs' a=>#[_,H,a,h]) hf)
def u2:ng:=λvs σ H Q=>vs=[]/\Q σ H
def yU(t:TG)(u:ng):ng:=λvs σ H Q=>∃v r,vs=v::r/\t v σ H λa H'=>u r a H' Q
def MX:th X [] u2:=by intro aA s σ H vs us Q I r h;exists e,h,h;subst e;cases r;exact assignInOrder_nil #[σ,H,I,h]
def MY{es:List Expr}{t:TG}{u:ng}(f:PG X e t)(d:th X es u)(hs:(assignEach (e::es) X.env).map (·.2)=assign e X.env::(assignEach es X.env).map (·.2):=by rfl):th X (e::es) (yU t u):=by intro aA s σ H vs us Q I r h;exists v,V,E,h,h;subst E;cases r with|cons r R=>rw[hs];refine assignInOrder_cons (thn (f aA s σ H _ _ _ I r h) λ_ S ⟨a,H1,g,q1⟩=>?_);exact d aA S a H1 _ _ Q g R q1
def Dc(K:Fg)(n:Nat)(t:ng):TG:=λv σ H Q=>∃a U,v=.ref a/\d3 K H a U/\U.length=n/\t U σ H Q
def MZ{es:List Expr}{t:ng}(A:X.calm=true)(h:th X es t)(hn:(assignEach es X.env).length=n:=by rfl)(f:(assignEach es X.env).findIdx? (·.1)=none:=by rfl):PG X (.Tuple es k pos) (Dc X.K n t):=by intro aA s σ H v u Q I r d;exists a,U,E,m,y,d,d;subst E;cases r;exists its,R,g,C,I.tuple m;refine assign_Tuple_tuple (I.ok.hd A) g (by simp[hn,<- y,R.length]) f λh' hx=>?_;have B:Inv X aA σ H {s with heap:=h'}:=I.kept (t':=s.toks) λb o e=>hx b o (gx (dy e)) e;exact h aA _ σ H U _ Q B (by simpa using R) d
def nL(te:TE)(g:TG):TS:=λD σ H=>te σ H λx H1=>g x σ H1 D.nx
def M0{g:TG}(f:PE X e te)(d:PG X tg g)(hs:swapsWithSole [tg] e pos.line X.env=pure false:=by rfl)(a:swappedStores [tg] e X.env=pure none:=by rfl)(m:(assignEach [tg] X.env).map (·.2)=[assign tg X.env]:=by rfl):PS X (.Assign [tg] e pos) (nL te g):=by intro aA s σ H D I h;refine wpAny_Assign_stores (thn (f aA s σ H _ I h) λv S ⟨x,H1,o,r,q1⟩=>?_) hs a;rw[m];exact thn (d aA S σ H1 x v _ o r q1) λ_ t q=>q
def yV(hN:X.N.Nodup)(hi:X.N[i]? = some x)(hx:Loc X.env.scope x)(a:PE X e te)(hs:swapsWith e (some (.Name x pos')) pos.line X.env=pure false:=by rfl)(hf:X.fn x=true\/X.env.scope.names.lookup x=some .local:=by first|exact .inl rfl|exact .inr rfl|assumption):PS X (.Assign [.Name x pos'] e pos) (nL te (nK i)):=by intro aA s σ H D I h;refine wpAny_Assign_Name (thn (a aA s σ H _ I h) λv g ⟨y,H1,f,r,q1⟩=>?_) hs;exact yP f hN hi hx r (λS d=>#[_,H1,d,q1]) hf
def M3(c:TT)(tb:TS):TS:=λD σ H=>∃W:Nat->St->Hp->Prop,(∃m,W m σ H)/\∀m σ H,W m σ H ->
 c σ H λb H1=>if b=true then ∃N:St->Hp->Prop,(∀a H',N a H'->∃M,M<m/\W M a H')/\tb {D with nx:=N,ct:=N,bk:=D.nx} σ H1 else D.nx σ H1
def M4{t:TT}{tb:TS}(hp:PassesOwn (model X.prog X.w) X.A X.env X.xe)(G:PT X c t)(J:ie X body tb):PS X (.While c body [] pos) (M3 t tb):=by
 intro aA s σ H D I h;obtain⟨W,⟨M,C⟩,turn⟩:=h;refine wpAny_While (codeAny_whileLoop (λn s'=>∃d H',Inv X aA d H' s'/\W n d H') ?_ M #[σ,H,I,C]);rintro n s1 ⟨σ1,H1,I1,w1⟩;refine pz hp (thn (G aA s1 σ1 H1 _ I1 (turn n σ1 H1 w1)) λb S ⟨y,o,g⟩=>?_);cases b with
 |true=>exists N,hN,g,g;rw[al rfl];refine pz hp (thn (J aA S σ1 y _ o g) λf L m=>?_);cases f with|next|cont=>exists a,r,K,n3,m;exists E,F,B,hN a r n3;exact#[E,F,a,r,K,B]|brk|ret v=>exact m
 |false=>rw[a0 fq];exact AT #[σ1,y,o,g]
structure It where
 go:Nat->Hp->Prop
 yld:Nat->Hp->V->Hp->Prop
 stop:Nat->Hp->Prop
def c9(X:Cx)(aA:eh)(H:Hp)(b:Addr):Prop :=
 H b=none/\b≠X.env.locals/\b∉X.fs/\(b∈X.ex\/X.s₀.heap.objs.size<=b)/\(∀x c,X.env.cells.lookup x=some c->c≠b)/\∀p∈X.pn++aA,p.1≠b
def Inv.fpOk{σ:St}(I:Inv X aA σ H s)(a:s.heap.objs.size<=b)(hn:H' b=none):c9 X aA H' b:=by refine#[hn,p7 (gq I.lt a),I.nofs a,.inr (ir I.sz a),λx c e z=>?_,λp hp z=>?_];{exists v,q,I.cell x c e;exact absurd (gq q.lt (by rw[z];exact a)) (ky _)};exact absurd (gq (dy (I.pin p hp).1) (by rw[z];exact a)) (ky _)
structure gY(P:e7)(w:cw)(K:Fg)(tg:Expr)(J:It)(fp:List Addr)(it:Addr)(tn:Nat->Heap->Prop):Prop where
 mem:it∈fp
 obj:∀i h,tn i h->∀b∈fp,∃o,h.get? b=some o/\∀v,o.data ≠ .cell v
 keep:∀i h h',tn i h->(∀b∈fp,∀o,h.get? b=some o->h'.get? b=some o)->tn i h'
 item:∀(X:Cx),X.prog=P->X.w=w->X.K=K->X.calm=true->∀(i:Nat) (aA:eh) (s:bz) (σ:St) (H:Hp) (E:dc),Inv X aA σ H s->(∀b∈fp,c9 X aA H b)->tn i s.heap->J.go i H ->
  wpAny (model P w) X.A (pyNext (.ref it)) (λr s1=>∃u,r=some u /\
   wpAny (model P w) X.A (letOwnedTupleGo tg (.ref it) u) (λ_ s2=>∃x H',Inv X aA σ H' s2/\aH x u/\J.yld i H x H'/\tn (i+1) s2.heap/\∀b∈fp,H' b=none) E s1) E s
 done:∀(X:Cx),X.prog=P->X.w=w->X.K=K->X.calm=true->∀(i:Nat) (aA:eh) (s:bz) (σ:St) (H:Hp) (E:dc),Inv X aA σ H s->(∀b∈fp,c9 X aA H b)->tn i s.heap->J.stop i H ->
  wpAny (model P w) X.A (pyNext (.ref it)) (λr s1=>r=none/\Inv X aA σ H s1) E s
 self:∀(A:di) (i:Nat) (s:bz) (Q:dc) (E:dc),tn i s.heap->Q (.ref it) s->wpAny (model P w) A (pyIter (.ref it)) Q E s
abbrev TI:=St->Hp->(It->Hp->Prop)->Prop
def u3(X:Cx)(aA:eh)(σ:St)(tg:Expr)(R:It->Hp->Prop)(a:ba)(S:bz):Prop :=
 ∃(it:Addr) (fp:List Addr) (tn:Nat->Heap->Prop) (J:It) (H':Hp),a=.ref it/\Inv X aA σ H' S/\gY X.prog X.w X.K tg J fp it tn/\tn 0 S.heap/\(∀b∈fp,c9 X aA H' b)/\R J H'
def PI(X:Cx)(tg iter:Expr)(W:TI):Prop :=
 ∀(aA:eh) (s:bz) (σ:St) (H:Hp) (R:It->Hp->Prop),Inv X aA σ H s->W σ H R ->
  wpAny (model X.prog X.w) X.A (eval iter X.env) (λv S=>wpAny (model X.prog X.w) X.A (pyIter v) (u3 X aA σ tg R) X.xe S) X.xe s
def lH{M:Model}{A:di}{E:dc}{o:Obj}{n:String}{vs:Array ba}{Q:Unit->bz->Prop}(ho:s.heap.get? it=some o)(d:o.cls=.type n)(hd:o.data=.fields vs)(hn:["enumerate","zip","dict_itemiterator","dict_reverseitemiterator","odict_iterator","itertools.zip_longest","itertools.pairwise"].contains n=false)(a:Q () s):wpAny M A (letOwnedTupleGo tg (.ref it) u) Q E s:=by
 unfold letOwnedTupleGo;cases tg <;> first
  |exact ci a
  | (cases u <;> first
      |exact ci a
      | (refine bp (wpAny_load ho ?_)
         rw[d,hd];show wpAny M A (if(["enumerate","zip","dict_itemiterator","dict_reverseitemiterator","odict_iterator","itertools.zip_longest","itertools.pairwise"].contains n&&vs[0]?==some (rawInt _))=true then _ else _) Q E s;rw[a0 (by intro h;rw[hn,Bool.false_and]at h;cases h)]
         exact ci a))
def EY(K:Fg)(a:Addr):It :=
 #[λi H=>∃U x,dz K H a U/\U[i]? = some x,λi H x H'=>H'=H/\∀U,dz K H a U->U[i]? = some x,λi H=>∃U,dz K H a U/\U.length<=i]
def Dd(K:Fg)(a:Addr):It :=
 #[λi H=>∃U x,d3 K H a U/\U[i]? = some x,λi H x H'=>H'=H/\∀U,d3 K H a U->U[i]? = some x,λi H=>∃U,d3 K H a U/\U.length<=i]
def ti(lo:Int)(n:Nat):It:=#[λi _=>i<n,λi H x H'=>H'=H/\x=.int (lo+i),λi _=>n<=i]
end L2
variable{wi:L2.TI}{gt:L2.TG}
namespace L2
theorem M5{K:Fg}(a it:Addr):gY P w K tg (EY K a) [it] it (λi h=>h.IsListIter it a i) where
 mem:=by simp
 obj:=λi h st b f=>by(have e:b=it:=by simpa using f);subst e;exists o,e,c,d,st;exact#[o,e,λv z=>by rw[d]at z;cases z]
 keep:=λi h h' st k=>st.at λo e=>k it (by simp) o e
 item:=by intro X t m y B i aA s σ H E I hf st hg;subst t m y;exists U,x,g,hx,hg;exists its,r,p,D,I.list g;exists u,J,R,r.get hx;exists f0,f1,f2,f3,A,F,hf it (by simp);refine wpAny_pyNext_list_item st p.isList (x:=u) (by simpa using J) λh' S C=>?_;have M:Inv X aA σ H {s with heap:=h'}:=I.turned (t':=s.toks) (λb o f e=>(C.2 b f).trans e) f0 f1 f3 A F;exists o,e,c,d,id S;exact#[u,rfl,lH (s:={s with heap:=h'}) e c d (by decide) #[x,H,M,R,#[rfl,λys G=>by rw[I.list_inj G g];exact hx],S,λb f=>(hf b f).1]]
 done:=by intro X t m y B i aA s σ H E I hf st hg;subst t m y;exists U,g,hx,hg;exists its,r,p,D,I.list g;exists f0,f1,f2,f3,A,F,hf it (by simp);have N:=r.length;exact wpAny_pyNext_list_end (I.ok.hd B) st p.isList (by simp;lia) λh' L=>#[rfl,I.turned (t':=s.toks) (λb o f e=>L b o f e) f0 f1 f3 A F]
 self:=λ_ _ _ _ _ st h=>wpAny_pyIter_listiter st h
theorem M6{K:Fg}(a it:Addr):gY P w K tg (Dd K a) [it] it (λi h=>h.IsTupleIter it a i) where
 mem:=by simp
 obj:=λi h st b f=>by(have e:b=it:=by simpa using f);subst e;exists o,e,c,d,st;exact#[o,e,λv z=>by rw[d]at z;cases z]
 keep:=λi h h' st k=>st.at λo e=>k it (by simp) o e
 item:=by intro X t m y B i aA s σ H E I hf st hg;subst t m y;exists U,x,g,hx,hg;exists its,r,p,D,I.tuple g;exists u,J,R,r.get hx;exists f0,f1,f2,f3,A,F,hf it (by simp);refine wpAny_pyNext_tuple_item st (show s.heap.IsTuple a its.toArray from p) (x:=u) (by simpa using J) λh' S C=>?_;have M:Inv X aA σ H {s with heap:=h'}:=I.turned (t':=s.toks) (λb o f e=>(C.2 b f).trans e) f0 f1 f3 A F;exists o,e,c,d,id S;exact#[u,rfl,lH (s:={s with heap:=h'}) e c d (by decide) #[x,H,M,R,#[rfl,λys G=>by rw[I.tuple_inj G g];exact hx],S,λb f=>(hf b f).1]]
 done:=by intro X t m y B i aA s σ H E I hf st hg;subst t m y;exists U,g,hx,hg;exists its,r,p,D,I.tuple g;exists f0,f1,f2,f3,A,F,hf it (by simp);have N:=r.length;exact wpAny_pyNext_tuple_end (I.ok.hd B) st (show s.heap.IsTuple a its.toArray from p) (by simp;lia) λh' L=>#[rfl,I.turned (t':=s.toks) (λb o f e=>L b o f e) f0 f1 f3 A F]
 self:=λ_ _ _ _ _ st h=>wpAny_pyIter_tupleiter st h
theorem M7{K:Fg}(it:Addr)(lo:Int)(n:Nat):gY P w K tg (ti lo n) [it] it (λi h=>IsRangeIter h it (lo+(i:Nat) * 1) ((n:Int)-(i:Nat)) 1) where
 mem:=by simp
 obj:=λi h st b a=>by
  have e:b=it:=by simpa using a
  subst e;exact#[_,st,λv z=>by
   have Z:Data.fields _=Data.cell v:=z;cases Z]
 keep:=λi h h' st k=>k it (by simp) _ st
 item:=by intro X g d m f i aA s σ H E I hf st hg;subst g d m;exists f0,f1,f2,f3,r,F,hf it (by simp);have W:=Walks.range (prog:=X.prog) (w:=X.w) (I.ok.hd f) it lo 1 n;refine W.item i s _ _ hg st λv h' tk y S kk=>?_;exists t,rfl,y;have B:Inv X aA σ H {s with heap:=h',toks:=tk}:=I.turned (λb o a e=>kk b o (by simpa using a) e) f0 f1 f3 r F;refine#[_,rfl,lH (s:={s with heap:=h',toks:=tk}) (n:="range_iterator") S rfl rfl (by decide) #[.int (lo+i),H,B,#[t,?_],#[rfl,rfl],S,λb a=>(hf b a).1]];rw[Int.mul_one]
 done:=by intro X g d m f i aA s σ H E I hf st hg;subst g d m;exists f0,f1,f2,f3,r,F,hf it (by simp);exact wpAny_pyNext_range_end (I.ok.hd f) st (by have:n<=i:=hg;lia) λh' A=>#[rfl,I.turned (t':=s.toks) (λb o a e=>A b o a e) f0 f1 f3 r F]
 self:=λ_ _ _ _ _ st h=>wpAny_pyIter_rangeiter st h
def tR(K:Fg)(tl:TE):TI:=λσ H R=>tl σ H λx H1=>∃a,x=.ref a/\(∃U,dz K H1 a U)/\R (EY K a) H1
def va(K:Fg)(tl:TE):TI:=λσ H R=>tl σ H λx H1=>∃a,x=.ref a/\(∃U,d3 K H1 a U)/\R (Dd K a) H1
def M8{l:Expr}(g:PE X l tl):PI X tg l (tR X.K tl):=by(intro aA s σ H R I h;refine thn (g aA s σ H _ I h) λv S ⟨x,H1,d,r,q1⟩=>?_;obtain⟨a,e,⟨U,f⟩,q⟩:=q1;subst e;cases r;exists its,t,p,y,d.list f;refine wpAny_pyIter_list p.isList ?_;refine#[S.heap.objs.size,[S.heap.objs.size],_,_,H1,rfl,d.kept (t':=S.toks) λb o e=>hps e,M5 a _,#[_,fo _ rfl,rfl,rfl],λb m=>?_,q];have e:b=S.heap.objs.size:=by simpa using m);subst e;exact d.fpOk (dg _) (d.hok.fresh (dg _))
def M9{l:Expr}(g:PE X l tl):PI X tg l (va X.K tl):=by intro aA s σ H R I h;refine thn (g aA s σ H _ I h) λv S ⟨x,H1,d,r,q1⟩=>?_;obtain⟨a,e,⟨U,f⟩,q⟩:=q1;subst e;cases r;exists its,t,p,y,d.tuple f;refine AU (show S.heap.IsTuple a its.toArray from p) ?_;(refine#[S.heap.objs.size,[S.heap.objs.size],_,_,H1,rfl,d.kept (t':=S.toks) λb o e=>hps e,M6 a _,#[_,fo _ rfl,rfl,rfl],λb m=>?_,q];have e:b=S.heap.objs.size:=by simpa using m);subst e;exact d.fpOk (dg _) (d.hok.fresh (dg _))
theorem Na{σ:St}{R:It->Hp->Prop}{E:dc}{lo hi:Int}{t u v:Tok}{tk:Nat}(I:Inv X aA σ H s)(r:-(2 ^ 62)<=lo)(m:lo<2 ^ 62)(g:-(2 ^ 62)<=hi)(f:hi<2 ^ 62)(q:R (ti lo (hi-lo).toNat) H):wpAny (model X.prog X.w) X.A (pyIter (.ref s.heap.objs.size)) (u3 X aA σ tg R) E { s with heap:=s.heap.push { cls:=.type "range",data:=.fields (List.toArray [.int lo t,.int hi u,.int 1 v]) },toks:=tk }:=by
 refine wpAny_pyIter_range (IsRange.new ..) (small_one r m g f) ?_;have a:Inv X aA σ H { s with heap:=s.heap.push { cls:=.type "range",data:=.fields (List.toArray [.int lo t,.int hi u,.int 1 v]) },toks:=tk }:=I.kept λb o e=>hps e
 refine#[(s.heap.push { cls:=.type "range",data:=.fields (List.toArray [.int lo t,.int hi u,.int 1 v]) }).objs.size,[(s.heap.push { cls:=.type "range",data:=.fields (List.toArray [.int lo t,.int hi u,.int 1 v]) }).objs.size],_,_,H,rfl,
  a.kept (t':=tk) λb o e=>hps e,M7 _ lo (hi-lo).toNat,?_,λb d=>?_,q]
 . (have B:lo+((0:Nat):Int) * 1=lo:=by simp);(have y:(((hi-lo).toNat:Nat):Int)-((0:Nat):Int)=Builtin.Range.rangeSize lo hi 1:=by rw[rangeSize_one];split <;> lia);show IsRangeIter _ _ (lo+((0:Nat):Int) * 1) ((((hi-lo).toNat:Nat):Int)-((0:Nat):Int)) 1;rw[B,y];exact fo _ rfl
 . (have e:b=(s.heap.push { cls:=.type "range",data:=.fields (List.toArray [.int lo t,.int hi u,.int 1 v]) }).objs.size:=by simpa using d);subst e;exact a.fpOk (dg _) (a.hok.fresh (dg _))
def yW(ta:TA):TI:=λσ H R=>ta σ H λvs H1=>∃j:Int,vs=[.int j] /\ -(2 ^ 62)<=j/\j<2 ^ 62/\R (ti 0 j.toNat) H1
theorem Nb{a:Expr}{ta:TA}(o:Gl X "range")(m:X.mg "range"=none)(ha:PA X [a] ta)(hs:starEach [a] X.env=[(false,eval a X.env)]:=by rfl):PI X tg (.Call (.Name "range" p) [a] [] pos) (yW ta):=by intro aA s σ H R I h;refine Call_ (jY I o m boot_range (AV (thn (ha pos aA s σ H _ I h) λus S ⟨vs,H1,y,f,q1⟩=>?_) hs rfl));exists j,e,q1,g,q,q1;subst e;cases f with|cons r d=>cases d;exists t,rfl,r;exact call_range_1 (Na y (by lia) (by lia) q1 g (by simpa using q))
def tU(wi:TI)(g:TG)(tb:TS):TS:=λD σ H=>wi σ H λJ H1=>∃W:Nat->Nat->St->Hp->Prop,(∃m,W 0 m σ H1)/\∀i m σ H,W i m σ H ->
 (J.stop i H/\D.nx σ H)\/(J.go i H/\∃N:St->Hp->Prop,(∀a H',N a H'->∃M,M<m/\W (i+1) M a H')/\∀x H',J.yld i H x H'->g x σ H' λd f=>tb {D with nx:=N,ct:=N,bk:=D.nx} d f)
def nM(fp:List Addr)(h:Heap):eh:=fp.filterMap λb=>(h.get? b).map λo=>(b,o)
def tV{o:Obj}(a:b∈fp)(e:h.get? b=some o):(b,o)∈nM fp h:=Ce.mpr #[b,a,by rw[e];rfl]
def Nc{p:Addr×Obj}(hp:p∈nM fp h):p.1∈fp/\h.get? p.1=some p.2:=by exists b,a,e,Ce.mp hp;cases q:h.get? b with|none=>rw[q]at e;cases e|some o=>rw[q]at e;have E:(b,o)=p:=jw e;subst E;exact#[a,q]
def Inv.pinned{σ:St}(I:Inv X aA σ H s)(hf:∀b∈fp,c9 X aA H b)(ho:∀b∈fp,∃o,s.heap.get? b=some o/\∀v,o.data ≠ .cell v):Inv X (aA++nM fp s.heap) σ H s :=
 I.pins_of λp hp=>(ii.mp hp).elim (λz=>I.pin p (iu _ z)) λz=>by exists a,e,Nc z;exists f0,f1,f2,_,hf p.1 a;exists o,E,d,ho p.1 a;rw[e]at E;cases E;exact#[e,f0,f1,f2,d]
def Inv.unpinned{pl:eh}{σ:St}(I:Inv X (aA++pl) σ H s):Inv X aA σ H s:=I.pins_of λp hp=>I.pin p (iu _ (oq _ hp))
def yX{g:TG}{tb:TS}(hp:PassesOwn (model X.prog X.w) X.A X.env X.xe)(Y:X.calm=true)(hi:PI X tg iter wi)(hg:PG X tg g)(t:ie X body tb)(hs:∀x,foldedSetIterable iter X.env x=pure x:=by intro _;rfl):PS X (.For tg iter body [] pos) (tU wi g tb):=by intro aA s σ H D I h;refine wpAny_For (thn (hi aA s σ H _ I h) λv s1 h1=>thn h1 λaa s2 h2=>?_) hs;obtain⟨it,fp,tn,J,H2,e,I2,T,G,f2,W,⟨m0,w0⟩,turn⟩:=h2;subst e;have S:∀{H':Hp},(∀b∈fp,H' b=none)->∀b∈fp,c9 X aA H' b:=λhn b t=>#[hn b t,(f2 b t).2];refine codeAny_forLoop_any (λn s'=>∃i σ' H',Inv X aA σ' H' s'/\tn i s'.heap/\(∀b∈fp,H' b=none)/\W i n σ' H') ?_ m0 #[0,σ,H2,I2,G,λb t=>(f2 b t).1,w0];rintro n s3 ⟨i,σ3,H3,I3,st3,fr3,w3⟩;rcases turn i n σ3 H3 w3 with⟨stop,qn⟩|⟨go,N,hN,step⟩;{refine pz hp (thn (T.done X rfl rfl rfl Y i aA s3 σ3 H3 X.xe I3 (S fr3) st3 stop) λr s4 ⟨M,I4⟩=>?_);subst M;exact AT #[σ3,H3,I4,qn]};refine pz hp (thn (T.item X rfl rfl rfl Y i aA s3 σ3 H3 X.xe I3 (S fr3) st3 go) λr s4 ⟨u,M,h4⟩=>?_);subst M;refine pz hp (thn h4 λ_ V ⟨x,Z,I5,r5,y5,C,O⟩=>?_);have R:=I5.pinned (S O) (T.obj _ _ C);refine pz hp (thn (hg _ V σ3 Z x u _ R r5 (step x Z y5)) λ_ s6 ⟨F,H6,I6,q6⟩=>?_);refine pz hp (thn (t _ s6 F H6 _ I6 q6) λf K E=>?_);(have again:∀{a:St}{y:Hp},Inv X (aA++nM fp V.heap) a y K->N a y->∃m,m<n/\∃i σ' H',Inv X aA σ' H' K/\tn i K.heap/\(∀b∈fp,H' b=none)/\W i m σ' H':=λ{a y} B L=>by exists m',hm,w7,hN a y L;refine#[m',hm,i+1,a,y,B.unpinned,T.keep _ _ _ C λb t o e=>(B.pin (b,o) (iu _ (iu _ (tV t e)))).1,λb t=>?_,w7];exists o,e,d,T.obj _ _ C b t;exact(B.pin (b,o) (iu _ (iu _ (tV t e)))).2.1);cases f with|next|cont=>exists a,y,B,L,E;exact again B L|brk=>exists a,y,B,E,E;exact#[a,y,B.unpinned,E]|ret v=>exists x7,a,y,B,r7,E,E;exact#[x7,a,y,B.unpinned,r7,E]
abbrev R2:=V->V->Hp->VK->Prop
def fw(X:Cx)(f:ba->ba->Sem ba)(r:R2):Prop :=
 ∀(aA:eh) (s:bz) (σ:St) (H:Hp) (x y:V) (v u:ba) (Q:VK),Inv X aA σ H s->aH x v->aH y u->r x y H Q ->
  wpAny (model X.prog X.w) X.A (f v u) (EP X aA σ Q) X.xe s
def De(X:Cx)(f:ba->Sem ba)(r:V->Hp->VK->Prop):Prop :=
 ∀(aA:eh) (s:bz) (σ:St) (H:Hp) (x:V) (v:ba) (Q:VK),Inv X aA σ H s->aH x v->r x H Q ->
  wpAny (model X.prog X.w) X.A (f v) (EP X aA σ Q) X.xe s
def fE(X:Cx)(f:ba)(r:List V->Hp->VK->Prop):Prop :=
 ∀(aA:eh) (s:bz) (σ:St) (H:Hp) (U:List V) (us:List ba) (Q:VK),Inv X aA σ H s->aO U us->r U H Q ->
  wpAny (model X.prog X.w) X.A (call f us) (EP X aA σ Q) X.xe s
def Df(X:Cx)(r:V->Hp->(Bool->Hp->Prop)->Prop):Prop :=
 ∀(aA:eh) (s:bz) (σ:St) (H:Hp) (x:V) (v:ba) (Q:Bool->Hp->Prop),Inv X aA σ H s->aH x v->r x H Q ->
  wpAny (model X.prog X.w) X.A (truthy v) (TP X aA σ Q) X.xe s
def tj(r:R2)(ta tb:TE):TE:=λσ H Q=>ta σ H λx H1=>tb σ H1 λy a=>r x y a Q
def EZ(r:V->Hp->VK->Prop)(ta:TE):TE:=λσ H Q=>ta σ H λx H1=>r x H1 Q
def rI(C:Int->Int->Prop)(g:Int->Int->V):R2:=λx y H Q=>∃i j,x=.int i/\y=.int j/\C i j/\Q (g i j) H
def ny(g:Int->Int->V):R2:=λx y H Q=>∃i j,x=.int i/\y=.int j/\Q (g i j) H
def rU(g:Int->V):V->Hp->VK->Prop:=λx H Q=>∃i,x=.int i/\Q (g i) H
section
variable{a b:Expr}{tb:TE}
def tW(ha:PE X a ta)(C:PE X b tb){σ:St}{R:V->V->Hp->Prop}(I:Inv X aA σ H s)(h:ta σ H λx H1=>tb σ H1 λy d=>R x y d){f:ba->ba->Sem ba}(hf:∀v u m x y d,Inv X aA σ d m->aH x v->aH y u->R x y d->wpAny (model X.prog X.w) X.A (f v u) Q X.xe m):wpAny (model X.prog X.w) X.A (eval a X.env) (λv g=>wpAny (model X.prog X.w) X.A (eval b X.env) (λu S=>wpAny (model X.prog X.w) X.A (f v u) Q X.xe S) X.xe g) X.xe s:=by refine thn (ha aA s σ H _ I h) λv o ⟨x,H1,E,t,q1⟩=>?_;refine thn (C aA o σ H1 _ E q1) λu m ⟨y,d,D,r,B⟩=>?_;exact hf v u m x y d D t r B
def vb{op:Operator}{r:R2}(ho:fw X (binaryOp op) r)(ha:PE X a ta)(f:PE X b tb):PE X (.BinOp a op b pos) (tj r ta tb):=by intro aA s σ H Q I h;exact wpAny_BinOp (tW ha f I h λv u S x y m g d R q=>ho aA S σ m x y v u Q g d R q)
def vc{op:UnaryOp}{r:V->Hp->VK->Prop}(ho:De X (unaryOp op) r)(ha:PE X a ta):PE X (.UnaryOp op a pos) (EZ r ta):=by intro aA s σ H Q I h;exact UnaryOp_ (thn (ha aA s σ H _ I h) λv S ⟨x,H1,d,R,q1⟩=>ho aA S σ H1 x v Q d R q1)
def BA{f:ba->ba->Sem ba}{C:Int->Int->Prop}{g:Int->Int->Int}(rule:∀(i j:Int) (t u:Tok) (s:bz) (Q:dc) (E:dc),C i j->Q (.int (g i j) s.toks) {s with toks:=s.toks+1} -> wpAny (model X.prog X.w) X.A (f (.int i t) (.int j u)) Q E s):fw X f (rI C λi j=>.int (g i j)):=by intro aA s σ H x y v u Q I rx ry h;exists i,j,rfl,rfl,d,q,h;exists t,rfl,rx;exists t',rfl,ry;exact rule i j t t' s _ _ d #[.int (g i j),H,I.tok _,#[_,rfl],q]
def vd{f:ba->ba->Sem ba}{g:Int->Int->Int}(rule:∀(i j:Int) (t u:Tok) (s:bz) (Q:dc) (E:dc),Q (.int (g i j) s.toks) {s with toks:=s.toks+1} -> wpAny (model X.prog X.w) X.A (f (.int i t) (.int j u)) Q E s):fw X f (ny λi j=>.int (g i j)):=by intro aA s σ H x y v u Q I rx ry h;exists i,j,rfl,rfl,q,h;exists t,rfl,rx;exists t',rfl,ry;exact rule i j t t' s _ _ #[.int (g i j),H,I.tok _,#[_,rfl],q]
def pF{f:ba->ba->Sem ba}{g:Int->Int->Bool}(rule:∀(i j:Int) (t u:Tok) (s:bz) (Q:dc) (E:dc),Q (.bool (g i j)) s->wpAny (model X.prog X.w) X.A (f (.int i t) (.int j u)) Q E s):fw X f (ny λi j=>.bl (g i j)):=by intro aA s σ H x y v u Q I rx ry h;exists i,j,rfl,rfl,q,h;exists t,rfl,rx;exists t',rfl,ry;exact rule i j t t' s _ _ #[.bl (g i j),H,I,rfl,q]
def Dg(i j:Int):Prop:=0<=j/\j<=1000000/\i.natAbs<2 ^ 64
def Nd:fw X (binaryOp .Add) (ny λi j=>.int (i+j)):=vd λ_ _ _ _ _ _ _ q=>add_int q
def Nf:fw X (binaryOp .Sub) (ny λi j=>.int (i-j)):=vd λ_ _ _ _ _ _ _ q=>sub_int q
theorem Ng:fw X (binaryOp .Mod) (rI (λ_ j=>0<j) λi j=>.int (i % j)):=BA λi j _ _ _ _ _ d q=>by have f:(0:Int)<j:=d;exact mod_int' (by lia) (by rw[Int.fmod_eq_emod_of_nonneg i (by lia)];exact q)
def Nh:fw X (binaryOp .Pow) (rI Dg λi j=>.int (i ^ j.toNat)):=BA λ_ _ _ _ _ _ _ d q=>pow_int_small d.1 d.2.1 d.2.2 q
def Ni{f:ba->Sem ba}{g:Int->Int}(rule:∀(i:Int) (t:Tok) (s:bz) (Q:dc) (E:dc),Q (.int (g i) s.toks) {s with toks:=s.toks+1} -> wpAny (model X.prog X.w) X.A (f (.int i t)) Q E s):De X f (rU λi=>.int (g i)):=by intro aA s σ H x v Q I rx h;exists i,rfl,q,h;exists t,rfl,rx;exact rule i t s _ _ #[.int (g i),H,I.tok _,#[_,rfl],q]
def Nj:De X (unaryOp .USub) (rU λi=>.int (-i)):=Ni λ_ _ _ _ _ q=>neg_int q
end
section
variable{a b:Expr}{tb:TE}
def pG{σ:St}{Q:VK}{k K:Bool}(I:Inv X aA σ H s)(q:Q (.bl k) H)(e:k=K):EP X aA σ Q (.bool K) s:=by subst e;exact#[.bl k,H,I,rfl,q]
def vf:fw X (compareOp .Lt) (ny λi j=>.bl (decide (i<j))):=pF λ_ _ _ _ _ _ _ q=>lt_int q
def vg:fw X (compareOp .LtE) (ny λi j=>.bl (decide (i<=j))):=pF λ_ _ _ _ _ _ _ q=>le_int q
def vh:fw X (compareOp .Gt) (ny λi j=>.bl (decide (j<i))):=pF λ_ _ _ _ _ _ _ q=>gt_int q
def vi:fw X (compareOp .GtE) (ny λi j=>.bl (decide (j<=i))):=pF λ_ _ _ _ _ _ _ q=>ge_int q
def Nk:fw X (compareOp .In) (λx y H Q=>∃i j,x=.str i/\y=.str j/\Q (.bl (!(Builtin.Str.occurrences j i 0 j.length 1).isEmpty)) H):=by intro aA s σ H x y v u Q I rx ry h;exists i,j,rfl,rfl,q,h;exists t,rfl,rx;exists t',rfl,ry;exact in_str (pG I q rfl)
def Nl:fw X (compareOp .Is) (λx y H Q=>y=.non/\Q (.bl (decide (x=.non))) H):=by
 intro aA s σ H x y v u Q I rx ry h;exists rfl,q,h;cases ry;refine is_none_gen (pG I q ?_);cases x <;> first
  |(cases rx;rfl)
  |(exists t,rfl,rx;rfl)
def Nm:fw X (compareOp .IsNot) (λx y H Q=>y=.non/\Q (.bl (!decide (x=.non))) H):=by
 intro aA s σ H x y v u Q I rx ry h;exists rfl,q,h;cases ry;refine isnot_none_gen (pG I q ?_);cases x <;> first
  |(cases rx;rfl)
  |(exists t,rfl,rx;rfl)
def Nn:fw X (compareOp .NotIn) (λx y H Q=>∃i j,x=.str i/\y=.str j/\Q (.bl (!(!(Builtin.Str.occurrences j i 0 j.length 1).isEmpty))) H):=by intro aA s σ H x y v u Q I rx ry h;exists i,j,rfl,rfl,q,h;exists t,rfl,rx;exists t',rfl,ry;exact notIn_str (pG I q rfl)
def fw.or{f:ba->ba->Sem ba}{r R:R2}(h:fw X f r)(h':fw X f R):fw X f (λx y H Q=>r x y H Q\/R x y H Q):=by intro aA s σ H x y v u Q I rx ry q;rcases q with q|q;{exact h aA s σ H x y v u Q I rx ry q};exact h' aA s σ H x y v u Q I rx ry q
def Np{op:CmpOp}{r:R2}(ho:fw X (compareOp op) r)(ha:PE X a ta)(g:PE X b tb)(f:behindInMarks op b=false):PE X (.Compare a [op] [b] pos) (tj r ta tb):=by intro aA s σ H Q I h;exact wpAny_Compare1 (tW ha g I h λv u S x y o m d R q=>ho aA S σ o x y v u Q m d R q) f
def yY(t:TE):TT:=λσ H Q=>t σ H λx H'=>∃k,x=.bl k/\Q k H'
def Nq{op:CmpOp}{r:R2}(ho:fw X (compareOp op) r)(ha:PE X a ta)(A:PE X b tb)(t:behindInMarks op b=false):PT X (.Compare a [op] [b] pos) (yY (tj r ta tb)):=by
 intro aA s σ H Q I h;refine wpAny_isTrue_Compare1 (thn (ha aA s σ H _ I h) λv d ⟨x,H1,D,g,q1⟩=>thn (A aA d σ H1 _ D q1) λu S ⟨y,F,C,f,o⟩ =>
  thn (ho aA S σ F x y v u _ C g f o) λc G ⟨z,E,B,R,k,e,m⟩=>?_) t
 subst e;cases R;exact qz #[E,B,m]
def tX(K:Fg)(x:V)(H:Hp)(k:Bool):Prop :=
 match x with|.non=>k=false|.bl b=>k=b|.int i=>k=(i != 0)|.str y=>y.length<=sizeLine/\k=((y.length:Int) != 0)|.byt y=>y.size<=sizeLine/\k=((y.size:Int) != 0)|.ref p=>(∃U,dz K H p U/\k = !U.isEmpty)\/(∃U,d3 K H p U/\k = !U.isEmpty)\/∃kvs,H p=some (.dK kvs)/\k = !kvs.isEmpty|_=>False
def Nr{κ:Type}{kvs:List (κ×V)}{vs:List (κ×ba)}(r:KV kvs vs):(!vs.isEmpty) = !kvs.isEmpty:=by cases r <;> rfl
def yZ(r:aO U its):(!its.toArray.isEmpty) = !U.isEmpty:=by cases r <;> simp
def lI:(sizeLine:Nat)<2 ^ 63:=by rw[dj];decide
theorem Nt:Df X (λx H Q=>∃k,tX X.K x H k/\Q k H):=by
 intro aA s σ H x v Q I rx h;exists k,e,q,h;have B:=lI;have hs:sizeLine=16777216:=dj;cases x with
 |non=>cases rx;have E:k=false:=e;subst E;exact truthy_none #[H,I,q]|bl b=>cases rx;have E:k=b:=e;subst E;exact qz #[H,I,q]|int i=>exists t,rfl,rx;have E:k=(i != 0):=e;subst E;exact PySem.P.truthy_int #[H,I,q]|str y=>exists t,rfl,rx;obtain⟨o,E⟩:y.length<=sizeLine/\k=((y.length:Int) != 0):=e;subst E;exact PySem.P.truthy_str (by lia) #[H,I.tok _,q]|byt y=>exists t,rfl,rx;obtain⟨o,E⟩:y.size<=sizeLine/\k=((y.size:Int) != 0):=e;subst E;exact W.truthy_bytes (by lia) #[H,I.tok _,q]|ref p=>cases rx;have E:(∃U,dz X.K H p U/\k = !U.isEmpty)\/(∃U,d3 X.K H p U/\k = !U.isEmpty)\/∃kvs,H p=some (.dK kvs)/\k = !kvs.isEmpty:=e;rcases E with⟨U,hx,E⟩|⟨U,hx,E⟩|⟨kvs,hx,E⟩;{subst E;exists its,r,f,g,I.list hx;have d:=r.length;exact wpAny_truthy_list f.isList (by simp only[fh];lia) #[H,I.tok _,by rw[yZ r];exact q]};{subst E;exists its,r,f,g,I.tuple hx;have d:=r.length;exact truthy_tuple f (by simp only[fh];lia) #[H,I.tok _,by rw[yZ r];exact q]};subst E;obtain⟨g,A,vs,r,m⟩:kvs.length<=sizeLine/\(p==sysModules)=false/\∃vs,KV kvs vs/\s.heap.DictOf (cI X.prog X.w) p vs:=I.hok p _ hx;have d:kvs.length=vs.length:=pq r;exact wpAny_truthy_dict A m (by lia) #[H,I.tok _,by rw[Nr r];exact q]
 |_=>exact(show False from e).elim
def Nu (ha : PE X a ta) (d : ∀ dO, isTrue a X.env dO = (do let v ← dO; standAt a.pos; holding [v] (truthy v))) :
    PT X a (λσ H Q=>ta σ H λx H'=>∃k,tX X.K x H' k/\Q k H'):=by
 intro aA s σ H Q I h;exact isTrue_plain (thn (ha aA s σ H _ I h) λv S ⟨x,H1,f,r,q1⟩=>Nt aA S σ H1 x v Q f r q1) (d _)
def Nv:fw X (binaryOp .Add) (λx y H Q=>∃i j,x=.str i/\y=.str j/\i.length+j.length<=sizeLine/\Q (.str (i++j)) H):=by intro aA s σ H x y v u Q I rx ry h;exists i,j,rfl,rfl,d,q,h;exists t,rfl,rx;exists t',rfl,ry;exact add_str (λt' tk=>#[.str (i++j),H,I.tok _,#[_,rfl],q]) d
def jZ{x:V}(r:aO [x] us):∃u,us=[u]/\aH x u:=by cases r with|cons d R=>cases R;exact#[_,rfl,d]
def vals2{x y:V}(r:aO [x,y] us):∃u W,us=[u,W]/\aH x u/\aH y W:=by cases r with|cons g f=>cases f with|cons d R=>cases R;exact#[_,_,rfl,g,d]
def Dh(K:Fg)(x:V)(H:Hp)(n:Nat):Prop :=
 match x with|.str y=>y.length<=sizeLine/\n=y.length|.byt y=>y.size<=sizeLine/\n=y.size|.ref p=>(∃U,dz K H p U/\n=U.length)\/∃U,d3 K H p U/\n=U.length|_=>False
theorem Nw:fE X (.builtin "len") (λU H Q=>∃x n,U=[x]/\Dh X.K x H n/\Q (.int n) H):=by
 intro aA s σ H U us Q I r h;exists x,n,rfl,e,q,h;exists u,rfl,R,jZ r;have A:=lI;have hs:sizeLine=16777216:=dj;cases x with
 |str y=>exists t,rfl,R;obtain⟨o,E⟩:y.length<=sizeLine/\n=y.length:=e;subst E;exact len_str (by lia) #[.int _,H,I.tok _,#[_,rfl],q]|byt y=>exists t,rfl,R;obtain⟨o,E⟩:y.size<=sizeLine/\n=y.size:=e;subst E;exact W.len_bytes (by lia) #[.int _,H,I.tok _,#[_,rfl],q]|ref p=>cases R;have E:(∃U,dz X.K H p U/\n=U.length)\/∃U,d3 X.K H p U/\n=U.length:=e;rcases E with⟨U,hx,E⟩|⟨U,hx,E⟩;{subst E;exists its,f,g,m,I.list hx;have d:=f.length;exact Calls.call_len_list g.isList (by simp only[fh];lia) #[.int U.length,H,I.tok _,#[_,by simp only[fh];rw[d]],q]};subst E;exists its,f,g,m,I.tuple hx;have d:=f.length;exact len_tuple g (by simp only[fh];lia) #[.int U.length,H,I.tok _,#[_,by simp only[fh];rw[d]],q]
 |_=>exact(show False from e).elim
end
structure pH(h:Heap)(x dx C:Addr)(mA:fg):Prop where
 obj:h.get? x=some (W.instObj C dx)
 ns:h.Ns1 dx mA
 ne:dx≠x
def Nx(n:h.Ns1 dx mA):∃O,h.get? dx=some O/\∀name,W.lookIn name O=some (mA name):=by exists o,es,ep,ho,hd,hk,_,g,n;refine#[o,ho,λname=>?_];have e:=g name;unfold nsFind findBy at e;rw[<- Array.find?_toList]at e;unfold W.lookIn;rw[hd];dsimp only;split;{rename_i y q;rw[q]at e;exact congrArg some e};rename_i q;rw[q]at e;(have a:es.toList.any (·.refKey)=false:=by rw[List.any_eq_false];intro y f;exists z,t,d,hk y (Cf.mp f);simp[DictEntry.refKey,d]);(have A:¬ es.toList.any (·.refKey)=true:=by rw[a];exact fq);rw[a0 A];exact congrArg some e
def pH.look{x C:Addr}(I:pH h x dx C mA):∃o,W.InstAt h x (W.instObj C dx) C (some o)/\∀name,W.lookIn name o=some (mA name) :=
 let⟨o,ho,a⟩:=Nx I.ns
 #[o,#[I.obj,rfl,rfl,ho],a]
section
variable{A:di}{E:dc}{K:Fg}{x C f:Addr}{name:Str}
def Ny{pl:Sem Bool}{Q:ba×List ba->bz->Prop}(X:K.In s.heap)(I:pH s.heap x dx C mA)(a:W.plainGet K C name=true)(hf:W.findIn K (.ref C) name=some (some (.ref f)))(ht:W.isFn K (.ref f)=true)(d:mA name=none)(h:Q (.ref f,[.ref x]) s):wpAny (model prog w) A (getMethod (.ref x) name pl) Q E s:=by exists o,J,g,I.look;exact W.method_fn X J (W.plainGet_of a).1 (W.plainGet_of a).2 hf (ck.mp ht) (by show(W.lookIn name o).map (·.isSome)=some false;rw[g,d];rfl) h
def Nz{R:Result->bz->Prop}(X:K.In s.heap)(a:W.makesIn K C=true)(hi:W.findIn K (.ref C) "__init__"=some (some (.builtin "object.__init__")))(m:∀self,W.Looks (model prog w) s.heap (bindSpecial (.builtin "object.__init__") self) (.builtin "object.__init__",[self]))(h:codeAny (model prog w) (A.under (.builtin "type.__call__" #[[.ref C],[]])) (.call (.builtin "object.__init__") #[[.ref (s.heap.objs.size+1)],[]]) (W.InitBack (s.heap.objs.size+1) R) {s with heap:=(s.heap.push W.emptyDict).push (W.instObj C s.heap.objs.size)}):codeAny (model prog w) A (.call (.ref C) #[[],[]]) R s:=by exists o,g,d,t,os,s;exact W.make_core (W.makes_of X a) (W.looks_findIn X hi) m (.inr #[rfl,rfl]) h
end
def cU.some_of{o:Option ba}(r:cU (some v) o):∃u,o=some u/\aH v u:=by cases o with|none=>exact(show False from r).elim|some u=>exact#[u,rfl,r]
def cU.none_of{o:Option ba}(r:cU none o):o=none:=by cases o with|none=>rfl|some u=>exact(show False from r).elim
section
variable{a C:Addr}{fs:List (Str×V)}
def NA(hok:fj P w H h)(e:H a=some (.ins C dx fs)):∃mA,pH h a dx C mA/\(∀f,cU (fs.lookup f) (mA f))/\PySem.Within mA (fs.map (·.1))/\fs.length<=1000/\H dx=some (.own a):=by exists d,z,ne,ob,mA,n,r,q,(show bS P w H h a (.ins C dx fs)from hok a _ e);exact#[mA,#[ob,n,ne],r,q,z,d]
end
structure nh(K:Fg)(C:Addr):Prop where
 pg:W.plainGet K C Str.empty=true
 hd:W.hasDictIn K C=true
 po:W.plainOver K C=true
 sa:W.findIn K (.ref C) "__setattr__"=some (some (.builtin "object.__setattr__"))
def nh.get{K:Fg}{C:Addr}(c:nh K C)(f:Str):W.plainGet K C f=true:=c.pg
def tY(K:Fg)(C:Addr)(f:Str):Prop:=W.findIn K (.ref C) f=some none
structure nN(K:Fg)(C:Addr)(m:Str)(f:Addr):Prop where
 at_:W.findIn K (.ref C) m=some (some (.ref f))
 fn:W.isFn K (.ref f)=true
 kp:W.keepIn K (.ref f)=true
section
variable{σ:St}{a C:Addr}{fs:List (Str×V)}{A:di}{E:dc}
def NB{m:Str}{g:Addr}{pl:Sem Bool}{Q:ba×List ba->bz->Prop}(I:Inv X aA σ H s)(e:H a=some (.ins C dx fs))(c:nh X.K C)(k:nN X.K C m g)(l:fs.lookup m=none)(h:Q (.ref g,[.ref a]) s):wpAny (model X.prog X.w) A (getMethod (.ref a) m pl) Q E s:=by exists mA,O,r,_,_,_,NA I.hok e;have hn:mA m=none:=cU.none_of (by rw[<- l];exact r m);exact Ny I.kIn O (c.get m) k.at_ k.fn hn h
def Inv.made(I:Inv X aA σ H s):Inv X aA σ (upd (upd H s.heap.objs.size (.own (s.heap.objs.size+1))) (s.heap.objs.size+1) (.ins C s.heap.objs.size [])) {s with heap:=(s.heap.push W.emptyDict).push (W.instObj C s.heap.objs.size)}:=by(have d:(s.heap.push W.emptyDict).get? s.heap.objs.size=some W.emptyDict:=fo s.heap rfl;have r:((s.heap.push W.emptyDict).push (W.instObj C s.heap.objs.size)).get? (s.heap.objs.size+1)=some (W.instObj C s.heap.objs.size):=by have:=fo (s.heap.push W.emptyDict) (o:=W.instObj C s.heap.objs.size) rfl;rwa [q0]at this);have m:(s.heap.push W.emptyDict).Ns s.heap.objs.size (λ_=>none):=#[W.emptyDict,#[],_,d,rfl,(λe g=>absurd g (by simp)),λ_=>rfl];have t:=I.laid (a:=s.heap.objs.size) (o:=.own (s.heap.objs.size+1)) (h':=s.heap.push W.emptyDict) (t':=s.toks) (λb u q=>hps q) (dg _) #[_,d];refine t.laid (a:=s.heap.objs.size+1) (o:=.ins C s.heap.objs.size []) (t':=s.toks) (λb u q=>hps q) (AW (q0 _ _)) ?_;have ne:s.heap.objs.size≠s.heap.objs.size+1:=gx (Cg _);refine#[by rw[aP ne,aY],gy _,ne,r,λ_=>none,(Heap.Ns1.of_empty m).at λo q=>hps q,λ_=>True.intro,λy f=>absurd rfl f]
end
section
variable{f:Str}
def NC {pl : Sem Bool} {m : Str} {apos : Pos} {args : List Expr} {aA : List (Addr × Obj)} {s : bz} {σ : St} {H : Hp} {Q : ba → bz → Prop} {te : TE} (t : PE X e te) (I : Inv X aA σ H s) (h : te σ H fun x H1 => ∃ a C dx fs g, x = .ref a ∧ H1 a = some (.ins C dx fs) ∧ nh X.K C ∧ nN X.K C m g ∧ fs.lookup m = none ∧ ∀ s1, Inv X aA σ H1 s1 → wpAny (model X.prog X.w) X.A (callWith pos (.ref g) [.ref a] (backTo pos (starEach args X.env)) (backToKw pos (keywordEach [] X.env))) Q X.xe s1)
    (ht:eval (.Call (.Attribute e m apos) args [] pos) X.env=(do
     let o <- eval e X.env
     standAt apos.atName
     let(f,first) <- holding [o] (getMethod o m pl)
     callWith pos f first (backTo pos (starEach args X.env)) (backToKw pos (keywordEach [] X.env)))) :
    wpAny (model X.prog X.w) X.A (eval (.Call (.Attribute e m apos) args [] pos) X.env) Q X.xe s:=by
 refine W.methodCall_KW (pl:=pl) (thn (t aA s σ H _ I h) λu s1 ⟨x,H1,d,r,a,C,dx,fs,g,ex,ea,c,k,l,q⟩=>?_) ht;subst ex;obtain rfl:u=Value.ref a:=r;exact NB d ea c k l (q s1 d)
end
structure bF(k:Nat)(A:di):Prop where
 hd:A.handled=none
 dp:A.depth+3 * k+5<recursionLimit
 un:A.units+16 * k+200<cLine
theorem bF.deeper{A:di}(r:bF (k+1) A)(env:Env):bF k (A.deeper env) :=
 #[r.hd,by have:=r.dp;show A.depth+1+3 * k+5<_;lia,by have:=r.un;show A.units+3+16 * k+200<_;lia]
theorem bF.depth{A:di}(r:bF k A):A.depth<recursionLimit:=by have:=r.dp;lia
theorem bF.units{A:di}(r:bF k A):A.units+64<cLine:=by have:=r.un;lia
def pI:TA:=λ_ H Q=>Q [] H
def iM(ta:TE)(tr:TA):TA:=λσ H Q=>ta σ H λx H1=>tr σ H1 λU a=>Q (x::U) a
section
variable{es:List Expr}{t:TA}
def nO:PA X [] pI:=λ_ _ _ _ H Q I h=>AX #[[],H,I,.nil,h]
def nP(ha:PE X e te)(d:PA X es t)(hs:starEach (e::es) X.env=(false,eval e X.env)::starEach es X.env:=by rfl):PA X (e::es) (iM te t):=by intro pos aA s σ H Q I h;rw[hs];show wpAny _ _ (spliced ((false,eval e X.env)::backTo pos (starEach es X.env))) _ _ s;refine rc (thn (ha aA s σ H _ I h) λu S ⟨x,H1,g,R,q1⟩=>?_);exact thn (d pos aA S σ H1 _ g q1) λus o ⟨U,m,f,r,a⟩=>#[x::U,m,f,.cons R r,a]
def vj(t:TA):TE:=λσ H Q=>t σ H λU H1=>U.length<=sizeLine/\∀p,H1 p=none->Q (.ref p) (upd H1 p (.tup U))
def vk(t:TA):TE:=λσ H Q=>t σ H λU H1=>U.length<=sizeLine/\∀p,H1 p=none->Q (.ref p) (upd H1 p (.lst U))
def ND{x1}(h:PA X es t):PE X (.Tuple es x1 pos) (vj t):=by intro aA s σ H Q I hq;refine wpAny_Tuple_spliced (thn (h pos aA s σ H _ I hq) λus S ⟨U,H1,a,r,z,q⟩=>#[by rw[<- r.length];exact z,?_]);have hf:H1 S.heap.objs.size=none:=a.hok.fresh (dg _);refine#[.ref S.heap.objs.size,upd H1 S.heap.objs.size (.tup U),a.laid (t':=S.toks) (λb u e=>hps e) (dg _) ?_,rfl,q _ hf];exact#[z,us,r,#[_,fo _ rfl,rfl,rfl,_,rfl]]
def y0(h:PA X es t):PE X (.List es pos) (vk t):=by intro aA s σ H Q I hq;refine wpAny_List_spliced (thn (h pos aA s σ H _ I hq) λus S ⟨U,H1,a,r,z,q⟩=>#[by rw[<- r.length];exact z,?_]);have hf:H1 S.heap.objs.size=none:=a.hok.fresh (dg _);refine#[.ref S.heap.objs.size,upd H1 S.heap.objs.size (.lst U),a.laid (t':=S.toks) (λb u e=>hps e) (dg _) ?_,rfl,q _ hf];exact#[z,us,0,r,fo _ rfl]
end
abbrev Sp:=List V->Hp->VK->XK->Prop
abbrev CXT:=List Env->Hp->bz->XK->ba->bz->Prop
structure iN(P:e7)(w:cw)(K:Fg)(mg:fg)(base:Heap)(A:di)(outer:List Env)(s:bz)(H:Hp):Prop where
 frames:A.frames=some outer
 mod:Mod K mg base
 bs:∀b o,base.get? b=some o->s.heap.get? b=some o/\H b=none
 bsz:base.objs.size<=s.heap.objs.size
 funs:s.heap.FunFrames base outer
 frf:∀b∈gj outer,H b=none
 hok:fj P w H s.heap
 bare:AllBare s.gens
 tabs:lG K base H
def CE(outer:List Env)(P:e7)(w:cw)(H:Hp)(s:bz)(Q:VK)(u:ba)(s':bz):Prop :=
 ∃v H',s'.os=s.os/\AllBare s'.gens/\Un (gj outer) [] H H' s.heap s'.heap/\fj P w H' s'.heap/\aH v u/\Q v H'
def CR(CX:CXT)(outer:List Env)(P:e7)(w:cw)(H:Hp)(s:bz)(Q:VK)(E:XK)(r:Result)(s':bz):Prop :=
 match r with|.ok (.ret u)=>CE outer P w H s Q u s'|.ok _=>False|.error e=>CX outer H s E e s'
structure bT(P:e7)(w:cw)(K:Fg)(mg:fg)(base:Heap)(CX:CXT)(k:Nat)(f:Addr)(fd:FuncData)(ps:List Str)(sp:Sp):Prop where
 len:∀vs H Q E,sp vs H Q E->vs.length=ps.length
 run:∀(A:di) (outer:List Env) (s:bz) (H:Hp) (args:Args) (us:List ba) (vs:List V) (Q:VK) (E:XK),bF k A->iN P w K mg base A outer s H->BindsTo s fd args (ps.zip us)->aO vs us->sp vs H Q E ->
  codeAny (model P w) A (.call (.ref f) args) (CR CX outer P w H s Q E) s
def bT.imp{K:Fg}{CX:CXT}{f:Addr}{sp S:Sp}(F:bT P w K mg base CX k f fd ps sp)(h:∀vs H Q E,S vs H Q E->sp vs H Q E):bT P w K mg base CX k f fd ps S :=
 #[λvs H Q E q=>F.len vs H Q E (h _ _ _ _ q),λA outer s H args us vs Q E d g m a hs=>F.run A outer s H args us vs Q E d g m a (h _ _ _ _ hs)]
theorem iN.in1{K:Fg}{A:di}(e:iN P w K mg base A outer s H):iN P w K mg base A.in1 outer s H:=#[e.frames,e.mod,e.bs,e.bsz,e.funs,e.frf,e.hok,e.bare,e.tabs]
end L2
variable{CX:L2.CXT}
namespace L2
section
variable{σ:St}
def Inv.env0(I:Inv X aA σ H s):iN X.prog X.w X.K X.mg X.base X.A X.stack s H :=
 #[I.ok.frames,I.ok.mod,I.bs,ir I.ok.bsz I.sz,I.stack,I.stkFree,I.hok,I.bare,I.ok.tabs.mono I.base.tbls]
def Inv.after{Q:VK}(I:Inv X aA σ H s)(h:CE X.stack X.prog X.w H s Q u s'):EP X aA σ Q u s':=by exists v,H',os,bare,un,hok,r,q,h;exists a,g,d,t,o,s';obtain rfl:o=s.os:=os;exact#[v,H',I.call (h':=a) (g':=g) (d':=d) (t':=t) (ch:=[]) un hok bare (λb z=>absurd z (by simp)),r,q]
end
def cV(K:Fg)(fd:FuncData)(ps:List Str)(ds:List ba):Prop :=
 ∀(s:bz) (us:List ba),K.In s.heap->(us++ds).length=ps.length->BindsTo s fd #[us,[]] (ps.zip (us++ds))
def cV.all{K:Fg}(h:∀us:List ba,us.length=ps.length->bindArgs fd #[us,[]]=pure (ps.zip us)):cV K fd ps []:=λs us _ a=>by rw[ij]at a ⊢;exact .of_eq (h us a)
section
variable{f C:Addr}
structure Mk(K:Fg)(C f:Addr):Prop where
 makes:W.makesIn K C=true
 init:W.findIn K (.ref C) "__init__"=some (some (.ref f))
 fn:W.isFn K (.ref f)=true
 kp:W.keepIn K (.ref C)=true
end
def PK(X:Cx)(K:List Keyword)(t:TA):Prop :=
 ∀(pos:Pos) (aA:eh) (s:bz) (σ:St) (H:Hp) (Q:List V->Hp->Prop),Inv X aA σ H s->t σ H Q->wpAny (model X.prog X.w) X.A (evalAll ((backToKw pos (keywordEach K X.env)).map (·.2))) (AP X aA σ Q) X.xe s
section
variable{d:Pos}{a:List Keyword}{t:TA}{nm:Option Str}
def NE:PK X [] pI:=λ_ _ _ _ H Q I h=>wpAny_evalAll_nil #[[],H,I,.nil,h]
def NF(ha:PE X e te)(g:PK X a t):PK X (#[nm,e,d]::a) (iM te t):=by intro pos aA s σ H Q I h;show wpAny _ _ (evalAll ((do let v <- eval e X.env;standAt pos;pure v)::(backToKw pos (keywordEach a X.env)).map (·.2))) _ _ s;refine wpAny_evalAll_cons (bp (thn (ha aA s σ H _ I h) λu S ⟨x,H1,o,R,q1⟩=>bp (ue (ci ?_))));exact thn (g pos aA S σ H1 _ o q1) λus A ⟨U,y,m,r,f⟩=>#[x::U,y,m,.cons R r,f]
end
structure j4(N P:List Str)(sc:Scope):Prop where
 kind:sc.kind=.function
 co:sc.isCoroutine=false
 gen:sc.isGenerator=false
 nd:N.Nodup
 pre:N.take P.length=P
 par:∀x∈P,sc.names.lookup x=some .local\/sc.names.lookup x=some .cell
 nofree:∀y∈sc.names,y.2 ≠ .free
theorem zA{kindOf:Str->Option NameKind}{x:Str}:∀{B:List (Str×ba)}{m:fg},(∀v,(x,v)∉B)->bindL kindOf B m x=m x|[],_,_=>rfl|(n,v)::r,m,h=>by unfold bindL;rw[zA λw a=>h w (cs a)];split;{(have:x≠n:=by rintro rfl;exact h v cj);simp[this]};rfl
theorem zB{kindOf:Str->Option NameKind}{x:Str}:∀{B:List (Str×ba)}{m:fg},(∀v,(x,v)∉B)->bindC kindOf B m x=m x|[],_,_=>rfl|(n,v)::r,m,h=>by unfold bindC;rw[zB λw a=>h w (cs a)];split;{rfl};(have:x≠n:=by rintro rfl;exact h v cj);simp[this]
theorem zC{kindOf:Str->Option NameKind}{x:Str}{v:ba}:∀{P:List Str}{vs:List ba}{i:Nat}{m:fg},P.Nodup->P[i]? = some x->vs[i]? = some v->kindOf x=some .local->bindL kindOf (P.zip vs) m x=some v|[],_,_,_,_,h,_,_|_::_,[],_,_,_,_,h,_=>by simp at h|p::P,w::vs,0,m,nd,d,a,hk=>by simp at d a;subst d;subst a;show bindL kindOf ((p,w)::P.zip vs) m p=_;unfold bindL;rw[zA λv f=>(ik.mp nd).1 (AY f).1,al hk];simp|p::P,w::vs,i+1,m,nd,d,a,hk=>by show bindL kindOf ((p,w)::P.zip vs) m x=_;unfold bindL;exact zC (i:=i) (ik.mp nd).2 (by simpa using d) (by simpa using a) hk
theorem zD{kindOf:Str->Option NameKind}{x:Str}{v:ba}:∀{P:List Str}{vs:List ba}{i:Nat}{m:fg},P.Nodup->P[i]? = some x->vs[i]? = some v->kindOf x≠some .local->bindC kindOf (P.zip vs) m x=some v|[],_,_,_,_,h,_,_|_::_,[],_,_,_,_,h,_=>by simp at h|p::P,w::vs,0,m,nd,d,a,hk=>by simp at d a;subst d;subst a;show bindC kindOf ((p,w)::P.zip vs) m p=_;unfold bindC;rw[zB λv f=>(ik.mp nd).1 (AY f).1,a0 hk];simp|p::P,w::vs,i+1,m,nd,d,a,hk=>by show bindC kindOf ((p,w)::P.zip vs) m x=_;unfold bindC;exact zD (i:=i) (ik.mp nd).2 (by simpa using d) (by simpa using a) hk
def start(N:List Str)(vs:List V):St:=vs.map some++List.replicate (N.length-vs.length) none
noncomputable def cO(CX:CXT)(P:e7)(w:cw)(K:Fg)(mg:fg)(base:Heap)(N:List Str)(qual:Str)(scope:Scope)(f:Addr)(cd:ba)(A:di)(outer:List Env)(s:bz)(H:Hp)(E:XK):Cx where
 prog:=P
 w:=w
 K:=K
 mg:=mg
 base:=base
 A:=A.deeper (envOfC qual scope s.heap.objs.size f cd)
 N:=N
 s₀:=s
 H₀:=H
 env:=envOfC qual scope s.heap.objs.size f cd
 outer:=outer
 stack:=envOfC qual scope s.heap.objs.size f cd::outer
 ex:=[]
 calm:=true
 fn:=λ_=>true
 pn:=[]
 xe:=λe s'=>wpAny (model P w) (A.deeper (envOfC qual scope s.heap.objs.size f cd)) (leaving (envOfC qual scope s.heap.objs.size f cd) e) (λ_ S=>CX outer H s E e S) (λa S=>CX outer H s E a S) s'
def zE(h:sc.names.lookup x=some .cell):∃c,(cellsFrom n sc.names []).lookup x=some c:=by have q:=Ci sc.names n [] (.inl h);exact Option.isSome_iff_exists.mp q
theorem zF{K:Fg}{N:List Str}{f:Addr}{cd:ba}{A:di}{s1:bz}{E:XK}{vs:List V}(S:j4 N ps scope)(hd:A.handled=none)(g:iN P w K mg base A outer s H)(G:vs.length=ps.length)(r:aO vs us)(x:InCallC s s.heap.objs.size (bindL (envOfC qual scope s.heap.objs.size f cd).kindOf (ps.zip us) λ_=>none) (cellsFrom (s.heap.objs.size+1) scope.names []) (bindC (envOfC qual scope s.heap.objs.size f cd).kindOf (ps.zip us) λ_=>none) s1):Inv (cO CX P w K mg base N qual scope f cd A outer s H E) [] (start N vs) H s1:=by
 have F:ps.length<=N.length:=by have:=congrArg List.length S.pre;rw[re]at this;lia
 exists C,tk,rfl,hk,x.done;have m:∀b:Addr,b∉(cO CX P w K mg base N qual scope f cd A outer s H E).ex:=λb z=>absurd (show b∈([]:List Addr)from z) (by simp)
 refine#[#[g.mod,S.kind,rfl,rfl,dg _,λy z c C d=>?_,λy o=>?_,λy c _ h=>?_,λ_=>hd,Around.frames_deeper g.frames,.inr #[rfl,rfl],λb z=>absurd z (m b),g.bs,g.bsz,λb _ _=>m b,λb z=>absurd z (m b),g.funs,g.frf,g.tabs],
  rfl,g.bare,Un.kept hk,#[_,x.toInCall.ns,λi y v C d J=>?_],λy c h=>#[_,x.cell y c h],g.hok.fresh (dg _),λy c h=>?_,λp hp=>absurd (show p∈([]:eh)from hp) (by simp),g.hok.kept hk,?_]
 . exact name_of_addr x.apart (nr C) (nr d)
 . have o:scope.names.lookup y=some .cell\/scope.names.lookup y=some .free:=o;rcases o with o|o;{exact zE o};exact absurd rfl (S.nofree _ (nr o))
 . exact AQ (x.above y c (nr h))
 . have B:i<vs.length:=by
     unfold start at d;by_cases B:i<vs.length
     . exact B
     . rw[p8 (by simpa using B)]at d;rw[p9]at d;split at d <;> cases d
   have ha:vs[i]? = some v:=by unfold start at d;rw[nu (by simpa using B),gz]at d;cases e:vs[i]? with|none=>rw[e]at d;cases d|some a=>rw[e]at d;cases d;rfl
   exists u,D,R,r.get ha;have hp:ps[i]? = some y:=by rw[<- S.pre,List.getElem?_take_of_lt (by lia)];exact C
   have t:ps.Nodup:=by rw[<- S.pre];exact S.nd.sublist (List.take_sublist _ _)
   refine#[u,R,?_];rcases S.par y (rh hp)with k|k
   . exact .inl #[k,zC t hp D k]
   . exists c,e,zE (n:=s.heap.objs.size+1) k;refine .inr #[.inl k,c,e,?_];have q:=x.cell y c e;rw[zD t hp D (by show scope.names.lookup y≠_;rw[k];decide)]at q;exact q
 . exact g.hok.fresh (AQ (x.above y c (nr h)))
 . unfold start;show _=N.length;rw[im,du,List.length_replicate];lia
def zG{K:Fg}{f:Addr}{name:Str}{params:Arguments}{T kV D M ct oc:ba}{an Z:Option Addr}{O:Array (Option ba)}{N:List Str}{sp:Sp}(lk:K.lookup f=some #[oc,Z,.func (W.fnOf name qual params body scope T kV D M an cdv ct),O])(C:W.codeIn K cdv qual=true)(S:j4 N ps scope)(len:∀vs H Q E,sp vs H Q E->vs.length=ps.length)(d:∀(A:di) (outer:List Env) (s:bz) (H:Hp) (vs:List V) (Q:VK) (E:XK),bF k (A.deeper (envOfC qual scope s.heap.objs.size f cdv))->sp vs H Q E->∃t,ie (cO CX P w K mg base N qual scope f cdv A outer s H E) body t/\t {nx:=λ_ H'=>Q .non H',rt:=Q} (start N vs) H):bT P w K mg base CX (k+1) f (W.fnOf name qual params body scope T kV D M an cdv ct) ps sp:=by
 refine#[len,λA outer s H args us vs Q E B m hb r g=>?_];have hl:=len _ _ _ _ g;have Y:K.In s.heap:=m.mod.kin.keeps λb o e=>(m.bs b o e).1;have L:s.heap.NoLimit:=m.mod.nolimit.keeps λb o e=>(m.bs b o e).1;have cS:∀y∈ps.zip us,scope.names.lookup y.1=some .local\/(scope.names.lookup y.1=some .cell/\((cellsFrom (s.heap.objs.size+1) scope.names []).lookup y.1).isSome=true):=λ⟨n,v⟩ hy=>by rcases S.par n (AY hy).1 with q|q;{exact .inl q};exact .inr #[q,Ci _ _ _ (.inl q)]
 refine codeAny_call_function B.depth (Y _ _ lk) rfl S.co S.gen rfl (W.codeRec_of Y C) (hb _ _ _ _ ?_);refine wpAny_newFunctionEnv_cells S.kind cS λenv he G x=>?_;subst he;refine#[L.keeps x.toInCall.keep,codeAny_func ?_];exists t,ht,hq,d A outer s H vs Q E (B.deeper _) g;have I:Inv (cO CX P w K mg base N qual scope f cdv A outer s H E) [] (start N vs) H G:=zF S B.hd m hl r x;refine jh (ht [] G (start N vs) H _ I hq) (λfl s' hs=>?_) λe s' hs=>hs;have F:∀{a:St}{H':Hp}{v:V}{u:ba},Inv (cO CX P w K mg base N qual scope f cdv A outer s H E) [] a H' s'->aH v u->Q v H'->CE outer P w H s Q u s' :=
  λ{a H' v u} J R q=>#[v,H',J.os,J.bare,J.base,J.hok,R,q]
 cases fl with|ret u=>exists v,a,H',J,R,q,hs;exact F J R q|next=>exists a,H',J,q,hs;exact F (v:=V.non) (u:=Value.none) J rfl q|brk|cont=>exists _,_,_,q,hs;exact False.elim q
section
variable{es:List Expr}{t:TA}{id T:String}{r:List V->Hp->VK->Prop}
def vm(r:List V->Hp->VK->Prop)(t:TA):TE:=λσ H Q=>t σ H λvs H1=>r vs H1 Q
def NG(y:fE X (.builtin id) r)(m:Gl X x)(g:X.mg x=none)(f:bootBuiltins x=some (.builtin id))(ha:PA X (e::es) t)(hn:x ≠ "__name__":=by decide)(d:(x==("__debug__":Str))=false:=by decide)(o:starEach (e::es) X.env=(false,eval e X.env)::starEach es X.env:=by rfl)(a:(backTo pos (starEach es X.env)).any (·.1)=false:=by rfl):PE X (.Call (.Name x p) (e::es) [] pos) (vm r t):=by intro aA s σ H Q I h;refine qa (jY I m g f ?_ hn d);exact PyProof.Rows.callWith_builtin1 (thn (ha pos aA s σ H _ I h) λus S ⟨vs,H1,A,R,q1⟩=>y aA S σ H1 vs us Q A R q1) o a
def NH(y:fE X (.type T) r)(m:Gl X x)(g:X.mg x=none)(f:bootBuiltins x=some (.type T))(ha:PA X (e::es) t)(hn:x ≠ "__name__":=by decide)(d:(x==("__debug__":Str))=false:=by decide)(o:starEach (e::es) X.env=(false,eval e X.env)::starEach es X.env:=by rfl)(a:(backTo pos (starEach es X.env)).any (·.1)=false:=by rfl):PE X (.Call (.Name x p) (e::es) [] pos) (vm r t):=by intro aA s σ H Q I h;refine qa (jY I m g f ?_ hn d);exact AV (thn (ha pos aA s σ H _ I h) λus S ⟨vs,H1,A,R,q1⟩=>y aA S σ H1 vs us Q A R q1) o a
end
end L2
namespace HT
section
variable{A:di}{E:dc}
def aJ8{t:Addr}{ws:List ba}(ht:IsTup s.heap t vs.toArray)(B:IsTup s.heap b ws.toArray)(o:vs≠[])(G:ws=[]->Q (.ref t) s)(F:ws≠[]->Q (.ref s.heap.objs.size) { s with heap:=s.heap.push { cls:=.type "tuple",data:=.seq (vs++ws).toArray } })(hsz:vs.length+ws.length<=sizeLine):wpAny (model prog w) A (binaryOp .Add (.ref t) (.ref b)) Q E s:=by
 obtain⟨⟨cls,y,data,m⟩,ho,r,n,hd⟩:=id ht;obtain⟨⟨C,D,data2,S⟩,a,f,n2,d⟩:=id B;simp only at r hd f d;subst r hd f d;have e:vs.toArray++ws.toArray=(vs++ws).toArray:=by simp
 by_cases g:ws=[]
 . exact AZ #[_,ho,rfl] #[_,a,rfl] Cj seq_tuple_add Ck Cm (Cn _ _)
     (tuple_addW1 t b vs.toArray ws.toArray n n2 y D m S (by simpa using o) (by simp[g])) #[ho,a,G g]
 . refine AZ #[_,ho,rfl] #[_,a,rfl] Cj seq_tuple_add Ck Cm (Cn _ _)
     (tuple_addW2 t b vs.toArray ws.toArray n n2 y D m S (by simpa using o) (by simpa using g) (by rw[fh,fh];exact hsz)) #[ho,a,?_]
   rw[e];exact F g
def sIx(n d:Nat):Option Int->Nat|none=>d|some v=>if v<0 then(v+(n:Int)).toNat else min v.toNat n
def zH(n d:Nat):sIx n d none=d:=rfl
theorem pJ(n d k:Nat):sIx n d (some (k:Int))=min k n:=by show(if(k:Int)<0 then((k:Int)+(n:Int)).toNat else min (k:Int).toNat n)=min k n;rw[a0 (by lia),rj]
theorem NI(n d:Nat)(hd:d<=n)(o:Option Int):sIx n d o<=n:=by cases o with|none=>exact hd|some v=>show(if v<0 then(v+(n:Int)).toNat else min v.toNat n)<=n;by_cases a:v<0;{rw[al a];lia};rw[a0 a];exact Nat.min_le_right _ _
theorem zI(v:Int)(n d:Nat):(if v<0 then max (v+(n:Int)) 0 else min v (n:Int))=((sIx n d (some v):Nat):Int):=by show(if v<0 then max (v+(n:Int)) 0 else min v (n:Int))=(((if v<0 then(v+(n:Int)).toNat else min v.toNat n):Nat):Int);by_cases a:v<0;{simp only[al a];lia};simp only[a0 a];lia
theorem NJ(lo hi:Option Int)(n:Nat):Builtin.Slice.sliceAdjust lo hi 1 (n:Int)=(((sIx n 0 lo:Nat):Int),((sIx n n hi:Nat):Int)):=by(have a:¬ ((1:Int)<0):=by lia);unfold Builtin.Slice.sliceAdjust;simp only[a,ji];refine rq ?_ ?_;{cases lo with|none=>rfl|some v=>exact zI v n 0};cases hi with|none=>rfl|some v=>exact zI v n n
theorem NK(i j:Nat):Builtin.Slice.slicePlaces (i:Int) (j:Int) 1=j-i:=by(unfold Builtin.Slice.slicePlaces;have a:(1:Int) > 0:=by lia);simp only[a,ot,Int.ediv_one];split <;> lia
def zJ{v:ba}{o:Option Int}{Q:Option Int->bz->Prop}(p:IsPart v o)(h:Q o s):wpAny (model prog w) A (Builtin.Slice.slicePartIndex v) Q E s:=by cases p with|none=>exact slicePart_none h|int i t=>exact slicePart_int h
def zK{S:Addr}{d V:ba}{lo hi:Option Int}{Q:Int×Int×Nat->bz->Prop}(hs:s.heap.IsSliceOf S d V .none)(pl:IsPart d lo)(f:IsPart V hi)(h:Q (((sIx n 0 lo:Nat):Int),1,sIx n n hi-sIx n 0 lo) s):wpAny (model prog w) A (Builtin.Slice.sliceApplied (.ref S) (pure (n:Int))) Q E s:=by exists os,a,g,gp,id hs;unfold Builtin.Slice.sliceApplied Builtin.Slice.sliceFields;refine bp (bp (mr a gp (x:=d) rfl (bp (mr a gp (x:=V) rfl (bp (mr a gp (x:=.none) rfl (ci ?_)))))));refine bp (slicePart_none ?_);show wpAny _ _ (if((1:Int)==0)=true then _ else _) _ _ s;rw[a0 (by decide)];(refine bp (zJ pl (bp (zJ f (bp (ci ?_)))));show wpAny _ _ (match Builtin.Slice.sliceAdjust lo hi 1 (n:Int)with|(lo,hi)=>pure (lo,(1:Int),Builtin.Slice.slicePlaces lo hi 1)) _ _ s);rw[NJ lo hi n];show wpAny _ _ (pure (((sIx n 0 lo:Nat):Int),(1:Int),Builtin.Slice.slicePlaces ((sIx n 0 lo:Nat):Int) ((sIx n n hi:Nat):Int) 1)) _ _ s;rw[NK];exact ci h
theorem NL(U:Array ba)(i k:Nat):((List.range k).filterMap λ(m:Nat)=>U[((i:Int)+(m:Int) * 1).toNat]?).toArray=((U.toList.drop i).take k).toArray:=by(have e:(λ(m:Nat)=>U[((i:Int)+(m:Int) * 1).toNat]?)=λm=>U[i+m]?:=by(funext m;have:((i:Int)+(m:Int) * 1).toNat=i+m:=by lia);rw[this]);rw[e];have:=pick_run U i k;rw[List.filterMap_map]at this;have a:((λx=>U[x]?) ∘ λx=>i+x)=λm=>U[i+m]?:=rfl;rw[a]at this;rw[this]
theorem aKD{t S:Addr}{r V:ba}{lo hi:Option Int}(ht:IsTup s.heap t items)(hs:s.heap.IsSliceOf S r V .none)(pl:IsPart r lo)(y:IsPart V hi)(B:¬ (sIx items.size 0 lo=0/\sIx items.size items.size hi=items.size))(h:Q (.ref s.heap.objs.size) { s with heap:=s.heap.push { cls:=.type "tuple",data:=.seq ((items.toList.drop (sIx items.size 0 lo)).take (sIx items.size items.size hi-sIx items.size 0 lo)).toArray } })(hsz:items.size<=sizeLine):wpAny (model prog w) A (getItem (.ref t) (.ref S)) Q E s:=by
 have a:sizeOk (.seq ((items.toList.drop (sIx items.size 0 lo)).take (sIx items.size items.size hi-sIx items.size 0 lo)).toArray):=by show((items.toList.drop (sIx items.size 0 lo)).take (sIx items.size items.size hi-sIx items.size 0 lo)).toArray.size<=sizeLine;rw[fh,re,Co,lB];lia
 have D:sIx items.size items.size hi<=items.size:=NI _ _ (dg _) hi;exists os,d,g,gp,id hs;have o:s.TypeIs (.ref S) "slice":=#[os,d,g];unfold getItem
 try with_reducible refine jj ?_
 first|refine bp (ci ?_)|skip
 refine bp (wpAny_sequenceKey ht.typeIs (by decide) ?_)
 refine bp (qb (name:=Str.ofString "__getitem__") ht.typeIs A0
  (li A0 ht.typeIs entry_tuple_getitem ?_ (args_tuple_getitem _ _)))
 show wpAny _ _ (Builtin.Tuple.tupleItemsOf (.ref t)>>=_) _ _ s;refine bp (tupleItemsOf_ ht ?_);refine bp (A1 o ?_);rw[al (by decide)]
 refine bp (zK hs pl y ?_);have f:¬ ((((sIx items.size 0 lo:Nat):Int)==0&&(1:Int)==1&&(sIx items.size items.size hi-sIx items.size 0 lo)==items.size)=true):=by intro q;rw[cc,cc]at q;have q1:((sIx items.size 0 lo:Nat):Int)=0:=eq_of_beq q.1.1;have C:sIx items.size items.size hi-sIx items.size 0 lo=items.size:=eq_of_beq q.2;exact B #[by lia,by lia]
 show wpAny _ _ (if(((sIx items.size 0 lo:Nat):Int)==0&&(1:Int)==1&&(sIx items.size items.size hi-sIx items.size 0 lo)==items.size)=true then _ else _) _ _ s;rw[a0 f,NL]
 first
  |exact bp (m:=Builtin.Tuple.tupleExact _) (lj (ci #[_,rfl,ci h]) a)
  |exact bp (m:=Builtin.Tuple.tupleExact _) (lj (bp (ci (ci #[_,rfl,ci h]))) a)
  |exact bp (bp (m:=Builtin.Tuple.tupleExact _) (lj (ci (ci #[_,rfl,ci h])) a))
  |exact bp (bp (m:=Builtin.Tuple.tupleExact _) (lj (ci #[_,rfl,ci h]) a))
end
end HT
namespace L2
abbrev TO:=St->Hp->(Option Int->Hp->Prop)->Prop
def PO(X:Cx)(e:Option Expr)(t:TO):Prop :=
 ∀(aA:eh) (s:bz) (σ:St) (H:Hp) (Q:Option Int->Hp->Prop),Inv X aA σ H s->t σ H Q ->
  wpAny (model X.prog X.w) X.A (evalPart e X.env) (λu s'=>∃o H',Inv X aA σ H' s'/\IsPart u o/\Q o H') X.xe s
def zL:TO:=λ_ H Q=>Q none H
def pK(t:TE):TO:=λσ H Q=>t σ H λx H1=>∃i,x=.int i/\Q (some i) H1
section
variable{lo hi:Option Expr}{tl d:TO}
def NM:PO X none zL:=by intro aA s σ H Q I h;rw[evalPart_none];exact ci #[none,H,I,.none,h]
def NN(h:PE X e te):PO X (some e) (pK te):=by intro aA s σ H Q I hw;rw[evalPart_some];refine thn (h aA s σ H _ I hw) λu S ⟨x,H1,a,r,q1⟩=>?_;exists i,rfl,q,q1;exists t,rfl,r;exact#[some i,H1,a,.int i t,q]
def o2(X:Cx)(r:V->Option Int->Option Int->Hp->VK->Prop):Prop :=
 ∀(aA:eh) (s:bz) (σ:St) (H:Hp) (x:V) (v f a:ba) (lo hi:Option Int) (S:Addr) (Q:VK),Inv X aA σ H s->aH x v->s.heap.IsSliceOf S f a .none->IsPart f lo->IsPart a hi->r x lo hi H Q ->
  ∃T id,typeLookup (.type T) "__getitem__"=pure (some (.builtin id))/\s.TypeIs v T/\wpAny (model X.prog X.w) X.A (getItem v (.ref S)) (EP X aA σ Q) X.xe s
def o2.or{r R:V->Option Int->Option Int->Hp->VK->Prop}(h:o2 X r)(h':o2 X R):o2 X (λx lo hi H Q=>r x lo hi H Q\/R x lo hi H Q):=by intro aA s σ H x v vl vu lo hi sl Q I rx hs pl pu q;rcases q with q|q;{exact h aA s σ H x v vl vu lo hi sl Q I rx hs pl pu q};exact h' aA s σ H x v vl vu lo hi sl Q I rx hs pl pu q
def E0(r:V->Option Int->Option Int->Hp->VK->Prop)(te:TE)(tl d:TO):TE:=λσ H Q=>te σ H λx H1=>tl σ H1 λl f=>d σ f λu a=>r x l u a Q
def NO{r:V->Option Int->Option Int->Hp->VK->Prop}(F:o2 X r)(K:PE X e te)(G:PO X lo tl)(D:PO X hi d):PE X (.Subscript e (.Slice lo hi none p2) pos) (E0 r te tl d):=by intro aA s σ H Q I h;refine Subscript_ (thn (K aA s σ H _ I h) λv o ⟨x,H1,W,R,q1⟩=>?_);refine wpAny_Slice (thn (G aA o σ H1 _ W q1) λf m ⟨l,Y,O,C,y⟩=>thn (D aA m σ Y _ O y) λa S ⟨u,g,N,B,t⟩=>?_);rw[evalPart_none];refine ci ?_;have M:Inv X aA σ g { S with heap:=S.heap.push { cls:=.type "slice",data:=.fields (List.toArray [f,a,.none]) } }:=N.kept (t':=S.toks) λb ob q=>hps q;exists T,id,L,E,J,F aA { S with heap:=S.heap.push { cls:=.type "slice",data:=.fields (List.toArray [f,a,.none]) } } σ g x v f a l u S.heap.objs.size Q M R (Heap.IsSliceOf.new ..) C B t;show wpAny (model X.prog X.w) X.A (subscriptTail e (.Slice lo hi none p2) v (.ref S.heap.objs.size)) (EP X aA σ Q) X.xe { S with heap:=S.heap.push { cls:=.type "slice",data:=.fields (List.toArray [f,a,.none]) } };exact tail_any (ops:=[.ref S.heap.objs.size,v]) E L J (by with_unfolding_all rfl)
def iO(U:List V)(lo hi:Option Int):List V:=(U.drop (HT.sIx U.length 0 lo)).take (HT.sIx U.length U.length hi-HT.sIx U.length 0 lo)
theorem zM(U:List V)(lo hi:Option Int):(iO U lo hi).length<=U.length:=by unfold iO;rw[re,Co];lia
def Di(K:Fg):V->Option Int->Option Int->Hp->VK->Prop:=λx lo hi H Q=>∃a U,x=.ref a/\d3 K H a U /\
 ¬ (HT.sIx U.length 0 lo=0/\HT.sIx U.length U.length hi=U.length)/\∀p,H p=none->Q (.ref p) (upd H p (.tup (iO U lo hi)))
def NP:o2 X (Di X.K):=by(intro aA s σ H x v vl vu lo hi sl Q I rx hs pl pu h;exists a,U,rfl,hx,t,q,h;cases rx;exists its,r,m,g,I.tuple hx;have f:its.toArray.size=U.length:=by rw[fh];exact r.length.symm);refine#["tuple",_,PyProof.Rows.slot_tuple_getitem.lookup,m.typeIs,?_];refine HT.aKD m hs pl pu (by rw[f];exact t) ?_ (by rw[f];exact g);rw[f];refine#[.ref s.heap.objs.size,_,I.laid (t':=s.toks) (o:=.tup (iO U lo hi)) (λb ob q=>hps q) (dg _) ?_,rfl,q _ (I.hok.fresh (dg _))];exact#[ir (zM U lo hi) g,_,(r.drop (HT.sIx U.length 0 lo)).take (HT.sIx U.length U.length hi-HT.sIx U.length 0 lo),gX.new _ _]
def aO.nil_iff(r:aO U us):us=[]↔U=[]:=by cases r with|nil|cons _ _=>simp
end
def ixN(n:Nat)(i:Int):Option Nat:=if 0<=i then(if i<n then some i.toNat else none)else if -(n:Int)<=i then some (i+n).toNat else none
noncomputable def atI(U:List α)(i:Int):Option α:=(ixN U.length i).bind λj=>U[j]?
theorem zN{i:Int}(h:ixN n i=some j):seqIndex? i n=some j/\j<n /\ -(n:Int)<=i/\i<n:=by unfold ixN at h;by_cases h0:0<=i;{rw[al h0]at h;by_cases a:i<n;{rw[al a]at h;have e:i.toNat=j:=jw h;exact#[by rw[seqIndex_of h0 a,e],by lia,by lia,a]};rw[a0 a]at h;cases h};rw[a0 h0]at h;by_cases a:-(n:Int)<=i;{rw[al a]at h;have e:(i+n).toNat=j:=jw h;exact#[by rw[seqIndex_neg (by lia) a,e],by lia,a,by lia]};rw[a0 a]at h;cases h
def pL{U:List α}{i:Int}{v:α}(h:atI U i=some v):∃j,seqIndex? i U.length=some j/\U[j]? = some v/\j<U.length /\ -(U.length:Int)<=i/\i<U.length:=by unfold atI at h;cases e:ixN U.length i with|none=>rw[e]at h;cases h|some j=>rw[e]at h;exists g,f,d,a,zN e;exact#[j,g,h,f,d,a]
theorem cW{U:List α}{v:α}(h:U[j]? = some v):atI U (j:Int)=some v:=by(have a:j<U.length:=(lA.mp h).1;have e:ixN U.length (j:Int)=some j:=by unfold ixN;rw[al (by lia),al (by lia)];simp);unfold atI;rw[e];exact h
theorem NQ(U:List α)(v:α):atI (U++[v]) (-1)=some v:=by
 have a:(U++[v]).length=U.length+1:=by simp
 have e:ixN (U++[v]).length (-1)=some U.length:=by unfold ixN;rw[a,a0 (by decide),al (by lia)];congr 1;lia
 unfold atI;rw[e];show(U++[v])[U.length]? = some v;simp
def nQ(b:Expr):Prop:=∀o i,subscripted b false o i=operate [o,i] (getItem o i)
def mn(X:Cx)(r:R2):Prop :=
 ∀(value slice:Expr) (aA:eh) (s:bz) (σ:St) (H:Hp) (x y:V) (v u:ba) (Q:VK),Inv X aA σ H s->aH x v->aH y u->r x y H Q ->
  subscripted slice false v u=operate [v,u] (getItem v u)->wpAny (model X.prog X.w) X.A (subscriptTail value slice v u) (EP X aA σ Q) X.xe s
def NR(X:Cx)(id:String)(r:V->List V->Hp->VK->Prop):Prop :=
 ∀(aA:eh) (s:bz) (σ:St) (H:Hp) (x:V) (U:List V) (v:ba) (us:List ba) (Q:VK),Inv X aA σ H s->aH x v->aO U us->r x U H Q ->
  wpAny (model X.prog X.w) X.A (call (.builtin id) (v::us)) (EP X aA σ Q) X.xe s
section
variable{a b:Expr}{tb:TE}
def mn.or{r R:R2}(h:mn X r)(h':mn X R):mn X (λx y H Q=>r x y H Q\/R x y H Q):=by intro value slice aA s σ H x y v u Q I rx ry q hs;rcases q with q|q;{exact h value slice aA s σ H x y v u Q I rx ry q hs};exact h' value slice aA s σ H x y v u Q I rx ry q hs
def tZ{r:R2}(f:mn X r)(ha:PE X a ta)(g:PE X b tb)(hs:nQ b):PE X (.Subscript a b pos) (tj r ta tb):=by intro aA s σ H Q I h;exact Subscript_ (tW ha g I h λv u S x y o m d R q=>f a b aA S σ o x y v u Q m d R q (hs _ _))
def vp(K:Fg):R2:=λx y H Q=>∃p U i v,x=.ref p/\y=.int i/\dz K H p U/\atI U i=some v/\Q v H
def vq(K:Fg):R2:=λx y H Q=>∃p U i v,x=.ref p/\y=.int i/\d3 K H p U/\atI U i=some v/\Q v H
def vr:R2:=λx y H Q=>∃z i c,x=.str z/\y=.int i/\z.length<=sizeLine/\atI z.cps.toList i=some c/\Q (.str #[(List.toArray [c])]) H
theorem NT:mn X (vp X.K):=by
 intro value slice aA s σ H x y v u Q I rx ry h hs;exists p,U,i,z,rfl,rfl,o,B,q,h;cases rx;exists t,rfl,ry;exists its,r,g,G,I.list o;exists j,d,F,J,D,C,pL B;exists w,E,R,r.get F;have A:=r.length;have hn:=lI;have f:EP X aA σ Q w s:=#[z,H,I,R,q];by_cases h0:0<=i
 . (have m:i.toNat=j:=by rw[seqIndex_of h0 C]at d;exact jw d);exact item_listR g.isList h0 (by lia) (by rw[m];simpa using E) f hs
 . have m:(i+(its.toArray.size:Int)).toNat=j:=by
     rw[seqIndex_neg (by lia) D]at d
     rw[fh,<- A];exact jw d
   exact subscriptTail_builtinR (x:=w) g.isList.typeIs slot_list_getitem.lookup
    (wpAny_getItem_list_neg (Q:=λr s'=>r=w/\EP X aA σ Q r s') g.isList (by lia) (by rw[fh] <;> lia) (by lia) (by rw[m];simpa using E) #[rfl,f]) hs
theorem NU:mn X (vq X.K):=by
 intro value slice aA s σ H x y v u Q I rx ry h hs;exists p,U,i,z,rfl,rfl,g,o,q,h;cases rx;exists t,rfl,ry;exists its,r,d,C,I.tuple g;exists j,B,A,G,F,D,pL o;exists w,E,R,r.get A;have m:=r.length;have hn:=lI;have f:EP X aA σ Q w s:=#[z,H,I,R,q];exact subscriptTail_builtinR (x:=w) d.typeIs slot_tuple_getitem.lookup
  (getItem_tuple (j:=j) (Q:=λr s'=>r=w/\EP X aA σ Q r s') d (by lia) (by lia) (by rw[fh,<- m];exact B) (by simpa using E) #[rfl,f]) hs
theorem NV:mn X vr:=by
 intro value slice aA s σ H x y v u Q I rx ry h hs;exists z,i,c,rfl,rfl,B,g,q,h;exists t,rfl,rx;exists t',rfl,ry;exists j,d,r,C,o,m,pL g;have f:z.cps.toList.length=z.length:=by simp[Str.length]
 rw[f]at d o m;have hn:=lI;exact tail_any (typeIs_str s z t) slot_str_getitem.lookup (getItem_str (c:=c) (by
  have A:decide (i < -(2 ^ 63:Int))=false:=ig (by lia)
  have E:decide (i ≥ 2 ^ 63)=false:=ig (by lia)
  rw[A,E,Bool.or_false]) (by rw[d];simpa using r) #[.str #[(List.toArray [c])],H,I.tok _,#[_,rfl],q]) hs
def E1(K:Fg):R2:=λx y H Q=>vp K x y H Q\/vq K x y H Q\/vr x y H Q
def NW:mn X (E1 X.K):=NT.or (NU.or NV)
def NX(its:List ba)(n j:Nat)(u:ba):Obj.mapSeq (·.setIfInBounds j u) { cls:=.type "list",data:=.seq its.toArray n }={ cls:=.type "list",data:=.seq (its.set j u).toArray n }:=by simp[Obj.mapSeq]
theorem Inv.lst{σ:St}{p:Addr}(I:Inv X aA σ H s)(h:H p=some (.lst U)):∃(its:List ba) (n:Nat),aO U its/\s.heap.get? p=some { cls:=.type "list",data:=.seq its.toArray n }/\U.length<=sizeLine:=by exists z,its,n,r,e,I.hok p _ h;exact#[its,n,r,e,z]
def Inv.lstUpd{σ:St}{p:Addr}{its':List ba}{N:Nat}{f:Obj->Obj}(I:Inv X aA σ H s)(h:H p=some (.lst U))(ho:s.heap.get? p=some { cls:=.type "list",data:=.seq its.toArray n })(hf:f { cls:=.type "list",data:=.seq its.toArray n }={ cls:=.type "list",data:=.seq its'.toArray N })(r:aO ys its')(hz:ys.length<=sizeLine)(t:Nat):Inv X aA σ (upd H p (.lst ys)) {s with heap:=s.heap.update p f,toks:=t}:=by(have e:(s.heap.update p f).get? p=some { cls:=.type "list",data:=.seq its'.toArray N }:=by rw[A2 f ho (by rw[hf] <;> rfl),hf]);refine I.write (x:=p) (e:=p) (by rw[h];trivial) (.inl rfl) (λb u d q=>(Cp _ _ (Ne.symm d)).trans q) #[_,e] ?_;exact#[hz,its',N,r,e]
def zO:V->V->V->Hp->(Hp->Prop)->Prop:=λo i v H Q=>∃p U k j,o=.ref p/\i=.int k/\H p=some (.lst U)/\ixN U.length k=some j/\Q (upd H p (.lst (U.set j v)))
theorem NY:Db X zO:=by
 intro aA s σ H o i v ov iv u Q I ro ri rv h;exists p,U,k,j,rfl,rfl,hp,B,q,h;cases ro;exists t,rfl,ri;exists its,n,r,ho,A,I.lst hp;exists d,C,m,g,zN B;have f:=r.length;have hn:=lI;have y:Inv X aA σ (upd H p (.lst (U.set j v))) {s with heap:=s.heap.update p (Obj.mapSeq (·.setIfInBounds j u))} :=
  I.lstUpd hp ho (NX its n j u) (r.set rv j) (by rw[mf];exact A) s.toks
 by_cases h0:0<=k
 . (have hk:k.toNat=j:=by rw[seqIndex_of h0 g]at d;exact jw d);exact W.ki_setAt ho h0 (by lia) (by rw[fh,<- f];exact g) (by rw[hk];exact#[_,y,q])
 . have hk:(k+(its.toArray.size:Int)).toNat=j:=by
     rw[seqIndex_neg (by lia) m]at d
     rw[fh,<- f];exact jw d
   exact W.ki_setBack ho (by lia) (by rw[fh,<- f];exact m) (by lia) (by rw[hk];exact#[_,y,q])
theorem NZ(lo hi:Option Int)(n:Nat):(sliceBounds lo hi none n).1=((HT.sIx n 0 lo:Nat):Int)/\(sliceBounds lo hi none n).2.1=((HT.sIx n n hi:Nat):Int)/\(sliceBounds lo hi none n).2.2=1:=by refine#[?_,?_,rfl];{cases lo with|none=>simp[sliceBounds,HT.sIx]|some i=>simp only[sliceBounds,HT.sIx,A3,show(1:Int) > 0 by decide,ot];by_cases h:i<0;{simp only[h,ot] <;> lia};simp only[h,ji] <;> lia};cases hi with|none=>simp[sliceBounds,HT.sIx]|some i=>simp only[sliceBounds,HT.sIx,A3,show(1:Int) > 0 by decide,ot];by_cases h:i<0;{simp only[h,ot] <;> lia};simp only[h,ji] <;> lia
def N0(its:List ba)(lo hi:Option Int):slicePick its.toArray lo hi none=((its.drop (HT.sIx its.length 0 lo)).take (HT.sIx its.length its.length hi-HT.sIx its.length 0 lo)).toArray:=by exists g,f,d,NZ lo hi its.toArray.size;unfold slicePick;rw[g,f,d];simp only[sliceRange_one,pick_run,fh] <;> rfl
def Dj(K:Fg):V->Option Int->Option Int->Hp->VK->Prop:=λx lo d H Q=>∃a U,x=.ref a/\dz K H a U/\∀p,H p=none->Q (.ref p) (upd H p (.lst (iO U lo d)))
theorem N1:o2 X (Dj X.K):=by intro aA s σ H x v vl vu lo hi sl Q I rx hs pl pu h;exists a,U,rfl,hx,q,h;cases rx;exists its,r,f,g,I.list hx;have d:=r.length;refine#["list",_,slot_list_getitem.lookup,f.isList.typeIs,?_];refine wpAny_getItem_list_slice f.isList hs pl pu .none (by simp) ?_ (by rw[fh] <;> lia);rw[N0,<- d];refine#[.ref s.heap.objs.size,_,I.laid (t':=s.toks) (o:=.lst (iO U lo hi)) (λb ob q=>hps q) (dg _) ?_,rfl,q _ (I.hok.fresh (dg _))];exact#[ir (zM U lo hi) g,_,0,(r.drop (HT.sIx U.length 0 lo)).take (HT.sIx U.length U.length hi-HT.sIx U.length 0 lo),fo _ rfl]
def fF:V->Bool|.non|.bl _|.int _|.str _=>true|_=>false
noncomputable def lb:V->V->Bool|.non,.non=>true|.bl a,.bl b=>a==b|.bl a,.int b=>(if a then 1 else 0)==b|.int a,.bl b=>a==(if b then 1 else 0)|.int a,.int b|.str a,.str b=>a==b|_,_=>false
def N2{A:di}{y x:V}{v:ba}(R:aH y u)(r:aH x v)(F:fF y=true)(f:fF x=true):SeqAt.EqAt A s u v (lb y x):=by
 cases y with
 |non=>cases R;cases x with|non=>cases r;exact SeqAt.EqAt.same _|bl b=>cases r;exact SeqAt.EqAt.none_bool b|int b=>exists t,rfl,r;exact SeqAt.EqAt.none_int b t|str b=>exists t,rfl,r;exact SeqAt.EqAt.none_str b t|_=>exact absurd (show false=true from f) fq
 |bl a=>cases R;cases x with|non=>cases r;exact SeqAt.EqAt.bool_none a|bl b=>cases r;exact SeqAt.EqAt.bool_bool a b|int b=>exists t,rfl,r;exact SeqAt.EqAt.bool_int a b t|str b=>exists t,rfl,r;exact SeqAt.EqAt.bool_str a b t|_=>exact absurd (show false=true from f) fq
 |int a=>exists t',rfl,R;cases x with|non=>cases r;exact SeqAt.EqAt.int_none a t'|bl b=>cases r;exact SeqAt.EqAt.int_bool a t' b|int b=>exists t,rfl,r;exact SeqAt.EqAt.int_int a t' b t|str b=>exists t,rfl,r;exact SeqAt.EqAt.int_str a t' b t|_=>exact absurd (show false=true from f) fq
 |str a=>exists t',rfl,R;cases x with|non=>cases r;exact SeqAt.EqAt.str_none a t'|bl b=>cases r;exact SeqAt.EqAt.str_bool a t' b|int b=>exists t,rfl,r;exact SeqAt.EqAt.str_int a t' b t|str b=>exists t,rfl,r;exact SeqAt.EqAt.str_str a t' b t|_=>exact absurd (show false=true from f) fq
 |_=>exact absurd (show false=true from F) fq
def iy(x:V)(u:ba):Bool:=match u with|.none=>lb .non x|.bool b=>lb (.bl b) x|.int i _=>lb (.int i) x|.str z _=>lb (.str z) x|_=>false
def t7{x y:V}(r:aH y u)(f:fF y=true):iy x u=lb y x:=by cases y with|non|bl b=>cases r;rfl|int i|str z=>exists t,rfl,r;rfl|_=>exact absurd (show false=true from f) fq
theorem nR{x:V}:∀{U:List V}{us:List ba},aO U us->U.all fF=true->us.any (iy x)=U.any λy=>lb y x|_,_,.nil,_=>rfl|y::U,u::us,.cons r t,f=>by rw[jk,cc]at f;rw[A4,A4,t7 r f.1,nR t f.2]
theorem lJ{A:di}{s:bz}{x:V}{v:ba}(R:aH x v)(F:fF x=true):∀{U:List V}{us:List ba},aO U us->U.all fF=true->∀u∈us,SeqAt.EqAt A s u v (iy x u)|_,_,.nil,_=>λu d=>by cases d|y::U,u::us,.cons r t,f=>λg d=>by rw[jk,cc]at f;rcases cy.mp d with rfl|d;{rw[t7 r f.1];exact N2 r R f.1 F};exact lJ R F t f.2 g d
def BB(x:V)(U:List V):Bool:=U.any λy=>lb y x
def Dk(K:Fg)(neg:Bool):R2:=λx y H Q=>∃p U,y=.ref p/\(dz K H p U\/d3 K H p U)/\fF x=true/\U.all fF=true/\Q (.bl (if neg then !BB x U else BB x U)) H
def N3:fw X (compareOp .In) (Dk X.K false):=by intro aA s σ H x y v u Q I rx ry h;exists p,U,rfl,d,F,fs,q,h;cases ry;rcases d with d|d;{exists its,r,f,m,I.list d;refine SeqAt.in_listAt (iy x) f.isList (λw g=>lJ rx F r fs w (by simpa using g)) #[.bl _,H,I,rfl,?_];rw[show its.toArray.any (iy x)=its.any (iy x) by simp,nR r fs];exact q};exists its,r,f,m,I.tuple d;refine SeqAt.in_tupleAt (iy x) f (λw g=>lJ rx F r fs w (by simpa using g)) #[.bl _,H,I,rfl,?_];rw[show its.toArray.any (iy x)=its.any (iy x) by simp,nR r fs];exact q
def N4:fw X (compareOp .NotIn) (Dk X.K true):=by intro aA s σ H x y v u Q I rx ry h;exists p,U,rfl,d,F,fs,q,h;cases ry;rcases d with d|d;{exists its,r,f,m,I.list d;refine SeqAt.notIn_listAt (iy x) f.isList (λw g=>lJ rx F r fs w (by simpa using g)) #[.bl _,H,I,rfl,?_];rw[show its.toArray.any (iy x)=its.any (iy x) by simp,nR r fs];exact q};exists its,r,f,m,I.tuple d;refine SeqAt.notIn_tupleAt (iy x) f (λw g=>lJ rx F r fs w (by simpa using g)) #[.bl _,H,I,rfl,?_];rw[show its.toArray.any (iy x)=its.any (iy x) by simp,nR r fs];exact q
theorem N5:fE X (.type "list") (λU H Q=>∃p ys,U=[.ref p]/\(dz X.K H p ys\/d3 X.K H p ys)/\∀l,H l=none->Q (.ref l) (upd H l (.lst ys))):=by
 intro aA s σ H U us Q I r h; obtain ⟨p, ys, rfl, f, q⟩ := h; obtain ⟨u, rfl, y⟩ := jZ r; cases y; have F : ∀ (its : List ba), aO ys its → ys.length ≤ sizeLine → ∀ (h' : Heap) (C : Nat), (∀ b o', s.heap.get? b = some o' → h'.get? b = some o') →
     h'.get? s.heap.objs.size=some { cls:=.type "list",dict:=none,data:=.seq its.toArray C,slots:=#[] }->EP X aA σ Q (.ref s.heap.objs.size) {s with heap:=h'}:=λits R d h' C kp e=>
  #[.ref s.heap.objs.size,_,I.laid (t':=s.toks) kp (dg _) (show bS X.prog X.w _ h' _ (.lst ys)from#[d,its,C,R,e]),rfl,q _ (I.hok.fresh (dg _))]
 rcases f with f|f
 . exists its,R,m,d,I.list f;have g:=R.length;exists o,ho,t,n,hd,m.isList;exact call_list_seq p (.inl rfl) ho t hd (λh' C kp e=>F its R d h' C kp e) (by simp only[fh] <;> lia)
 . exists its,R,m,d,I.tuple f;have g:=R.length;exists o,ho,t,n,hd,m;exact call_list_seq p (.inr rfl) ho t hd (λh' C kp e=>F its R d h' C kp e) (by simp only[fh] <;> lia)
theorem N6:fE X (.type "tuple") (λU H Q=>∃p ys,U=[.ref p]/\((dz X.K H p ys/\∀l,H l=none->Q (.ref l) (upd H l (.tup ys)))\/(d3 X.K H p ys/\Q (.ref p) H))):=by
 intro aA s σ H U us Q I r h;exists p,ys,rfl,h,h;exists u,rfl,y,jZ r;cases y;rcases h with⟨f,q⟩|⟨f,q⟩
 . exists its,R,d,g,I.list f;have m:=R.length;refine call_tuple_list d.isList (λh' kp=>?_) (by simp only[fh] <;> lia)
   have t:Inv X aA σ H {s with heap:=h'}:=I.kept (t':=s.toks) kp
   have A:Inv X aA σ (upd H h'.objs.size (.tup ys)) { s with heap:=h'.push { cls:=.type "tuple",data:=.seq its.toArray } }:=
    t.laid (t':=s.toks) (λb o e=>hps e) (dg _) (show bS X.prog X.w _ _ _ (.tup ys)from#[g,its,R,gX.new _ _])
   exact#[.ref h'.objs.size,_,A,rfl,q _ (t.hok.fresh (dg _))]
 . exists its,R,d,g,I.tuple f;exact call_tuple_same d #[.ref p,H,I,rfl,q]
def E2(K:Fg)(T:String)(x:V)(H:Hp):Prop:=match x with
 |.str _=>T="str"|.int _=>T="int"| .ref p=>(T="list"/\∃ U,dz K H p U)\/(T="tuple"/\∃ o,K.lookup p=some o/\o.cls=.type "tuple"/\o.dict=none) ∨
     (T="dict" /\ ((∃kvs,H p=some (.dK kvs))\/∃kvs,H p=some (.dT kvs)))\/(T="set" /\ ∃S n,H p=some (.set S n))
 |_=>False
def N7{σ:St}{T:String}{x:V}{v:ba}(I:Inv X aA σ H s)(r:aH x v)(ty:E2 X.K T x H):s.TypeIs v T/\∀a,v=.ref a->∃ob,s.heap.get? a=some ob/\ob.dict=none:=by
 cases x with
 |str z=>exists t,rfl,r;cases(show T="str" from ty);exact#[typeIs_str s z t,λ_ e=>nomatch e]|int i=>exists t,rfl,r;cases(show T="int" from ty);exact#[typeIs_int s i t,λ_ e=>nomatch e]|ref p=>
  cases r;rcases ty with⟨rfl,U,hq⟩|⟨rfl,o,hk,hc,hd⟩|⟨rfl,hk⟩|⟨rfl,S,n,hk⟩
  . exists its,_,d,_,I.list hq;refine#[d.isList.typeIs,λa e=>?_];cases e;exists o,n,e,c,hd,_,d;exact#[o,e,hd]
  . refine#[#[o,I.kIn p o hk,hc],λa e=>?_];cases e;exact#[o,I.kIn _ o hk,hd]
  . have z:∃o,s.heap.get? p=some o/\o.ExactDict:=by
      rcases hk with⟨kvs,hk⟩|⟨kvs,hk⟩
      . exists _,_,_,_,o,_,_,e,ex,_,I.hok p _ hk;exact#[o,e,ex]
      . exists _,_,_,_,o,_,_,e,ex,_,I.hok p _ hk;exact#[o,e,ex]
    exists o,e,ex,z;refine#[#[o,e,ex.1],λa E=>?_];cases E;exact#[o,e,ex.2.1]
  . exists o,_,_,_,e,ex,_,I.hok p _ hk;refine#[#[o,e,ex.1],λa E=>?_];cases E;exact#[o,e,ex.2.1]
 |_=>exact False.elim ty
def Dl(K:Fg)(T:String)(r:V->List V->Hp->VK->Prop)(d:TE)(t:TA):TE:=λσ H Q=>d σ H λx H1=>E2 K T x H1/\t σ H1 λU f=>r x U f Q
variable{o:Expr}{es:List Expr}{d:TE}{t:TA}{name:Str}{T id:String}{r:V->List V->Hp->VK->Prop}
def zP(G:PlainAttrs T)(slot:Slot T name id)(A:typeOf (.builtin id)=pure (.type "method_descriptor"))(J:NR X id r)(ho:PE X o d)(ha:PA X (e::es) t)(m:attributeBase o name X.env (eval o X.env)=eval o X.env:=by rfl)(y:((backTo cpos (starEach (e::es) X.env)).all (λx=>!x.1)&&(backToKw cpos (keywordEach [] X.env)).all (λx=>x.1.isSome)&&decide ((e::es).length+([]:List Keyword).length+(if([]:List Keyword).isEmpty then 0 else 1)<30))=true:=by rfl)(g:(apos.endLine==cpos.line)=true:=by rfl)(hs:starEach (e::es) X.env=(false,eval e X.env)::starEach es X.env:=by rfl)(f:(backTo cpos (starEach es X.env)).any (·.1)=false:=by rfl):PE X (.Call (.Attribute o name apos) (e::es) [] cpos) (Dl X.K T r d t):=by intro aA s σ H Q I h;refine wpAny_Call_method_late m y g rfl (thn (ho aA s σ H _ I h) λv D ⟨x,H1,C,R,ty,q1⟩=>?_);exists M,L,N7 C R ty;refine#[T,id,G,slot,A,M,L,?_];have B:=ha cpos aA D σ H1 _ C q1;rw[hs]at B ⊢;refine A5 (by show(false||(backTo cpos (starEach es X.env)).any (·.1))=false;rw[f] <;> rfl) (A6 ?_);exact thn B λus S ⟨vs,O,N,E,F⟩=>J aA S σ O x vs v us Q N R E F
end
def N8(X:Cx)(id:String)(r:V->List V->Hp->VK->Prop):Prop :=
 ∀(aA:eh) (s:bz) (σ:St) (H:Hp) (x:V) (U:List V) (v:ba) (us:List ba) (Q:VK),Inv X aA σ H s->aH x v->aO U us->r x U H Q ->
  wpAny (model X.prog X.w) X.A (call (.builtin id) (v::us)) (EP X aA σ Q) X.xe s
def aO.one:∀{x:V}{us:List ba},aO [x] us->∃u,us=[u]/\aH x u|_,_,.cons r .nil=>#[_,rfl,r]
section
variable{σ:St}
def Inv.lset{its':List ba}{f:Array ba->Array ba}(I:Inv X aA σ H s)(m:H l=some (.lst U))(e:s.heap.get? l=some { cls:=.type "list",data:=.seq its.toArray n })(hf:f its.toArray=its'.toArray)(a:aO ys its')(hz:ys.length<=sizeLine):Inv X aA σ (upd H l (.lst ys)) {s with heap:=s.heap.update l (Obj.mapSeq f),toks:=t'}:=by have q:=PySem.IsL.update e f;rw[hf]at q;refine I.write (x:=l) (e:=l) (by rw[m];exact trivial) (.inl rfl) (λB u g d=>(Cp s.heap (Obj.mapSeq f) (Ne.symm g)).trans d) #[_,q] ?_;exact#[hz,its',_,a,q]
def Inv.lstM(I:Inv X aA σ H s)(a:H l=some (.lst U)):U.length<=sizeLine/\∃(its:List ba) (n:Nat),aO U its/\U.length=its.length/\s.heap.get? l=some { cls:=.type "list",data:=.seq its.toArray n }:=by exists z,its,n,r,e,I.hok l _ a;exact#[z,its,n,r,r.length,e]
end
def N9:V->List V->Hp->VK->Prop:=λx vs H Q=>∃l U y,x=.ref l/\vs=[y]/\H l=some (.lst U)/\U.length<sizeLine/\Q .non (upd H l (.lst (U++[y])))
theorem t8:N8 X "list.append" N9:=by intro aA s σ H x vs v us Q I rx rv h;exists l,U,y,rfl,rfl,a,d,q,h;cases rx;exists u,rfl,R,rv.one;exists z,its,n,r,f,e,I.lstM a;refine call_meets F.slot_list_append #[_,e,rfl] F.entry_list_append (F.args_list_append_2 _ _) (PySem.list_append l its.toArray n u (by rw[fh];lia)) #[e,?_];refine#[.non,_,I.lset (its':=its++[u]) a e (by simp) (r.append (.cons R .nil)) ?_,rfl,q];rw[im,A7];lia
section
variable{κ:Type}[DecidableEq κ]
noncomputable def d9(kvs:List (κ×V))(k:κ):Option V:=(kvs.find? λkv=>decide (kv.1=k)).map (·.2)
noncomputable def dI(kvs:List (κ×V))(k:κ)(v:V):List (κ×V) :=
 if(kvs.any λkv=>decide (kv.1=k))=true then kvs.map (λkv=>if kv.1=k then(kv.1,v)else kv)else kvs++[(k,v)]
def t9{p:κ×V}{r:List (κ×V)}{k:κ}(e:p.1=k):d9 (p::r) k=some p.2:=by simp[d9,ft,e]
def uA{p:κ×V}{r:List (κ×V)}{k:κ}(e:¬ p.1=k):d9 (p::r) k=d9 r k:=by simp[d9,ft,e]
theorem zQ(kvs:List (κ×V))(k:κ)(v:V):(dI kvs k v).length<=kvs.length+1:=by unfold dI;split;{rw[du];lia};rw[im,gh,qc];lia
def cU.isSome_eq{o:Option V}{u:Option ba}(r:cU o u):o.isSome=u.isSome:=by
 cases o with
 |none=>cases u with|none=>rfl|some _=>exact(show False from r).elim
 |some _=>cases u with|none=>exact(show False from r).elim|some _=>rfl
theorem cU.getD{o:Option V}{u:Option ba}{d:V}{d':ba}(r:cU o u)(R:aH d d'):aH (o.getD d) (u.getD d'):=by
 cases o with
 |none=>cases u with|none=>exact R|some _=>exact(show False from r).elim
 |some _=>cases u with|none=>exact(show False from r).elim|some _=>exact r
def KV.val{kvs:List (κ×V)}{vs:List (κ×ba)}(r:KV kvs vs)(k:κ):cU (d9 kvs k) (valueAt vs k):=by unfold KV at r;induction r with|nil=>exact True.intro| @cons p q ps a h t f=>exists d,g,h;by_cases e:p.1=k;{have E:q.1=k:=d.symm.trans e;(have b:valueAt (q::a) k=some q.2:=by simp[valueAt,ft,E]);rw[t9 e,b];exact g};have E:¬ q.1=k:=λz=>e (d.trans z);(have b:valueAt (q::a) k=valueAt a k:=by simp[valueAt,ft,E]);rw[uA e,b];exact f
theorem KV.any{kvs:List (κ×V)}{vs:List (κ×ba)}(r:KV kvs vs)(k:κ):(kvs.any λkv=>decide (kv.1=k))=vs.any λkv=>decide (kv.1=k):=by unfold KV at r;induction r with|nil=>rfl|cons h t a=>rw[A4,A4,a,h.1]
def KV.repl{kvs:List (κ×V)}{vs:List (κ×ba)}(r:KV kvs vs)(k:κ){y:V}(R:aH y u):KV (kvs.map λkv=>if kv.1=k then(kv.1,y)else kv) (vs.map λkv=>if kv.1=k then(kv.1,u)else kv):=by unfold KV at r ⊢;induction r with|nil=>exact .nil| @cons p q ps g h t d=>rw[cu,cu];refine .cons ?_ d;exists a,f,h;by_cases e:p.1=k;{rw[al e,al (a.symm.trans e)];exact#[a,R]};rw[a0 e,a0 (λz=>e (a.trans z))];exact#[a,f]
def KV.put{kvs:List (κ×V)}{vs:List (κ×ba)}(r:KV kvs vs)(k:κ){y:V}(R:aH y u):KV (dI kvs k y) (stored vs k u):=by unfold dI stored;rw[r.any k];by_cases e:(vs.any λkv=>decide (kv.1=k))=true;{rw[al e,al e];exact r.repl k R};rw[a0 e,a0 e];exact Paired.snoc r #[rfl,R]
def KV.keys{kvs:List (κ×V)}{vs:List (κ×ba)}(r:KV kvs vs):kvs.map (·.1)=vs.map (·.1):=by unfold KV at r;induction r with|nil=>rfl|cons h t a=>rw[cu,cu,a,h.1]
theorem KV.length{kvs:List (κ×V)}{vs:List (κ×ba)}(r:KV kvs vs):kvs.length=vs.length:=pq r
end
def j5{k:Key}(r:aH (kV k) u):(cI P w).is k u=true:=by cases k with|inl i=>exists t,e,(show ∃t,u=Value.int i t from r);subst e;exact MD P w i t|inr x=>exists t,e,(show ∃t,u=Value.str x t from r);subst e;exact ME P w x t
theorem zR{P:e7}{w:cw}:∀{ks:List Key}{us:List ba},aO (ks.map kV) us->ItemsAre (cI P w) ks us|[],_,r=>by rw[ll]at r;cases r;exact .nil|k::ks,_,r=>by rw[cu]at r;cases r with|cons h t=>exact .cons (j5 h) (zR t)
abbrev KT(H:Hp):List (List Key×V)->List (List Key×Addr×ba)->Prop:=Paired λp q=>p.1=q.1/\H q.2.1=some (.tup (p.1.map kV))/\aH p.2 q.2.2
def KT.val{kvs:List (List Key×V)}{U:List (List Key×Addr×ba)}(r:KT H kvs U)(k:List Key):cU (d9 kvs k) ((atKey U k).map (·.2)):=by induction r with|nil=>exact True.intro| @cons p q ps a h t f=>exists d,_,g,h;by_cases e:p.1=k;{have E:q.1=k:=d.symm.trans e;(have b:atKey (q::a) k=some q.2:=by simp[atKey,ft,E]);rw[t9 e,b];exact g};have E:¬ q.1=k:=λz=>e (d.trans z);(have b:atKey (q::a) k=atKey a k:=by simp[atKey,ft,E]);rw[uA e,b];exact f
section
variable{a:Addr}
def zS{u:HO}(ok:fj P w H h)(e:Rd H a u):bS P w H h a u:=e.ok ok
def lK{kvs:List (Key×V)}(ok:fj P w H h)(e:Rd H a (.dK kvs)):kvs.length<=sizeLine/\(a==sysModules)=false/\∃vs,KV kvs vs/\h.DictOf (cI P w) a vs :=
 show bS P w H h a (.dK kvs)from zS ok e
def uB{kvs:List (Key×V)}(ok:fj P w H h)(e:H a=some (.dK kvs)):kvs.length<=sizeLine/\(a==sysModules)=false/\∃vs,KV kvs vs/\h.DictOf (cI P w) a vs:=lK ok (.inl e)
def pM{ks:List Key}(ok:fj P w H h)(e:H a=some (.tup (ks.map kV))):(tupleKind (cI P w)).is h ks a:=by exists _,its,r,o,g,f,_,n,d,(show bS P w H h a (.tup (ks.map kV))from ok a _ e);exact#[o,its.toArray,n,g,f,d,by simpa using zR r]
def pN{kvs:List (List Key×V)}(ok:fj P w H h)(e:Rd H a (.dT kvs)):kvs.length<=sizeLine/\(a==sysModules)=false/\∃U,KT H kvs U/\h.DictOfH (tupleKind (cI P w)) a U:=by exists z,y,U,r,o,es,ep,D,C,B,A,g,(show bS P w H h a (.dT kvs)from zS ok e);(refine#[z,y,U,r,o,es,ep,D,C,B,A,λx hx=>?_,g];have all:∀{l:List (List Key×V)}{m:List (List Key×Addr×ba)},KT H l m->∀x∈m,(tupleKind (cI P w)).is h x.1 x.2.1:=by intro l m q;induction q with|nil=>intro x hx;exact nomatch hx| @cons p q ps E d t f=>intro x hx;rcases cy.mp hx with e|hx;{subst e;exact pM ok (by rw[<- d.1];exact d.2.1)};exact f x hx);exact all r x hx
end
def iP(H:Hp)(a:Addr)(y:V)(r:Option V):Prop :=
 (∃kvs k,Rd H a (.dK kvs)/\y=kV k/\r=d9 kvs k)\/∃kvs k b,Rd H a (.dT kvs)/\y=.ref b/\H b=some (.tup (k.map kV))/\r=d9 kvs k
def Oa(H:Hp)(a:Addr)(y v:V)(H':Hp):Prop :=
 (∃kvs k,H a=some (.dK kvs)/\y=kV k/\kvs.length<sizeLine/\H'=upd H a (.dK (dI kvs k v))) \/
 ∃kvs k b,H a=some (.dT kvs)/\y=.ref b/\H b=some (.tup (k.map kV))/\kvs.length<sizeLine/\H'=upd H a (.dT (dI kvs k v))
section
variable{σ:St}{a:Addr}{y:V}{o:Option V}{A:di}{E:dc}
def Inv.big(I:Inv X aA σ H s):sysModules<s.heap.objs.size:=by have h:mainGlobals<s.heap.objs.size:=(I.mod.glob.keeps I.bk).lt;exact Nat.lt_trans (by decide) h
def Ob(t:A.units+1<cLine)(I:Inv X aA σ H s)(g:iP H a y (some v))(m:aH y u)(h:∀W s',Inv X aA σ H s'->aH v W->Q W s'):wpAny (model X.prog X.w) A (getItem (.ref a) u) Q E s:=by rcases g with⟨kvs,k,e,ey,l⟩|⟨kvs,k,b,e,ey,eb,l⟩;{subst ey;exists z,hd,vs,R,D,lK I.hok e;exists W,d,r,cU.some_of (v:=v) (o:=valueAt vs k) (by rw[l];exact R.val k);exact wpAny_getItem_of (j5 m) D.mapOf d (h W _ (I.tok _) r)};subst ey;cases(show u=Value.ref b from m);exists z,hd,U,R,D,pN I.hok e;exists W,d,r,cU.some_of (v:=v) (o:=(atKey U k).map (·.2)) (by rw[l];exact R.val k);exists p,hp,f,uf.mp d;refine wpAny_getItem_heap (Cq t) (pM I.hok eb) D hp ?_;rw[f];exact h W _ (I.tok _) r
def Dm(f:A.units+1<cLine)(I:Inv X aA σ H s)(g:iP H a y o)(R:aH y u)(h:∀s',Inv X aA σ H s'->Q (.bool o.isSome) s'):wpAny (model X.prog X.w) A (compareOp .In u (.ref a)) Q E s:=by rcases g with⟨kvs,k,e,ey,l⟩|⟨kvs,k,b,e,ey,eb,l⟩;{subst ey;exists z,hd,vs,r,d,lK I.hok e;refine wpAny_in_of (j5 R) hd d.mapOf ?_;rw[<- (r.val k).isSome_eq,<- l];exact h _ (I.tok _)};subst ey;cases(show u=Value.ref b from R);exists z,hd,U,r,d,pN I.hok e;refine wpAny_in_heap (Cq f) (pM I.hok eb) hd d ?_;have q:=(r.val k).isSome_eq;rw[ug]at q;rw[<- q,<- l];exact h _ (I.tok _)
def Oc(f:A.units+1<cLine)(I:Inv X aA σ H s)(g:iP H a y o)(R:aH y u)(h:∀s',Inv X aA σ H s'->Q (.bool (!o.isSome)) s'):wpAny (model X.prog X.w) A (compareOp .NotIn u (.ref a)) Q E s:=by rcases g with⟨kvs,k,e,ey,l⟩|⟨kvs,k,b,e,ey,eb,l⟩;{subst ey;exists z,hd,vs,r,d,lK I.hok e;refine wpAny_notIn_of (j5 R) hd d.mapOf ?_;rw[<- (r.val k).isSome_eq,<- l];exact h _ (I.tok _)};subst ey;cases(show u=Value.ref b from R);exists z,hd,U,r,d,pN I.hok e;refine wpAny_notIn_heap (Cq f) (pM I.hok eb) hd d ?_;have q:=(r.val k).isSome_eq;rw[ug]at q;rw[<- q,<- l];exact h _ (I.tok _)
def pO{ob:HO}(I:Inv X aA σ H s)(mu:uu (H a))(hs:Heap.SameBut a s.heap h')(d:∃q,h'.get? a=some q)(new:bS X.prog X.w (upd H a ob) h' a ob):Inv X aA σ (upd H a ob) {s with heap:=h',toks:=t'} :=
 I.write (x:=a) (e:=a) mu (.inl rfl) (λb q f z=>(hs.2 b f).trans z) d new
def uC{kvs:List (Key×V)}{vs:List (Key×ba)}(z:kvs.length<=sizeLine)(hd:(a==sysModules)=false)(r:KV kvs vs)(d:h'.DictOf (cI P w) a vs):bS P w H' h' a (.dK kvs):=#[z,hd,vs,r,d]
end
def uD(i:Expr):Prop:=∀o a,subscripted i false o a=operate [o,a] (getItem o a)
def Od{A:di}{E:dc}{slice:Expr}{T id:String}(y:typeLookup (.type T) "__getitem__"=pure (some (.builtin id)))(hs:uD slice)(h:wpAny (model prog w) A (eval value env) (λo f=>wpAny (model prog w) A (eval slice env) (λi S=>S.TypeIs o T/\wpAny (model prog w) A (getItem o i) Q E S) E f) E s):wpAny (model prog w) A (eval (.Subscript value slice pos) env) Q E s:=by
 refine Subscript_ (jh h (λo f m=>jh m (λi S a=>?_) λ_ _ x=>x) λ_ _ x=>x);exists t,a,a;unfold subscriptTail;refine bp ?_;rw[Cr t.not_modules];refine bp (qd t y ?_);have F:wpAny (model prog w) A (subscripted slice false o i) (λr d=>wpAny (model prog w) A (letTemporaryGo value o r>>=λ_=>pure r) Q E d) E S:=by rw[hs o i];exact Cs (jh a (λr d g=>bp (Ct (ci g))) λ_ _ x=>x)
 first
  |exact ci (bp F)
  |exact bp (ci (bp F))
  |exact bp F
def Oe{σ:St}{a:Addr}{y:V}{o:Option V}(I:Inv X aA σ H s)(g:iP H a y o):s.TypeIs (.ref a) "dict":=by rcases g with⟨kvs,k,e,_,_⟩|⟨kvs,k,b,e,_,_,_⟩;{exists _,_,vs,_,d,lK I.hok e;exact d.typeIs};exists _,_,U,_,d,pN I.hok e;exact d.typeIs
def Of(h:Heap)(a:sysModules<h.objs.size):bS P w H (h.push { cls:=.type "dict",data:=.dict #[] }) h.objs.size (.dK []):=
 #[gy _,lz.mpr (Ne.symm (gx a)),[],.nil,Heap.DictOf.new h]
def uE:List (TE×TE)->St->Hp->(List (V×V)->Hp->Prop)->Prop|[],_,H,Q=>Q [] H|(tk,tv)::r,σ,H,Q=>tk σ H λx H1=>tv σ H1 λy d=>uE r σ d λps a=>Q ((x,y)::ps) a
abbrev VV:List (V×V)->List (ba×ba)->Prop:=Paired λp q=>aH p.1 q.1/\aH p.2 q.2
def BC(X:Cx)(pos:Pos)(keys:List (Option Expr))(a:List Expr)(t:List (TE×TE)):Prop :=
 ∀(aA:eh) (s:bz) (σ:St) (H:Hp) (Q:List (V×V)->Hp->Prop),Inv X aA σ H s->uE t σ H Q ->
  wpAny (model X.prog X.w) X.A (evalPairs (pairTrees keys a X.env pos)) (λvs s'=>∃ps H',Inv X aA σ H' s'/\VV ps vs/\Q ps H') X.xe s
def Og:BC X pos [] [] []:=λaA s σ H Q I h=>pairTrees_nil_walk #[[],H,I,.nil,h]
def Oh{k v:Expr}{ks:List (Option Expr)}{vs:List Expr}{tk:TE}{t:List (TE×TE)}(hk:PE X k tk)(m:PE X v tv)(o:BC X pos ks vs t):BC X pos (some k::ks) (v::vs) ((tk,tv)::t):=λaA s σ H Q I h =>
 pairTrees_cons_walk (thn (hk aA s σ H _ I h) λu a ⟨x,H1,C,d,q1⟩=>thn (m aA a σ H1 _ C q1) λW S ⟨y,E,B,R,g⟩ =>
  thn (o aA S σ E _ B g) λws F ⟨ps,D,A,r,f⟩=>#[(x,y)::ps,D,A,.cons #[d,R] r,f])
def lL(kvs more:List (Key×V)):List (Key×V):=more.foldl (λa kv=>dI a kv.1 kv.2) kvs
def KV.merge:∀{more:List (Key×V)}{rs:List (Key×ba)}{kvs:List (Key×V)}{vs:List (Key×ba)},KV more rs->KV kvs vs->KV (lL kvs more) (merged vs rs):=by intro more rs kvs vs r;unfold KV at r;induction r generalizing kvs vs with|nil=>intro q;exact q| @cons p q ps d h t a=>(intro R;have e:KV (dI kvs p.1 p.2) (stored vs q.1 q.2):=by have:=R.put p.1 h.2;rw[<- h.1];exact this);exact a e
theorem zT:∀(more kvs:List (Key×V)),(lL kvs more).length<=kvs.length+more.length|[],kvs=>by show kvs.length<=kvs.length+0;lia|p::r,kvs=>by have d:=zT r (dI kvs p.1 p.2);have a:=zQ kvs p.1 p.2;show(lL (dI kvs p.1 p.2) r).length<=_;rw[gh];lia
theorem zU{P:e7}{w:cw}:∀{kvs:List (Key×V)}{ws:List (ba×ba)},VV (kvs.map λkv=>(kV kv.1,kv.2)) ws->∃rs,Carries (cI P w) ws rs/\KV kvs rs|[],_,r=>by rw[ll]at r;cases r;exact#[[],True.intro,.nil]|p::kvs,_,r=>by rw[cu]at r;cases r with| @cons a b as bs h t=>exists rs,c,q,zU (P:=P) (w:=w) t;exists d,B,b;exact#[(p.1,B)::rs,#[j5 h.1,rfl,c],.cons #[rfl,h.2] q]
def vt(t:List (TE×TE)):TE:=λσ H Q=>∀p,H p=none->uE t σ (upd H p (.dK [])) λps a=>a p=some (.dK [])/\∃kvs:List (Key×V),ps=kvs.map (λkv=>(kV kv.1,kv.2))/\kvs.length<=15/\Q (.ref p) (upd a p (.dK (lL [] kvs)))
theorem Oi{keys:List (Option Expr)}{V:List Expr}{t:List (TE×TE)}(h:BC X pos keys V t)(d:keys.all (·.isSome)=true)(E:keys.length=V.length)(h0:keys≠[])(f:keys.length<=15):PE X (.Dict keys V pos) (vt t):=by(intro aA s σ H Q I q;have hn:=I.hok.fresh (dg s.heap.objs.size);have K:=I.laid (a:=s.heap.objs.size) (o:=.dK []) (h':=s.heap.push { cls:=.type "dict",data:=.dict #[] }) (t':=s.toks) (λ_ _ q=>hps q) (dg _) (Of s.heap I.big);refine wpAny_Dict_walk (knd:=cI X.prog X.w) d E h0 f (thn (h aA _ σ _ _ K (q _ hn)) λws S ⟨ps,M,g,r,e,kvs,ep,L,A⟩=>?_);subst ep;exists R,c,rk,zU (P:=X.prog) (w:=X.w) r;exists z,hd,m,y,J,uB g.hok e;cases y;refine#[R,c,J,λh' D hs=>#[.ref s.heap.objs.size,_,?_,rfl,A]];have B:(lL [] kvs).length<=sizeLine:=by have G:=zT kvs [];rw[qc]at G;rw[dj];lia);have F:∃q,h'.get? s.heap.objs.size=some q:=let⟨q,_,_,C,_⟩:=D;#[q,C];exact pO g (by rw[e];exact True.intro) hs F (uC B hd (rk.merge .nil) D)
structure M1(X:Cx)(o:Expr)(m:Str)(apos:Pos)(e:Expr)(cpos:Pos):Prop where
 base:attributeBase o m X.env (eval o X.env)=eval o X.env
 few:((backTo cpos (starEach [e] X.env)).all (λx=>!x.1)&&(backToKw cpos (keywordEach [] X.env)).all (λx=>x.1.isSome)
  && decide (([e]:List Expr).length+([]:List Keyword).length+(if([]:List Keyword).isEmpty then 0 else 1)<30))=true
 line:(apos.endLine==cpos.line)=true
 trees:backTo cpos (starEach [e] X.env)=[(false,eval e X.env)]
structure M2(X:Cx)(o:Expr)(m:Str)(apos:Pos)(e f:Expr)(cpos:Pos):Prop where
 base:attributeBase o m X.env (eval o X.env)=eval o X.env
 few:((backTo cpos (starEach [e,f] X.env)).all (λx=>!x.1)&&(backToKw cpos (keywordEach [] X.env)).all (λx=>x.1.isSome)
  && decide (([e,f]:List Expr).length+([]:List Keyword).length+(if([]:List Keyword).isEmpty then 0 else 1)<30))=true
 line:(apos.endLine==cpos.line)=true
 trees:backTo cpos (starEach [e,f] X.env)=[(false,eval e X.env),(false,eval f X.env)]
end L2
namespace Att
open PySem.W PySem.Calls
def Oj{P:Params}:∀(ns:List Int) (vs:List ba),WellAll P h vs (ns.map WData.int)->IntsAre vs ns:=by intro ns;induction ns with|nil=>intro vs w;rw[ll]at w;cases w;exact .nil|cons n ns d=>intro vs w;rw[cu]at w;cases w with|cons a b=>cases a;exact .cons _ _ (d _ b)
theorem Ol{l:OpenLaw}(hn:l.most=some n){P:Params}{args:List WData}{V:List ba}(f:l.row.toRowW.claim.pre args=true)(y:WellAll P h V args):∃a vs ns,V=[Value.ref a]/\args=[WData.list (ns.map WData.int)]/\h.get? a=some { cls:=.type "list",data:=.seq vs.toArray }/\IntsAre vs ns/\ns.length<=n:=by
 have A:WShape.hasAll [] args [.list .int]=true:=(pre_splitW f).1;have B:l.pre.holds [] {args:=args}=true:=(pre_splitW f).2;exists d,r,rfl,F,E,hasAllW_cons A;obtain rfl:=hasAllW_nil E;exists U,rfl,D,hasW_list F;exists ns,rfl,items_int D;have g:ns.length<=n:=by
  unfold OpenLaw.pre at B;have t:(WTm.not (.lt (.lit (.int (n:Int))) (.len (.arg 0)))).holds [] {args:=[.list (ns.map .int)]}=true:=by have t:=(holds_andW B).1;rw[hn]at t;exact t
  have o:=condW_of t (w_not (w_lt w_lit (w_len_list (w_arg rfl))));rw[du]at o;refine Nat.le_of_not_lt λq=>?_;have q':(n:Int)<((ns.length:Nat):Int):=by lia
  first
   |(rw[gS q']at o;exact absurd o (by decide))
   |(simp at o;lia)
 cases y with|cons C W=>cases W;cases C with|list ho m=>exact#[_,_,ns,rfl,rfl,ho,Oj ns _ m,g]
def Om(l:OpenLaw)(args:List WData):l.row.toRowW.claim.post args (.bool true) args=true :=
 postW_of (r:=l.row.toRowW) (X:=(true==true))
  (show WShape.has [] (.bool true) .bool=true by first|rfl|decide|simp[WShape.has,WShape.arms,WShape.armsAll])
  (show(WTm.eq .res (.lit (.bool true))).value [] {args:=args,res:=some (.bool true),after:=args}=some (.bool (true==true))from w_eq_bool (w_res rfl) w_lit) rfl
def aLA{l:OpenLaw}{q:e7}{d:DefRec}(hn:l.most=some n)(A:d.params.defaults=[])(call:∀(w:cw) (s₀ S:bz) (mg M:fg) (fa:Addr) (o:Obj) (y cd D:ba) (a:Addr) (vs:List ba) (ns:List Int),Ground q loose [] XP w s₀ mg M S.heap->YP w S.heap->S.heap.get? fa=some o->o.data=.func (docDef d.name d.params d.body d.scope y cd D)->S.heap.CodeRec cd d.name->mg d.name=some (.ref fa)->S.heap.get? a=some { cls:=.type "list",data:=.seq vs.toArray }->IntsAre vs ns->ns.length<=n->S.gens=#[]->codeAny (model l.prog w) callerA (.call (.ref fa) #[[.ref a],[]]) (λr s'=>r=.ok (.ret (.bool true))/\OldK S.heap s'.heap/\s'.os=S.os/\AllBare s'.gens) S):WalkO q loose XP YP l.row.toRowW d [] (λf vs=>PySem.call f vs):=by intro w s₀ S mg M G Y fa o y cd D dV kV ho hd hcd hD hmg hg args vals as hpre hlay hrd hwl hlo;obtain rfl:dV=.none:=Dflts.none hD A;obtain rfl:kV=.none:=Dflts.noKw hD;exists a,vs,ns,rfl,rfl,m,g,t,Ol hn hpre hwl;refine enter_call (qe (call w s₀ S mg M fa o y cd D a vs ns G Y ho (fd_plain hd) hcd hmg m g t hg) λr s' B=>?_);exists rfl,J,F,E,B;exact#[.inl #[.bool true,.bool true,[],rfl,λ_=>rfl,.bool true,Om l _,λ_=>#[List.Pairwise.nil,λ_ C=>(nomatch C)]],J,F,E]
section
def Dn(h:Heap)(L d:Addr):eh:=(List.range h.objs.size).filterMap λa=>if a=L\/a=d then none else(h.get? a).map λo=>(a,o)
end
end Att
namespace L2
noncomputable abbrev X3{K:Fg}(_:K.In h):Fg:=K
def nS(s:Stmt):Arguments:=match s with|.FunctionDef _ a _ _ _ _ _ _ _ _=>a|_=>{posonlyargs:=[],args:=[],vararg:=none,kwonlyargs:=[],kw_defaults:=[],kwarg:=none,defaults:=[]}
def gZ(s:Stmt):List Stmt:=match s with|.FunctionDef _ _ b _ _ _ _ _ _ _=>b|_=>[]
def dR(s:Stmt):Scope:=match s with|.FunctionDef _ _ _ _ _ _ sc _ _ _=>sc|_=>{kind:=.function,names:=[],isGenerator:=false,isCoroutine:=false}
abbrev On:CXT:=λ_ _ _ _ _ _=>False
structure nA(K:Fg)(x qual:Str)(st:Stmt)(f:Addr)(fd:FuncData):Prop where
 ex:∃(oc:ba) (od:Option Addr) (kV doc pm:ba) (an:Option Addr) (cdv ct:ba) (osl:Array (Option ba)),
  fd=W.fnOf x qual (nS st) (gZ st) (dR st) .none kV doc pm an cdv ct/\K.lookup f=some #[oc,od,.func fd,osl]/\W.codeIn K cdv qual=true
 kp:W.keepIn K (.ref f)=true
section
variable{K:Fg}
def Oo{f:Addr}{g:ba}{O an:Option Addr}{o:Array (Option ba)}{kV d a ct:ba}(l:K.lookup f=some #[g,O,.func (W.fnOf x qual (nS st) (gZ st) (dR st) .none kV d a an cdv ct),o])(c:W.codeIn K cdv qual=true)(k:W.keepIn K (.ref f)=true):nA K x qual st f (W.fnOf x qual (nS st) (gZ st) (dR st) .none kV d a an cdv ct):=#[#[g,O,kV,d,a,an,cdv,ct,o,rfl,l,c],k]
end
def aE(H H':Hp):Prop:=∀b o,H b=some o->H' b=some o
def aE.refl(H:Hp):aE H H:=λ_ _ h=>h
def aE.trans{H1 d:Hp}(a:aE H H1)(b:aE H1 d):aE H d:=λc o h=>b c o (a c o h)
def aE.free(e:aE H H')(h:H' l=Option.none):H l=Option.none:=by cases q:H l with|none=>rfl|some o=>rw[e l o q]at h;cases h
def aE.seq{K:Fg}{a:Addr}(e:aE H H')(h:dz K H a U):dz K H' a U:=by rcases h with(h|⟨o,h⟩)|h;{exact .inl (.inl (e _ _ h))};{exact .inl (.inr #[o,e _ _ h])};exact .inr h
def N.ind{P:N->Prop}(hi:∀n,P (.i n))(hs:∀x,P (.s x))(ht:∀U,(∀x∈U,P x)->P (.t U))(k:N):P k :=
 N.rec (motive_1:=P) (motive_2:=λU=>∀x∈U,P x) hi hs ht (λ_ h=>nomatch h) (λa l f d x hx=>by
  rcases cy.mp hx with rfl|hx
  . exact f
  . exact d x hx) k
mutual
def N.eq:N->N->Bool|.i n,.i m=>n==m|.s x,.s y=>x==y|.t U,.t ys=>N.eqL U ys|_,_=>false
def N.eqL:List N->List N->Bool|[],[]=>true|x::U,y::ys=>N.eq x y&&N.eqL U ys|_,_=>false
end
theorem N.eqL_iff:∀{U ys:List N},(∀x∈U,∀y,N.eq x y=true↔x=y)->(N.eqL U ys=true↔U=ys)|[],[],_|[],_::_,_|_::_,[],_=>by simp[N.eqL]|x::U,y::ys,h=>by rw[N.eqL,cc,h x cj y,N.eqL_iff λz a=>h z (cs a),uh]
def N.eq_iff(k:N):∀y,N.eq k y=true↔k=y:=by induction k using N.ind with|hi n|hs x=>intro y;cases y <;> simp[N.eq]|ht U a=>intro y;cases y with|t ys=>rw[N.eq,N.eqL_iff a];simp|_=>simp[N.eq]
instance:DecidableEq N:=λa b=>decidable_of_iff _ (N.eq_iff a b)
mutual
def N.py:N->PyData|.i n=>.int n|.s x=>.str x|.t U=>.tuple (N.pyL U)
def N.pyL:List N->List PyData|[]=>[]|x::U=>N.py x::N.pyL U
end
mutual
def N.dp:N->Nat|.i _|.s _=>0|.t U=>N.dpL U+1
def N.dpL:List N->Nat|[]=>0|x::U=>max (N.dp x) (N.dpL U)
end
theorem N.dp_mem:∀{U:List N}{x:N},x∈U->x.dp<=N.dpL U|y::ys,x,h=>by rw[N.dpL];rcases cy.mp h with rfl|h;{lia};have:=N.dp_mem h;lia
theorem N.py_depthL:∀{U:List N},(∀x∈U,x.py.depth=x.dp)->PyData.depthAll (N.pyL U)=N.dpL U|[],_=>by simp[N.pyL,N.dpL,PyData.depthAll]|x::U,h=>by simp only[N.pyL,N.dpL,PyData.depthAll];rw[h x cj,N.py_depthL λz a=>h z (cs a)]
def N.py_depth(k:N):k.py.depth=k.dp:=by induction k using N.ind with|hi n|hs x=>simp[N.py,N.dp,PyData.depth]|ht U a=>simp only[N.py,N.dp,PyData.depth];rw[N.py_depthL a]
theorem N.py_eqvL:∀{U ys:List N},(∀x∈U,∀y:N,PyData.eqv x.py y.py=decide (x=y))->PyData.eqvAll (N.pyL U) (N.pyL ys)=decide (U=ys)|[],[],_|[],_::_,_|_::_,[],_=>by simp[N.pyL,PyData.eqvAll]|x::U,y::ys,h=>by simp only[N.pyL,PyData.eqvAll];rw[h x cj y,N.py_eqvL λz a=>h z (cs a)];by_cases d:x=y <;> by_cases E:U=ys <;> simp[d,E]
def N.py_eqv(k:N):∀y:N,PyData.eqv k.py y.py=decide (k=y):=by
 induction k using N.ind with
 |hi n=>intro y;cases y with|i m=>simp only[N.py,PyData.eqv];by_cases e:n=m <;> simp[e]|s x|t U=>simp[N.py,PyData.eqv]
 |hs x=>intro y;cases y with|i m=>simp[N.py,PyData.eqv]|s z=>simp only[N.py,PyData.eqv];by_cases e:x=z <;> simp[e]|t U=>simp[N.py,PyData.eqv]
 |ht U a=>intro y;cases y with|i m|s z=>simp[N.py,PyData.eqv]|t ys=>simp only[N.py,PyData.eqv];rw[N.py_eqvL a];by_cases e:U=ys <;> simp[e]
mutual
def cz(h:Heap):N->ba->Prop|.i n,v=>∃t,v=.int n t|.s x,v=>(∃t,v=.str x t)/\PyData.strOk x=true|.t U,v=>∃a o items n,v=.ref a/\h.get? a=some o/\o.cls=.type "tuple" /\ o.data=.seq items n/\aW h U items.toList
def aW(h:Heap):List N->List ba->Prop|[],vs=>vs=[]|x::U,vs=>∃v us,vs=v::us/\cz h x v/\aW h U us
end
theorem aW.mem:∀{h:Heap}{U:List N}{vs:List ba},aW h U vs->∀v∈vs,∃x∈U,cz h x v|h,[],vs,q,v,a=>by rw[aW]at q;subst q;cases a|h,x::U,vs,q,v,a=>by rw[aW]at q;exists u,us,rfl,q1,d,q;rcases cy.mp a with rfl|a;{exact#[x,cj,q1]};exists y,f,e,d.mem v a;exact#[y,cs f,e]
theorem aW.map:∀{h h':Heap}{U:List N}{vs:List ba},aW h U vs->(∀x∈U,∀v,cz h x v->cz h' x v)->aW h' U vs|h,h',[],vs,q,k=>by rw[aW]at q ⊢;exact q|h,h',x::U,vs,q,k=>by rw[aW]at q ⊢;exists u,us,e,q1,a,q;exact#[u,us,e,k x cj u q1,a.map λy d=>k y (cs d)]
def cz.keeps{d:Addr}{o:Obj}{es ep:_}(ho:h.get? d=some o)(hd:o.data=.dict es ep)(hs:Heap.SameBut d h h')(k:N):∀v,cz h k v->cz h' k v:=by induction k using N.ind with|hi n|hs x=>intro v q;rw[cz]at q ⊢;exact q|ht U m=>(intro v q;rw[cz]at q ⊢;exists a,O,items,n,e,ha,r,f,hi,q;have g:a≠d:=by rintro rfl;obtain rfl:O=o:=jw (ha.symm.trans ho);rw[hd]at f;exact nomatch f);exact#[a,O,items,n,e,(hs.2 a g).trans ha,r,f,hi.map m]
theorem aW.readsL:∀{h:Heap}{U:List N}{vs:List ba},aW h U vs->(∀x∈U,∀v,cz h x v->(∃as,Reads h v x.py as)/\x.py.canLay0=true)->(∃as,ReadsAll h vs (N.pyL U) as)/\PyData.canLayAll0 (N.pyL U)=true|h,[],vs,q,k=>by rw[aW]at q;subst q;exact#[#[_,.nil],by simp[N.pyL,PyData.canLayAll0]]|h,x::U,vs,q,k=>by rw[aW]at q;exists u,us,rfl,q1,a,q;obtain⟨⟨as,R⟩,ca⟩:=k x cj u q1;obtain⟨⟨bs,r⟩,C⟩:=a.readsL λy d=>k y (cs d);exact#[#[_,.cons R r],by simp only[N.pyL,PyData.canLayAll0,ca,C,Bool.and_self]]
def cz.reads(k:N):∀v,cz h k v->(∃as,Reads h v k.py as)/\k.py.canLay0=true:=by induction k using N.ind with|hi n=>intro v q;rw[cz]at q;exists t,rfl,q;exact#[#[_,.int n t],rfl]|hs x=>intro v q;rw[cz]at q;obtain⟨⟨t,rfl⟩,hk⟩:=q;exact#[#[_,.str x t],by simpa only [N.py,PyData.canLay0]using hk]|ht U f=>intro v q;rw[cz]at q;exists a,o,items,n,rfl,ha,g,d,hi,q;obtain⟨⟨as,r⟩,ca⟩:=hi.readsL f;exact#[#[_,.tuple ha g d r],by simpa only [N.py,PyData.canLay0]using ca]
theorem aW.inj:∀{h:Heap}{U ys:List N}{vs:List ba},(∀x∈U,∀y v,cz h x v->cz h y v->x=y)->aW h U vs->aW h ys vs->U=ys|h,[],[],vs,_,_,_=>rfl|h,[],y::ys,vs,_,p,q=>by rw[aW]at p;subst p;rw[aW]at q;exists _,_,e,_,q;cases e|h,x::U,[],vs,_,p,q=>by rw[aW]at q;subst q;rw[aW]at p;exists _,_,e,_,p;cases e|h,x::U,y::ys,vs,k,p,q=>by rw[aW]at p q;exists u,us,rfl,p1,p2,p;exists _,_,e,q1,a,q;cases e;rw[k x cj y _ p1 q1,aW.inj (λz d=>k z (cs d)) p2 a]
theorem cz.inj(k:N):∀y v,cz h k v->cz h y v->k=y:=by
 induction k using N.ind with
 |hi n=>intro y v p q;rw[cz]at p;exists t,rfl,p;cases y with|i m=>rw[cz]at q;exists u,e,q;cases e;rfl|s x=>rw[cz]at q;obtain⟨⟨u,e⟩,_⟩:=q;cases e|t U=>rw[cz]at q;exists _,_,_,_,e,_,q;cases e
 |hs x=>intro y v p q;rw[cz]at p;obtain⟨⟨t,rfl⟩,_⟩:=p;cases y with|i m=>rw[cz]at q;exists u,e,q;cases e|s x=>rw[cz]at q;obtain⟨⟨u,e⟩,_⟩:=q;cases e;rfl|t U=>rw[cz]at q;exists _,_,_,_,e,_,q;cases e
 |ht U A=>intro y v p q;rw[cz]at p;exists a,o,items,n,rfl,ha,D,hd,hi,p;cases y with|i m=>rw[cz]at q;exists u,e,q;cases e|s x=>rw[cz]at q;obtain⟨⟨u,e⟩,_⟩:=q;cases e|t ys=>rw[cz]at q;exists E,O,f,C,e,r,_,d,g,q;cases e;obtain rfl:o=O:=jw (ha.symm.trans r);rw[hd]at d;injection d with B _;subst B;rw[aW.inj A hi g]
mutual
def N.dr:N->Nat|.i _|.s _=>1|.t U=>N.drL U+1
def N.drL:List N->Nat|[]=>0|x::U=>N.dr x+N.drL U
end
section
variable{A:di}{E:dc}
theorem zV:∀(U:List N) (y:N),N.drL (U++[y])=N.drL U+N.dr y|[],y=>by simp[N.drL]|x::U,y=>by rw[ou,N.drL,zV U y,N.drL,lm]
theorem zW:∀(U:List N) (y:N),eV w (U++[y])=eV w U++[fY w y]|[],y=>by simp[eV]|x::U,y=>by rw[ou,eV,zW U y,eV,ou]
theorem Op(k:N):∀{A:di}{E:dc}{s:bz}{v:ba}{Q:Int->bz->Prop},A.units+k.dp<cLine->cz s.heap k v->Q (fY w k) {s with toks:=s.toks+k.dr} -> wpAny (model prog w) A (pyHash v) Q E s:=by
 induction k using N.ind with
 |hi n=>intro A E s v Q hu hk h;rw[cz]at hk;exists t,rfl,hk;rw[fY,N.dr]at h;exact wpAny_pyHash_int h|hs x=>intro A E s v Q hu hk h;rw[cz]at hk;obtain⟨⟨t,rfl⟩,_⟩:=hk;rw[fY,N.dr]at h;exact wpAny_pyHash_str h|ht U C =>
  intro A E s v Q hu hk h;rw[cz]at hk;exists a,o,items,n,rfl,ho,D,hd,hi,hk;rw[N.dp]at hu;have m:s.TypeIs (.ref a) "tuple":=#[o,ho,D];unfold pyHash
  first|unfold pyHashByItsType|skip
  first|refine bp (wpAny_cRoomFor_or (.inr (by lia)) ?_)|skip
  refine bp (qd m F.slot_tuple_hash.lookup ?_);show wpAny _ _ (if(some (Value.builtin "tuple.__hash__")==some Value.none)=true then _ else _) Q E s;rw[a0 (by rw[beq_builtin_none];exact fq)]
  refine bp (qd m F.slot_tuple_hash.lookup ?_);show wpAny _ _ (callSpecialIfBoundUnlessNone? (.ref a) "__hash__" _>>=_) Q E s;refine bp (wpAny_callSpecialIfBoundUnlessNone?_slot m F.slot_tuple_hash (li F.slot_tuple_hash m F.entry_tuple_hash ?_ (F.args_tuple_hash_1 _)));show wpAny _ _ (Builtin.Tuple.tupleItemsOf (.ref a)>>=_) _ _ s;refine bp (wpAny_tupleItemsOf ho hd ?_);refine bp ?_;rw[<- Array.forIn_toList];refine A8 _
   (λrest (b:Array Int) s'=>∃done left,U=done++left/\aW s.heap left rest/\b.toList=eV w done/\s'={s with toks:=s.toks+N.drL done})
   _ ?_ ?_ _ _ #[[],U,rfl,hi,by simp[eV],by simp[N.drL]]
  . rintro x rest b s' ⟨done,left,e,hl,hb,rfl⟩;cases left with
    |nil=>rw[aW]at hl;cases hl|cons k ks =>
     rw[aW]at hl;exists _,_,y,G,r,hl;cases y;have B:k∈U:=by rw[e];simp
     refine bp (C k B (A:=A.in1) (by have:=N.dp_mem B;show A.units+1+_<_;lia) G ?_)
     have f:∃d L,U=d++L/\aW s.heap L rest/\(b.push (fY w k)).toList=eV w d/\({s with toks:=s.toks+N.drL done+k.dr}:bz)={s with toks:=s.toks+N.drL d} :=
      #[done++[k],ks,by rw[e];simp,r,by rw[zW,Array.toList_push,hb],by rw[zV,lm]]
     first
      |exact ci f
      |exact bp (ci (ci f))
  . rintro b s' ⟨done,left,e,hl,hb,rfl⟩;cases left with
    |cons k ks=>rw[aW]at hl;exists _,_,y,_,hl;cases y|nil =>
    rw[ij]at e;subst e;show wpAny _ _ (retInt (Builtin.Tuple.tupleHashOf b.toList)) _ _ _;rw[hb];refine wpAny_ret_mkInt ?_;show wpAny _ _ (if(decide (-(2:Int) ^ 63<=Builtin.Tuple.tupleHashOf (eV w U))&&decide (Builtin.Tuple.tupleHashOf (eV w U)<2 ^ 63))=true then _ else _) Q E _;rw[fY,N.dr]at h;unfold reduceHash at h;by_cases g:(decide (-(2:Int) ^ 63<=Builtin.Tuple.tupleHashOf (eV w U))&&decide (Builtin.Tuple.tupleHashOf (eV w U)<2 ^ 63))=true
    . rw[al g];rw[al g]at h;exact ci (by simpa[lm]using h)
    . rw[a0 g];rw[a0 g]at h;exact bp (rr (ci (by simpa[lm]using h)))
theorem vz{x y:N}{v:ba}{Q:Bool->bz->Prop}(d:A.units+x.dp<cLine)(hx:cz s.heap x u)(a:cz s.heap y v)(h:Q (decide (x=y)) s):wpAny (model prog w) A (eqBool u v) Q E s:=by obtain⟨⟨as,R⟩,ca⟩:=cz.reads x u hx;obtain⟨⟨bs,r⟩,C⟩:=cz.reads y v a;refine Cu x.py y.py A s u v as bs R r ca C (by rw[N.py_depth];have:=A9 x.dp y.py.depth;lia) prog w E Q ?_;rw[N.py_eqv];exact h
theorem Oq(k:N):∀{n:Nat}{v:ba}{Q:Bool->bz->Prop},k.dp<=n->cz s.heap k v->Q true s->wpAny (model prog w) A (eqIsQuiet n v) Q E s:=by induction k using N.ind with|hi m=>intro n v Q hn hk h;rw[cz]at hk;exists t,rfl,hk;rw[eqIsQuiet_byValue n rfl];exact ci h|hs x=>intro n v Q hn hk h;rw[cz]at hk;obtain⟨⟨t,rfl⟩,_⟩:=hk;rw[eqIsQuiet_byValue n rfl];exact ci h|ht U y=>intro n v Q hn hk h;rw[cz]at hk;exists a,o,items,c,rfl,ho,C,hd,hi,hk;rw[N.dp]at hn;cases n with|zero=>lia|succ n=>have g:s.TypeIs (.ref a) "tuple":=#[o,ho,C];unfold eqIsQuiet;refine bp (qd g F.slot_tuple_eq.lookup ?_);show wpAny _ _ (isInstance (.ref a) (.type "tuple")>>=_) _ _ s;refine bp (Cv g isSubtype_tuple_tuple ?_);simp only[Bool.not_true,mw,ji];refine bp (wpAny_seqItems ho hd ?_);refine bp ?_;show wpAny _ _ (forIn items _ _) _ _ s;rw[<- Array.forIn_toList];refine A8 _ (λrest r s'=>r.1=none/\s'=s/\∀v∈rest,∃x∈U,cz s.heap x v) _ ?_ ?_ _ _ #[rfl,rfl,hi.mem];{rintro v rest r s' ⟨f,rfl,hall⟩;exists x,hx,B,hall v cj;refine bp (y x hx (n:=n) (by have:=N.dp_mem hx;lia) B ?_);simp only[Bool.not_true,mw,ji];exact ci #[rfl,rfl,λu d=>hall u (cs d)]};rintro⟨D,R⟩ s' ⟨f,rfl,_⟩;simp only at f;subst f;exact ci h
end
noncomputable def nU(prog:e7)(w:cw):HeapKind prog w N where
 is:=λh k a=>cz h k (.ref a)/\k.dp<=8
 hash:=fY w
 draws:=N.dr
 room:=λA=>A.units+8<cLine
 inj:=λhx d=>cz.inj _ _ _ hx.1 d.1
 keeps:=λx ho hd hs=>#[cz.keeps ho hd hs _ _ x.1,x.2]
 pyHash:=λf hk h=>Op _ (by have:=hk.2;omega) hk.1 h
 eqBool:=λf hx d h=>vz (by have:=hx.2;omega) hx.1 d.1 h
 quiet:=λhk h=>Oq _ hk.2 hk.1 h
def g9(f:Addr)(o:Obj):HO:=.ext λh=>h.get? f=some o
def zX{f:Addr}{o:Obj}(e:h.get? f=some o):bS P w H h f (g9 f o):=#[e,#[o,e],λ_ _ p k=>k o p]
def Os{f:Addr}{o:Obj}(ok:fj P w H h)(e:H f=some (g9 f o)):h.get? f=some o:=(ok f _ e).1
def Ot{c:Addr}(ok:fj P w H h)(e:H c=some (.crec q)):h.CodeRec (.ref c) q:=by exists o,vs,t,d,a,E,ok c _ e;exact#[c,o,vs,t,rfl,d,a,E]
theorem Ou{z:Pos}{C cv:ba}:∀{l:List ba},TriplesOk l->codeAmong z (l++[rawInt pos.line,rawInt pos.col,C])=some cv->codeAmong z l=some cv\/(cv=C/\z.line=pos.line):=by
 intro l
 fun_induction TriplesOk l with
 |case1 =>
  intro _ h;simp only[ow,codeAmong,rawInt]at h;split at h
  . rename_i d;rw[cc,ck]at d;cases h;exact .inr #[rfl,by have:=d.1;lia]
  . cases h
 |case2 a t b u x rest g =>
  intro f h;simp only[ou,codeAmong]at h ⊢;split at h
  . rename_i d;rw[al d];exact .inl h
  . rename_i d;rw[a0 d];exact g f h
 |case3 l f m=>intro h;exact h.elim
section
variable{σ:St}{E:dc}
theorem Ov(I:Inv X aA σ H s)(ai:W.codeIn X.K X.env.code q=true)(hq:X.env.qual=q++".<locals>."){as:List Arg}{body:Expr}(N:pD (q++".<locals>.") pos.line="<lambda>")(hf:∀y∈scope.names,y.2 ≠ .free)(h:∀f c pm ct s' H',Inv X aA σ H' s'->(∀b o,H b=some o->H' b=some o)->H f=none->H' c=some (.crec (X.env.qual++"<lambda>"))->H' f=some (g9 f (W.kla_obj "<lambda>" (X.env.qual++"<lambda>") #[[],as,none,[],[],none,[]] body scope [] pm c ct))->Q (.ref f) s'):wpAny (model X.prog X.w) X.A (eval (.Lambda #[[],as,none,[],[],none,[]] body scope pos) X.env) Q E s:=by
 exists c,T,ps,e1,hd,am,J,I.ok.tabs _ _ ai;exists more,R,I.base.tbls T ps am;exists q',m,g1,g2,g3,g4,I.hok T _ R;obtain rfl:q'=X.env.qual:=by rw[Array.getElem?_append_left (qy.mp J).1,J,<- hq]at g1;cases g1;rfl
 rw[<- hq]at N;have Z:closureFor scope X.env=pure []:=closureFor_none hf;have B:=I.bk;exists bm,ob,b1,b2,b3,b4,b5,b6,I.mod.bmod;have gT:X.base.get? T=none:=by cases z:X.base.get? T with|none=>rfl|some o=>have:=(I.bs T o z).2;rw[R]at this;cases this
 have aj:bm≠T:=λz=>by rw[z,gT]at b3;cases b3
 have G:=I.mod.glob;have ag:mainGlobals≠T:=λz=>by exists o,es,ep,e,_,G;rw[z,gT]at e;cases e
 have ak:bm≠mainGlobals:=λz=>by exists o,es,ep,e,hd,_,G;rw[z,e]at b3;cases b3;rw[hd]at b6;cases b6
 have hB:s.heap.BuiltinsAt X.mg T:=#[bm,ob,b1,b2,ak,aj,B _ _ b3,b4,b5,b6];show wpAny (model X.prog X.w) X.A (do
  let dv <- evalAll []
  let kdv <- holding dv (evalAllOpt [])
  makeFunction "<lambda>" (X.env.qual++"<lambda>") #[[],as,none,[],[],none,[]] (.expr body) scope X.env dv kdv [] pos pos.line) Q E s
 refine bp (ci (bp (jj (ci ?_))));have nT:∀{b:Addr}{o:HO},H b=some o->(∀ps,o ≠ .tbl ps)->b≠T:=λ{b o} e n z=>by rw[z,R]at e;cases e;exact n _ rfl
 cases hm:codeAmong pos m.toList with
 |none=>(refine W.kla_makeFunction (mg:=X.mg) Z I.ok.glob (G.keeps B) e1 (hd.keeps B) g2 g3 hm ag hB λC D h' tk hx g Y V ae=>?_;exists aq,oc,vs,t,e2,af,ah,hv,V;cases e2;have cT:C≠T:=p7 (gq (dy g2) g);have sz:s.heap.objs.size<=h'.objs.size:=by lia);let H1:Hp:=upd H C (.crec (X.env.qual++"<lambda>"));let F:Obj:=W.kla_obj "<lambda>" (X.env.qual++"<lambda>") #[[],as,none,[],[],none,[]] body scope [] ((X.mg "__name__").getD .none) C D;let H2:Hp:=upd H1 h'.objs.size (g9 h'.objs.size F);(have f0:H h'.objs.size=none:=I.hok.fresh sz;have c0:H C=none:=I.hok.fresh g;have M:∀b o,H b=some o->H1 b=some o:=λb o e=>by show upd H C _ b=_;rw[aP (bV e c0)];exact e);(have fc:h'.objs.size≠C:=λz=>by rw[z]at Y;exact absurd Y (ky _));(have S:∀b o,H1 b=some o->H2 b=some o:=λb o e=>by(have r:b≠h'.objs.size:=λz=>by subst z;have e:upd H C _ h'.objs.size=some o:=e;rw[aP fc,f0]at e;cases e);show upd H1 _ _ b=_;rw[aP r];exact e);(have keep:∀b o,b≠T->s.heap.get? b=some o->(h'.push F).get? b=some o:=λb o r e=>hps (hx b o r e);have aa:(h'.push F).get? T=some (W.tabObj (m++(List.toArray [rawInt pos.line,rawInt pos.col,.ref C]))):=hps ae;have un:Un (gj X.stack) [] H H2 s.heap (h'.push F):=by refine#[λb o e n _ _=>keep b o (λz=>by rw[z,R]at n;cases n) e,λb o e n _ _=>#[o.slots,keep b o (λz=>by rw[z,R]at n;cases n) e],λb o e n _=>?_,λb o e _=>?_,λb U e=>S _ _ (M _ _ e),λb o u e=>S _ _ (M _ _ e),λb ps e=>#[#[],by rw[S _ _ (M _ _ e)];simp]];{have r:=dy e;show upd (upd H C _) h'.objs.size _ b=none;rw[aP (gx (gq r sz)),aP (gx (gq r g))];exact n};by_cases r:b=T;{exact#[_,r ▸ aa]};exact#[o,keep b o r e]);(have hok:fj X.prog X.w H2 (h'.push F):=λb u e=>by by_cases r:b=h'.objs.size;{subst r;have e:upd H1 h'.objs.size (g9 h'.objs.size F) h'.objs.size=some u:=e;rw[aY]at e;cases e;exact zX (fo _ rfl)};have e:upd H1 h'.objs.size (g9 h'.objs.size F) b=some u:=e;rw[aP r]at e;by_cases hc:b=C;{subst hc;have e:upd H b _ b=some u:=e;rw[aY]at e;cases e;exact#[oc,vs,t,hps af,ah,hv]};have e:upd H C _ b=some u:=e;rw[aP hc]at e;by_cases L:b=T;{subst L;rw[R]at e;cases e;refine#[_,_,g1,aa,?_,λz cv f=>?_];{rw[Array.toList_append];exact TriplesOk_snoc _ _ _ _ g3};rw[Array.toList_append]at f;rcases Ou g3 f with f|f;{exists c3,z1,z2,g4 z cv f;exact#[c3,z1,S _ _ (M _ _ z2)]};exact#[C,f.1,by rw[f.2,N];exact S _ _ aY]};refine(I.hok b u e).stay (λd v hd q=>keep d v ?_ q) (λd q=>S _ _ (M _ _ q)) λd v q=>S _ _ (M _ _ q);rcases hd with rfl|hd;{exact L};exact nT hd λps z=>by cases z);exact h _ C _ D _ H2 (I.call (g':=s.gens) (d':=s.drawn) (t':=tk) (ch:=[]) un hok I.bare (λb z=>absurd z (by simp))) (λb o e=>S _ _ (M _ _ e)) f0 (S _ _ aY) aY
 |some cv=>exists C,rfl,O,g4 pos cv hm;rw[N]at O;refine W.kla_makeFunctionHit (mg:=X.mg) Z I.ok.glob (G.keeps B) e1 (hd.keeps B) g2 g3 hm hB λD h' tk hx g=>?_;let F:Obj:=W.kla_obj "<lambda>" (X.env.qual++"<lambda>") #[[],as,none,[],[],none,[]] body scope [] ((X.mg "__name__").getD .none) C D;have f0:H h'.objs.size=none:=I.hok.fresh g;exact h _ C _ D _ _ (I.laid (a:=h'.objs.size) (o:=g9 h'.objs.size F) (h':=h'.push F) (t':=tk) (λb u e=>hps (hx b u e)) g (zX (fo _ rfl))) (λb o e=>by rw[aP (bV e f0)];exact e) f0 (by rw[aP (bV O f0)];exact O) aY
end
end L2
namespace D3
inductive D where
 |non|bl (b:Bool)|int (i:Int)|str (x:Str)|tup (U:List D)|lst (U:List D)|dct (kvs:List (Key×D))|ty (n:String)|ob (a:Addr)|ins (c:Str) (fs:List (Str×D))|fn (x:Str)|exn (c:Str)|set (ks:List Key)|dtn (kvs:List (N×D))|dtf (kvs:List (N×D))|dcf (kvs:List (Key×D))|clo (f n:Str) (fs:List (Str×D))
inductive Md where|fz|fr|bo
 deriving DecidableEq
inductive Res where
 |ok (m:Md) (d:D)|exc (c:Str)|stuck
def wa(c:Addr)(y:V):HO:=.ext λh=>∃u,h.IsCell c (some u)/\aH y u
end D3
variable{y Kd No:D3.D}{R:List (L2.N×D3.D)}{pl:D3.D->D3.D->D3.D}{ds:List D3.D}{Φ:List D3.D->D3.Res}{m':D3.Md}{M:List (L2.Key×D3.D)}
namespace D3
def zY:Stmt->Str|.FunctionDef n _ _ _ _ _ _ _ _ _=>n|_=>""
def wb(K:Fg)(f0 n q:Str)(st:Stmt):Prop:=∃x qual st0 f fd,W.nsIn K mainGlobals f0=some (some (.ref f))/\nA K x qual st0 f fd/\(if n="" then(gZ st0)[1]? else(gZ st0).find? λs=>zY s==n)=some st/\q=qual++".<locals>."++zY st
def lM(as:List Addr)(H:Hp):Hp:=λb=>if b∈as then none else H b
def Ow{as:List Addr}{F:Hp}(h:aE F F'):aE (lM as F) (lM as F'):=λb o e=>by by_cases a:b∈as;{rw[show lM as F b=none from al a]at e;cases e};rw[show lM as F b=F b from a0 a]at e;rw[show lM as F' b=F' b from a0 a];exact h b o e
def Ox(cl:List (Str×Addr)):List Addr:=cl.filterMap λz=>cl.lookup z.1
def Do(fs:List (Str×D))(cl:List (Str×Addr)):Prop:=(∀x c,cl.lookup x=some c->x∈fs.map (·.1))/\∀x y c,cl.lookup x=some c->cl.lookup y=some c->x=y
def Dp(a C:Addr):HO:=.ext λh=>∃o,h.get? a=some o/\o.cls=.ref C
mutual
def df(K:Fg)(F:Hp):N->V->Prop|.i n,v=>v=.int n|.s x,v=>v=.str x/\x.length<=sizeLine/\PyData.strOk x=true|.t U,v=>∃a ys,v=.ref a/\d3 K F a ys/\bG K F U ys
def bG(K:Fg)(F:Hp):List N->List V->Prop|[],ys=>ys=[]|x::U,ys=>∃y zs,ys=y::zs/\df K F x y/\bG K F U zs
end
def zZ(S:Key->Bool)(ks:List Key):Prop:=ks.Nodup/\∀k,S k=true↔k∈ks
mutual
def aB(K:Fg)(F:Hp):D->V->Prop|.non,v=>v=.non|.bl b,v=>v=.bl b|.int i,v=>v=.int i|.str x,v=>v=.str x/\x.length<=sizeLine/\PyData.strOk x=true|.tup ds,v=>∃a U,v=.ref a/\d3 K F a U/\aC K F ds U|.lst ds,v=>∃a U,v=.ref a/\dz K F a U/\aC K F ds U|.dct kvs,v=>∃a U,v=.ref a/\F a=some (.dK U)/\aR K F kvs U|.ty n,v=>v=.ty n|.ob a,v=>v=.ref a|.ins c fs,v=>∃a C dx gs,v=.ref a/\W.nsIn K mainGlobals c=some (some (.ref C))/\F a=some (.ins C dx gs)/\dS K F fs gs|.fn x,v=>∃a,v=.ref a/\W.nsIn K mainGlobals x=some (some (.ref a))|.exn c,v=>∃a C,v=.ref a/\W.nsIn K mainGlobals c=some (some (.ref C))/\F a=some (Dp a C)|.set ks,v=>∃a S,v=.ref a/\F a=some (.set S ks.length)/\zZ S ks|.dtn kvs,v=>∃a U,v=.ref a/\F a=some (.dN U)/\aT K F kvs U|.dtf kvs,v=>∃a o U,v=.ref a/\F a=some (.frz o (.dN U))/\aT K F kvs U|.dcf kvs,v=>∃a o U,v=.ref a/\F a=some (.frz o (.dK U))/\aR K F kvs U|.clo f0 n fs,v=>∃f c name q st doc pm ct cl,wb K f0 n q st/\v=.ref f/\F f=some (g9 f (W.fnMade name q (nS st) (gZ st) (dR st) cl doc pm c ct))/\F c=some (.crec q)/\Do fs cl/\iQ K F fs cl
def aT(K:Fg)(F:Hp):List (N×D)->List (N×Addr×V)->Prop|[],U=>U=[]|(k,d)::ds,U=>∃b y ys,U=(k,b,y)::ys/\(df K F k (.ref b)/\k.dp<=8)/\aB K F d y/\aT K F ds ys
def aC(K:Fg)(F:Hp):List D->List V->Prop|[],U=>U=[]|d::ds,U=>∃y ys,U=y::ys/\aB K F d y/\aC K F ds ys
def aR(K:Fg)(F:Hp):List (Key×D)->List (Key×V)->Prop|[],U=>U=[]|(k,d)::ds,U=>∃y ys,U=(k,y)::ys/\aB K F d y/\aR K F ds ys
def iQ(K:Fg)(F:Hp):List (Str×D)->List (Str×Addr)->Prop|[],_=>True|(x,d)::ds,cl=>(∃a y,cl.lookup x=some a/\F a=some (wa a y)/\aB K (lM (Ox cl) F) d y)/\iQ K F ds cl
def dS(K:Fg)(F:Hp):List (Str×D)->List (Str×V)->Prop|[],U=>U=[]|(k,d)::ds,U=>∃y ys,U=(k,y)::ys/\aB K F d y/\dS K F ds ys
end
def aE.seqT{K:Fg}{a:Addr}(e:aE H H')(h:d3 K H a U):d3 K H' a U:=by rcases h with(h|⟨o,h⟩)|h;{exact .inl (.inl (e _ _ h))};{exact .inl (.inr #[o,e _ _ h])};exact .inr h
section
variable{K:Fg}{F:Hp}
theorem bG.map:∀{U:List N}{ys:List V},bG K F U ys->(∀x∈U,∀v,df K F x v->df K F' x v)->bG K F' U ys|[],_,h,_=>by simpa only [bG]using h|x::U,ys,h,k=>by simp only[bG]at h ⊢;exists y,zs,e,q,r,h;exact#[y,zs,e,k x cj y q,r.map λz a=>k z (cs a)]
def df.mono(s:aE F F')(k:N):∀v,df K F k v->df K F' k v:=by induction k using N.ind with|hi n|hs x=>intro v h;simpa only [df]using h|ht U d=>intro v h;simp only[df]at h ⊢;exists a,ys,e,q,r,h;exact#[a,ys,e,aE.seqT s q,r.map d]
mutual
theorem aB.mono{F F':Hp}(s:aE F F'):∀(d:D) (v:V),aB K F d v->aB K F' d v|.non,_,h|.bl _,_,h|.int _,_,h|.str _,_,h=>by simpa only [aB]using h|.tup ds,v,h=>by simp only[aB]at h ⊢;exists a,U,e,q,r,h;exact#[a,U,e,aE.seqT s q,aC.mono s ds U r]|.lst ds,v,h=>by simp only[aB]at h ⊢;exists a,U,e,q,r,h;exact#[a,U,e,s.seq q,aC.mono s ds U r]|.dct ds,v,h=>by simp only[aB]at h ⊢;exists a,U,e,q,r,h;exact#[a,U,e,s _ _ q,aR.mono s ds U r]|.ty _,_,h|.ob _,_,h|.fn _,_,h=>by simpa only [aB]using h|.exn _,_,h=>by simp only[aB]at h ⊢;exists a,C,e,n,q,h;exact#[a,C,e,n,s _ _ q]|.set _,_,h=>by simp only[aB]at h ⊢;exists a,S,e,q,r,h;exact#[a,S,e,s _ _ q,r]|.dtn ds,v,h=>by simp only[aB]at h ⊢;exists a,U,e,q,r,h;exact#[a,U,e,s _ _ q,aT.mono s ds U r]|.dtf ds,v,h=>by simp only[aB]at h ⊢;exists a,o,U,e,q,r,h;exact#[a,o,U,e,s _ _ q,aT.mono s ds U r]|.dcf ds,v,h=>by simp only[aB]at h ⊢;exists a,o,U,e,q,r,h;exact#[a,o,U,e,s _ _ q,aR.mono s ds U r]|.clo f0 n fs,v,h=>by simp only[aB]at h ⊢;exists f,c,name,q,st,g,t,ct,cl,k,e,q1,m,o,r,h;exact#[f,c,name,q,st,g,t,ct,cl,k,e,s _ _ q1,s _ _ m,o,iQ.mono s fs cl r]|.ins c fs,v,h=>by simp only[aB]at h ⊢;exists a,C,dx,G,e,n,q,r,h;exact#[a,C,dx,G,e,n,s _ _ q,dS.mono s fs G r]
theorem aC.mono{F F':Hp}(s:aE F F'):∀(ds:List D) (U:List V),aC K F ds U->aC K F' ds U|[],_,h=>by simpa only [aC]using h|d::ds,U,h=>by simp only[aC]at h ⊢;exists y,ys,e,q,r,h;exact#[y,ys,e,aB.mono s d y q,aC.mono s ds ys r]
theorem aR.mono{F F':Hp}(s:aE F F'):∀(ds:List (Key×D)) (U:List (Key×V)),aR K F ds U->aR K F' ds U|[],_,h=>by simpa only [aR]using h|(k,d)::ds,U,h=>by simp only[aR]at h ⊢;exists y,ys,e,q,r,h;exact#[y,ys,e,aB.mono s d y q,aR.mono s ds ys r]
theorem iQ.mono{F F':Hp}(s:aE F F'):∀(fs:List (Str×D)) (cl:List (Str×Addr)),iQ K F fs cl->iQ K F' fs cl|[],_,h=>by simpa only [iQ]using h|(x,d)::fs,cl,h=>by simp only[iQ]at h ⊢;obtain⟨⟨a,y,e,q,r⟩,t⟩:=h;exact#[#[a,y,e,s _ _ q,aB.mono (Ow s) d y r],iQ.mono s fs cl t]
theorem aT.mono{F F':Hp}(s:aE F F'):∀(ds:List (N×D)) (U:List (N×Addr×V)),aT K F ds U->aT K F' ds U|[],_,h=>by simpa only [aT]using h|(k,d)::ds,U,h=>by simp only[aT]at h ⊢;exists b,y,ys,e,n,q,r,h;exact#[b,y,ys,e,#[df.mono s k _ n.1,n.2],aB.mono s d y q,aT.mono s ds ys r]
theorem dS.mono{F F':Hp}(s:aE F F'):∀(ds:List (Str×D)) (U:List (Str×V)),dS K F ds U->dS K F' ds U|[],_,h=>by simpa only [dS]using h|(k,d)::ds,U,h=>by simp only[dS]at h ⊢;exists y,ys,e,q,r,h;exact#[y,ys,e,aB.mono s d y q,dS.mono s ds ys r]
end
theorem dS.lookN:∀{ds:List (Str×D)}{U:List (Str×V)}{f:Str},dS K F ds U->ds.lookup f=none->U.lookup f=none|[],_,_,h,e=>by simp only[dS]at h;subst h;rfl|(k,d)::ds,_,f,h,e=>by simp only[dS]at h;exists y,ys,rfl,q,r,h;rw[h7]at e ⊢;split at e;{cases e};exact dS.lookN r e
theorem aC.length:∀{ds:List D}{U:List V},aC K F ds U->U.length=ds.length|[],_,h=>by simp only[aC]at h;subst h;rfl|d::ds,_,h=>by simp only[aC]at h;exists y,ys,rfl,_,r,h;rw[gh,gh,aC.length r]
theorem aC.get:∀{ds:List D}{U:List V}{i:Nat}{x:V},aC K F ds U->U[i]? = some x->∃d,ds[i]? = some d/\aB K F d x|[],_,_,_,h,e=>by simp only[aC]at h;subst h;simp at e|d::ds,_,0,_,h,e=>by simp only[aC]at h;exists y,ys,rfl,r,_,h;simp at e;subst e;exact#[d,rfl,r]|d::ds,_,i+1,_,h,e=>by simp only[aC]at h;exists y,ys,rfl,_,r,h;exists f,E,a,aC.get (i:=i) r (by simpa using e);exact#[f,by simpa using E,a]
theorem aC.get':∀{ds:List D}{U:List V}{i:Nat}{d:D},aC K F ds U->ds[i]? = some d->∃x,U[i]? = some x/\aB K F d x|[],_,_,_,h,e=>by simp at e|d::ds,_,0,_,h,e=>by simp only[aC]at h;exists y,ys,rfl,r,_,h;simp at e;subst e;exact#[y,rfl,r]|d::ds,_,i+1,_,h,e=>by simp only[aC]at h;exists y,ys,rfl,_,r,h;exists f,E,a,aC.get' (i:=i) r (by simpa using e);exact#[f,by simpa using E,a]
theorem aC.append:∀{ds es:List D}{U ys:List V},aC K F ds U->aC K F es ys->aC K F (ds++es) (U++ys)|[],_,_,_,h,r=>by simp only[aC]at h;subst h;exact r|d::ds,_,_,_,h,r=>by simp only[aC]at h;exists y,ys,rfl,q,t,h;show aC K F (d::(ds++_)) (y::(ys++_));simp only[aC];exact#[y,_,rfl,q,aC.append t r]
def aC.nil:aC K F [] []:=by simp only[aC]
def aC.cons{d:D}{ds:List D}{x:V}{U:List V}(h:aB K F d x)(r:aC K F ds U):aC K F (d::ds) (x::U):=by simp only[aC];exact#[x,U,rfl,h,r]
end
def Top(K:Fg)(F H:Hp)(a:Addr):D->Prop|.lst ds=>∃U,H a=some (.lst U)/\aC K F ds U|.dct ds=>∃U,H a=some (.dK U)/\aR K F ds U|.ins c fs=>∃C dx g,W.nsIn K mainGlobals c=some (some (.ref C))/\H a=some (.ins C dx g)/\dS K F fs g|.set ks=>∃S,H a=some (.set S ks.length)/\zZ S ks|.dtn ds=>∃U,H a=some (.dN U)/\aT K F ds U|_=>False
def Rp(K:Fg)(F H:Hp)(m:Md)(d:D)(v:V):Prop :=
 match m with|.fz=>aB K F d v|_=>∃a,v=.ref a/\F a=none/\Top K F H a d
inductive j6:Option HO->Prop
 |no:j6 none
 |cr {q:Str}:j6 (some (.crec q))
def iR{o:Option HO}(h:o=none):j6 o:=h ▸ .no
structure aJ(F H F' H':Hp):Prop where
 same:aE H H'
 fsame:aE F F'
 sub:aE F' H'
 new:∀a,F a=none -> ¬ j6 (H a)->F' a=none
theorem aJ.refl{F:Hp}(h:aE F H):aJ F H F H:=#[aE.refl _,aE.refl _,h,λ_ h _=>h]
theorem aJ.trans{F H1 g f:Hp}(a:aJ F H F1 H1)(b:aJ F1 H1 g f):aJ F H g f :=
 #[a.same.trans b.same,a.fsame.trans b.fsame,b.sub,λx m d=>b.new x (a.new x m d) (by
  cases e:H x with|none=>exact absurd (iR e) d|some o=>rw[a.same x o e,<- e];exact d)]
def aJ.laid{F:Hp}{p:Addr}(o:HO)(h:aE F H)(hp:H p=none):aJ F H (upd F p o) (upd H p o):=by have hf:F p=none:=h.free hp;refine#[λb u e=>?_,λb u e=>?_,λb u e=>?_,λa g f=>?_];{rw[aP (bV e hp)];exact e};{rw[aP (bV e hf)];exact e};{by_cases d:b=p;{subst d;rw[aY]at e ⊢;exact e};rw[aP d]at e ⊢;exact h b u e};(have:a≠p:=by rintro rfl;exact f (iR hp));rw[aP this];exact g
def aJ.fresh{F:Hp}{p:Addr}(o:HO)(h:aE F H)(hp:H p=none):aJ F H F (upd H p o):=by refine#[λb u e=>?_,aE.refl _,λb u e=>?_,λa d _=>d];{rw[aP (bV e hp)];exact e};rw[aP (bV (h b u e) hp)];exact h b u e
def Top.step{K:Fg}{F:Hp}{a:Addr}{d:D}(st:aJ F H F' H')(h:Top K F H a d):Top K F' H' a d:=by cases d with|lst ds|dct ds=>exists U,e,r,h;exact#[U,st.same _ _ e,r.mono st.fsame _ _]|ins c fs=>exists C,dx,g,n,e,r,h;exact#[C,dx,g,n,st.same _ _ e,r.mono st.fsame _ _]|set ks=>exists S,e,r,h;exact#[S,st.same _ _ e,r]|dtn ds=>exists U,e,r,h;exact#[U,st.same _ _ e,r.mono st.fsame _ _]|_=>exact h.elim
def Top.there{K:Fg}{F:Hp}{a:Addr}{d:D}(h:Top K F H a d):¬ j6 (H a):=by cases d with|lst ds|dct ds=>exists U,e,r,h;rw[e];exact λz=>nomatch z|ins c fs=>exists C,dx,g,n,e,r,h;rw[e];exact λz=>nomatch z|set ks=>exists S,e,r,h;rw[e];exact λz=>nomatch z|dtn ds=>exists U,e,r,h;rw[e];exact λz=>nomatch z|_=>exact h.elim
theorem Rp.step{K:Fg}{F:Hp}{m:Md}{d:D}(st:aJ F H F' H')(h:Rp K F H m d v):Rp K F' H' m d v:=by cases m with|fz=>exact aB.mono st.fsame d v h|fr|bo=>exists a,e,n,t,h;exact#[a,e,st.new a n t.there,t.step st]
def Rp.seqL{K:Fg}{F:Hp}{m:Md}(s:aE F H)(h:Rp K F H m (.lst ds) v):∃a U,v=.ref a/\dz K H a U/\aC K F ds U:=by cases m with|fz=>have h:aB K F (.lst ds) v:=h;simp only[aB]at h;exists a,U,e,q,r,h;exact#[a,U,e,s.seq q,r]|fr|bo=>exists a,e,n,U,q,r,h;exact#[a,U,e,dz.of q,r]
theorem Rp.seqT{K:Fg}{F:Hp}{m:Md}(s:aE F H)(h:Rp K F H m (.tup ds) v):∃a U,v=.ref a/\d3 K H a U/\aC K F ds U:=by cases m with|fz=>have h:aB K F (.tup ds) v:=h;simp only[aB]at h;exists a,U,e,q,r,h;exact#[a,U,e,aE.seqT s q,r]|fr|bo=>exists a,e,n,q,h;exact q.elim
def Rp.dict{K:Fg}{F:Hp}{m:Md}{ds:List (Key×D)}(s:aE F H)(h:Rp K F H m (.dct ds) v):∃a U,v=.ref a/\H a=some (.dK U)/\aR K F ds U:=by cases m with|fz=>have h:aB K F (.dct ds) v:=h;simp only[aB]at h;exists a,U,e,q,r,h;exact#[a,U,e,s _ _ q,r]|fr|bo=>exists a,e,n,U,q,r,h;exact#[a,U,e,q,r]
theorem Rp.ins{K:Fg}{F:Hp}{m:Md}{c:Str}{fs:List (Str×D)}(s:aE F H)(h:Rp K F H m (.ins c fs) v):∃a C dx g,v=.ref a/\W.nsIn K mainGlobals c=some (some (.ref C))/\H a=some (.ins C dx g)/\dS K F fs g:=by cases m with|fz=>have h:aB K F (.ins c fs) v:=h;simp only[aB]at h;exists a,C,dx,g,e,n,q,r,h;exact#[a,C,dx,g,e,n,s _ _ q,r]|fr|bo=>exists a,e,n,C,dx,g,z,q,r,h;exact#[a,C,dx,g,e,z,q,r]
theorem Rp.int{K:Fg}{F:Hp}{m:Md}{i:Int}(h:Rp K F H m (.int i) v):v=.int i:=by cases m with|fz=>have h:aB K F (.int i) v:=h;simpa only [aB]using h|fr|bo=>exists a,e,n,q,h;exact q.elim
theorem Rp.bl{K:Fg}{F:Hp}{m:Md}{i:Bool}(h:Rp K F H m (.bl i) v):v=.bl i:=by cases m with|fz=>have h:aB K F (.bl i) v:=h;simpa only [aB]using h|fr|bo=>exists a,e,n,q,h;exact q.elim
theorem Rp.non{K:Fg}{F:Hp}{m:Md}(h:Rp K F H m .non v):v=.non:=by cases m with|fz=>have h:aB K F .non v:=h;simpa only [aB]using h|fr|bo=>exists a,e,n,q,h;exact q.elim
theorem Rp.str{K:Fg}{F:Hp}{m:Md}(h:Rp K F H m (.str x) v):v=.str x/\x.length<=sizeLine/\PyData.strOk x=true:=by cases m with|fz=>have h:aB K F (.str x) v:=h;simpa only [aB]using h|fr|bo=>exists a,e,n,q,h;exact q.elim
theorem Rp.ty{K:Fg}{F:Hp}{m:Md}{n:String}(h:Rp K F H m (.ty n) v):v=.ty n:=by cases m with|fz=>have h:aB K F (.ty n) v:=h;simpa only [aB]using h|fr|bo=>exists a,e,n,q,h;exact q.elim
theorem Rp.ob{K:Fg}{F:Hp}{m:Md}{n:Addr}(h:Rp K F H m (.ob n) v):v=.ref n:=by cases m with|fz=>have h:aB K F (.ob n) v:=h;simpa only [aB]using h|fr|bo=>exists a,e,n,q,h;exact q.elim
def wc{K:Fg}{F:Hp}(i:String):Rp K F H .fz (.ty i) (.ty i):=by show aB K F _ _;simp only[aB]
def fG{K:Fg}{F:Hp}(i:Int):Rp K F H .fz (.int i) (.int i):=by show aB K F _ _;simp only[aB]
def cJ{K:Fg}{F:Hp}(i:Bool):Rp K F H .fz (.bl i) (.bl i):=by show aB K F _ _;simp only[aB]
def z5{K:Fg}{F:Hp}:Rp K F H .fz .non .non:=by show aB K F _ _;simp only[aB]
def pP{K:Fg}{F:Hp}(h:x.length<=sizeLine/\PyData.strOk x=true):Rp K F H .fz (.str x) (.str x):=by show aB K F _ _;simp only[aB,true_and];exact h
abbrev Rho:=List (Option (Bool×D))
structure aS(K:Fg)(F0 H0 F H:Hp)(σ:L2.St)(Y:Rho):Prop where
 st:aJ F0 H0 F H
 slot:∀(i:Nat) (m:Bool) (d:D),Y[i]? = some (some (m,d))->∃v,σ[i]? = some (some v)/\Rp K F H (if m then .bo else .fz) d v/\(m=true->∀a,v=.ref a->H0 a=none)
 apart:∀(i j:Nat) (d d':D) (a:Addr),i≠j->Y[i]? = some (some (true,d))->Y[j]? = some (some (true,d'))->σ[i]? = some (some (.ref a))->σ[j]? = some (some (.ref a))->False
 len:σ.length=Y.length
theorem aS.step{K:Fg}{F:Hp}{Y:Rho}(r:aS K F0 H0 F H σ Y)(st:aJ F H F' H'):aS K F0 H0 F' H' σ Y :=
 #[r.st.trans st,λi m d e=>by exists v,f,a,E,r.slot i m d e;exact#[v,f,a.step st,E],r.apart,r.len]
theorem aS.sub{K:Fg}{F:Hp}{Y:Rho}(r:aS K F0 H0 F H σ Y):aE F H:=r.st.sub
abbrev XE:=Str->L2.St->Hp->Prop
structure Cw where
 K:Fg
 F0:Hp
 H0:Hp
 EE:XE
def tG(C:Cw)(g:Rho->Res):TE:=λσ H Q=>∃Y F,aS C.K C.F0 C.H0 F H σ Y/\match g Y with|.ok m d=>∀v F' H',aJ F H F' H'->Rp C.K F' H' m d v->(m=.fr->∀a,v=.ref a->H a=none)->Q v H'|.exc c=>∀F' H',aJ F H F' H'->C.EE c σ H'|.stuck=>False
abbrev Cw.at(C:Cw)(X:Cx):Cw:={C with K:=X.K}
end D3
variable{g ga gb gc gi ge:D3.Rho->D3.Res}{C:D3.Cw}{Y ρ':D3.Rho}
namespace D3
def PV(C:Cw)(X:Cx)(e:Expr)(g:Rho->Res):Prop:=PE X e (tG (C.at X) g)
def PE.imp{t t':TE}(h:PE X e t)(i:∀σ H Q,t' σ H Q->t σ H Q):PE X e t':=λaA s σ H Q I q=>h aA s σ H Q I (i σ H Q q)
noncomputable def Res.thn(r:Res)(k:Md->D->Res):Res:=match r with|.ok m d=>k m d|.exc c=>.exc c|.stuck=>.stuck
@[simp]theorem Res.thn_ok(m:Md)(d:D)(k:Md->D->Res):(Res.ok m d).thn k=k m d:=rfl
@[simp]theorem Res.thn_exc(c:Str)(k:Md->D->Res):(Res.exc c).thn k=.exc c:=rfl
@[simp]theorem Res.thn_stuck(k:Md->D->Res):Res.stuck.thn k=.stuck:=rfl
def Res.of:Option (Md×D)->Res|some (m,d)=>.ok m d|none=>.stuck
@[simp]theorem Res.of_some(m:Md)(d:D):Res.of (some (m,d))=.ok m d:=rfl
@[simp]theorem Res.of_none:Res.of none=.stuck:=rfl
def aX(C:Cw)(F H:Hp)(σ:L2.St)(r:Res)(Q:VK):Prop:=match r with|.ok m d=>∀v F' H',aJ F H F' H'->Rp C.K F' H' m d v->(m=.fr->∀a,v=.ref a->H a=none)->Q v H'|.exc c=>∀F' H',aJ F H F' H'->C.EE c σ H'|.stuck=>False
def aV{Q:VK}:tG C g σ H Q=∃Y F,aS C.K C.F0 C.H0 F H σ Y/\aX C F H σ (g Y) Q:=by unfold tG aX;rfl
def aX.step{F H1:Hp}{r:Res}{Q:VK}(st:aJ F H F1 H1)(h:aX C F H σ r Q):aX C F1 H1 σ r Q:=by cases r with|ok m d=>exact λv F' H' S f hf=>h v F' H' (st.trans S) f λe a ea=>st.same.free (hf e a ea)|exc c=>exact λF' H' S=>h F' H' (st.trans S)|stuck=>exact h
section
variable{a b:Expr}
def cP(Y:Rho)(i:Nat):Res:=match Y[i]? with|some (some (false,d))=>.ok .fz d|some (some (true,d))=>.ok .bo d|_=>.stuck
def Oy(i:Nat)(h:PE X (.Name x pos) (fZ i)):PV C X (.Name x pos) (λY=>cP Y i):=by refine PE.imp h λσ H Q q=>?_;rw[aV]at q;exists Y,F,R,w,q;unfold cP at w;cases e:Y[i]? with|none=>rw[e]at w;exact w.elim|some o=>cases o with|none=>rw[e]at w;exact w.elim|some p=>exists m,d,p;exists v,E,r,_,R.slot i m d e;rw[e]at w;cases m with|false|true=>exact#[v,E,w v F H (.refl R.sub) r (by nofun)]
def j7(d:D)(h:PE X e (tC v))(r:∀F H,Rp X.K F H .fz d v):PV C X e (λ_=>.ok .fz d):=by refine PE.imp h λσ H Q q=>?_;rw[aV]at q;exists Y,F,R,w,q;exact w v F H (.refl R.sub) (r F H) (by nofun)
def Oz{i j:_}:PV C X (.Constant (.int i) j pos) (λ_=>.ok .fz (.int i)):=j7 _ MK λ_ _=>fG i
def wd{i j:_}:PV C X (.Constant (.bool i) j pos) (λ_=>.ok .fz (.bl i)):=j7 _ uv λ_ _=>cJ i
def OA{j:_}:PV C X (.Constant .none j pos) (λ_=>.ok .fz .non):=j7 _ ML λ_ _=>z5
def OB{j:_}(h:(decide (x.length<=sizeLine)&&PyData.strOk x)=true:=by decide +kernel):PV C X (.Constant (.str x) j pos) (λ_=>.ok .fz (.str x)) :=
 j7 _ MM λ_ _=>pP (by rw[cc,fe]at h;exact h)
noncomputable def bv(f:Md->D->Md->D->Option (Md×D))(x y:Res):Res:=x.thn λm d=>y.thn λn e=>Res.of (f m d n e)
def ez(C:Cw)(X:Cx)(f:ba->ba->Sem ba)(o:Md->D->Md->D->Option (Md×D)):Prop :=
 ∃r:R2,fw X f r/\∀F H m x n y v u k d Q,aE F H->Rp X.K F H m x v->Rp X.K F H n y u->o m x n y=some (k,d) ->
  (∀V F' H',aJ F H F' H'->Rp X.K F' H' k d V->(k=.fr->∀a,V=.ref a->H a=none)->Q V H')->r v u H Q
def lN{f:Md->D->Md->D->Option (Md×D)}{r:R2}(h:∀F H m x n y v u k d Q,aE F H->Rp C.K F H m x v->Rp C.K F H n y u->f m x n y=some (k,d)->(∀V F' H',aJ F H F' H'->Rp C.K F' H' k d V->(k=.fr->∀a,V=.ref a->H a=none)->Q V H')->r v u H Q){Q:VK}(q:tG C (λY=>bv f (ga Y) (gb Y)) σ H Q):tj r (tG C ga) (tG C gb) σ H Q:=by unfold tj;rw[aV]at q ⊢;exists Y,F,R,w,q;refine#[Y,F,R,?_];cases ea:ga Y with|stuck|exc c=>simp only[bv,ea,Res.thn]at w;exact w|ok m d=>intro v F1 H1 s1 r1 _;rw[aV];refine#[Y,F1,R.step s1,?_];have W:=w.step s1;simp only[bv,ea,Res.thn]at W;cases t:gb Y with|stuck|exc c=>rw[t]at W;exact W|ok n e=>rw[t]at W;intro u B A S G _;have o:aX C B A σ (Res.of (f m d n e)) Q:=aX.step S W;cases E:f m d n e with|none=>rw[E]at o;exact o.elim|some J=>exists k,L,J;rw[E]at o;exact h B A m d n e v u k L Q S.sub (r1.step S) G E o
def we{op:Operator}{φ}(o:ez C X (binaryOp op) φ)(ha:PV C X a ga)(d:PV C X b gb):PV C X (.BinOp a op b pos) (λY=>bv φ (ga Y) (gb Y)):=by exists r,m,f,o;exact PE.imp (vb m ha d) λσ H Q q=>lN f q
def j8{op:CmpOp}{φ}(o:ez C X (compareOp op) φ)(ha:PV C X a ga)(f:PV C X b gb)(d:behindInMarks op b=false):PV C X (.Compare a [op] [b] pos) (λY=>bv φ (ga Y) (gb Y)):=by exists r,t,m,o;exact PE.imp (Np t ha f d) λσ H Q q=>lN m q
def gu(f d:Md->D->Md->D->Option (Md×D)):Md->D->Md->D->Option (Md×D):=λm x n y=>(f m x n y).orElse λ_=>d m x n y
theorem ez.or{f:ba->ba->Sem ba}{φ ψ}(h:ez C X f φ)(h':ez C X f ψ):ez C X f (gu φ ψ):=by exists r,G,D,h;exists J,t,o,h';refine#[_,G.or t,λF H m x n y v u k d Q s B A e w=>?_];unfold gu at e;cases E:φ m x n y with|none=>rw[E]at e;exact .inr (o F H m x n y v u k d Q s B A e w)|some p=>rw[E]at e;cases e;exact .inl (D F H m x n y v u k d Q s B A E w)
noncomputable def fI(c:Int->Int->Bool)(g:Int->Int->D):Md->D->Md->D->Option (Md×D):=λ_ x _ y=>match x,y with|.int i,.int j=>if c i j=true then some (.fz,g i j)else none|_,_=>none
def pQ{f:ba->ba->Sem ba}{Cc:Int->Int->Prop}{c:Int->Int->Bool}{g:Int->Int->V}{g':Int->Int->D}(o:fw X f (rI Cc g))(E:∀i j,c i j=true->Cc i j)(B:∀F H i j,Rp X.K F H .fz (g' i j) (g i j)):ez C X f (fI c g'):=by refine#[_,o,λF H m x n y v u k d Q s A t e w=>?_];unfold fI at e;split at e;{rename_i i j;cases A.int;cases t.int;split at e;{rename_i r;cases e;exact#[i,j,rfl,rfl,E i j r,w _ F H (.refl s) (B F H i j) (by nofun)]};cases e};cases e
def lP{f:ba->ba->Sem ba}{g:Int->Int->V}{g':Int->Int->D}(o:fw X f (ny g))(A:∀F H i j,Rp X.K F H .fz (g' i j) (g i j)):ez C X f (fI (λ_ _=>true) g'):=by refine#[_,o,λF H m x n y v u k d Q s t r e w=>?_];unfold fI at e;split at e;{rename_i i j;cases t.int;cases r.int;rw[al rfl]at e;cases e;exact#[i,j,rfl,rfl,w _ F H (.refl s) (A F H i j) (by nofun)]};cases e
def bits(i:Int):Bool:=decide (i.natAbs.log2<9000)
def OC:ez C X (binaryOp .Add) (fI (λ_ _=>true) λi j=>.int (i+j)):=lP Nd λ_ _ i j=>fG _
def OD:ez C X (binaryOp .Sub) (fI (λ_ _=>true) λi j=>.int (i-j)):=lP Nf λ_ _ i j=>fG _
theorem OE{i j:Int}(h:(bits i&&bits j)=true):IntMulOk i j:=by(rw[cc]at h;have b:∀{i:Int},bits i=true->Builtin.Int.intBits i<=2 ^ 20:=λ{i} h=>by unfold bits at h;have:=kz h;unfold Builtin.Int.intBits;split;{exact gy _};(have e:(2:Nat) ^ 20=1048576:=by decide);lia);exact IntMulOk.of_bits (b h.1) (b h.2)
def ni(i:Int):Bool:=decide (i.natAbs<2 ^ 63)
theorem E3{i:Int}(h:ni i=true):Builtin.Int.intBits i<=64:=by have h:=kz h;unfold Builtin.Int.intBits;split;{exact gy _};rename_i d;have:i.natAbs.log2<63:=(Nat.log2_lt (by simpa using d)).mpr h;lia
def OF:ez C X (binaryOp .Mult) (fI (λi j=>(bits i&&bits j)||(ni i||ni j)) λi j=>.int (i * j)) :=
 pQ (Cc:=λi j=>IntMulOk i j) (BA λ_ _ _ _ _ _ _ d q=>mul_int q d) (λi j h=>by
  rcases(jx _ _).mp h with h|h
  . exact OE h
  . rcases(jx _ _).mp h with h|h
    . exact IntMulOk.of_left (E3 h)
    . exact IntMulOk.of_right (E3 h)) λ_ _ i j=>fG _
def OG:ez C X (binaryOp .Mod) (fI (λ_ j=>decide (0<j)) λi j=>.int (i % j)):=pQ Ng (λi j h=>kz h) λ_ _ i j=>fG _
theorem OH:fw X (binaryOp .FloorDiv) (rI (λ_ j=>0<j/\bits j=true) λi j=>.int (i / j)):=BA λi j _ _ _ _ _ d q=>by exists m,f,d;refine floordiv_int (by lia) ?_ (.inl (PyProof.noPylong_of_log2 (kz f)));rw[Int.fdiv_eq_ediv_of_nonneg i (by lia)];exact q
def OI:ez C X (binaryOp .FloorDiv) (fI (λ_ j=>decide (0<j)&&bits j) λi j=>.int (i / j)):=pQ OH (λi j h=>by rw[cc,fe]at h;exact h) λ_ _ i j=>fG _
def OJ:ez C X (binaryOp .Pow) (fI (λi j=>decide (0<=j)&&decide (j<=1000000)&&decide (i.natAbs<2 ^ 64)) λi j=>.int (i ^ j.toNat)) :=
 pQ Nh (λi j h=>by simp only[cc,fe]at h;exact#[h.1.1,h.1.2,h.2]) λ_ _ i j=>fG _
def OK:ez C X (compareOp .Lt) (fI (λ_ _=>true) λi j=>.bl (decide (i<j))):=lP vf λ_ _ i j=>cJ _
def OL:ez C X (compareOp .LtE) (fI (λ_ _=>true) λi j=>.bl (decide (i<=j))):=lP vg λ_ _ i j=>cJ _
def OM:ez C X (compareOp .Gt) (fI (λ_ _=>true) λi j=>.bl (decide (j<i))):=lP vh λ_ _ i j=>cJ _
def ON:ez C X (compareOp .GtE) (fI (λ_ _=>true) λi j=>.bl (decide (j<=i))):=lP vi λ_ _ i j=>cJ _
noncomputable def fS(c:Str->Str->Bool)(g:Str->Str->D):Md->D->Md->D->Option (Md×D):=λ_ x _ y=>match x,y with|.str i,.str j=>if c i j=true then some (.fz,g i j)else none|_,_=>none
def OO{y:Str}(hx:PyData.strOk x=true)(d:PyData.strOk y=true):PyData.strOk (x++y)=true:=by unfold PyData.strOk at *;show(x.cps++y.cps).all _=true;rw[Array.all_append,hx,d];rfl
def OP:ez C X (binaryOp .Add) (fS (λi j=>decide (i.length+j.length<=sizeLine)) λi j=>.str (i++j)):=by refine#[_,Nv,λF H m x n y v u k d Q s o r e w=>?_];unfold fS at e;split at e;{rename_i i j;exists rfl,A,o.str;exists rfl,t,r.str;split at e;{rename_i f;cases e;have f:=kz f;exact#[i,j,rfl,rfl,f,w _ F H (.refl s) (pP #[by rw[strLen_append];exact f,OO A.2 t.2]) (by nofun)]};cases e};cases e
def lQ(i j:Str):Bool:=!(Builtin.Str.occurrences j i 0 j.length 1).isEmpty
def OQ:ez C X (compareOp .In) (fS (λ_ _=>true) λi j=>.bl (lQ i j)):=by refine#[_,Nk,λF H m x n y v u k d Q s f r e w=>?_];unfold fS at e;split at e;{rename_i i j;exists rfl,t,f.str;exists rfl,o,r.str;rw[al rfl]at e;cases e;exact#[i,j,rfl,rfl,w _ F H (.refl s) (cJ _) (by nofun)]};cases e
def OR:ez C X (compareOp .NotIn) (fS (λ_ _=>true) λi j=>.bl (!lQ i j)):=by refine#[_,Nn,λF H m x n y v u k d Q s f r e w=>?_];unfold fS at e;split at e;{rename_i i j;exists rfl,t,f.str;exists rfl,o,r.str;rw[al rfl]at e;cases e;exact#[i,j,rfl,rfl,w _ F H (.refl s) (cJ _) (by nofun)]};cases e
end
section
variable{a b:Expr}
def aG:Res->Res|.ok .bo _=>.stuck|.ok _ d=>.ok .fz d|r=>r
def aJ.freeze{F:Hp}{x:Addr}{o:HO}(st:aJ F H F' H')(hx:H x=none)(d:F' x=none)(ho:H' x=some o):aJ F H (upd F' x o) H':=by refine#[st.same,λb u q=>?_,λb u q=>?_,λy r m=>?_];{rw[aP (bV (st.fsame b u q) d)];exact st.fsame b u q};{by_cases f:b=x;{subst f;rw[aY]at q;rw[<- q];exact ho};rw[aP f]at q;exact st.sub b u q};(have:y≠x:=by rintro rfl;exact m (iR hx));rw[aP this];exact st.new y r m
def Top.freeze{K:Fg}{F:Hp}{x:Addr}{d:D}(hx:F x=none)(h:Top K F H x d):∃o,H x=some o/\aB K (upd F x o) d (.ref x):=by(have s:∀o,aE F (upd F x o):=λo b u q=>by rw[aP (bV q hx)];exact q);cases d with|lst ds=>exists U,q,r,h;refine#[_,q,?_];simp only[aB];exact#[x,U,rfl,dz.of aY,r.mono (s _) _ _]|dct ds=>exists U,q,r,h;refine#[_,q,?_];simp only[aB];exact#[x,U,rfl,aY,r.mono (s _) _ _]|ins c fs=>exists C,dx,G,n,q,r,h;refine#[_,q,?_];simp only[aB];exact#[x,C,dx,G,rfl,n,aY,r.mono (s _) _ _]|set ks=>exists S,q,r,h;refine#[_,q,?_];simp only[aB];exact#[x,S,rfl,aY,r]|dtn ds=>exists U,q,r,h;refine#[_,q,?_];simp only[aB];exact#[x,U,rfl,aY,r.mono (s _) _ _]|_=>exact h.elim
def aX.frz{F:Hp}{r:Res}{Q:VK}(w:aX C F H σ (aG r) Q):aX C F H σ r Q:=by cases r with|exc c|stuck=>exact w|ok m d=>cases m with|fz=>exact w|bo=>exact(show False from w).elim|fr=>intro v F' H' st rp fr;exists x,rfl,n,t,rp;exists o,ho,r,t.freeze n;exact w (.ref x) (upd F' x o) H' (st.freeze (fr rfl x rfl) n ho) r (by nofun)
def eH(h:PV C X e g):PV C X e (λY=>aG (g Y)):=PE.imp h λσ H Q q=>by rw[aV]at q ⊢;exists Y,F,R,w,q;(try dsimp only at w);exact#[Y,F,R,w.frz]
def j9(C:Cw)(F H:Hp)(σ:L2.St)(r:Res)(Q:Bool->Hp->Prop):Prop:=match r with|.ok _ (.bl b)=>∀F' H',aJ F H F' H'->Q b H'|.exc c=>∀F' H',aJ F H F' H'->C.EE c σ H'|_=>False
def j9.step{F H1:Hp}{r:Res}{Q:Bool->Hp->Prop}(st:aJ F H F1 H1)(h:j9 C F H σ r Q):j9 C F1 H1 σ r Q:=by
 cases r with
 |ok m d=>cases d with|bl b=>exact λF' H' S=>h F' H' (st.trans S)|_=>exact h
 |exc c=>exact λF' H' S=>h F' H' (st.trans S)|stuck=>exact h
def tT(C:Cw)(g:Rho->Res):TT:=λσ H Q=>∃Y F,aS C.K C.F0 C.H0 F H σ Y/\j9 C F H σ (g Y) Q
def jq(C:Cw)(X:Cx)(e:Expr)(g:Rho->Res):Prop:=PT X e (tT (C.at X) g)
def nj(C:Cw)(X:Cx)(e:Expr)(g:Rho->Res):Prop:=PW X e (tT (C.at X) g)
def PT.imp{t t':TT}(h:PT X e t)(i:∀σ H Q,t' σ H Q->t σ H Q):PT X e t':=λaA s σ H Q I q=>h aA s σ H Q I (i σ H Q q)
def PW.imp{t t':TT}(h:PW X e t)(i:∀σ H Q,t' σ H Q->t σ H Q):PW X e t':=λdO aA s σ H Q I q=>h dO aA s σ H Q I (i σ H Q q)
def pR:D->Option Bool|.non=>some false|.bl b=>some b|.int i=>some (i != 0)|.str x=>some ((x.length:Int) != 0)|.tup ds|.lst ds|.dct ds=>some (!ds.isEmpty)|_=>none
def eW(r:Res):Res:=r.thn λ_ d=>match pR d with|some b=>.ok .fz (.bl b)|none=>.stuck
theorem aC.isEmpty{K:Fg}{F:Hp}(h:aC K F ds U):ds.isEmpty=U.isEmpty:=by cases ds with|nil=>simp only[aC]at h;subst h;rfl|cons d ds=>simp only[aC]at h;exists y,ys,rfl,_,h;rfl
theorem aR.isEmpty{K:Fg}{F:Hp}{ds:List (Key×D)}{U:List (Key×V)}(h:aR K F ds U):ds.isEmpty=U.isEmpty:=by cases ds with|nil=>simp only[aR]at h;subst h;rfl|cons d ds=>exists k,d,d;simp only[aR]at h;exists y,ys,rfl,_,h;rfl
def OS{K:Fg}{F:Hp}{m:Md}{d:D}{k:Bool}(s:aE F H)(h:Rp K F H m d v)(e:pR d=some k):tX K v H k:=by cases d with|non=>cases h.non;cases e;rfl|bl b=>cases h.bl;cases e;rfl|int i=>cases h.int;cases e;rfl|str x=>exists rfl,f,_,h.str;cases e;exact#[f,rfl]|tup ds=>exists a,U,rfl,q,r,h.seqT s;cases e;exact .inr (.inl #[U,q,by rw[r.isEmpty]])|lst ds=>exists a,U,rfl,q,r,h.seqL s;cases e;exact .inl #[U,q,by rw[r.isEmpty]]|dct ds=>exists a,U,rfl,q,r,h.dict s;cases e;exact .inr (.inr #[U,q,by rw[r.isEmpty]])|ty n|ob n|ins n|fn n|exn n|set n|dtn n|dtf n|dcf n|clo _ _=>cases e
def OT(h:PV C X e g)(o:∀dO,isTrue e X.env dO=(do let v <- dO;standAt e.pos;holding [v] (truthy v)):=by intro _;rfl):jq C X e (λY=>eW (g Y)):=by refine PT.imp (Nu h o) λσ H Q q=>?_;exists Y,F,R,w,q;(try dsimp only at w);rw[aV];refine#[Y,F,R,?_];cases f:g Y with|stuck|exc c=>rw[f]at w;exact w|ok m d=>(rw[f]at w;intro v F' H' st rp _;have w:j9 (C.at X) F H σ (match pR d with|some b=>.ok .fz (.bl b)|none=>.stuck) Q:=w);cases E:pR d with|none=>rw[E]at w;exact w.elim|some k=>rw[E]at w;exact#[k,OS st.sub rp E,w F' H' st]
def lT{op:CmpOp}{φ}(o:ez C X (compareOp op) φ)(f:∀m x n y k d,φ m x n y=some (k,d)->∃t,k=.fz/\d=.bl t)(ha:PV C X a ga)(S:PV C X b gb)(O:behindInMarks op b=false):jq C X (.Compare a [op] [b] pos) (λY=>bv φ (ga Y) (gb Y)):=by exists r,V,T,o;refine PT.imp (Nq V ha S O) λσ H Q q=>?_;exists Y,F,R,w,q;(try dsimp only at w);unfold yY;refine lN T ?_;rw[aV];refine#[Y,F,R,?_];cases E:bv φ (ga Y) (gb Y)with|stuck|exc c=>rw[E]at w;exact w|ok m d=>(rw[E]at w;have:∃t,m=.fz/\d=.bl t:=by unfold bv at E;cases B:ga Y with|stuck|exc c=>rw[B]at E;cases E|ok G L=>cases J:gb Y with|stuck|exc c=>rw[B,J]at E;cases E|ok D K=>rw[B,J]at E;have E:Res.of (φ G L D K)=.ok m d:=E;cases A:φ G L D K with|none=>rw[A]at E;cases E|some N=>rw[A]at E;exists k,W,N;cases E;exact f _ _ _ _ _ _ A);exists t,rfl,rfl,this;intro v F' H' st rp _;cases rp.bl;exact#[t,rfl,w F' H' st]
def fH(x:Res)(y:Res):Res:=x.thn λ_ d=>match d with|.bl true=>y|.bl false=>.ok .fz (.bl false)|_=>.stuck
def nB(x:Res)(y:Res):Res:=x.thn λ_ d=>match d with|.bl true=>.ok .fz (.bl true)|.bl false=>y|_=>.stuck
def f8(x:Res):Res:=x.thn λ_ d=>match d with|.bl b=>.ok .fz (.bl (!b))|_=>.stuck
def OU(ha:jq C X a ga):jq C X (.UnaryOp .Not a pos) (λY=>f8 (ga Y)):=by refine PT.imp (MR ha) λσ H Q q=>?_;exists Y,F,R,w,q;(try dsimp only at w);refine#[Y,F,R,?_];cases E:ga Y with|stuck|exc c=>rw[E]at w;exact w|ok m d=>rw[E]at w;cases d with|bl b|_=>exact w
def E4{op:BoolOp}(h:jq C X a ga):nj C X (.BoolOp op [a] pos) ga:=by cases op with|And=>exact MO h|Or=>exact MP h
def E5{Q:Bool->Hp->Prop}(q:tT C (λY=>fH (ga Y) (gb Y)) σ H Q):tN (tT C ga) (tT C gb) σ H Q:=by exists Y,F,R,w,q;(try dsimp only at w);refine#[Y,F,R,?_];cases E:ga Y with|stuck|exc c=>rw[E]at w;exact w|ok m d=>rw[E]at w;cases d with|bl b=>(intro F' H' st;cases b with|true=>rw[al rfl];exact#[Y,F',R.step st,j9.step st w]|false=>rw[a0 fq];exact w F' H' st)|_=>exact w
def wf{Q:Bool->Hp->Prop}(q:tT C (λY=>nB (ga Y) (gb Y)) σ H Q):EX (tT C ga) (tT C gb) σ H Q:=by exists Y,F,R,w,q;(try dsimp only at w);refine#[Y,F,R,?_];cases E:ga Y with|stuck|exc c=>rw[E]at w;exact w|ok m d=>rw[E]at w;cases d with|bl b=>(intro F' H' st;cases b with|true=>rw[al rfl];exact w F' H' st|false=>rw[a0 fq];exact#[Y,F',R.step st,j9.step st w])|_=>exact w
def OV{rest:List Expr}(ha:jq C X a ga)(d:nj C X (.BoolOp .And (b::rest) pos) gb):nj C X (.BoolOp .And (a::b::rest) pos) (λY=>fH (ga Y) (gb Y)):=PW.imp (MQ ha d) λ_ _ _ q=>E5 q
def OW{rest:List Expr}(ha:jq C X a ga)(d:nj C X (.BoolOp .Or (b::rest) pos) gb):nj C X (.BoolOp .Or (a::b::rest) pos) (λY=>nB (ga Y) (gb Y)):=PW.imp (uw ha d) λ_ _ _ q=>wf q
def wg(h:nj C X e g):jq C X e g:=PW.pt h
def E6{op}(h:PV C X a ga):PV C X (.BoolOp op [a] pos) ga:=MS h
def OX{rest:List Expr}(ha:PV C X a ga)(f:PV C X (.BoolOp .And (b::rest) pos) gb):PV C X (.BoolOp .And (a::b::rest) pos) (λY=>fH (ga Y) (gb Y)):=by refine PE.imp (MT ha f) λσ H Q q=>?_;unfold yQ;rw[aV]at q ⊢;exists Y,F,R,w,q;(try dsimp only at w);refine#[Y,F,R,?_];cases E:ga Y with|stuck|exc c=>rw[E]at w;exact w|ok m d=>rw[E]at w;cases d with|bl k=>(intro v F' H' st rp _;cases rp.bl;refine#[k,rfl,?_];cases k with|true=>rw[al rfl,aV];exact#[Y,F',R.step st,aX.step st w]|false=>rw[a0 fq];exact w (.bl false) F' H' st (cJ _) (by nofun))|_=>exact w.elim
def OY{rest:List Expr}(ha:PV C X a ga)(f:PV C X (.BoolOp .Or (b::rest) pos) gb):PV C X (.BoolOp .Or (a::b::rest) pos) (λY=>nB (ga Y) (gb Y)):=by refine PE.imp (uy ha f) λσ H Q q=>?_;unfold ux;rw[aV]at q ⊢;exists Y,F,R,w,q;(try dsimp only at w);refine#[Y,F,R,?_];cases E:ga Y with|stuck|exc c=>rw[E]at w;exact w|ok m d=>rw[E]at w;cases d with|bl k=>(intro v F' H' st rp _;cases rp.bl;refine#[k,rfl,?_];cases k with|true=>rw[al rfl];exact w (.bl true) F' H' st (cJ _) (by nofun)|false=>rw[a0 fq,aV];exact#[Y,F',R.step st,aX.step st w])|_=>exact w.elim
def OZ(ha:PV C X a ga):PV C X (.UnaryOp .Not a pos) (λY=>f8 (ga Y)):=by refine PE.imp (MU ha) λσ H Q q=>?_;unfold yR;rw[aV]at q ⊢;exists Y,F,R,w,q;(try dsimp only at w);refine#[Y,F,R,?_];cases E:ga Y with|stuck|exc c=>rw[E]at w;exact w|ok m d=>rw[E]at w;cases d with|bl k=>intro v F' H' st rp _;cases rp.bl;exact#[k,rfl,w _ F' H' st (cJ _) (by nofun)]|_=>exact w.elim
def pS(x:Res):Res:=x.thn λ_ d=>match d with|.int i=>.ok .fz (.int (-i))|_=>.stuck
def O0(ha:PV C X a ga):PV C X (.UnaryOp .USub a pos) (λY=>pS (ga Y)):=by refine PE.imp (vc Nj ha) λσ H Q q=>?_;unfold EZ;rw[aV]at q ⊢;exists Y,F,R,w,q;(try dsimp only at w);refine#[Y,F,R,?_];cases E:ga Y with|stuck|exc c=>rw[E]at w;exact w|ok m d=>rw[E]at w;cases d with|int i=>intro v F' H' st rp _;cases rp.int;exact#[i,rfl,w _ F' H' st (fG _) (by nofun)]|_=>exact w.elim
def c6:Md->D->Md->D->Option (Md×D):=λ_ x _ y=>match x,y with|.lst ds,.int i|.tup ds,.int i=>(atI ds i).map λd=>(.fz,d)|.str z,.int i=>(atI z.cps.toList i).map λc=>(.fz,.str #[(List.toArray [c])])|_,_=>none
theorem aC.atI{K:Fg}{F:Hp}{i:Int}{d:D}(h:aC K F ds U)(e:atI ds i=some d):∃x,L2.atI U i=some x/\aB K F d x:=by unfold L2.atI at *;rw[h.length];cases q:ixN ds.length i with|none=>rw[q]at e;cases e|some j=>rw[q]at e;exact h.get' e
def O3{F:Hp}{m n k:Md}{x d:D}{u:V}{Q:VK}(s:aE F H)(B:Rp X.K F H m x v)(A:Rp X.K F H n y u)(e:c6 m x n y=some (k,d))(w:∀t F' H',aJ F H F' H'->Rp X.K F' H' k d t->(k=.fr->∀a,t=.ref a->H a=none)->Q t H'):E1 X.K v u H Q:=by unfold c6 at e;split at e;{rename_i ds i;cases A.int;exists p,U,rfl,G,r,B.seqL s;cases E:atI ds i with|none=>rw[E]at e;cases e|some O=>rw[E]at e;cases e;exists o,ex,f,r.atI E;exact .inl #[p,U,i,o,rfl,rfl,G,ex,w o F H (.refl s) f (by nofun)]};{rename_i ds i;cases A.int;exists p,U,rfl,G,r,B.seqT s;cases E:atI ds i with|none=>rw[E]at e;cases e|some O=>rw[E]at e;cases e;exists o,ex,f,r.atI E;exact .inr (.inl #[p,U,i,o,rfl,rfl,G,ex,w o F H (.refl s) f (by nofun)])};{rename_i z i;cases A.int;exists rfl,J,hk,B.str;cases E:atI z.cps.toList i with|none=>rw[E]at e;cases e|some c=>rw[E]at e;cases e;refine .inr (.inr #[z,i,c,rfl,rfl,J,E,w _ F H (.refl s) (pP #[?_,?_]) (by nofun)]);{show 1<=sizeLine;decide};exists j,_,L,_,pL E;unfold PyData.strOk at hk ⊢;rw[Array.all_eq_true_iff_forall_mem]at hk;have N:=hk c (by rw[<- Cf];exact rh L);simpa using N};cases e
def wh(ha:PV C X a ga)(o:PV C X b gb)(hs:nQ b:=by intro _ _;rfl):PV C X (.Subscript a b pos) (λY=>bv c6 (ga Y) (gb Y)):=by exact PE.imp (tZ NW ha o hs) λσ H Q q=>lN (λF H m x n y v u k d Q s f r e w=>O3 s f r e w) q
def BD(C:Cw)(X:Cx):Option Expr->Option (Rho->Res)->Prop|none,none=>True|some e,some g=>PV C X e g|_,_=>False
def E7(C:Cw):Option (Rho->Res)->TO|none=>zL|some g=>pK (tG C g)
def E8{e:Option Expr}{g:Option (Rho->Res)}(h:BD C X e g):PO X e (E7 (C.at X) g):=by
 cases e with
 |none=>cases g with|none=>exact NM|some g=>exact h.elim
 |some e=>cases g with|none=>exact h.elim|some g=>exact NN h
def fJ(g:Option (Rho->Res))(Y:Rho)(k:Option Int->Res):Res:=match g with|none=>k none|some g=>(g Y).thn λ_ d=>match d with|.int i=>k (some i)|_=>.stuck
def pU{F:Hp}{g:Option (Rho->Res)}{k:Option Int->Res}{Q:VK}{R:Option Int->Hp->Prop}(r:aS C.K C.F0 C.H0 F H σ Y)(w:aX C F H σ (fJ g Y k) Q)(h:∀i F' H',aJ F H F' H'->aS C.K C.F0 C.H0 F' H' σ Y->aX C F' H' σ (k i) Q->R i H'):E7 C g σ H R:=by cases g with|none=>exact h none F H (.refl r.sub) r w|some g=>(show pK (tG C g) σ H R;unfold pK;rw[aV];refine#[Y,F,r,?_];have w:aX C F H σ ((g Y).thn λ_ d=>match d with|.int i=>k (some i)|_=>.stuck) Q:=w);cases E:g Y with|stuck|exc c=>rw[E]at w;exact w|ok m d=>rw[E]at w;intro v F' H' st rp _;cases d with|int i=>cases rp.int;exact#[i,rfl,h (some i) F' H' st (r.step st) (aX.step st w)]|_=>exact(show False from w).elim
end
inductive bH where
 |ok (U:List (Md×D))|exc (c:Str)|stuck
def iz(K:Fg)(F H:Hp):List (Md×D)->List V->Prop|[],vs=>vs=[]|(m,d)::r,vs=>∃v us,vs=v::us/\Rp K F H m d v/\iz K F H r us
def bH.thn(r:bH)(k:List (Md×D)->Res):Res:=match r with|.ok U=>k U|.exc c=>.exc c|.stuck=>.stuck
@[simp]theorem bH.thn_ok(U:List (Md×D))(k:List (Md×D)->Res):(bH.ok U).thn k=k U:=rfl
end D3
variable{gs:D3.Rho->D3.bH}
namespace D3
@[simp]theorem bH.thn_exc(c:Str)(k:List (Md×D)->Res):(bH.exc c).thn k=.exc c:=rfl
@[simp]theorem bH.thn_stuck(k:List (Md×D)->Res):bH.stuck.thn k=.stuck:=rfl
def nV(C:Cw)(F H:Hp)(σ:L2.St)(r:bH)(Q:List V->Hp->Prop):Prop:=match r with|.ok U=>∀vs F' H',aJ F H F' H'->iz C.K F' H' U vs->Q vs H'|.exc c=>∀F' H',aJ F H F' H'->C.EE c σ H'|.stuck=>False
def nV.step{F H1:Hp}{r:bH}{Q:List V->Hp->Prop}(st:aJ F H F1 H1)(h:nV C F H σ r Q):nV C F1 H1 σ r Q:=by cases r with|ok m=>exact λv F' H' S a=>h v F' H' (st.trans S) a|exc c=>exact λF' H' S=>h F' H' (st.trans S)|stuck=>exact h
def Dq(C:Cw)(g:Rho->bH):TA:=λσ H Q=>∃Y F,aS C.K C.F0 C.H0 F H σ Y/\nV C F H σ (g Y) Q
def jm(C:Cw)(X:Cx)(es:List Expr)(g:Rho->bH):Prop:=PA X es (Dq (C.at X) g)
def PA.imp{e:List Expr}{t t':TA}(h:PA X e t)(i:∀σ H Q,t' σ H Q->t σ H Q):PA X e t':=λp aA s σ H Q I q=>h p aA s σ H Q I (i σ H Q q)
def aF(x:Res)(y:bH):bH:=match x with
 |.ok m d=>(match y with|.ok r=>.ok ((m,d)::r)|.exc c=>.exc c|.stuck=>.stuck)
 |.exc c=>.exc c|.stuck=>.stuck
@[simp]theorem O4(m:Md)(d:D)(r:List (Md×D)):aF (.ok m d) (.ok r)=.ok ((m,d)::r):=rfl
section
variable{a b:Expr}{es:List Expr}
def nW:jm C X [] (λ_=>.ok []):=PA.imp nO λσ H Q q=>by exists Y,F,R,w,q;exact w [] F H (.refl R.sub) rfl
def kA(ha:PV C X e g)(t:jm C X es gs)(hs:starEach (e::es) X.env=(false,eval e X.env)::starEach es X.env:=by rfl):jm C X (e::es) (λY=>aF (g Y) (gs Y)):=by refine PA.imp (nP ha t hs) λσ H Q q=>?_;unfold iM;exists Y,F,R,w,q;dsimp only at w;rw[aV];refine#[Y,F,R,?_];cases f:g Y with|stuck|exc c=>rw[f]at w;exact w|ok m d=>rw[f]at w;intro v F1 H1 s1 r1 _;refine#[Y,F1,R.step s1,?_];have W:=nV.step s1 w;cases E:gs Y with|stuck|exc c=>rw[E]at W;exact W|ok r=>rw[E]at W;intro vs B A S o;exact W (v::vs) B A S #[v,vs,rfl,r1.step S,o]
def dA:List (Md×D)->Option (List D)|[]=>some []|(.fz,d)::r=>(dA r).map (d :: ·)|_::_=>none
theorem iz.fz{K:Fg}{F H:Hp}:∀{U:List (Md×D)}{vs:List V}{ds:List D},iz K F H U vs->dA U=some ds->aC K F ds vs
 |[],_,_,h,e=>by cases e;rw[show _=[]from h];exact aC.nil|(.fz,d)::r,_,_,h,e=>by exists v,us,rfl,m,f,h;unfold dA at e;cases q:dA r with|none=>rw[q]at e;cases e|some o=>rw[q]at e;cases e;exact aC.cons m (iz.fz f q)
 |(.fr,d)::r,_,_,h,e|(.bo,d)::r,_,_,h,e=>by cases e
def dU(r:bH):Res:=r.thn λU=>match dA U with|some ds=>if ds.length<=sizeLine then .ok .fz (.tup ds)else .stuck|none=>.stuck
def fK(r:bH):Res:=r.thn λU=>match dA U with|some ds=>if ds.length<=sizeLine then .ok .fr (.lst ds)else .stuck|none=>.stuck
def aB.tup_of{K:Fg}{F:Hp}{p:Addr}(hp:F p=none)(r:aC K F ds U):aB K (upd F p (.tup U)) (.tup ds) (.ref p):=by simp only[aB];exact#[p,U,rfl,d3.of aY,r.mono (λb u q=>by rw[aP (bV q hp)];exact q) _ _]
def O5{x1}(h:jm C X es gs):PV C X (.Tuple es x1 pos) (λY=>dU (gs Y)):=by refine PE.imp (ND h) λσ H Q q=>?_;unfold vj;rw[aV]at q;exists Y,F,R,w,q;refine#[Y,F,R,?_];cases d:gs Y with|stuck|exc c=>rw[d]at w;exact w|ok U=>(rw[d]at w;intro vs F1 H1 s1 r1;have W:aX (C.at X) F1 H1 σ (match dA U with|some ds=>if ds.length<=sizeLine then .ok .fz (.tup ds)else .stuck|none=>.stuck) Q:=aX.step s1 w);cases E:dA U with|none=>rw[E]at W;exact W.elim|some ds=>rw[E]at W;dsimp only at W;split at W;{rename_i f;have r:=r1.fz E;refine#[by rw[r.length];exact f,λp hp=>?_];exact W (.ref p) _ _ (aJ.laid (.tup vs) s1.sub hp) (aB.tup_of (s1.sub.free hp) r) (by nofun)};exact W.elim
def O6(h:jm C X es gs):PV C X (.List es pos) (λY=>fK (gs Y)):=by refine PE.imp (y0 h) λσ H Q q=>?_;unfold vk;rw[aV]at q;exists Y,F,R,w,q;refine#[Y,F,R,?_];cases d:gs Y with|stuck|exc c=>rw[d]at w;exact w|ok U=>(rw[d]at w;intro vs F1 H1 s1 r1;have W:aX (C.at X) F1 H1 σ (match dA U with|some ds=>if ds.length<=sizeLine then .ok .fr (.lst ds)else .stuck|none=>.stuck) Q:=aX.step s1 w);cases E:dA U with|none=>rw[E]at W;exact W.elim|some ds=>rw[E]at W;dsimp only at W;split at W;{rename_i f;have r:=r1.fz E;refine#[by rw[r.length];exact f,λp hp=>?_];refine W (.ref p) F1 _ (aJ.fresh (.lst vs) s1.sub hp) #[p,rfl,s1.sub.free hp,vs,aY,r] λ_ a ea=>by cases ea;exact hp};exact W.elim
def hU:D->Option Key|.int i=>some (.inl i)|.str x=>some (.inr x)|_=>none
def lU(m:Md)(d e:D):Res:=match m,hU d with|.fz,some k=>.ok .fr (.dct [(k,e)])|_,_=>.stuck
def nX(x y:Res):Res:=x.thn λm d=>(aG y).thn λ_ e=>lU m d e
def nY{K:Fg}{F:Hp}{m:Md}{d:D}{k:Key}(e:hU d=some k)(r:Rp K F H m d v):v=kV k:=by cases d with|int i=>cases e;exact r.int|str x=>cases e;exact r.str.1|_=>cases e
def O7{k v:Expr}{gk G:Rho->Res}(hk:PV C X k gk)(J:PV C X v G):PV C X (.Dict [some k] [v] pos) (λY=>nX (gk Y) (G Y)):=by
 refine PE.imp (Oi (Oh hk (eH J) Og) rfl rfl (λz=>nomatch z) (Nat.le_of_ble_eq_true rfl)) λσ H Q q=>?_;rw[aV]at q;exists Y,F,R,w,q;intro p hp;have s0:aJ F H F (upd H p (.dK [])):=aJ.fresh _ R.sub hp;show tG (C.at X) gk σ (upd H p (.dK [])) _;rw[aV];refine#[Y,F,R.step s0,?_];have W:=aX.step s0 w;cases A:gk Y with
 |stuck|exc c=>rw[A]at W;exact W|ok m d =>
  rw[A]at w W;intro u F1 H1 s1 r1 _;show tG (C.at X) _ σ H1 _;rw[aV];refine#[Y,F1,(R.step s0).step s1,?_];have t:aX (C.at X) F1 H1 σ ((aG (G Y)).thn λ_ e=>lU m d e) Q:=aX.step s1 W;have w:aX (C.at X) F H σ ((aG (G Y)).thn λ_ e=>lU m d e) Q:=w;cases ev:aG (G Y)with
  |stuck|exc c=>rw[ev]at t;exact t|ok n e =>
   have hn:n=.fz:=by cases h:G Y with|ok m' N=>rw[h]at ev;cases m' <;> cases ev <;> rfl|exc c|stuck=>rw[h]at ev;cases ev
   subst hn;rw[ev]at w;intro y r B o D _;have L:B p=some (.dK []):=o.same _ _ (s1.same _ _ aY);refine#[L,?_];have w:aX (C.at X) F H σ (lU m d e) Q:=w
   clear W t
   cases E:hU d with
   |none=>unfold lU at w;rw[E]at w;cases m <;> exact w.elim|some k =>
    cases m with
    |fr|bo=>exact w.elim|fz =>
    unfold lU at w;rw[E]at w;have K:=nY E r1;subst K;refine#[[(k,y)],rfl,Nat.le_of_ble_eq_true rfl,?_];have st:aJ F H r (upd B p (.dK (lL [] [(k,y)]))):=by have S:=(s0.trans s1).trans o;have f:r p=none:=o.new p (s1.new p (R.sub.free hp) (by rw[aY];exact λz=>nomatch z)) (by rw[s1.same _ _ aY];exact λz=>nomatch z);refine#[λb u q=>?_,S.fsame,λb u q=>?_,S.new];{rw[aP (bV q hp)];exact S.same b u q};rw[aP (bV q f)];exact S.sub b u q
    have f:r p=none:=o.new p (s1.new p (R.sub.free hp) (by rw[aY];exact λz=>nomatch z)) (by rw[s1.same _ _ aY];exact λz=>nomatch z)
    refine w (.ref p) r _ st #[p,rfl,f,[(k,y)],aY,?_] λ_ a ea=>by cases ea;exact hp
    simp only[aR];exact#[y,[],rfl,D,rfl]
def hW(X:Cx)(f:ba)(o:List (Md×D)->Option (Md×D)):Prop :=
 ∃r:List V->Hp->VK->Prop,fE X f r/\∀F H U vs k d Q,aE F H->iz X.K F H U vs->o U=some (k,d) ->
  (∀m F' H',aJ F H F' H'->Rp X.K F' H' k d m->(k=.fr->∀a,m=.ref a->H a=none)->Q m H')->r vs H Q
def fL(d:List (Md×D)->Option (Md×D))(r:bH):Res:=r.thn λU=>Res.of (d U)
def E9{f:List (Md×D)->Option (Md×D)}{r:List V->Hp->VK->Prop}(h:∀F H U vs k d Q,aE F H->iz C.K F H U vs->f U=some (k,d)->(∀m F' H',aJ F H F' H'->Rp C.K F' H' k d m->(k=.fr->∀a,m=.ref a->H a=none)->Q m H')->r vs H Q){Q:VK}(q:tG C (λY=>fL f (gs Y)) σ H Q):vm r (Dq C gs) σ H Q:=by unfold vm;rw[aV]at q;exists Y,F,R,w,q;refine#[Y,F,R,?_];cases o:gs Y with|stuck|exc c=>rw[o]at w;exact w|ok U=>rw[o]at w;intro vs F1 H1 s1 r1;have W:aX C F1 H1 σ (Res.of (f U)) Q:=aX.step s1 w;cases E:f U with|none=>rw[E]at W;exact W.elim|some t=>exists k,d,t;rw[E]at W;exact h F1 H1 U vs k d Q s1.sub r1 E W
def Fa{id:String}{φ}(o:hW X (.builtin id) φ)(A:Gl X x)(t:X.mg x=none)(m:bootBuiltins x=some (.builtin id))(ha:jm C X (e::es) gs)(hn:x ≠ "__name__":=by decide)(f:(x==("__debug__":Str))=false:=by decide)(B:starEach (e::es) X.env=(false,eval e X.env)::starEach es X.env:=by rfl)(d:(backTo pos (starEach es X.env)).any (·.1)=false:=by rfl):PV C X (.Call (.Name x p) (e::es) [] pos) (λY=>fL φ (gs Y)):=by exists r,E,D,o;exact PE.imp (NG E A t m ha hn f B d) λσ H Q q=>E9 D q
def eI:List (Md×D)->Option (Md×D)|[(_,.str z)]=>some (.fz,.int z.length)|[(_,.lst ds)]|[(_,.tup ds)]=>some (.fz,.int ds.length)|_=>none
def iz.one{K:Fg}{F:Hp}{m:Md}{d:D}{vs:List V}(h:iz K F H [(m,d)] vs):∃v,vs=[v]/\Rp K F H m d v:=by exists v,us,rfl,r,e,h;exact#[v,by rw[show us=[]from e],r]
def iz.two{K:Fg}{F:Hp}{m n:Md}{d e:D}{vs:List V}(h:iz K F H [(m,d),(n,e)] vs):∃v u,vs=[v,u]/\Rp K F H m d v/\Rp K F H n e u:=by exists v,us,rfl,r,o,f,rfl,t,e,h;exact#[v,o,by rw[show f=[]from e],r,t]
def O8:hW X (.builtin "len") eI:=by refine#[_,Nw,λF H U vs k d Q s f e w=>?_];unfold eI at e;split at e;{rename_i m z;cases e;exists v,rfl,r,f.one;exists rfl,t,_,r.str;exact#[_,z.length,rfl,#[t,rfl],w _ F H (.refl s) (fG _) (by nofun)]};{rename_i m ds;cases e;exists v,rfl,r,f.one;exists a,U,rfl,q,o,r.seqL s;exact#[_,U.length,rfl,.inl #[U,q,rfl],by rw[o.length];exact w _ F H (.refl s) (fG _) (by nofun)]};{rename_i m ds;cases e;exists v,rfl,r,f.one;exists a,U,rfl,q,o,r.seqT s;exact#[_,U.length,rfl,.inr #[U,q,rfl],by rw[o.length];exact w _ F H (.refl s) (fG _) (by nofun)]};cases e
noncomputable def BE:D->Option String|.non=>some "NoneType" |.bl _=>some "bool" |.int _=>some "int" |.str _=>some "str" |.tup _=>some "tuple" |.lst _=>some "list" |.dct _=>some "dict" |_=>none
noncomputable def nZ(t c:String):Option Bool:=if["int","bool","str","list","tuple","dict"].contains c=true then some (t==c||(t == "bool" && c == "int"))else none
def i9:List (Md×D)->Option (Md×D)
 |[(_,d),(_,.ty c)]=>match BE d with|some t=>(nZ t c).map λb=>(.fz,.bl b)|none=>none
 |_=>none
def O9{K:Fg}{d:D}{t c:String}{b:Bool}(ht:BE d=some t)(e:nZ t c=some b):W.kitOne K (.type t) (.type c)=some b:=by unfold nZ at e;split at e;{rename_i m;simp only[List.contains_cons,List.contains_nil,Bool.or_false,jx,ck]at m;cases e;(have f:t="NoneType" \/ t="bool" \/ t="int" \/ t="str" \/ t="tuple" \/ t="list" \/ t="dict":=by cases d <;> cases ht <;> simp);rcases m with rfl|rfl|rfl|rfl|rfl|rfl <;> rcases f with rfl|rfl|rfl|rfl|rfl|rfl|rfl <;> rfl};cases e
def Pa:hW X (.builtin "isinstance") i9:=by refine#[λvs H Q=>∃(F:Hp) (m:Md) (d:D) (v:V) (t c:String) (b:Bool),aE F H/\Rp X.K F H m d v/\vs=[v,.ty c]/\BE d=some t/\nZ t c=some b/\Q (.bl b) H,?_,?_];{intro aA s σ H U us Q I r h;exists F,m,d,v,t,c,b,sF,E,rfl,A,hb,q,h;exists u,Z,rfl,B,N,vals2 r;cases(show Z=Value.type c from N);have e:=O9 (K:=X.K) A hb;have f:∀tk,EP X aA σ Q (.bool b) {s with toks:=tk}:=λtk=>#[.bl b,H,I.tok _,rfl,q];cases d with|non=>cases E.non;cases A;cases(show u=Value.none from B);exact qf W.kitx_none I.kIn True.intro e (λz=>nomatch z) f|bl y=>cases E.bl;cases A;cases(show u=Value.bool y from B);exact qf W.kitx_bool I.kIn True.intro e (λz=>nomatch z) f|int i=>cases E.int;cases A;exists t,q,(show ∃t,u=Value.int i t from B);cases q;exact qf W.kitx_int I.kIn True.intro e (λz=>nomatch z) f|str y=>exists rfl,_,E.str;cases A;exists t,q,(show ∃t,u=Value.str y t from B);cases q;exact qf W.kitx_str I.kIn True.intro e (λz=>nomatch z) f|tup ds=>exists a,U,rfl,G,_,E.seqT sF;cases A;cases(show u=Value.ref a from B);obtain⟨its,_,⟨o,L,J,_⟩,_⟩:=I.tuple G;exact qf W.kitx_tuple I.kIn #[o,L,J] e (λz=>nomatch z) f|lst ds=>exists a,U,rfl,G,_,E.seqL sF;cases A;cases(show u=Value.ref a from B);obtain⟨its,_,⟨o,n,L,J,_⟩,_⟩:=I.list G;exact qf W.kitx_list I.kIn #[o,L,J] e (λz=>nomatch z) f|dct ds=>exists a,U,rfl,G,_,E.dict sF;cases A;cases(show u=Value.ref a from B);exists _,_,vs,_,p,(show bS X.prog X.w H s.heap a (.dK U)from I.hok a _ G);exists o,es,ep,L,J,_,p;exact qf W.kitx_dict I.kIn #[o,L,J.1] e (λz=>nomatch z) f|_=>cases A};intro F H U vs k d Q s rx e w;unfold i9 at e;split at e;{rename_i m T n c;exists v,u,rfl,r1,r2,rx.two;cases r2.ty;cases O:BE T with|none=>rw[O]at e;cases e|some t=>rw[O]at e;dsimp only at e;cases S:nZ t c with|none=>rw[S]at e;cases e|some b=>rw[S]at e;cases e;exact#[F,m,T,v,t,c,b,s,r1,rfl,O,S,w _ F H (.refl s) (cJ _) (by nofun)]};cases e
def wj{T:String}(m:Gl X x)(f:X.mg x=none)(d:bootBuiltins x=some (.type T))(hn:x ≠ "__name__":=by decide)(hd:(x==("__debug__":Str))=false:=by decide):PV C X (.Name x pos) (λ_=>.ok .fz (.ty T)):=
 j7 _ (MN (v:=.ty T) m f d rfl hn hd) λ_ _=>wc T
def Pb{y:Str}{t:Tok}(f:Gl X x)(d:X.mg x=some (.str y t))(h:(decide (y.length<=sizeLine)&&PyData.strOk y)=true:=by decide +kernel)(hd:(x==("__debug__":Str))=false:=by decide):PV C X (.Name x pos) (λ_=>.ok .fz (.str y)):=
 j7 _ (tM (v:=.str y) f d #[t,rfl] hd) λ_ _=>pP (by rw[cc,fe]at h;exact h)
def Pc{y:Int}{t:Tok}(f:Gl X x)(d:X.mg x=some (.int y t))(hd:(x==("__debug__":Str))=false:=by decide):PV C X (.Name x pos) (λ_=>.ok .fz (.int y)):=
 j7 _ (tM (v:=.int y) f d #[t,rfl] hd) λ_ _=>fG _
def wl:List D->Option (List Bool)|[]=>some []|.bl b::r=>(wl r).map (b :: ·)|_=>none
def Pd:List (Md×D)->Option (Md×D)|[(_,.lst ds)]=>(wl ds).map λbs=>(.fz,.bl (bs.all id))|_=>none
end
inductive aI where
 |nx (Y:Rho)|rt (m:Md) (d:D)|bk (Y:Rho)|ct (Y:Rho)|exc (c:Str) (Y:Rho)|stuck
def bZ(C:Cw)(f:Hp)(r:aI)(E:gM):Prop:=match r with|.nx Y=>∀σ F H,aE f F->aS C.K C.F0 C.H0 F H σ Y->E.nx σ H|.bk Y=>∀σ F H,aE f F->aS C.K C.F0 C.H0 F H σ Y->E.bk σ H|.ct Y=>∀σ F H,aE f F->aS C.K C.F0 C.H0 F H σ Y->E.ct σ H|.exc c Y=>∀σ F H,aE f F->aS C.K C.F0 C.H0 F H σ Y->C.EE c σ H|.rt m d=>∀v F H,aJ C.F0 C.H0 F H->Rp C.K F H m d v->(m=.fr->∀a,v=.ref a->C.H0 a=none)->E.rt v H|.stuck=>False
def bZ.mono{F:Hp}{r:aI}{E:gM}(s:aE F F1)(w:bZ C F r E):bZ C F1 r E:=by cases r with|nx Y|bk Y|ct Y|exc c Y=>exact λσ F' H' z R=>w σ F' H' (s.trans z) R|rt m d|stuck=>exact w
def tH(C:Cw)(g:Rho->aI):TS:=λE σ H=>∃Y F,aS C.K C.F0 C.H0 F H σ Y/\bZ C F (g Y) E
def ja(C:Cw)(X:Cx)(st:Stmt)(g:Rho->aI):Prop:=PS X st (tH (C.at X) g)
def io(C:Cw)(X:Cx)(st:List Stmt)(g:Rho->aI):Prop:=ie X st (tH (C.at X) g)
def PS.imp{e:Stmt}{t t':TS}(h:PS X e t)(i:∀E σ H,t' E σ H->t E σ H):PS X e t':=λaA s σ H E I q=>h aA s σ H E I (i E σ H q)
def ie.imp{e:List Stmt}{t t':TS}(h:ie X e t)(i:∀E σ H,t' E σ H->t E σ H):ie X e t':=λaA s σ H E I q=>h aA s σ H E I (i E σ H q)
def aI.thn(r:aI)(k:Rho->aI):aI:=match r with|.nx Y=>k Y|r=>r
@[simp]theorem aI.thn_nx(Y:Rho)(k:Rho->aI):(aI.nx Y).thn k=k Y:=rfl
@[simp]theorem aI.thn_rt(m:Md)(d:D)(k:Rho->aI):(aI.rt m d).thn k=.rt m d:=rfl
@[simp]theorem aI.thn_bk(Y:Rho)(k:Rho->aI):(aI.bk Y).thn k=.bk Y:=rfl
@[simp]theorem aI.thn_ct(Y:Rho)(k:Rho->aI):(aI.ct Y).thn k=.ct Y:=rfl
@[simp]theorem aI.thn_exc(c:Str)(Y:Rho)(k:Rho->aI):(aI.exc c Y).thn k=.exc c Y:=rfl
@[simp]theorem aI.thn_stuck(k:Rho->aI):aI.stuck.thn k=.stuck:=rfl
section
variable{a b:Expr}{f A:Rho->aI}
def Pe:io C X [] (λY=>.nx Y):=ie.imp MV λE σ H q=>by exists Y,F,R,w,q;exact w σ F H (aE.refl _) R
def Pf{E:gM}(q:tH C (λY=>(f Y).thn A) E σ H):u1 (tH C f) (tH C A) E σ H:=by exists Y,F,R,w,q;refine#[Y,F,R,?_];dsimp only at w;cases o:f Y with|nx ρ'=>rw[o]at w;exact λr F' H' z t=>#[ρ',F',t,bZ.mono z w]|rt m d|bk ρ'|ct ρ'|exc c ρ'|stuck=>rw[o]at w;exact w
def Pg(ha:ja C X st f)(d:io C X sts A):io C X (st::sts) (λY=>(f Y).thn A):=ie.imp (tO ha d) λE σ H q=>Pf q
def Res.thS(r:Res)(Y:Rho)(k:Md->D->aI):aI:=match r with|.ok m d=>k m d|.exc c=>.exc c Y|.stuck=>.stuck
@[simp]theorem Res.thS_ok(m:Md)(d:D)(Y:Rho)(k:Md->D->aI):(Res.ok m d).thS Y k=k m d:=rfl
@[simp]theorem Res.thS_exc(c:Str)(Y:Rho)(k:Md->D->aI):(Res.exc c).thS Y k=.exc c Y:=rfl
@[simp]theorem Res.thS_stuck(Y:Rho)(k:Md->D->aI):Res.stuck.thS Y k=.stuck:=rfl
def iS{F:Hp}{k:Md->D->aI}{E:gM}{Q:VK}(R:aS C.K C.F0 C.H0 F H σ Y)(w:bZ C F ((g Y).thS Y k) E)(h:∀m d v F' H',bZ C F' (k m d) E->aJ F H F' H'->aS C.K C.F0 C.H0 F' H' σ Y->Rp C.K F' H' m d v->(m=.fr->∀a,v=.ref a->H a=none)->Q v H'):tG C g σ H Q:=by rw[aV];refine#[Y,F,R,?_];cases o:g Y with|stuck=>rw[o]at w;exact w|exc c=>rw[o]at w;exact λF' H' s=>w σ F' H' s.fsame (R.step s)|ok m d=>rw[o]at w;exact λv F' H' s r fr=>h m d v F' H' (bZ.mono s.fsame w) s (R.step s) r fr
def Ph(o:PV C X e g)(hs:swapsWith e none pos.line X.env=pure false:=by rfl):ja C X (.Expr e pos) (λY=>(g Y).thS Y λ_ _=>.nx Y):=PS.imp (pE o hs) λE σ H q=>by exists Y,F,R,w,q;exact iS R w λm d v F' H' W s r t fr=>W σ F' H' (aE.refl _) r
noncomputable def lV(r:Res)(Y:Rho):aI:=r.thS Y λm d=>match m with|.bo=>.stuck|m=>.rt m d
def Pj(t:PV C X e g):ja C X (.Return (some e) pos) (λY=>lV (g Y) Y):=PS.imp (yS t) λE σ H q=>by exists Y,F,R,w,q;refine iS R w λm d v F' H' W s o r fr=>?_;cases m with|bo=>exact(show False from W).elim|fz=>exact W v F' H' o.st r (by nofun)|fr=>exact W v F' H' o.st r λ_ a ea=>R.st.same.free (fr rfl a ea)
def hX(Y:Rho)(i:Nat):aI:=match Y[i]? with|some (some (false,d))=>.rt .fz d|some (some (true,d))=>.rt .fr d|_=>.stuck
def Pm(i:Nat)(h:PE X (.Name x p) (fZ i)):ja C X (.Return (some (.Name x p)) pos) (λY=>hX Y i):=PS.imp (yS h) λE σ H q=>by exists Y,F,R,w,q;dsimp only at w;unfold hX at w;cases e:Y[i]? with|none=>rw[e]at w;exact w.elim|some o=>cases o with|none=>rw[e]at w;exact w.elim|some q=>exists m,d,q;exists v,t,r,B,R.slot i m d e;rw[e]at w;cases m with|false=>exact#[v,t,w v F H R.st r (by nofun)]|true=>exact#[v,t,w v F H R.st r λ_=>B rfl]
noncomputable def n7(t:Res)(Y:Rho)(x y:aI):aI:=t.thS Y λ_ d=>match d with|.bl true=>x|.bl false=>y|_=>.stuck
def Pn{s1 S:List Stmt}(r:jq C X c gc)(ha:io C X s1 f)(t:io C X S A):ja C X (.If c s1 S pos) (λY=>n7 (gc Y) Y (f Y) (A Y)):=by refine PS.imp (yT r ha t) λE σ H q=>?_;exists Y,F,R,w,q;dsimp only at w;refine#[Y,F,R,?_];cases o:gc Y with|stuck=>rw[o]at w;exact w|exc c=>rw[o]at w;exact λF' H' s=>w σ F' H' s.fsame (R.step s)|ok m d=>rw[o]at w;cases d with|bl k=>(intro F' H' s;cases k with|true=>rw[al rfl];exact#[Y,F',R.step s,bZ.mono s.fsame w]|false=>rw[a0 fq];exact#[Y,F',R.step s,bZ.mono s.fsame w])|_=>exact w.elim
noncomputable def eA(Y:Rho)(i:Nat)(r:Res):aI:=r.thS Y λm d=>match m with|.fz=>.nx (Y.set i (some (false,d)))|.fr=>.nx (Y.set i (some (true,d)))|.bo=>.stuck
theorem aS.set{K:Fg}{F:Hp}{m:Bool}{d:D}(N:aS K F0 H0 F H σ Y)(s:aJ F H F' H')(V:Rp K F' H' (if m then .bo else .fz) d v)(fr:m=true->∀a,v=.ref a->H a=none):aS K F0 H0 F' H' (σ.set i (some v)) (Y.set i (some (m,d))):=by have R:=N.step s;refine#[R.st,λj m' Z e=>?_,λj k T S a B G E q1 J=>?_,by rw[mf,mf];exact R.len];{by_cases L:j=i;{subst L;rw[r0]at e;by_cases o:j<Y.length;{rw[al rfl,al o]at e;cases e;refine#[v,by rw[r0,al rfl,al (by rw[R.len];exact o)],V,λz a ea=>N.st.same.free (fr z a ea)]};rw[al rfl,a0 o]at e;cases e};rw[h5 (λz=>L z.symm)]at e ⊢;exact R.slot j m' Z e};(have O:∀(l:Nat) (d:D) (b:Addr),l≠i->Y[l]? = some (some (true,d))->σ[l]? = some (some (.ref b)) -> ¬ j6 (H b):=λl d b o e q=>by exists u,q',r,_,N.slot l true d e;rw[q]at q';cases q';exists b',W,_,t,r;cases W;exact t.there);by_cases L:j=i;{subst L;rw[h5 B]at E J;rw[r0]at G q1;by_cases o:j<Y.length;{rw[al rfl,al o]at G;rw[al rfl,al (by rw[R.len];exact o)]at q1;cases G;cases q1;exact O k S a (λz=>B z.symm) E J (iR (fr rfl a rfl))};rw[al rfl,a0 o]at G;cases G};by_cases hk:k=i;{subst hk;rw[h5 (λz=>B z.symm)]at G q1;rw[r0]at E J;by_cases o:k<Y.length;{rw[al rfl,al o]at E;rw[al rfl,al (by rw[R.len];exact o)]at J;cases E;cases J;exact O j T a B G q1 (iR (fr rfl a rfl))};rw[al rfl,a0 o]at E;cases E};rw[h5 (λz=>L z.symm)]at G q1;rw[h5 (λz=>hk z.symm)]at E J;exact R.apart j k T S a B G E q1 J
def uF{E:gM}(q:tH (C.at X) (λY=>eA Y i (g Y)) E σ H):nL (tG (C.at X) g) (nK i) E σ H:=by exists Y,F,R,w,q;dsimp only at w;refine iS R w λm d v F' H' W s o r fr=>?_;cases m with|bo=>exact(show False from W).elim|fz=>exact W _ F' H' (aE.refl _) (R.set (m:=false) s r (by nofun))|fr=>exact W _ F' H' (aE.refl _) (R.set (m:=true) s r λ_ a ea=>fr rfl a ea)
def Po(hN:X.N.Nodup)(hi:X.N[i]? = some x)(hx:Loc X.env.scope x)(d:PV C X e g)(hs:swapsWith e (some (.Name x pos')) pos.line X.env=pure false:=by rfl)(hf:X.fn x=true\/X.env.scope.names.lookup x=some .local:=by first|exact .inl rfl|exact .inr rfl|assumption):ja C X (.Assign [.Name x pos'] e pos) (λY=>eA Y i (g Y)):=PS.imp (yV hN hi hx d hs hf) λE σ H q=>uF q
end
def PI.imp{t t':TI}(h:PI X tg e t)(i:∀σ H R,t' σ H R->t σ H R):PI X tg e t':=λaA s σ H R I q=>h aA s σ H R I (i σ H R q)
def PI.or{t t':TI}(h:PI X tg e t)(h':PI X tg e t'):PI X tg e (λσ H R=>t σ H R\/t' σ H R):=λaA s σ H R I q=>by rcases q with q|q;{exact h aA s σ H R I q};exact h' aA s σ H R I q
structure kB(K:Fg)(F:Hp)(J:It)(ds:List D):Prop where
 go:∀i H,aE F H->i<ds.length->J.go i H
 stop:∀i H,aE F H->ds.length<=i->J.stop i H
 yld:∀i Fc H x H',aE F Fc->aE Fc H->i<ds.length->J.yld i H x H'->∃F' d,ds[i]? = some d/\aJ Fc H F' H'/\aB K F' d x
def wm(C:Cw)(F H:Hp)(σ:L2.St)(r:Res)(R:It->Hp->Prop):Prop:=match r with|.ok _ (.lst ds)=>∀J F' H',aJ F H F' H'->kB C.K F' J ds->R J H'|.exc c=>∀F' H',aJ F H F' H'->C.EE c σ H'|_=>False
def Dr(C:Cw)(g:Rho->Res):TI:=λσ H R=>∃Y F,aS C.K C.F0 C.H0 F H σ Y/\wm C F H σ (g Y) R
def jz(C:Cw)(X:Cx)(tg e:Expr)(g:Rho->Res):Prop:=PI X tg e (Dr (C.at X) g)
def eX(r:Res):Res:=r.thn λ_ d=>match d with|.lst ds|.tup ds=>.ok .fz (.lst ds)|_=>.stuck
def Pp{K:Fg}{F:Hp}{a:Addr}(m:d3 K F a U)(r:aC K F ds U):kB K F (Dd K a) ds where
 go:=λi H s f=>by(have A:i<U.length:=by rw[r.length];exact f);exact#[U,U[i],aE.seqT s m,by simp[A]]
 stop:=λi H s f=>#[U,aE.seqT s m,by rw[r.length];exact f]
 yld:=λi Fc H x H' o S f y=>by exists rfl,y,y;have hx:=y U (aE.seqT S (aE.seqT o m));exists d,e,t,r.get hx;exact#[Fc,d,e,.refl S,t.mono o _ _]
def Pq(h:PV C X e g):jz C X tg e (λY=>eX (aG (g Y))):=by
 have h:=eH h;refine PI.imp (PI.or (M8 h) (M9 h)) λσ H R q=>?_;exists Y,F,A,w,q;dsimp only at w;cases E:aG (g Y)with
 |stuck=>rw[E]at w;exact w.elim|exc c=>refine .inl ?_;unfold tR;rw[aV];refine#[Y,F,A,?_];rw[E]at w ⊢;exact w|ok m d =>
  rw[E]at w;have G:m=.fz:=by cases h:g Y with|ok m' L=>rw[h]at E;cases m' <;> cases E <;> rfl|exc c|stuck=>rw[h]at E;cases E
  subst G;cases d with
  |lst ds =>
   refine .inl ?_; unfold tR; rw [aV]; refine #[Y, F, A, ?_]; rw [E]; intro v F' H' st f _; have f : aB X.K F' (.lst ds) v := f; simp only [aB] at f; obtain ⟨a, U, rfl, o, r⟩ := f; exact #[a, rfl, #[U, st.sub.seq o], w _ F' H' st #[fun i H s t => by
       have J:i<U.length:=by rw[r.length];exact t
       exact#[U,U[i],s.seq o,by simp[J]],λi H s t=>#[U,s.seq o,by rw[r.length];exact t],λi Fc H x H' B S t y=>by
       exists rfl,y,y;have hx:=y U (S.seq (B.seq o));exists d,e,D,r.get hx;exact#[Fc,d,e,.refl S,D.mono B _ _]]]
  |tup ds=>refine .inr ?_;unfold va;rw[aV];refine#[Y,F,A,?_];rw[E];intro v F' H' st f _;have f:aB X.K F' (.tup ds) v:=f;simp only[aB]at f;exists a,U,rfl,o,r,f;exact#[a,rfl,#[U,aE.seqT st.sub o],w _ F' H' st (Pp o r)]|_=>exact w.elim
def cD(lo hi:Int):List D:=(List.range (hi-lo).toNat).map λi=>.int (lo+(i:Nat))
def fM(r:bH):Res:=r.thn λU=>match U with|[(_,.int n)]=>if(decide (-(2 ^ 62)<=n)&&decide (n<2 ^ 62))=true then .ok .fz (.lst (cD 0 n))else .stuck|_=>.stuck
def Pr{K:Fg}{F:Hp}{lo hi:Int}:kB K F (ti lo (hi-lo).toNat) (cD lo hi) where
 go:=λi H s h=>by simpa[cD,ti]using h
 stop:=λi H s h=>by simpa[cD,ti]using h
 yld:=λi Fc H x H' a S h y=>by(exists rfl,rfl,y;have h':i<(hi-lo).toNat:=by simpa[cD]using h);refine#[Fc,.int (lo+i),?_,.refl S,by simp only[aB]];simp only[cD,gz,ui h',r4]
def Pt{a:Expr}(o:Gl X "range")(f:X.mg "range"=none)(ha:jm C X [a] gs)(hs:starEach [a] X.env=[(false,eval a X.env)]:=by rfl):jz C X tg (.Call (.Name "range" p) [a] [] pos) (λY=>fM (gs Y)):=by refine PI.imp (Nb o f ha hs) λσ H R q=>?_;exists Y,F,t,w,q;dsimp only at w;unfold yW;refine#[Y,F,t,?_];cases E:gs Y with|stuck|exc c=>rw[E]at w;exact w|ok U=>rw[E]at w;intro vs F' H' st rp;unfold fM at w;rw[bH.thn_ok]at w;split at w;{rename_i m n;split at w;{rename_i d;rw[cc,fe,fe]at d;exists v,rfl,r,rp.one;cases r.int;have:=Pr (K:=X.K) (F:=F') (lo:=0) (hi:=n);rw[Int.sub_zero]at this;exact#[n,rfl,d.1,d.2,w _ F' H' st this]};exact w.elim};exact w.elim
def Fb(C:Cw)(X:Cx)(tg:Expr)(k:D->Rho->Option Rho):Prop:=∃t:TG,PG X tg t/\∀F H σ Y ρ' d v Q,aS X.K C.F0 C.H0 F H σ Y->aB X.K F d v->k d Y=some ρ' ->
 (∀a F' H',aE F F'->aS X.K C.F0 C.H0 F' H' a ρ'->Q a H')->t v σ H Q
noncomputable def cA(k:D->Rho->Option Rho)(body:Rho->aI):List D->Rho->aI|[],Y=>.nx Y|d::ds,Y=>match k d Y with|none=>.stuck|some f=>match body f with|.nx a|.ct a=>cA k body ds a|.bk a=>.nx a|r=>r
def lW(r:Res)(Y:Rho)(k:D->Rho->Option Rho)(body:Rho->aI):aI:=r.thS Y λ_ d=>match d with|.lst ds=>cA k body ds Y|_=>.stuck
theorem Pu{k:D->Rho->Option Rho}{L:Rho->aI}(hp:PassesOwn (model X.prog X.w) X.A X.env X.xe)(hc:X.calm=true)(hi:jz C X tg e g)(hg:Fb C X tg k)(hb:io C X body L)(hs:∀x,foldedSetIterable e X.env x=pure x:=by intro _;rfl):ja C X (.For tg e body [] pos) (λY=>lW (g Y) Y k L):=by exists t,ht,hk,hg;refine PS.imp (yX hp hc hi ht hb hs) λE σ H q=>?_;exists Y,F,RS,w,q;dsimp only at w;unfold tU;refine#[Y,F,RS,?_];cases er:g Y with|stuck=>rw[er]at w;exact w|exc c=>rw[er]at w;exact λF' H' s=>w σ F' H' s.fsame (RS.step s)|ok m d=>rw[er]at w;cases d with|lst ds=>(intro J F1 H1 s1 hJ;have w:bZ (C.at X) F1 (cA k L ds Y) E:=bZ.mono s1.fsame w;refine#[λi m r H'=>m=ds.length-i/\i<=ds.length/\∃ρ' F',aE F1 F'/\aS X.K C.F0 C.H0 F' H' r ρ'/\bZ (C.at X) F' (cA k L (ds.drop i) ρ') E,#[ds.length,by simp,gy _,Y,F1,aE.refl _,RS.step s1,by simpa using w],?_];rintro i m r H' ⟨rfl,hi,ρ',F',sF,R',w'⟩;by_cases o:i<ds.length;{refine .inr #[hJ.go i H' (sF.trans R'.sub) o,λO S=>∃f G,aE F1 G/\aS X.K C.F0 C.H0 G S O f/\bZ (C.at X) G (cA k L (ds.drop (i+1)) f) E,λO S ⟨f,G,a,b,c⟩=>#[ds.length-(i+1),by lia,rfl,o,f,G,a,b,c],λx S y=>?_];(exists G,d,ed,V,rd,hJ.yld i F' H' x S sF R'.sub o y;have hd:ds.drop i=d::ds.drop (i+1):=by rw[Ba o];rw[gg o]at ed;cases ed;rfl);rw[hd]at w';unfold cA at w';cases ek:k d ρ' with|none=>rw[ek]at w';exact w'.elim|some B=>rw[ek]at w';dsimp only at w';refine hk G S r ρ' B d x _ (R'.step V) rd ek λaa F3 H3 z3 R3=>?_;have T:aE F1 F3:=(sF.trans V.fsame).trans z3;have W:=bZ.mono (V.fsame.trans z3) w';refine#[B,F3,R3,?_];cases eb:L B with|nx f|ct f=>rw[eb]at W;exact λN F4 H4 Z R4=>#[f,F4,T.trans Z,R4,bZ.mono Z W]|bk f=>rw[eb]at W;exact λN F4 H4 Z R4=>W N F4 H4 Z R4|rt m d|exc c f|stuck=>rw[eb]at W;exact W};(have ei:i=ds.length:=by lia);subst ei;refine .inl #[hJ.stop _ H' (sF.trans R'.sub) (dg _),?_];rw[uj]at w';exact w' r F' H' (aE.refl _) R')|_=>exact w.elim
end D3
namespace L2
theorem uG {env : Env} : ∀ (names : List (Str × NameKind)) (a : List (Str × Addr)), (∀ y ∈ names, y.2 = .free → ∃ c, env.cells.lookup y.1 = some c) → (∀ y c, a.lookup y = some c → env.cells.lookup y = some c) →
    ∃cl,(forIn names a λ(x:Str×NameKind) (D:List (Str×Addr))=>(if x.2 == .free then(do let c <- cellOf env x.1;pure (ForInStep.yield ((x.1,c)::D)))else pure (ForInStep.yield D):Sem (ForInStep (List (Str×Addr)))))=pure cl /\
     (∀y c,cl.lookup y=some c->env.cells.lookup y=some c)/\(∀y c,a.lookup y=some c->cl.lookup y=some c)/\∀y,(y,NameKind.free)∈names->∃c,cl.lookup y=some c
 |[],a,_,ha=>#[a,by rw[uk],ha,λ_ _ h=>h,λ_ h=>by cases h]|(n,k)::r,a,h,ha=>by
  rw[Cy];by_cases hk:k=.free
  . subst hk;exists c,o,h (n,.free) cj rfl;have F:cellOf env n=pure c:=by unfold cellOf;rw[o]
    have e:((if(NameKind.free==NameKind.free)=true then(do let c <- cellOf env n;pure (ForInStep.yield ((n,c)::a)))else pure (ForInStep.yield a)):Sem (ForInStep (List (Str×Addr))))=pure (ForInStep.yield ((n,c)::a)):=by rw[al (by decide),F,qg]
    exists cl,B,A,E,t,uG (env:=env) r ((n,c)::a) (λy f=>h y (cs f)) (λy m q=>by
     rw[h7]at q;cases d:y==n with|true=>rw[d]at q;cases q;rw[ck.mp d];exact o|false=>rw[d]at q;exact ha y m q)
    refine#[cl,?_,A,λy m q=>?_,λy f=>?_]
    . dsimp only;rw[e,qg];exact B
    . cases d:y==n with|true=>have:=ck.mp d;subst this;have q':=ha y m q;rw[o]at q';cases q';exact E y c (by rw[h7,d])|false=>exact E y m (by rw[h7,d];exact q)
    . rcases cy.mp f with z|z;{cases z;exact#[c,E n c (by rw[h7,nv])]};exact t y z
  . (have e:((if(k==NameKind.free)=true then(do let c <- cellOf env n;pure (ForInStep.yield ((n,c)::a)))else pure (ForInStep.yield a)):Sem (ForInStep (List (Str×Addr))))=pure (ForInStep.yield a):=by rw[a0 (by simpa using hk)]);exists cl,B,A,E,t,uG (env:=env) r a (λy f=>h y (cs f)) ha;refine#[cl,?_,A,E,λy f=>?_];{dsimp only;rw[e,qg];exact B};rcases cy.mp f with z|z;{cases z;exact absurd rfl hk};exact t y z
def Pv(h:∀y∈scope.names,y.2=.free->∃c,env.cells.lookup y.1=some c):∃cl,closureFor scope env=pure cl/\(∀y c,cl.lookup y=some c->env.cells.lookup y=some c)/\∀y,(y,NameKind.free)∈scope.names->∃c,cl.lookup y=some c:=by exists cl,d,a,_,E,uG (env:=env) scope.names [] h (λy c q=>by simp at q);refine#[cl,?_,a,E];unfold closureFor;rw[bind_pure];exact d
def Pw(t:∀y∈scope.names,y.2 ≠ .cell)(h:(relabel scope env).names.lookup x=some .cell\/(relabel scope env).names.lookup x=some .free):(x,NameKind.free)∈scope.names:=by
 unfold relabel at h;dsimp only at h;have go:∀(l:List (Str×NameKind)),(∀y∈l,y.2 ≠ .cell)->((l.map λ(n,k)=>if(k==NameKind.free&&env.scope.kind == .function&&env.kindOf n==some .cell)then(n,NameKind.cell)else(n,k)).lookup x=some .cell\/(l.map λ(n,k)=>if(k==NameKind.free&&env.scope.kind == .function&&env.kindOf n==some .cell)then(n,NameKind.cell)else(n,k)).lookup x=some .free)->(x,NameKind.free)∈l:=by
  intro l
  induction l with
  |nil=>intro _ h;simp at h|cons y l m =>
   intro f h;exists n,k,y;rw[cu]at h;by_cases hx:x=n
   . subst hx;have hk:k=.free:=by
       by_cases hk:k=.free
       . exact hk
       . have e:(k==NameKind.free&&env.scope.kind == .function&&env.kindOf x==some .cell)=false:=by
           have:(k==NameKind.free)=false:=by simpa using hk
           rw[this];rfl
         simp only[e,mw,ji,h7,nv]at h;rcases h with h|h
         . cases h;exact absurd rfl (f _ cj)
         . cases h;exact absurd rfl hk
     subst hk;exact cj
   . (have r:(x==n)=false:=by simpa using hx);(have o:∀(kk:NameKind) (L:List (Str×NameKind)),((n,kk)::L).lookup x=L.lookup x:=λkk L=>by rw[h7,r]);by_cases a:(k==NameKind.free&&env.scope.kind == .function&&env.kindOf n==some .cell)=true;{dsimp only at h;rw[al a,o]at h;exact cs (m (λy d=>f y (cs d)) h)};dsimp only at h;rw[a0 a,o]at h;exact cs (m (λy d=>f y (cs d)) h)
 exact go scope.names t h
noncomputable def a8(X:Cx)(scope:Scope)(N:List Str)(cl:List (Str×Addr))(C:Addr)(fp:List Addr)(s3:bz)(a:Hp):Cx where
 prog:=X.prog
 w:=X.w
 K:=X.K
 mg:=X.mg
 base:=X.base
 A:=X.A
 N:=N
 s₀:=s3
 H₀:=a
 env:=compEnvC scope cl C X.env
 outer:=X.stack
 stack:=X.stack
 ex:=fp
 fn:=λ_=>false
 calm:=X.calm
 pn:=[]
 xe:=λ_ _=>False
def eB(X:Cx)(a:List Expr)(t:TT):Prop :=
 ∀(aA:eh) (s:bz) (σ:St) (H:Hp) (Q:Bool->Hp->Prop),Inv X aA σ H s->t σ H Q ->
  wpAny (model X.prog X.w) X.A (forIn a true λc r=>if r=true then do let ok <- isTrue c X.env (eval c X.env);pure (ForInStep.yield ok)else pure (ForInStep.yield r)) (TP X aA σ Q) X.xe s
def Fd:eB X [] (λ_ H Q=>Q true H):=λaA s σ H Q I h=>by rw[uk];exact ci #[H,I,h]
theorem Fe{X:Cx}:∀a:List Expr,(forIn a false λc r=>if r=true then do let ok <- isTrue c X.env (eval c X.env);pure (ForInStep.yield ok)else pure (ForInStep.yield r):Sem Bool)=pure false|[]=>by rw[uk]|c::a=>by rw[Cy,a0 fq,qg];exact Fe a
def Px{a:List Expr}{t u:TT}(m:PT X c t)(f:eB X a u):eB X (c::a) (tN t u):=λaA s σ H Q I h=>by rw[Cy,al rfl];refine bp (bp (thn (m aA s σ H _ I h) λb S ⟨H1,d,q1⟩=>ci ?_));cases b with|true=>rw[al rfl]at q1;exact f aA S σ H1 Q d q1|false=>rw[a0 fq]at q1;dsimp only;rw[Fe];exact ci #[H1,d,q1]
def Ff(comp tg iter:Expr)(ifs:List Expr)(a:Addr->Env->Sem Unit):Prop:=∀prog w (A:di) it D env,A.under (.compLoop comp 0 it (.ref D) env)=A/\(model prog w).den (.compLoop comp 0 it (.ref D) env)=Sem.onRaise (do
 standAt iter.pos
 match <- pyNext it with
 |none=>pure (.done .next)|some v =>
  letOwnedTupleGo tg it v
  assign tg env v
  let mut ok:=true
  for c in ifs do
   if ok then ok <- isTrue c env (eval c env)
  if ok then
   a D env
  again (.compLoop comp 0 it (.ref D) env)) (λx=>do noteFrame x env;theTreesLotGoes x)
def Py {prog : e7} {w : cw} {A : di} {R : Result → bz → Prop} {s : bz} {comp t iter : Expr} {ifs : List Expr} {a : Addr → Env → Sem Unit} {it : ba} {D : Addr} {env : Env} (ht : Ff comp t iter ifs a) (I : Nat → bz → Prop) (turn : ∀ n s, I n s → wpAny (model prog w) A (pyNext it) (fun r s1 => match r with
      |none=>R (.ok .next) s1| some v => wpAny (model prog w) A (letOwnedTupleGo t it v) (fun _ S => wpAny (model prog w) A (assign t env v) (fun _ o =>
          wpAny (model prog w) A (forIn ifs true λc r=>if r=true then do let ok <- isTrue c env (eval c env);pure (ForInStep.yield ok)else pure (ForInStep.yield r)) (λok s3 =>
           if ok=true then wpAny (model prog w) A (a D env) (λ_ f=>∃m,m<n/\I m f) (λ_ _=>False) s3
           else ∃ m, m < n ∧ I m s3) (fun _ _ => False) o) (fun _ _ => False) S) (fun _ _ => False) s1) (fun _ _ => False) s)
    (n:Nat) (h:I n s) :
    codeAny (model prog w) A (.compLoop comp 0 it (.ref D) env) R s:=by
 refine codeAny_loop rfl I (λn s F=>?_) n h;rw[(ht prog w A ..).1,(ht prog w A ..).2];refine wpAny_noted ?_;refine bp (ue (bp (jh (turn n s F) (λr s1 E=>?_) λ_ _ h'=>h'.elim)));cases r with|none=>exact ci E|some v=>refine bp (jh E (λ_ S d=>?_) λ_ _ h'=>h'.elim);refine bp (jh d (λ_ o J=>bp (jh J (λok s3 B=>?_) λ_ _ h'=>h'.elim)) λ_ _ h'=>h'.elim);cases ok with|false=>exact ci #[rfl,B]|true=>exact bp (jh B (λ_ f G=>ci #[rfl,G]) λ_ _ h'=>h'.elim)
def dB(aD:List Nat)(σ:St):St:=aD.map λi=>(σ[i]?).getD none
def uH(σ a:St):Prop:=σ.length=a.length/\∀(j:Nat) v,σ[j]? = some (some v)->a[j]? = some (some v)
def n6(aD:List Nat)(k:Nat)(wi:TI)(gt:TG)(tt:TT)(te:TE):TE:=λσ H Q=>wi σ H λJ H1=>∀D,H1 D=none ->
 ∃W:Nat->Nat->List V->Hp->Prop,(∃m,W 0 m [] (upd H1 D (.lst [])))/\∀i m ys H,W i m ys H->H D=some (.lst ys) /\
  ((J.stop i H/\Q (.ref D) H)\/(J.go i H/\ys.length<sizeLine/\∀x H',J.yld i H x H'->gt x (dB aD σ++List.replicate k none) H' λa o=>uH (dB aD σ++List.replicate k none) a/\tt a o λb f =>
   if b=true then te a f λy d=>d D=some (.lst ys)/\∃m',m'<m/\W (i+1) m' (ys++[y]) (upd d D (.lst (ys++[y])))else ∃m',m'<m/\W (i+1) m' ys f))
def Pz(aD:List Nat)(k:Nat)(wi:TI)(gt:TG)(tt:TT){d:Type}(O:List d->HO)(tb:St->Hp->Addr->List d->(List d->Hp->Prop)->Prop):TE:=λσ H Q=>wi σ H λJ H1=>∀D,H1 D=none ->
 ∃W:Nat->Nat->List d->Hp->Prop,(∃m,W 0 m [] (upd H1 D (O [])))/\∀i m ys H,W i m ys H->H D=some (O ys) /\
  ((J.stop i H/\Q (.ref D) H)\/(J.go i H/\ys.length<sizeLine/\∀x H',J.yld i H x H'->gt x (dB aD σ++List.replicate k none) H' λa r=>uH (dB aD σ++List.replicate k none) a/\tt a r λb f =>
   if b=true then tb a f D ys λzs o=>∃m',m'<m/\W (i+1) m' zs o else ∃m',m'<m/\W (i+1) m' ys f))
structure CK(X:Cx)(comp tg iter:Expr)(ifs:List Expr)(scope:Scope)(N:List Str){γ:Type}(O:List γ->HO)(mk:Sem ba)(act:Addr->Env->Sem Unit)(tb:St->Hp->Addr->List γ->(List γ->Hp->Prop)->Prop):Prop where
 cl:clausesOf comp=[#[tg,iter,ifs,0]]
 tn:Ff comp tg iter ifs act
 st:∀{it acc env R s},codeAny (model X.prog X.w) X.A (.compLoop comp 0 it acc env) R s->wpAny (model X.prog X.w) X.A (pyIter it) (λit' s'=>codeAny (model X.prog X.w) X.A (.compLoop comp 0 it' acc env) R s') (notedBy (model X.prog X.w) X.A env λx s'=>R (.error x) s') s->codeAny (model X.prog X.w) X.A (.compStart comp 0 it acc env) R s
 nw:∀{aA σ H s R},Inv X aA σ H s->(∀s',s'.heap.objs.size=s.heap.objs.size+1->(∀b o,s.heap.get? b=some o->s'.heap.get? b=some o)->Inv X aA σ (upd H s.heap.objs.size (O [])) s'->R (.ref s.heap.objs.size) s')->wpAny (model X.prog X.w) X.A mk R X.xe s
 ac:∀{cl C fp s3 H3 aA σ H s D ys K R},Inv (a8 X scope N cl C fp s3 H3) aA σ H s->ys.length<sizeLine->tb σ H D ys K->(∀zs H' s',Inv (a8 X scope N cl C fp s3 H3) aA σ H' s'->K zs H'->R () s')->wpAny (model X.prog X.w) X.A (act D (compEnvC scope cl C X.env)) R (λ_ _=>False) s
def uI{comp:Expr}{γ:Type}{O:List γ->HO}{mk:Sem ba}{br:Addr->Env->Sem Unit}{tb:St->Hp->Addr->List γ->(List γ->Hp->Prop)->Prop}{use:Option (ba->Sem Unit)}{QQ:dc}{σ:St}{Q:VK}(hc:X.calm=true)(hi:PI X tg iter wi)(cR:∀y∈scope.names,y.2 ≠ .cell)(cS:scope.kind=.function)(eR:∀y∈scope.names,y.2=.local->scope.names.lookup y.1=some .local)(dH:∀y∈scope.names,y.2=.free->X.env.kindOf y.1=some .cell\/X.env.kindOf y.1=some .free)(d5:aM.map some=aD.map λi=>X.N[i]?)(eU:∀y∈aM,(y,NameKind.free)∈scope.names)(eT:∀y∈aM,(relabel scope X.env).names.lookup y=some .cell\/(relabel scope X.env).names.lookup y=some .free)(hg:∀cl C fp S H3,PG (a8 X scope (aM++tgN) cl C fp S H3) tg gt)(hf:∀cl C fp S H3,eB (a8 X scope (aM++tgN) cl C fp S H3) ifs tt)(k:CK X comp tg iter ifs scope (aM++tgN) O mk br tb)(hs:∀x,foldedSetIterable iter X.env x=pure x)(I:Inv X aA σ H s)(h:Pz aD tgN.length wi gt tt O tb σ H Q)(bb:∀(D Z:Addr) (s6:bz) (V:Hp),(∃m,s6.heap.Ns Z m)->(∀L,Heap.SameBut Z s6.heap L->Inv X aA σ V {s6 with heap:=L})->V Z=none->X.s₀.heap.objs.size<=Z->Z≠X.env.locals->(∀x c,X.env.cells.lookup x=some c->c≠Z)->(∀p∈X.pn++aA,p.1≠Z)->Q (.ref D) V->compPost (model X.prog X.w) X.A X.xe use QQ (.ref D) Z (.ok .next) s6):wpAny (model X.prog X.w) X.A (comprehension comp scope X.env (firstIterPos [#[tg,iter,ifs,0]] pos) mk (firstAsync [#[tg,iter,ifs,0]]) (firstIter [#[tg,iter,ifs,0]] X.env) use) QQ X.xe s:=by
 exists cl,aq,f,af,Pv (scope:=scope) (env:=X.env) λy hy hk=>I.ok.has y.1 (dH y hy hk);refine wpAny_comprehension_free (use:=use) k.cl hs aq cS eR (thn (hi aA s σ H _ I h) λv s1 h1=>thn h1 λbw s2 B=>?_);exists it,fp,tn,J,H2,e,I2,T,aj,f2,q,B;subst e;have hn:H2 s2.heap.objs.size=none:=I2.hok.fresh (dg _);obtain⟨W,⟨m0,w0⟩,turn⟩:=q s2.heap.objs.size hn;refine k.nw I2 λS bg E t=>?_;generalize bi:upd H2 s2.heap.objs.size (O [])=H3 at t w0;have bc:∀b∈fp,b<s2.heap.objs.size:=λb d=>by exists o,eo,_,T.obj 0 _ aj b d;exact dy eo
 have bj:s2.heap.objs.size∉fp:=λd=>ky _ (bc _ d);refine wpAny_newFunctionEnv cR (by intro y hy;simp at hy) (λh4 ay aw=>?_) cS
 try dsimp only at ay aw ⊢
 have K:∀b o,S.heap.get? b=some o->h4.get? b=some o:=λb o e=>aw.extBut b o (gx (dy e)) (hps e);have aa:∀b∈fp,b∉gj X.stack:=λb d z=>by exists _,f1,bq,_,f2 b d;rcases cy.mp (I2.stkSub b z)with q|q;{exact f1 q};exact bq q
 have ak:(a8 X scope (aM++tgN) cl S.heap.objs.size fp S H3).Ok :=
  { mod:=t.ok.mod
    kind:=cS
    glob:=t.ok.glob
    blt:=t.ok.blt
    above:=dg _
    inj:=λx y c h1 B=>t.ok.inj x y c (f x c h1) (f y c B)
    has:=λx hx=>af x (Pw cR hx)
    cab:=λx c z=>by cases z
    hd:=t.ok.hd
    frames:=t.ok.frames
    stk:=.inl rfl
    exf:=λb d=>#[gx (by show b<S.heap.objs.size;rw[bg];exact Cz (bc b d)),λx c e=>(f2 b d).2.2.2.2.1 x c (f x c e)]
    bs:=t.bs
    bsz:=ir t.ok.bsz t.sz
    noex:=λb o e d=>by exists _,_,_,f3,_,f2 b d;rcases f3 with z|z;{exact I2.ok.noex b o e z};exact absurd (dy (I2.ok.bs b o e).1) (Nat.not_lt.mpr z)
    exfs:=aa
    funs:=t.stack
    frf:=t.stkFree
    tabs:=t.ok.tabs.mono t.base.tbls }
 have G:aM.length=aD.length:=by have:=congrArg List.length d5;simpa using this
 generalize ae:dB aD σ++List.replicate tgN.length none=σ0 at turn;have Ic:Inv (a8 X scope (aM++tgN) cl S.heap.objs.size fp S H3) [] σ0 H3 {S with heap:=h4,toks:=S.toks+([]:List (Str×ba)).length}:=by refine#[ak,rfl,t.bare,Un.kept K,#[_,ay,λi y v h1 B h3=>?_],λx c e=>?_,t.hok.fresh (dg _),λx c e=>t.freeC x c (f x c e),λp hp=>absurd (show p∈([]:eh)from hp) (by simp),t.hok.kept K,?_];{by_cases hi:i<aD.length;{(have ey:aM[i]? = some y:=by have h1:(aM++tgN)[i]? = some y:=h1;rw[nu (by rw[G];exact hi)]at h1;exact h1);(have hj:X.N[aD[i]]? = some y:=by(have e1:(aM.map some)[i]? = (aD.map λi=>X.N[i]?)[i]?:=by rw[d5]);rw[gz,gz,ey,gg hi]at e1;simpa using e1.symm);(have ev:σ[aD[i]]? = some (some v):=by rw[<- ae,nu (by simpa[dB]using hi)]at B;unfold dB at B;rw[gz,gg hi]at B;simp only[r4,CA]at B;cases z:σ[aD[i]]? with|none=>rw[z]at B;cases B|some o=>rw[z]at B;exact congrArg some B);have av:=eU y (rh ey);have az:=dH _ av rfl;exists m,_,hl,t.loc;exists u,ru,lk,hl aD[i] y v hj ev (by rcases az with z|z;exact .inr (.inl z);exact .inr (.inr z));refine#[u,ru,.inr #[eT y (rh ey),?_]];rcases lk with⟨hk,_⟩|⟨_,c,ec,ic⟩;{rcases az with z|z;{rw[show X.env.kindOf y=some .cell from z]at hk;cases hk};rw[show X.env.kindOf y=some .free from z]at hk;cases hk};exists c',bf,af y av;have:=f y c' bf;rw[ec]at this;cases this;exact#[c,bf,ic.keeps K]};rw[<- ae,p8 (by simpa[dB]using hi),p9]at B;split at B <;> cases B};{exists v,q,t.cell x c (f x c e);exact#[v,q.keeps K]};rw[<- ae];show(dB aD σ++List.replicate tgN.length none).length=(aM++tgN).length;simp[dB,G]
 have ar:∀{H':Hp},(∀b∈fp,H' b=none)->∀b∈fp,c9 (a8 X scope (aM++tgN) cl S.heap.objs.size fp S H3) [] H' b:=λhn b d =>
  #[hn b d,(ak.exf b d).1,aa b d,.inl d,(ak.exf b d).2,λp hp=>absurd (show p∈([]:eh)from hp) (by simp)]
 have loop:codeAny (model X.prog X.w) X.A (.compLoop comp 0 (.ref it) (.ref s2.heap.objs.size) (compEnvC scope cl S.heap.objs.size X.env)) (compPost (model X.prog X.w) X.A X.xe use QQ (.ref s2.heap.objs.size) S.heap.objs.size) {S with heap:=h4,toks:=S.toks+([]:List (Str×ba)).length}:=by
  refine Py k.tn (λn s'=>∃i ys H',Inv (a8 X scope (aM++tgN) cl S.heap.objs.size fp S H3) [] σ0 H' s'/\tn i s'.heap/\(∀b∈fp,H' b=none)/\W i n ys H') ?_ m0
   #[0,[],H3,Ic,T.keep _ _ _ aj (λb d o e=>K b o (E b o e)),λb d=>by rw[<- bi,aP (by intro z;rw[z]at d;exact bj d)];exact(f2 b d).1,w0]
  rintro n s5 ⟨i,ys,V,I5,st5,fr5,w5⟩;exists hD,hw,turn i n ys V w5;rcases hw with⟨stop,qq⟩|⟨go,hlen,step⟩
  . refine thn (T.done (a8 X scope (aM++tgN) cl S.heap.objs.size fp S H3) rfl rfl rfl hc i [] s5 σ0 V _ I5 (ar fr5) st5 stop) λr s6 ⟨hr,I6⟩=>?_;subst hr;exists m,hm,_,id I6.loc;refine bb s2.heap.objs.size S.heap.objs.size s6 V #[m,hm] (λL F=>?_) I6.free t.sz (λz=>?_) (λx c ec z=>?_) (λp hp z=>?_) qq;rotate_left
    . obtain⟨m,⟨o,es,ep,ho,_⟩,_⟩:=id t.loc;rw[<- z]at ho;exact ky _ (dy ho)
    . exists v,o,ho,_,t.cell x c ec;rw[z]at ho;exact ky _ (dy ho)
    . have:=(t.pin p hp).1;rw[z]at this;exact ky _ (dy this)
    have u:=I6.base;have am:∀b o,S.heap.get? b=some o->b≠S.heap.objs.size:=λb o e=>gx (dy e);have un:Un (gj X.stack) fp H3 V S.heap L:=by refine#[λb o e n d hx=>F.extBut b o (am b o e) (u.keep b o e n d hx),λb o e n d hx=>?_,u.free,λb o e hx=>?_,u.tups,u.frzs,u.tbls];{exists sl,q,u.slot b o e n d hx;exact#[sl,F.extBut b _ (am b o e) q]};exists o',q,u.there b o e hx;exact#[o',F.extBut b _ (am b o e) q]
    have hok : fj X.prog X.w V L := fun a o e => (I6.hok a o e).stay (fun b v d q => F.extBut b v (by
        intro z;have fr:=I6.free;rcases d with d|d
        . rw[d]at z;rw[z]at e;rw[show V S.heap.objs.size=none from fr]at e;cases e
        . rw[z,show V S.heap.objs.size=none from fr]at d;cases d) q) (λ_ q=>q) λ_ _ q=>q
    have bh:=I6.os;exists hh,g6,d6,t6,o6,s6;obtain rfl:o6=S.os:=bh;have I8:=t.call (h':=L) (g':=g6) (d':=d6) (t':=t6) (ch:=fp) un hok I6.bare λb d=>by exists _,f1,_,f3,f4,f5,f2 b d;exact#[f3,f1,f4,f5]
    exact I8
  . refine thn (T.item (a8 X scope (aM++tgN) cl S.heap.objs.size fp S H3) rfl rfl rfl hc i [] s5 σ0 V _ I5 (ar fr5) st5 go) λr s6 ⟨u,hr,h6⟩=>?_;subst hr;refine thn h6 λ_ s7 ⟨x,H7,I7,r7,y7,ai,bn⟩=>?_;have bu:=I7.pinned (ar bn) (T.obj _ _ ai);refine thn (hg cl S.heap.objs.size fp S H3 _ s7 σ0 H7 x u _ bu r7 (step x H7 y7)) λ_ s8 ⟨au,H8,I8,wk,q8⟩=>?_;have ag:∀{H':Hp}{s':bz}{m':Nat}{ah:List γ},Inv (a8 X scope (aM++tgN) cl S.heap.objs.size fp S H3) ([]++nM fp s7.heap) au H' s'->m'<n->W (i+1) m' ah H' ->
        ∃m,m<n/\∃i ys H',Inv (a8 X scope (aM++tgN) cl S.heap.objs.size fp S H3) [] σ0 H' s'/\tn i s'.heap/\(∀b∈fp,H' b=none)/\W i m ys H':=λ{H' s' m' ah} I' hm w'=>by
      have pinned:∀b∈fp,∀o,s7.heap.get? b=some o->s'.heap.get? b=some o/\H' b=none:=λb d o e=>by have:=I'.pin (b,o) (iu _ (iu _ (tV d e)));exact#[this.1,this.2.1]
      refine#[m',hm,i+1,ah,H',I'.unpinned.weak wk.1 wk.2,T.keep _ _ _ ai λb d o e=>(pinned b d o e).1,λb d=>?_,w'];exists o,e,_,T.obj _ _ ai b d;exact(pinned b d o e).2
    refine thn (hf cl S.heap.objs.size fp S H3 _ s8 au H8 _ I8 q8) λb s9 ⟨H9,I9,q9⟩=>?_;cases b with|false=>rw[a0 fq]at q9 ⊢;exists m',hm,w9,q9;exact ag I9 hm w9|true=>rw[al rfl]at q9 ⊢;exact k.ac I9 hlen q9 λzs H' s' I' ⟨m',hm,w'⟩=>ag I' hm w'
 exact k.st loop (T.self _ 0 _ _ _ (T.keep _ _ _ aj (λb d o e=>K b o (E b o e))) loop)
def Fh {X : Cx} {elt tg iter : Expr} {ifs : List Expr} {scope : Scope} {pos : Pos} {N : List Str} {te : TE} (m : ∀ cl C fp s3 H3, PE (a8 X scope N cl C fp s3 H3) elt te) :
    CK X (.ListComp elt [#[tg,iter,ifs,0]] scope pos) tg iter ifs scope N .lst (newList []) (λD env=>do let _ <- call (.builtin "list.append") [.ref D,<- eval elt env]) (λσ H D ys K=>te σ H λy a=>a D=some (.lst ys)/\K (ys++[y]) (upd a D (.lst (ys++[y])))) where
 cl:=rfl
 tn _ _ _ _ _ _:=#[rfl,rfl]
 st:=codeAny_compStart_list
 nw I h:=lj (h _ (q0 _ _) (λb o e=>hps e) (I.laid (t':=_) (λb u e=>hps e) (dg _) #[gy _,[],0,.nil,fo _ rfl]))
 ac {cl C fp s3 H3 _ σ _ _ D ys _ _} I hlen h w:=bp (thn (m cl C fp s3 H3 _ _ σ _ _ I h) λy S ⟨d,a,B,r,t,f⟩=>bp (thn (t8 (X:=a8 X scope N cl C fp s3 H3) _ S σ a (.ref D) [d] (.ref D) [y] (λv H'=>v=.non/\H'=upd a D (.lst (ys++[d]))) B rfl (.cons r .nil)
  #[D,ys,d,rfl,rfl,t,hlen,rfl,rfl]) λ_ F ⟨_,_,A,_,_,E⟩=>ci (w _ _ _ (E ▸ A) f)))
def PB(r:X.calm=true)(hi:PI X tg iter wi)(K:∀y∈scope.names,y.2 ≠ .cell)(J:scope.kind=.function)(B:∀y∈scope.names,y.2=.local->scope.names.lookup y.1=some .local)(F:∀y∈scope.names,y.2=.free->X.env.kindOf y.1=some .cell\/X.env.kindOf y.1=some .free)(G:aM.map some=aD.map λi=>X.N[i]?)(E:∀y∈aM,(y,NameKind.free)∈scope.names)(A:∀y∈aM,(relabel scope X.env).names.lookup y=some .cell\/(relabel scope X.env).names.lookup y=some .free)(f:∀cl C fp s3 H3,PG (a8 X scope (aM++tgN) cl C fp s3 H3) tg gt)(hf:∀cl C fp s3 H3,eB (a8 X scope (aM++tgN) cl C fp s3 H3) ifs tt)(o:∀cl C fp s3 H3,PE (a8 X scope (aM++tgN) cl C fp s3 H3) elt te)(hs:∀x,foldedSetIterable iter X.env x=pure x:=by intro _;rfl):PE X (.ListComp elt [#[tg,iter,ifs,0]] scope pos) (n6 aD tgN.length wi gt tt te):=by intro aA s σ H Q I h;rw[eval_ListComp];exact uI (use:=none) r hi K J B F G E A f hf (Fh o) hs I h λD Z S L a t _ _ _ _ _ q=>by exists m,a,a;exact#[m,a,λd hs=>#[.ref D,L,t d hs,rfl,q]]
def Inv.dropped{σ:St}{f:Heap}{Z:Addr}(I:Inv X aA σ H s)(hs:Heap.SameBut Z s.heap f)(hz:H Z=none)(h0:X.s₀.heap.objs.size<=Z)(B:Z≠X.env.locals)(A:∀x c,X.env.cells.lookup x=some c->c≠Z)(r:∀p∈X.pn++aA,p.1≠Z):Inv X aA σ H {s with heap:=f}:=by
 have un:Un (gj X.stack) [Z] H H s.heap f:=by have k:∀b o,s.heap.get? b=some o->b∉[Z]->f.get? b=some o:=λb o e m=>hs.extBut b o (λz=>m (by rw[z];exact cj)) e;exact#[λb o e _ _ hx=>k b o e hx,λb o e _ _ hx=>#[o.slots,k b o e hx],λ_ _ _ n _=>n,λb o e hx=>#[o,k b o e hx],λ_ _ q=>q,λ_ _ _ q=>q,λ_ ps q=>#[#[],by simpa using q]]
 have hok:fj X.prog X.w H f:=λa o e=>(I.hok a o e).stay (λb v m q=>hs.extBut b v (by
  rintro rfl;rcases m with m|m
  . rw[m,e]at hz;cases hz
  . rw[hz]at m;cases m) q) (λ_ q=>q) λ_ _ q=>q
 exists D,g,d,t,o,s;exact I.call (g':=g) (d':=d) (t':=t) (ch:=[Z]) un hok I.bare λb m=>by(obtain rfl:b=Z:=by simpa using m);exact#[.inr h0,B,A,r]
def PC{spos:Pos}(L:X.calm=true)(hi:PI X tg iter wi)(cR:∀y∈scope.names,y.2 ≠ .cell)(cS:scope.kind=.function)(eR:∀y∈scope.names,y.2=.local->scope.names.lookup y.1=some .local)(dH:∀y∈scope.names,y.2=.free->X.env.kindOf y.1=some .cell\/X.env.kindOf y.1=some .free)(d5:aM.map some=aD.map λi=>X.N[i]?)(W:∀y∈aM,(y,NameKind.free)∈scope.names)(eT:∀y∈aM,(relabel scope X.env).names.lookup y=some .cell\/(relabel scope X.env).names.lookup y=some .free)(J:∀cl C fp s3 H3,PG (a8 X scope (aM++tgN) cl C fp s3 H3) tg gt)(hf:∀cl C fp s3 H3,eB (a8 X scope (aM++tgN) cl C fp s3 H3) ifs tt)(K:∀cl C fp s3 H3,PE (a8 X scope (aM++tgN) cl C fp s3 H3) elt te)(hN:X.N.Nodup)(hx:X.N[i]? = some x)(hk:X.env.scope.names.lookup x=some .local)(d:swapsWith (.ListComp elt [#[tg,iter,ifs,0]] scope pos) (some (.Name x pos')) spos.line X.env=pure true)(hs:∀x,foldedSetIterable iter X.env x=pure x:=by intro _;rfl):PS X (.Assign [.Name x pos'] (.ListComp elt [#[tg,iter,ifs,0]] scope pos) spos) (nL (n6 aD tgN.length wi gt tt te) (nK i)):=by intro aA s σ H En I h;rw[exec_Assign_Name_used _ _ _ _ d];refine bp (ue (bp ?_));show wpAny _ X.A (comprehension (.ListComp elt [#[tg,iter,ifs,0]] scope pos) scope X.env (firstIterPos [#[tg,iter,ifs,0]] pos) (newList []) (firstAsync [#[tg,iter,ifs,0]]) (firstIter [#[tg,iter,ifs,0]] X.env) (some (assign (.Name x pos') X.env))>>=_) _ _ s;refine bp (uI (use:=some (assign (.Name x pos') X.env)) L hi cR cS eR dH d5 W eT J hf (Fh K) hs I (show n6 aD tgN.length wi gt tt te σ H _ from h) λD Z E H5 o O G h0 B t T q=>?_);exists m,o,o;have I6:=O E.heap (Heap.SameBut.refl _ _);refine wpAny_assign_Name (yO I6 hN hx (.inl hk) (show aH (.ref D) (.ref D)from rfl) (λs' I' r=>?_) (.inr hk));(exists a,S,ha,r;have F:Z≠a:=by rcases ha with rfl|ha;{exact B};exact λz=>t x a ha z.symm);exact#[m,o.sameBut S F,λV f=>ci (ci #[_,H5,I'.dropped f G h0 B t T,q])]
end L2
namespace D3
def bU(aD:List Nat)(Y:Rho):Rho:=aD.map λi=>match Y[i]? with|some (some (false,d))=>some (false,d)|_=>none
def eJ(k:D->Rho->Option Rho)(t e:Rho->Res)(a:Rho):List D->Option (List D)|[]=>some []|d::ds=>match k d a with|none=>none|some f=>match t f with|.ok _ (.bl true)=>((match aG (e f)with|.ok _ y=>(eJ k t e a ds).map (y :: ·)|_=>none))|.ok _ (.bl false)=>eJ k t e a ds|_=>none
def bI(src:Res)(Y:Rho)(aD:List Nat)(n:Nat)(k:D->Rho->Option Rho)(t e:Rho->Res):Res:=src.thn λ_ d=>match d with
 |.lst ds=>if ds.length<sizeLine then(match eJ k t e (bU aD Y++List.replicate n none) ds with|some ys=>.ok .fr (.lst ys)|none=>.stuck)else .stuck
 |_=>.stuck
abbrev Cw.nox(C:Cw):Cw:={C with EE:=λ_ _ _=>False}
theorem aJ.upd{F:Hp}{x:Addr}{o:HO}(st:aJ F H F' H')(hx:H x=none)(a:F' x=none):aJ F H F' (L2.upd H' x o) :=
 #[λb u q=>by rw[aP (bV q hx)];exact st.same b u q,st.fsame,λb u q=>by rw[aP (bV q a)];exact st.sub b u q,st.new]
def PD:eB X [] (tT (C.at X) λ_=>.ok .fz (.bl true)):=λaA s σ H Q I h=>by exists Y,F,R,w,h;exact Fd aA s σ H Q I (w F H (.refl R.sub))
def PF{a:List Expr}(f:jq C X c ga)(d:eB X a (tT (C.at X) gb)):eB X (c::a) (tT (C.at X) λY=>fH (ga Y) (gb Y)):=λaA s σ H Q I h =>
 Px f d aA s σ H Q I (E5 h)
def Fi{K:Fg}{F:Hp}(aD:List Nat)(n:Nat)(R:aS K F0 H0 F H σ Y):aS K F0 H0 F H (dB aD σ++List.replicate n none) (bU aD Y++List.replicate n none):=by(have L:∀(i:Nat) (m:Bool) (d:D),(bU aD Y++List.replicate n none)[i]? = some (some (m,d))->m=false/\∃v,(dB aD σ++List.replicate n none)[i]? = some (some v)/\aB K F d v:=λi m d e=>by by_cases f:i<aD.length;{rw[nu (by simpa[bU]using f)]at e;rw[nu (by simpa[dB]using f)];unfold bU at e;unfold dB;rw[gz,gg f]at e ⊢;simp only[r4,CA]at e;cases z:Y[aD[i]]? with|none=>rw[z]at e;cases e|some o=>rw[z]at e;cases o with|none=>cases e|some q=>exists b,t,q;cases b with|true=>cases e|false=>cases e;exists v,E,r,_,R.slot _ _ _ z;exact#[rfl,v,by simp[E],r]};rw[p8 (by simpa[bU]using f),p9]at e;split at e <;> cases e);refine#[R.st,λi m d e=>?_,λi j d t a _ E _ _ _=>?_,by simp[dB,bU]];{exists rfl,v,E,r,L i m d e;exact#[v,E,r,by nofun]};have:=(L i true d E).1;cases this
mutual
def aU:D->Option PyData|.non=>some .none|.bl b=>some (.bool b)|.int i=>some (.int i)|.str x=>some (.str x)|.tup ds=>(cG ds).map .tuple|.lst ds=>(cG ds).map .list|_=>none
def cG:List D->Option (List PyData)|[]=>some []|d::ds=>match aU d,cG ds with|some p,some ps=>some (p::ps)|_,_=>none
end
section
variable{F:Hp}
mutual
theorem pV(I:Inv X aA σ H s)(sF:aE F H):∀(d:D) (p:PyData) (v:V) (u:ba),aB X.K F d v->aH v u->aU d=some p->(∃as,Reads s.heap u p as)/\p.canLay0=true
 |.non,p,v,u,h,r,e=>by simp only[aB]at h;subst h;cases r;simp only[aU]at e;cases e;exact#[#[_,.none],rfl]|.bl b,p,v,u,h,r,e=>by simp only[aB]at h;subst h;cases r;simp only[aU]at e;cases e;exact#[#[_,.bool b],rfl]|.int i,p,v,u,h,r,e=>by simp only[aB]at h;subst h;exists t,rfl,r;simp only[aU]at e;cases e;exact#[#[_,.int i t],rfl]|.str x,p,v,u,h,r,e=>by simp only[aB]at h;exists rfl,_,hk,h;exists t,rfl,r;simp only[aU]at e;cases e;exact#[#[_,.str x t],by simpa only [PyData.canLay0]using hk]|.tup ds,p,v,u,h,r,e=>by simp only[aB]at h;exists a,U,rfl,q,m,h;cases r;simp only[aU]at e;cases ep:cG ds with|none=>rw[ep]at e;cases e|some ps=>rw[ep]at e;cases e;obtain⟨its,f,⟨o,J,G,n,E⟩,_⟩:=I.tuple (aE.seqT sF q);obtain⟨⟨as,A⟩,B⟩:=pW I sF ds ps U its m f ep;exact#[#[_,.tuple J G E (by simpa using A)],by simpa only [PyData.canLay0]using B]
 |.lst ds,p,v,u,h,r,e=>by simp only[aB]at h;exists a,U,rfl,q,m,h;cases r;simp only[aU]at e;cases ep:cG ds with|none=>rw[ep]at e;cases e|some ps=>rw[ep]at e;cases e;obtain⟨its,f,⟨o,n,J,G,_,E⟩,_⟩:=I.list (sF.seq q);obtain⟨⟨as,A⟩,B⟩:=pW I sF ds ps U its m f ep;exact#[#[_,.list J G E (by simpa using A)],by simpa only [PyData.canLay0]using B]
 |.dct _,p,v,u,h,r,e|.ty _,p,v,u,h,r,e|.ob _,p,v,u,h,r,e|.ins _ _,p,v,u,h,r,e|.fn _,p,v,u,h,r,e|.exn _,p,v,u,h,r,e|.set _,p,v,u,h,r,e|.dtn _,p,v,u,h,r,e|.dtf _,p,v,u,h,r,e|.dcf _,p,v,u,h,r,e|.clo _ _ _,p,v,u,h,r,e=>by simp only[aU]at e;cases e
theorem pW(I:Inv X aA σ H s)(sF:aE F H):∀(ds:List D) (ps:List PyData) (U:List V) (us:List ba),aC X.K F ds U->aO U us->cG ds=some ps->(∃as,ReadsAll s.heap us ps as)/\PyData.canLayAll0 ps=true|[],ps,U,us,h,r,e=>by simp only[aC]at h;subst h;cases r;simp only[cG]at e;cases e;exact#[#[_,.nil],rfl]|d::ds,ps,U,us,h,r,e=>by simp only[aC]at h;exists y,ys,rfl,hd,G,h;cases r with|cons B A=>simp only[cG]at e;cases E:aU d with|none=>rw[E]at e;cases e|some p=>cases m:cG ds with|none=>rw[E,m]at e;cases e|some a=>rw[E,m]at e;cases e;obtain⟨⟨as,t⟩,J⟩:=pV I sF d p y _ hd B E;obtain⟨⟨bs,o⟩,f⟩:=pW I sF ds a ys _ G A m;exact#[#[_,.cons t o],by simp only[PyData.canLayAll0,J,f,Bool.and_self]]
end
def Fj(I:Inv X aA σ H s)(sF:aE F H){m:Md}{d:D}{p:PyData}(h:Rp X.K F H m d v)(r:aH v u)(e:aU d=some p):(∃as,Reads s.heap u p as)/\p.canLay0=true:=by cases m with|fz=>exact pV I sF d p v u h r e|_=>exists a,rfl,n,t,h;cases d with|lst ds=>(exists U,q,A,t;cases r;simp only[aU]at e;cases ep:cG ds with|none=>rw[ep]at e;cases e|some ps=>rw[ep]at e;cases e;obtain⟨its,f,⟨o,n,L,J,_,G⟩,_⟩:=I.list (dz.of q);obtain⟨⟨as,B⟩,E⟩:=pW I sF ds ps U its A f ep;exact#[#[_,.list L J G (by simpa using B)],by simpa only [PyData.canLay0]using E])|dct ds|ins _ _|set _|dtn _|dtf _|dcf _|clo _ _=>simp only[aU]at e;cases e|_=>exact t.elim
end
def gN(p:PyData):Bool:=decide (p.depth<=50)
noncomputable def jn(neg:Bool):Md->D->Md->D->Option (Md×D):=λ_ x _ y=>match aU x,aU y with|some p,some q=>if(gN p&&gN q)=true then some (.fz,.bl (if neg then !PyData.eqv p q else PyData.eqv p q))else none|_,_=>none
theorem Fk{f:ba->ba->Sem ba}(L:X.A.units+64<cLine)(rule:∀(s:bz) (a b:ba) (o D:PyData) (as bs:List Addr) (Q:dc),Reads s.heap a o as->Reads s.heap b D bs->o.canLay0=true->D.canLay0=true->X.A.units+min o.depth D.depth<cLine->Q (.bool (if neg then !PyData.eqv o D else PyData.eqv o D)) s->wpAny (model X.prog X.w) X.A (f a b) Q X.xe s):ez C X f (jn neg):=by refine#[λx y H Q=>∃F m n d e p q,aE F H/\Rp X.K F H m d x/\Rp X.K F H n e y/\aU d=some p/\aU e=some q/\(gN p&&gN q)=true/\Q (.bl (if neg then !PyData.eqv p q else PyData.eqv p q)) H,?_,?_];{intro aA s σ H x y v u Q I rx ry h;exists F,m,n,d,e,p,q,sF,hd,B,ep,eq,hs,G,h;obtain⟨⟨as,t⟩,ca⟩:=Fj I sF hd rx ep;obtain⟨⟨bs,r⟩,J⟩:=Fj I sF B ry eq;rw[cc]at hs;have N:=kz hs.1;refine rule s v u p q as bs _ t r ca J (by have:=A9 p.depth q.depth;lia) #[.bl _,H,I,rfl,G]};intro F H m x n y v u k d Q s rx ry e w;unfold jn at e;split at e;{rename_i p q ep eq;split at e;{rename_i E;cases e;exact#[F,m,n,x,y,p,q,s,rx,ry,ep,eq,E,w _ F H (.refl s) (cJ _) (by nofun)]};cases e};cases e
def PH(f:X.A.units+64<cLine):ez C X (compareOp .Eq) (jn false):=Fk f λs a b o D as bs Q d r ca m hd q=>SeqAt.compareEq_reads d r ca m hd q
def PJ(f:X.A.units+64<cLine):ez C X (compareOp .NotEq) (jn true):=Fk f λs a b o D as bs Q d r ca m hd q=>SeqAt.compareNe_reads d r ca m hd q
section
def Fl:List D->Option (List Str)|[]=>some []|.str x::r=>(Fl r).map (x :: ·)|_=>none
noncomputable def Fm:Md->D->List (Md×D)->Option (Md×D):=λ_ x U=>match x,U with
 |.str z,[(_,.lst ds)]=>(match Fl ds with|some ys=>if(ys.map (·.length)).sum+ys.length * z.length<=sizeLine then some (.fz,.str (Txt.join z ys))else none|none=>none)
 |_,_=>none
theorem Fn:∀{ys:List Str}{us:List ba},aO (ys.map V.str) us->StrsAre us ys|[],_,h=>by cases h;exact .nil|y::ys,_,h=>by cases h with|cons r t=>exists tk,rfl,r;exact .cons y tk (Fn t)
end
def lf(K:Fg)(mg:fg)(n:Nat)(Φ:List D->Res):Sp:=λvs H Q E=>vs.length=n/\∃F ds,aE F H/\aC K F ds vs/\match Φ ds with|.ok m d=>m ≠ .bo/\∀v F' H',aJ F H F' H'->Rp K F' H' m d v->(m=.fr->∀a,v=.ref a->H a=none)->Q v H'|.exc c=>∀F' H' u,aJ F H F' H'->mg c=some u->E u none H'|.stuck=>False
structure qk(P:e7)(w:cw)(K:Fg)(mg:fg)(base:Heap)(CX:CXT)(k:Nat)(x:Str)(n:Nat)(Φ:List D->Res):Prop where
 ex:∃f fd ps,bT P w K mg base CX k f fd ps (lf K mg n Φ)/\mg x=some (.ref f)/\W.keepIn K (.ref f)=true/\cV K fd ps []
noncomputable def aN(n:Nat)(Φ:List D->Res)(r:bH):Res:=r.thn λU=>match dA U with
 |some ds=>if ds.length=n then(match Φ ds with|.ok .bo _=>.stuck|r=>r)else .stuck
 |none=>.stuck
def nk(CX:CXT)(C:Cw)(X:Cx):Prop:=∀(aA:eh) (σ:L2.St) (H:Hp) (s:bz) (e:ba) (s':bz),Inv X aA σ H s->CX X.stack H s (λu _ H'=>∃c,X.mg c=some u/\C.EE c σ H') e s'->X.xe e s'
section
variable{es:List Expr}
def uJ{f:Addr}{Q:VK}{vs:List V}{E:XK}(F:bT X.prog X.w X.K X.mg X.base CX k f fd ps (lf X.K X.mg n Φ))(m:bF k X.A)(t:cV X.K fd ps [])(hx:∀e s',CX X.stack H s E e s'->X.xe e s')(I:Inv X aA σ H s)(r:aO vs us)(h:lf X.K X.mg n Φ vs H Q E):wpAny (model X.prog X.w) X.A (call (.ref f) us) (EP X aA σ Q) X.xe s:=by(have o:(us++[]).length=ps.length:=by rw[ij,<- r.length];exact F.len _ _ _ _ h);have a:=t s us I.kIn o;rw[ij]at a;refine ul (qe (F.run X.A X.stack s H #[us,[]] us vs Q E m I.env0 a r h) λr s' d=>?_);cases r with|error e=>exact hx e s' d|ok fl=>cases fl with|ret u=>exact I.after d|next|brk|cont=>exact False.elim d
def PL(F:qk X.prog X.w X.K X.mg X.base CX k x n Φ)(J:bF k X.A)(hx:nk CX (C.at X) X)(N:Gl X x)(ha:jm C X (e::es) gs)(o:(x==("__debug__":Str))=false:=by decide)(O:starEach (e::es) X.env=(false,eval e X.env)::starEach es X.env:=by rfl)(a:(backTo pos (starEach es X.env)).any (·.1)=false:=by rfl):PV C X (.Call (.Name x p) (e::es) [] pos) (λY=>aN n Φ (gs Y)):=by exists f,fd,ps,Z,L,hk,V,F.ex;intro aA s σ H Q I h;rw[aV]at h;exists Y,F,R,w,h;refine qa (nJ I N L ?_ o);refine Bb (h₀:=X.base) I.ok.mod.kin hk (thn (ha pos aA s σ H (λvs H1=>lf X.K X.mg n Φ vs H1 Q λu _ H'=>∃c,X.mg c=some u/\C.EE c σ H') I ?_) λus S ⟨vs,H1,t,r,q⟩=>#[t.kIn,uJ Z J V (λe s' T=>hx aA σ H1 S e s' t T) t r q]) O a;refine#[Y,F,R,?_];cases D:gs Y with|stuck|exc c=>rw[D]at w;exact w|ok U=>rw[D]at w;intro vs F1 H1 S r1;have W:aX (C.at X) F1 H1 σ (aN n Φ (.ok U)) Q:=aX.step S w;unfold aN at W;rw[bH.thn_ok]at W;cases E:dA U with|none=>rw[E]at W;exact W.elim|some ds=>rw[E]at W;dsimp only at W;split at W;{rename_i hn;have B:=r1.fz E;refine#[by rw[B.length];exact hn,F1,ds,S.sub,B,?_];cases ep:Φ ds with|stuck=>rw[ep]at W;exact W|exc c=>rw[ep]at W;exact λF' H' u st G=>#[c,G,W F' H' st]|ok m d=>rw[ep]at W;cases m with|bo=>exact W.elim|fz|fr=>exact#[by decide,W]};exact W.elim
end
def Ds:aI->Res|.nx _=>.ok .fz .non|.rt m d=>.ok m d|.exc c _=>.exc c|_=>.stuck
def eY(n:Nat)(ds:List D):Rho:=ds.map (λd=>some (false,d))++List.replicate (n-ds.length) none
def Fo{K:Fg}{F:Hp}{N:List Str}{vs:List V}(s:aE F H)(r:aC K F ds vs):aS K F H F H (start N vs) (eY N.length ds):=by(have L:∀(i:Nat) (m:Bool) (d:D),(eY N.length ds)[i]? = some (some (m,d))->m=false/\∃v,(start N vs)[i]? = some (some v)/\aB K F d v:=λi m d e=>by unfold eY at e;unfold L2.start;by_cases f:i<ds.length;{rw[nu (by simpa using f),gz,gg f]at e;cases e;exists v,ev,o,r.get' (gg f);exact#[rfl,v,by rw[nu (by simpa[r.length]using f),gz,ev];rfl,o]};rw[p8 (by simpa using f),p9]at e;split at e <;> cases e);refine#[.refl s,λi m d e=>?_,λi j d t a _ E _ _ _=>?_,by simp[L2.start,eY,r.length]];{exists rfl,v,E,o,L i m d e;exact#[v,E,o,by nofun]};have:=(L i true d E).1;cases this
def pX(ns:List Int):List D:=[.lst (ns.map .int)]
theorem Fp{K:Fg}{F:Hp}:∀ns:List Int,aC K F (ns.map D.int) (ns.map V.int)|[]=>aC.nil|n::ns=>aC.cons (by simp only[aB]) (Fp ns)
def qm:Md->D->Md->D->Option (Md×D):=λ_ _ _ _=>none
abbrev wn:Md->D->Md->D->Option (Md×D):=gu (fI (λ_ _=>true) λi j=>.int (i+j)) (fS (λi j=>decide (i.length+j.length<=sizeLine)) λi j=>.str (i++j))
abbrev Dt:Md->D->Md->D->Option (Md×D):=fI (λ_ _=>true) λi j=>.int (i-j)
abbrev wo:Md->D->Md->D->Option (Md×D):=gu (fI (λi j=>(bits i&&bits j)||(ni i||ni j)) λi j=>.int (i * j)) qm
abbrev Du:Md->D->Md->D->Option (Md×D):=fI (λ_ j=>decide (0<j)) λi j=>.int (i % j)
abbrev Dv:Md->D->Md->D->Option (Md×D):=fI (λ_ j=>decide (0<j)&&bits j) λi j=>.int (i / j)
abbrev Dw:Md->D->Md->D->Option (Md×D):=fI (λi j=>decide (0<=j)&&decide (j<=1000000)&&decide (i.natAbs<2 ^ 64)) λi j=>.int (i ^ j.toNat)
abbrev PM:Md->D->Md->D->Option (Md×D):=fI (λ_ _=>true) λi j=>.bl (decide (i<j))
abbrev PN:Md->D->Md->D->Option (Md×D):=fI (λ_ _=>true) λi j=>.bl (decide (i<=j))
abbrev PP:Md->D->Md->D->Option (Md×D):=fI (λ_ _=>true) λi j=>.bl (decide (j<i))
abbrev PQ:Md->D->Md->D->Option (Md×D):=fI (λ_ _=>true) λi j=>.bl (decide (j<=i))
abbrev Fq:Md->D->Md->D->Option (Md×D):=gu (jn false) qm
abbrev Fs:Md->D->Md->D->Option (Md×D):=gu (jn true) qm
abbrev PR:Md->D->Md->D->Option (Md×D):=fS (λ_ _=>true) λi j=>.bl (lQ i j)
abbrev PU:Md->D->Md->D->Option (Md×D):=fS (λ_ _=>true) λi j=>.bl (!lQ i j)
def j3(a:Md->D->Md->D->Option (Md×D)):Prop:=∀m x n y k d,a m x n y=some (k,d)->∃t,k=.fz/\d=.bl t
def pY{c:Int->Int->Bool}{g:Int->Int->Bool}:j3 (fI c λi j=>.bl (g i j)):=λm x n y k d e=>by unfold fI at e;split at e;{split at e;{cases e;exact#[_,rfl,rfl]};cases e};cases e
def Ft{c:Str->Str->Bool}{g:Str->Str->Bool}:j3 (fS c λi j=>.bl (g i j)):=λm x n y k d e=>by unfold fS at e;split at e;{split at e;{cases e;exact#[_,rfl,rfl]};cases e};cases e
def n9{φ ψ}(h:j3 φ)(h':j3 ψ):j3 (gu φ ψ):=λm x n y k d e=>by unfold gu at e;cases E:φ m x n y with|none=>rw[E]at e;exact h' _ _ _ _ _ _ e|some p=>rw[E]at e;cases e;exact h _ _ _ _ _ _ E
def Fu:j3 (jn neg):=λm x n y k d e=>by unfold jn at e;split at e;{split at e;{cases e;exact#[_,rfl,rfl]};cases e};cases e
def oA{f:ba->ba->Sem ba}:ez C X f qm:=#[λ_ _ _ _=>False,λ_ _ _ _ _ _ _ _ _ _ _ _ h=>h.elim,λ_ _ _ _ _ _ _ _ _ _ _ _ _ _ e _=>by cases e]
def wq:ez C X (binaryOp .Add) wn:=OC.or OP
def wr:ez C X (binaryOp .Mult) wo:=OF.or oA
def Dx(a:X.A.units+64<cLine):ez C X (compareOp .Eq) Fq:=(PH a).or oA
def Dy(a:X.A.units+64<cLine):ez C X (compareOp .NotEq) Fs:=(PJ a).or oA
def gm(n N:Nat)(g:Rho->aI):List D->Res:=λds=>if ds.length=n then Ds (g (eY N ds))else .stuck
def lX(scope sc:Scope):List (Str×NameKind):=scope.names.map λ(n,k)=>if(k == .free&&sc.kind == .function&&sc.names.lookup n==some .cell)then(n,.cell)else(n,k)
def PX:bootBuiltins "len"=some (.builtin "len"):=by decide +kernel
def PY:bootBuiltins "isinstance"=some (.builtin "isinstance"):=by decide +kernel
def PZ:bootBuiltins "int"=some (.type "int"):=by decide +kernel
def P1:bootBuiltins "bool"=some (.type "bool"):=by decide +kernel
def P2:bootBuiltins "str"=some (.type "str"):=by decide +kernel
def P3:bootBuiltins "tuple"=some (.type "tuple"):=by decide +kernel
def P4:bootBuiltins "list"=some (.type "list"):=by decide +kernel
def P5:bootBuiltins "dict"=some (.type "dict"):=by decide +kernel
structure CI where
 name:Str
 ups:List Str
 flds:List Str
 meths:List (Str×Str×Nat)
def bQ:Expr->Bool|.Starred ..=>false|_=>true
end D3
variable{cl:List D3.CI}
namespace D3
def lY:Expr->Bool|.Call (.Name x _) [] [] _=>x != "super" |_=>true
def bW{x:Expr}{es:List Expr}(h:bQ x=true):starEach (x::es) env=(false,eval x env)::starEach es env:=by cases x <;> first|rfl|cases h
theorem jA(pos:Pos)(env:Env):∀{es:List Expr},(∀x∈es,bQ x=true)->(backTo pos (starEach es env)).any (·.1)=false|[],_=>rfl|x::es,h=>by rw[bW (h x cj)];show((false||(backTo pos (starEach es env)).any (·.1))=false);rw[jA pos env λy a=>h y (cs a)];rfl
theorem kC(pos:Pos)(env:Env):∀{es:List Expr},(∀x∈es,bQ x=true)->(backTo pos (starEach es env)).all (λx=>!x.1)=true|[],_=>rfl|x::es,h=>by rw[bW (h x cj)];show((true&&(backTo pos (starEach es env)).all (λx=>!x.1))=true);rw[kC pos env λy a=>h y (cs a)];rfl
def lZ{o:Expr}{n:Str}{w:Sem ba}(h:lY o=true):attributeBase o n env w=w:=by
 cases o with
 |Call f as ks pos=>cases f with|Name x p=>(cases as with|nil=>(cases ks with|nil=>show(if x != "super" || n == "__class__" || env.kindOf "super" != some .globalImplicit||env.kindOf "__class__" != some .free then w else _)=w;have:(x != ("super":Str))=true:=h;rw[al (by rw[this];rfl)]|cons _ _=>rfl)|cons _ _=>rfl)|_=>rfl
 |_=>rfl
theorem P6 {o : Expr} {m : Str} {apos pos : Pos} {args : List Expr} {env : Env} (t : lY o = true) (d : ∀ x ∈ args, bQ x = true) (hn : args.length < 30) (r : apos.endLine = pos.line) :
    eval (.Call (.Attribute o m apos) args [] pos) env=(do
     let O <- eval o env
     standAt apos.atName
     let(f,first) <- holding [O] (getMethod O m (do return (<- importBound o env).getD true))
     callWith pos f first (backTo pos (starEach args env)) (backToKw pos (keywordEach [] env))):=by
 have few:methodCallForm (args.length+([]:List Keyword).length) (backTo pos (starEach args env)) (backToKw pos (keywordEach [] env))=true:=by unfold methodCallForm;rw[kC pos env d];show(true&&true&&decide (args.length+0+0<30))=true;rw[gS (by lia)];rfl
 show(do
  let O <- attributeBase o m env (eval o env)
  standAt apos.atName
  methodCall o m apos pos env O (args.length+([]:List Keyword).length) (backTo pos (starEach args env)) (backToKw pos (keywordEach [] env)))=_
 rw[lZ t];unfold methodCall;rw[few];have hp:methodCallPos true o env apos pos=pure pos:=by unfold methodCallPos;rw[al (by rw[r];simp)]
 rw[hp];show(do
  let O <- eval o env
  standAt apos.atName
  let(f,first) <- holding [O] (getMethod O m (do return (<- importBound o env).getD true))
  let a <- pure pos
  callWith a f first (backTo pos (starEach args env)) (backToKw pos (keywordEach [] env)))=_
 simp only[qg]
structure Fv(P:e7)(w:cw)(K:Fg)(mg:fg)(base:Heap)(CX:CXT)(k:Nat)(c m:Str)(n:Nat)(Φ:List D->Res):Prop where
 ex:∃C f fd ps,W.nsIn K mainGlobals c=some (some (.ref C))/\nh K C/\nN K C m f/\bT P w K mg base CX k f fd ps (lf K mg n Φ)/\cV K fd ps []
structure P7(K:Fg)(c f:Str):Prop where
 ex:∃C,W.nsIn K mainGlobals c=some (some (.ref C))/\nh K C/\tY K C f
def CI.meth(cl:List CI)(c m:Str):Option (Str×Nat):=match cl.find? (λi=>i.name==c)with|some i=>i.meths.lookup m|none=>none
def iT(cl:List CI)(Φ:Str->List D->Res)(m:Str)(o:Res)(as:bH):Res:=o.thn λa d=>match a,d with
 |.fz,.ins c fs=>(match CI.meth cl c m with|some (key,n)=>if fs.lookup m=none then aN n (Φ key) (aF (.ok .fz (.ins c fs)) as)else .stuck|none=>.stuck)
 |_,_=>.stuck
section
variable{o:Expr}{es:List Expr}{go:Rho->Res}{m:Str}{Φ:Str->List D->Res}
def P8(hM:∀c m key n,CI.meth cl c m=some (key,n)->Fv X.prog X.w X.K X.mg X.base CX k c m n (Φ key))(hr:bF k X.A)(hx:nk CX (C.at X) X)(ho:PV C X o go)(ha:jm C X es gs)(hb:lY o=true)(L:∀x∈es,bQ x=true)(hn:es.length<30)(hl:apos.endLine=pos.line)(aj:es=[]->gs=λ_=>.ok []):PV C X (.Call (.Attribute o m apos) es [] pos) (λY=>iT cl Φ m (go Y) (gs Y)):=by
 intro aA s σ H Q I q;rw[aV]at q;exists Y,F,R,w,q;refine NC (pl:=(do return (<- importBound o X.env).getD true)) ho I ?_ (P6 hb L hn hl)
 show tG (C.at X) go σ H _;rw[aV];refine#[Y,F,R,?_];cases er:go Y with
 |stuck|exc c=>rw[er]at w;exact w|ok md d =>
  rw[er]at w;intro v F1 H1 s1 r1 _;have t:aX (C.at X) F1 H1 σ (iT cl Φ m (.ok md d) (gs Y)) Q:=aX.step s1 w;unfold iT at t;rw[Res.thn_ok]at t;cases md with
  |fr|bo=>exact t.elim|fz =>
  cases d with
  |ins c fs =>
   dsimp only at t;cases em:CI.meth cl c m with
   |none=>rw[em]at t;exact t.elim|some kn =>
    exists key,n,kn;rw[em]at t;dsimp only at t;split at t
    . rename_i ai;exists C',f',fd,ps,n1,aq,me,FO,ak,(hM c m key n em).ex;have ag:=r1;exists a,C2,dx,am,ev,n2,ea,rf,r1.ins s1.sub;rw[n1]at n2;cases n2;subst ev;refine#[a,C',dx,am,f',rfl,ea,aq,me,rf.lookN ai,λO I1=>?_];have aa:∀(vs:List V) (us:List ba) (S:bz) (G B:Hp) (U:List (Md×D)),aJ F1 H1 G B->iz X.K G B U vs->Inv X aA σ B S->aO vs us->gs Y=.ok U->wpAny (model X.prog X.w) X.A (call (.ref f') (.ref a::us)) (EP X aA σ Q) X.xe S:=by
        intro vs us S G B U J Z I2 rv N;rw[N]at t;have f:aX (C.at X) G B σ (aN n (Φ key) (aF (.ok .fz (.ins c fs)) (.ok U))) Q:=aX.step J t;rw[O4]at f;unfold aN at f;rw[bH.thn_ok]at f;have af:iz X.K G B ((.fz,.ins c fs)::U) (.ref a::vs):=#[_,_,rfl,ag.step J,Z];cases ef:dA ((.fz,.ins c fs)::U)with|none=>rw[ef]at f;exact f.elim|some ds=>rw[ef]at f;dsimp only at f;split at f;{rename_i ah;have T:=af.fz ef;refine uJ (E:=λu _ H'=>∃c,X.mg c=some u/\C.EE c σ H') (vs:=.ref a::vs) (us:=.ref a::us) FO hr ak (λe s' hc=>hx aA σ B S e s' I2 hc) I2 (.cons rfl rv) #[by rw[T.length];exact ah,G,ds,J.sub,T,?_];cases ep:Φ key ds with|stuck=>rw[ep]at f;exact f|exc c=>rw[ep]at f;exact λF' H' u st hu=>#[c,hu,f F' H' st]|ok m d=>rw[ep]at f;cases m with|bo=>exact f.elim|fz|fr=>exact#[by decide,f]};exact f.elim
      cases es with|nil=>(refine W.callWith_K0 (first:=[.ref a]) I1.kIn me.kp ?_;(have N:gs Y=.ok []:=by rw[aj rfl]);exact aa [] [] O F1 H1 [] (.refl s1.sub) rfl I1 .nil N)|cons e es=>refine Bb (first:=[.ref a]) (h₀:=X.base) I.ok.mod.kin me.kp (thn (ha pos aA O σ H1 (λvs B=>∃G U,aJ F1 H1 G B/\iz X.K G B U vs/\gs Y=.ok U) I1 ?_) λus S ⟨vs,B,I2,r,G,U,ae,Z,N⟩=>#[I2.kIn,?_]) (bW (L e cj)) (jA _ _ λy hy=>L y (cs hy));{refine#[Y,F1,R.step s1,?_];cases N:gs Y with|stuck|exc c=>rw[N]at t;exact t|ok U=>exact λvs G B S Z=>#[G,U,S,Z,rfl]};exact aa vs us S G B U ae Z I2 r N
    . exact t.elim
  |_=>exact t.elim
end
def aS.mut{K:Fg}{F:Hp}{d d':D}{a:Addr}{o:HO}(R:aS K F0 H0 F H σ Y)(e:Y[i]? = some (some (true,d)))(ev:σ[i]? = some (some (.ref a)))(t:Top K F (upd H a o) a d'):aS K F0 H0 F (upd H a o) σ (Y.set i (some (true,d'))):=by
 exists v,J,Z,hn,R.slot i true d e;rw[ev]at J;cases J;have h0:H0 a=none:=hn rfl a rfl;exists a',ea,hf,tt,Z;cases ea;have hl:i<Y.length:=(lA.mp e).1;have st:aJ F0 H0 F (upd H a o):=#[λb u q=>by rw[aP (bV q h0)];exact R.st.same b u q,R.st.fsame,λb u q=>by rw[aP (bV q hf)];exact R.st.sub b u q,R.st.new]
 refine#[st,λj m A E=>?_,λj l d1 A b L e1 E q1 q2=>?_,by rw[mf];exact R.len]
 . by_cases N:j=i;{subst N;rw[nq hl]at E;cases E;exact#[.ref a,ev,#[a,rfl,hf,t],λ_ b O=>by cases O;exact h0]};rw[h5 (λz=>N z.symm)]at E;exists u,W,V,hu,R.slot j m A E;refine#[u,W,?_,hu];cases m with|false=>exact V|true=>(exists b,O,hb,tb,V;subst O;have f:b≠a:=λz=>by subst z;exact R.apart j i A d b N E e W ev);refine#[b,rfl,hb,?_];cases A with|lst ds|dct ds=>exists U,q,r,tb;exact#[U,by rw[aP f];exact q,r]|ins c fs=>exists C,dx,gs,n,q,r,tb;exact#[C,dx,gs,n,by rw[aP f];exact q,r]|set ks=>exists S,q,r,tb;exact#[S,by rw[aP f];exact q,r]|dtn ds=>exists U,q,r,tb;exact#[U,by rw[aP f];exact q,r]|_=>exact tb.elim
 . have B:∀(l:Nat) (A:D),(Y.set i (some (true,d')))[l]? = some (some (true,A))->∃T,Y[l]? = some (some (true,T)):=λl A q=>by
     by_cases G:l=i
     . subst G;exact#[d,e]
     . rw[h5 (λz=>G z.symm)]at q;exact#[A,q]
   exists T,q3,B j d1 e1;exists d4,q4,B l A E;exact R.apart j l T d4 b L q3 q4 q1 q2
def wt(f:Str)(v:D):List (Str×D)->List (Str×D)|[]=>[(f,v)]|(g,u)::r=>if g=f then(g,v)::r else(g,u)::wt f v r
structure uK(K:Fg)(mg:fg)(c:Str):Prop where
 ex:∃C,W.nsIn K mainGlobals c=some (some (.ref C))/\mg c=some (.ref C)/\W.makesIn K C=true/\W.findIn K (.ref C) "__init__"=some (some (.builtin "object.__init__"))/\W.keepIn K (.ref C)=true
def P9{C:Addr}(r:X.mg x=some (.ref C))(m:W.makesIn X.K C=true)(E:W.findIn X.K (.ref C) "__init__"=some (some (.builtin "object.__init__")))(D:W.keepIn X.K (.ref C)=true)(B:Gl X x)(f:(x==("__debug__":Str))=false):PE X (.Call (.Name x p) [] [] pos) (λσ H Q=>∀a dx,H a=none->H dx=none->dx≠a->Q (.ref a) (upd (upd H dx (.own a)) a (.ins C dx []))):=by(intro aA s σ H Q I h;refine qa (nJ I B r ?_ f);refine W.callWith_K0 I.kIn D (ul (Nz I.kIn m E (λself=>W.Looks.of_pure (W.oi_bind self)) ?_));have F:=Inv.made (C:=C) I;have d:=W.makes_of (M:=model X.prog X.w) I.kIn m;have A:((s.heap.push W.emptyDict).push (W.instObj C s.heap.objs.size)).get? (s.heap.objs.size+1)=some (W.instObj C s.heap.objs.size):=by have:=fo (s.heap.push W.emptyDict) (o:=W.instObj C s.heap.objs.size) rfl;rwa [q0]at this);have t:W.Looks (model X.prog X.w) ((s.heap.push W.emptyDict).push (W.instObj C s.heap.objs.size)) (typeOf (.ref (s.heap.objs.size+1))) (.ref C):=(W.Looks.ld A).andThen .now;have t2:W.Looks (model X.prog X.w) ((s.heap.push W.emptyDict).push (W.instObj C s.heap.objs.size)) (isInstance (.ref (s.heap.objs.size+1)) (.type "object")) true:=t.andThen (d.top.keeps λb o e=>hps (hps e));refine codeAny_call_builtin W.oi_plain W.entry_oi (@W.check_slot (model X.prog X.w) _ _ _ "object.__init__" "object" "__init__" (.ref (s.heap.objs.size+1)) [] [] _ W.oi_kind W.oi_split t2 (W.oi_args (.ref (s.heap.objs.size+1))) ?_);rw[W.oi_run];refine ci (And.intro rfl ⟨.ref (s.heap.objs.size+1),_,F,rfl,?_⟩);exact h (s.heap.objs.size+1) s.heap.objs.size (I.hok.fresh (sb _)) (I.hok.fresh (dg _)) (gx (Cg _))
def Qa{F:Hp}{a C:Addr}(s:aE F H)(ha:H a=none)(hd:H dx=none)(d:dx≠a):aJ F H F (upd (upd H dx (.own a)) a (.ins C dx [])):=by have S:=aJ.fresh (.own a) s hd;refine S.trans (aJ.fresh _ S.sub ?_);rw[aP (λz=>d z.symm)];exact ha
def Qb{c:Str}(M:uK X.K X.mg c)(m:Gl X c)(d:(c==("__debug__":Str))=false):PV C X (.Call (.Name c p) [] [] pos) (λ_=>.ok .fr (.ins c [])):=by(exists A,n,f,t,r,o,M.ex;refine PE.imp (P9 f t r o m d) λσ H Q q=>?_;rw[aV]at q;exists Y,F,R,w,q;intro a dx ha hd hne;refine w (.ref a) F _ (Qa R.sub ha hd hne) #[a,rfl,R.sub.free ha,A,dx,[],n,aY,?_] λ_ b E=>by cases E;exact ha);simp only[dS]
def Qc(K:Fg)(mg:fg)(c:Str)(n:Nat)(Φ:List D->Res):Sp:=λvs H Q E=>∃x us dx C H1 F ds,vs=.ref x::us/\us.length=n/\W.nsIn K mainGlobals c=some (some (.ref C)) /\
 H=upd (upd H1 dx (.own x)) x (.ins C dx [])/\H1 x=none/\H1 dx=none/\dx≠x/\aE F H1/\aC K F ds us/\match Φ ds with|.ok _ d=>∀F' H',aJ F H1 F' H'->Rp K F' H' .fr d (.ref x)->Q .non H'|.exc c=>∀F' H' u,aJ F H1 F' H'->mg c=some u->E u none H'|.stuck=>False
structure Dz(P:e7)(w:cw)(K:Fg)(mg:fg)(base:Heap)(CX:CXT)(k:Nat)(c:Str)(n:Nat)(Φ:List D->Res):Prop where
 ex:∃C f fd ps,W.nsIn K mainGlobals c=some (some (.ref C))/\mg c=some (.ref C)/\Mk K C f/\bT P w K mg base CX k f fd ps (Qc K mg c n Φ)/\cV K fd ps []
structure Fw(K:Fg)(mg:fg)(cl:List CI)(c:Str):Prop where
 ex:∃C,mg c=some (.ref C)/\(∀t∈["NoneType","bool","int","str","tuple","list","dict"],W.kitOne K (.type t) (.ref C)=some false) /\
  ∀i∈cl,∃C',W.nsIn K mainGlobals i.name=some (some (.ref C'))/\nh K C'/\W.findIn K (.ref C') "__class__"=some (some (.builtin "object.__class__")) /\
   W.specialIn K (.builtin "object.__class__") "__get__"=some (some (.builtin "getset_descriptor.__get__"))/\W.takesIn K (.builtin "object.__class__")=some true/\W.mroIn K C' (.type "object")=some true /\
   W.kitOne K (.ref C') (.ref C)=some (i.ups.contains c)
section
variable{a b:Expr}
def gO:D->Bool|.non=>true|_=>false
def Fx{K:Fg}{F:Hp}{m:Md}{d:D}(s:aE F H)(r:Rp K F H m d v):decide (v=.non)=gO d:=by
 cases d with
 |non=>cases r.non;rfl|bl _=>cases r.bl;rfl|int _=>cases r.int;rfl|str _=>cases r.str.1;rfl|tup _=>exists _,_,rfl,_,r.seqT s;rfl|lst _=>exists _,_,rfl,_,r.seqL s;rfl|dct _=>exists _,_,rfl,_,r.dict s;rfl|ty _=>cases r.ty;rfl|ob _=>cases r.ob;rfl|ins _ _=>exists _,_,_,_,rfl,_,r.ins s;rfl|fn _=>cases m with|fz=>have r:aB K F _ v:=r;simp only[aB]at r;exists _,rfl,_,r;rfl|fr|bo=>exists _,_,_,q,r;exact q.elim
 |exn _=>cases m with|fz=>have r:aB K F _ v:=r;simp only[aB]at r;exists _,_,rfl,_,r;rfl|fr|bo=>exists _,_,_,q,r;exact q.elim
 |set _|dtn _=>cases m with|fz=>have r:aB K F _ v:=r;simp only[aB]at r;exists _,_,rfl,_,r;rfl|fr|bo=>exists _,rfl,_,_,r;rfl
 |dtf _|dcf _=>cases m with|fz=>have r:aB K F _ v:=r;simp only[aB]at r;exists _,_,_,rfl,_,r;rfl|fr|bo=>exists _,rfl,_,_,r;rfl
 |clo _ _=>cases m with|fz=>have r:aB K F _ v:=r;simp only[aB]at r;exists _,_,_,_,_,_,_,_,_,_,rfl,_,r;rfl|fr|bo=>exists _,rfl,_,_,r;rfl
noncomputable def o3(neg:Bool):Md->D->Md->D->Option (Md×D):=λ_ x _ y=>match y with|.non=>some (.fz,.bl (if neg then !gO x else gO x))|_=>none
def Qd:ez C X (compareOp .Is) (o3 false):=by refine#[_,Nl,λF H m x n y v u k d Q s f r e w=>?_];unfold o3 at e;split at e;{cases e;cases r.non;exact#[rfl,by rw[Fx s f];exact w _ F H (.refl s) (cJ _) (by nofun)]};cases e
def Qe:ez C X (compareOp .IsNot) (o3 true):=by refine#[_,Nm,λF H m x n y v u k d Q s f r e w=>?_];unfold o3 at e;split at e;{cases e;cases r.non;exact#[rfl,by rw[Fx s f];exact w _ F H (.refl s) (cJ _) (by nofun)]};cases e
def Fy:j3 (o3 neg):=λm x n y k d e=>by unfold o3 at e;split at e;{cases e;exact#[_,rfl,rfl]};cases e
theorem Qf:fw X (binaryOp .Add) (λx y H Q=>∃l b U ys,x=.ref l/\y=.ref b/\dz X.K H l U/\dz X.K H b ys/\U.length+ys.length<=sizeLine/\∀p,H p=none->Q (.ref p) (upd H p (.lst (U++ys)))):=by(intro aA s σ H x y v u Q I rx ry h;exists l,b,U,ys,rfl,rfl,N,T,L,q,h;cases rx;cases ry;exists its,A,p1,_,I.list N;exists d,t,p2,_,I.list T;obtain⟨⟨cls,V,data,J⟩,n,ho,E,O,hd⟩:=p1;obtain⟨⟨G,D,data2,S⟩,n2,f,r,B,m⟩:=p2;simp only at E hd r m;subst E hd r m;have e:its.toArray++d.toArray=(its++d).toArray:=by simp);have Z:=A.length;have W:=t.length;refine AZ #[_,ho,rfl] #[_,f,rfl] noFill_list_add seq_list_add PySem.F.slot_list_add PySem.F.entry_list_add (PySem.F.args_list_add_2 _ _) (list_addW l b its.toArray d.toArray n n2 V D J S (by simp;lia)) #[ho,f,?_];rw[e];refine#[.ref s.heap.objs.size,_,I.laid (t':=s.toks) (o:=.lst (U++ys)) (λb ob q=>hps q) (dg _) ?_,rfl,q _ (I.hok.fresh (dg _))];exact#[by rw[im];exact L,_,0,A.append t,fo _ rfl]
theorem Qg:fw X (binaryOp .Add) (λx y H Q=>∃l b U ys,x=.ref l/\y=.ref b/\d3 X.K H l U/\d3 X.K H b ys/\U.length+ys.length<=sizeLine/\(U=[]->Q (.ref b) H)/\(U≠[]->ys=[]->Q (.ref l) H)/\(U≠[]->ys≠[]->∀p,H p=none->Q (.ref p) (upd H p (.tup (U++ys))))):=by
 intro aA s σ H x y v u Q I rx ry h;exists l,b,U,ys,rfl,rfl,T,V,O,L,q1,J,h;cases rx;cases ry;exists its,B,p1,_,I.tuple T;exists d,A,p2,_,I.tuple V;have n1:=B.nil_iff;have n2:=A.nil_iff;have l1:=B.length;have Z:=A.length;by_cases f:its=[]
 . obtain⟨⟨cls,W,data,G⟩,ho,E,n,hd⟩:=id p1;obtain⟨⟨F,D,data2,S⟩,m,t,N,r⟩:=id p2;simp only at E hd t r;subst E hd t r;exact AZ #[_,ho,rfl] #[_,m,rfl] Cj seq_tuple_add Ck Cm (Cn _ _)
     (tuple_addW0 l b its.toArray d.toArray n N W D G S (by simp[f])) #[ho,m,#[.ref b,H,I,rfl,L (n1.mp f)]]
 . refine HT.aJ8 p1 p2 f (λz=>#[.ref l,H,I,rfl,q1 (λw=>f (n1.mpr w)) (n2.mp z)]) (λz=>?_) (by lia);refine#[.ref s.heap.objs.size,_,I.laid (t':=s.toks) (o:=.tup (U++ys)) (λb ob q=>hps q) (dg _) ?_,rfl,J (λw=>f (n1.mpr w)) (λw=>z (n2.mpr w)) _ (I.hok.fresh (dg _))];exact#[by rw[im];exact O,_,B.append A,gX.new _ _]
noncomputable def pZ:Md->D->Md->D->Option (Md×D):=λm x n y=>match x,y with|.lst U,.lst ys=>if U.length+ys.length<=sizeLine then some (.fr,.lst (U++ys))else none|.tup U,.tup ys=>if U.length+ys.length<=sizeLine then some (.fz,.tup (U++ys))else none|_,_=>none
def aC.nilIff{K:Fg}{F:Hp}(h:aC K F ds U):U=[]↔ds=[]:=by have:=h.length;constructor;{intro e;subst e;cases ds with|nil=>rfl|cons _ _=>simp at this};intro e;subst e;cases U with|nil=>rfl|cons _ _=>simp at this
def Qh:ez C X (binaryOp .Add) pZ:=by
 refine#[_,Qf.or Qg,λF H m x n y v u k d Q s t o e w=>?_];unfold pZ at e;split at e
 . rename_i U ys;split at e;{rename_i B;cases e;exists a,us,rfl,q1,f,t.seqL s;exists b,vs,rfl,A,r,o.seqL s;refine .inl #[a,b,us,vs,rfl,rfl,q1,A,by rw[f.length,r.length];exact B,λp hp=>?_];exact w (.ref p) F _ (aJ.fresh _ s hp) #[p,rfl,s.free hp,_,aY,f.append r] λ_ a ea=>by cases ea;exact hp};cases e
 . rename_i U ys;split at e
   . rename_i B;cases e;have ex:=t;have E:=o;exists a,us,rfl,q1,f,t.seqT s;exists b,vs,rfl,A,r,o.seqT s;have fz:∀{m:Md}{zs:List D}{c:Addr},Rp X.K F H m (.tup zs) (.ref c)->aB X.K F (.tup zs) (.ref c):=λ{m zs c} h=>by
       cases m with|fz=>exact h|fr|bo=>exists _,_,_,q,h;exact q.elim
     refine .inr #[a,b,us,vs,rfl,rfl,q1,A,by rw[f.length,r.length];exact B,λz=>?_,λ_ z=>?_,λ_ _ p hp=>?_]
     . have:U=[]:=f.nilIff.mp z;subst this;exact w (.ref b) F H (.refl s) (fz E) (by nofun)
     . have:ys=[]:=r.nilIff.mp z;subst this;rw[ij]at w;exact w (.ref a) F H (.refl s) (fz ex) (by nofun)
     . exact w (.ref p) _ _ (aJ.laid (.tup (us++vs)) s hp) (aB.tup_of (s.free hp) (f.append r)) (by nofun)
   . cases e
 . cases e
def cF:D->Bool|.non|.bl _|.int _|.str _=>true|_=>false
noncomputable def jr:D->D->Bool|.non,.non=>true|.bl a,.bl b=>a==b|.bl a,.int b=>(if a then 1 else 0)==b|.int a,.bl b=>a==(if b then 1 else 0)|.int a,.int b|.str a,.str b=>a==b|_,_=>false
noncomputable def l4(neg:Bool):Md->D->Md->D->Option (Md×D):=λ_ x _ y=>match y with|.lst ys|.tup ys=>if(cF x&&ys.all cF)=true then some (.fz,.bl (if neg then !(ys.any λy=>jr y x)else(ys.any λy=>jr y x)))else none|_=>none
def kf:D->V|.non=>.non|.bl b=>.bl b|.int i=>.int i|.str x=>.str x|_=>.non
def qA{K:Fg}{F:Hp}{m:Md}{d:D}(h:cF d=true)(r:Rp K F H m d v):v=kf d:=by cases d with|non=>exact r.non|bl _=>exact r.bl|int _=>exact r.int|str _=>exact r.str.1|_=>cases h
theorem qB{K:Fg}{F:Hp}:∀{ds:List D}{U:List V},ds.all cF=true->aC K F ds U->U=ds.map kf|[],_,_,r=>by simp only[aC]at r;exact r|d::ds,_,h,r=>by simp only[aC]at r;exists y,ys,rfl,o,f,r;rw[jk,cc]at h;rw[cu,qA (H:=F) (m:=.fz) h.1 o,qB h.2 f]
def qC{d:D}(h:cF d=true):fF (kf d)=true:=by cases d <;> first|rfl|cases h
def Fz{x:D}(hx:cF x=true)(d:cF y=true):lb (kf x) (kf y)=jr x y:=by cases x <;> cases y <;> first|rfl|(cases hx;done)|(cases d;done)
theorem uL{x:D}(hx:cF x=true):∀{ds:List D},ds.all cF=true->BB (kf x) (ds.map kf)=ds.any λy=>jr y x|[],_=>rfl|d::ds,h=>by rw[jk,cc]at h;show(lb (kf d) (kf x)||BB (kf x) (ds.map kf))=(jr d x||ds.any _);rw[Fz h.1 hx,uL hx h.2]
theorem qD:∀{ds:List D},ds.all cF=true->(ds.map kf).all fF=true|[],_=>rfl|d::ds,h=>by rw[jk,cc]at h;rw[cu,jk,qC h.1,qD h.2];rfl
def FA{f:ba->ba->Sem ba}(o:fw X f (Dk X.K neg)):ez C X f (l4 neg):=by refine#[_,o,λF H m x n y v u k d Q s B A e w=>?_];unfold l4 at e;split at e;{rename_i ys;split at e;{rename_i hf;rw[cc]at hf;cases e;exists b,vs,rfl,t,r,A.seqL s;have ev:=qA hf.1 B;have es:=qB hf.2 r;subst ev;subst es;exact#[b,_,rfl,.inl t,qC hf.1,qD hf.2,by rw[uL hf.1 hf.2];exact w _ F H (.refl s) (cJ _) (by nofun)]};cases e};{rename_i ys;split at e;{rename_i hf;rw[cc]at hf;cases e;exists b,vs,rfl,t,r,A.seqT s;have ev:=qA hf.1 B;have es:=qB hf.2 r;subst ev;subst es;exact#[b,_,rfl,.inr t,qC hf.1,qD hf.2,by rw[uL hf.1 hf.2];exact w _ F H (.refl s) (cJ _) (by nofun)]};cases e};cases e
def FB:j3 (l4 neg):=λm x n y k d e=>by unfold l4 at e;split at e;{split at e;{cases e;exact#[_,rfl,rfl]};cases e};{split at e;{cases e;exact#[_,rfl,rfl]};cases e};cases e
def kD:List (Md×D)->Option (Md×D)|[(_,.lst ds)]|[(.fz,.tup ds)]=>some (.fz,.tup ds)|_=>none
def l5:List (Md×D)->Option (Md×D)|[(_,.lst ds)]|[(_,.tup ds)]=>some (.fr,.lst ds)|_=>none
def small(i:Int):Bool:=decide (i.natAbs.log2<1920)
def Qi:hW X (.type "tuple") kD:=by refine#[_,N6,λF H U vs k d Q s f e w=>?_];unfold kD at e;split at e;{rename_i m ds;cases e;exists v,rfl,r,f.one;exists a,U,rfl,q,o,r.seqL s;exact#[a,U,rfl,.inl #[q,λl t=>w (.ref l) _ _ (aJ.laid (.tup U) s t) (aB.tup_of (s.free t) o) (by nofun)]]};{rename_i ds;cases e;exists v,rfl,r,f.one;have A:=r;exists a,U,rfl,q,o,r.seqT s;exact#[a,U,rfl,.inr #[q,w (.ref a) F H (.refl s) A (by nofun)]]};cases e
def Qj:hW X (.type "list") l5:=by refine#[_,N5,λF H U vs k d Q s t e w=>?_];unfold l5 at e;split at e;{rename_i m ds;cases e;exists v,rfl,r,t.one;exists a,U,rfl,q,o,r.seqL s;exact#[a,U,rfl,.inl q,λl f=>w (.ref l) F _ (aJ.fresh _ s f) #[l,rfl,s.free f,U,aY,o] λ_ a ea=>by cases ea;exact f]};{rename_i m ds;cases e;exists v,rfl,r,t.one;exists a,U,rfl,q,o,r.seqT s;exact#[a,U,rfl,.inr q,λl f=>w (.ref l) F _ (aJ.fresh _ s f) #[l,rfl,s.free f,U,aY,o] λ_ a ea=>by cases ea;exact f]};cases e
end
def Qk{T:String}{φ}{es:List Expr}(o:hW X (.type T) φ)(A:Gl X x)(t:X.mg x=none)(m:bootBuiltins x=some (.type T))(ha:jm C X (e::es) gs)(hn:x ≠ "__name__")(d:(x==("__debug__":Str))=false)(a:∀x∈e::es,bQ x=true):PV C X (.Call (.Name x p) (e::es) [] pos) (λY=>fL φ (gs Y)):=by exists r,D,B,o;exact PE.imp (NH D A t m ha hn d (bW (a e cj)) (jA _ _ λy f=>a y (cs f))) λσ H Q q=>E9 B q
section
variable{A:di}{E:dc}
theorem Ql{Q:List ba->bz->Prop}(G:A.handled=none)(ht:s.heap.IsList l items)(h:∀h',Heap.ExtBut s.heap.objs.size s.heap h'->∀tk,Q items.toList {s with heap:=h',toks:=tk}):wpAny (model prog w) A (unpackItems (.ref l) items.size none) Q E s:=by(unfold unpackItems notIterableAtAll;refine bp (bp (qd ht.typeIs PySem.F.slot_list_iter.lookup ?_));refine ci ?_;dsimp only;rw[a0 fq];refine bp (jj (wpAny_pyIter_list ht ?_));have m:l<s.heap.objs.size:=by exists o,e,_,ht;exact dy e);(have a:l≠s.heap.objs.size:=gx m;have keep:∀b o,s.heap.get? b=some o->(s.heap.push { cls:=Value.type "list_iterator",data:=Data.fields (List.toArray [Value.ref l,Value.int 0 0]) }).get? b=some o:=λb o q=>hps q;have d:(s.heap.push { cls:=Value.type "list_iterator",data:=Data.fields (List.toArray [Value.ref l,Value.int 0 0]) }).IsList l items:=by exists o,e,c,ht;exact#[o,keep l o e,c]);have t:(s.heap.push { cls:=Value.type "list_iterator",data:=Data.fields (List.toArray [Value.ref l,Value.int 0 0]) }).IsListIter s.heap.objs.size l 0:=#[_,fo _ rfl,rfl,rfl];refine bp (jj (W.kun_draw a items.size 0 _ _ t d (by lia) λh' B f=>?_));(have L:List.take items.size (List.drop 0 items.toList)=items.toList:=by rw[Bc];exact Bd (by simp));rw[L];rw[a0 (by simp)];(have r:h'.IsList l items:=by exists o,e,c,d;exact#[o,by rw[f.2 l a];exact e,c]);rw[mh]at B;refine bp (jj ((Walks.list G s.heap.objs.size l a items).done _ _ _ #[B,r] λJ tk K=>?_));rw[a0 (by simp)];refine ci (h J (λb o D e=>K b o (by simpa using D) ?_) tk);show h'.get? b=some o;rw[f.2 b D];exact keep b o e
def Qm{Q:Unit->bz->Prop}(d:A.handled=none)(ht:s.heap.IsList l items)(hn:(assignEach elts env).length=items.size)(a:(assignEach elts env).findIdx? (·.1)=none)(h:∀h',Heap.ExtBut s.heap.objs.size s.heap h'->∀tk,wpAny (model prog w) A (assignInOrder ((assignEach elts env).map (·.2)) items.toList) Q E {s with heap:=h',toks:=tk}):wpAny (model prog w) A (assign (.Tuple elts k pos) env (.ref l)) Q E s:=by rw[assign_Tuple];refine bp (ue ?_);unfold unpack;rw[a,hn];exact bp (jj (Ql d ht h))
def Qn{t S:Addr}{m V:ba}{lo hi:Option Int}(ht:IsTup s.heap t items)(hs:s.heap.IsSliceOf S m V .none)(pl:IsPart m lo)(o:IsPart V hi)(h0:HT.sIx items.size 0 lo=0)(r:HT.sIx items.size items.size hi=items.size)(h:Q (.ref t) s):wpAny (model prog w) A (getItem (.ref t) (.ref S)) Q E s:=by
 exists os,d,f,gp,id hs;have tS:s.TypeIs (.ref S) "slice":=#[os,d,f];unfold getItem
 try with_reducible refine jj ?_
 first|refine bp (ci ?_)|skip
 refine bp (wpAny_sequenceKey ht.typeIs (by decide) (bp (qb (name:=Str.ofString "__getitem__") ht.typeIs A0 (li A0 ht.typeIs entry_tuple_getitem ?_ (args_tuple_getitem _ _)))))
 show wpAny _ _ (Builtin.Tuple.tupleItemsOf (.ref t)>>=_) _ _ s;refine bp (tupleItemsOf_ ht (bp (A1 tS ?_)));rw[al (by decide)]
 refine bp (HT.zK hs pl o ?_);have a:(((HT.sIx items.size 0 lo:Nat):Int)==0&&(1:Int)==1&&(HT.sIx items.size items.size hi-HT.sIx items.size 0 lo)==items.size)=true:=by rw[h0,r];simp
 show wpAny _ _ (if(((HT.sIx items.size 0 lo:Nat):Int)==0&&(1:Int)==1&&(HT.sIx items.size items.size hi-HT.sIx items.size 0 lo)==items.size)=true then _ else _) _ _ s;rw[al a];unfold Builtin.Tuple.tupleIsExact;refine bp (bp (A1 ht.typeIs (ci ?_)));rw[al (by decide)]
 refine bp (rr ?_)
 first
  |exact ci #[_,rfl,ci h]
  |exact#[_,rfl,ci h]
end
def DA(K:Fg):V->Option Int->Option Int->Hp->VK->Prop:=λx lo d H Q=>∃a U,x=.ref a/\d3 K H a U/\(HT.sIx U.length 0 lo=0/\HT.sIx U.length U.length d=U.length)/\Q x H
def Qo:o2 X (DA X.K):=by(intro aA s σ H x v vl vu lo hi sl Q I rx hs pl pu h;exists a,U,rfl,hx,f,q,h;cases rx;exists its,r,m,o,I.tuple hx;have d:its.toArray.size=U.length:=by rw[fh];exact r.length.symm);exact#["tuple",_,PyProof.Rows.slot_tuple_getitem.lookup,m.typeIs,Qn m hs pl pu (by rw[d];exact f.1) (by rw[d];exact f.2) #[.ref a,H,I,rfl,q]]
def wu(K:Fg)(n:Nat)(t:ng):TG:=λv σ H Q=>∃a U,v=.ref a/\(d3 K H a U\/dz K H a U)/\U.length=n/\t U σ H Q
def Qp{es:List Expr}{t:ng}(D:X.calm=true)(h:th X es t)(hn:(assignEach es X.env).length=n)(d:(assignEach es X.env).findIdx? (·.1)=none):PG X (.Tuple es k pos) (wu X.K n t):=by intro aA s σ H v u Q I r m;exists a,U,E,f,B,m,m;rcases f with f|f;{exact MZ D h hn d aA s σ H v u Q I r #[a,U,E,f,B,m]};subst E;cases r;exists its,A,F,J,I.list f;refine Qm (I.ok.hd D) F.isList (by simp[hn,<- B,A.length]) d λh' hx tk=>?_;have G:Inv X aA σ H {s with heap:=h',toks:=tk}:=I.kept (t':=tk) λb o e=>hx b o (gx (dy e)) e;exact h aA _ σ H U _ Q G (by simpa using A) m
inductive Tg where
 |nm (i:Nat)|tp (ts:List Tg)
mutual
def aL:Tg->D->Rho->Option Rho|.nm i,d,Y=>some (Y.set i (some (false,d)))|.tp ts,d,Y=>match d with|.tup ds|.lst ds=>eC ts ds Y|_=>none
def eC:List Tg->List D->Rho->Option Rho|[],ds,Y=>if ds.isEmpty then some Y else none|t::ts,ds,Y=>match ds with|d::ds=>((match aL t d Y with|some a=>eC ts ds a|none=>none))|[]=>none
end
mutual
def dW:Tg->List Nat|.nm i=>[i]|.tp ts=>qE ts
def qE:List Tg->List Nat|[]=>[]|t::ts=>dW t++qE ts
end
mutual
def lg(K:Fg):Tg->TG|.nm i=>nK i|.tp ts=>wu K ts.length (jB K ts)
def jB(K:Fg):List Tg->ng|[]=>u2|t::ts=>yU (lg K t) (jB K ts)
end
end D3
variable{t:D3.Tg}
namespace D3
def ln(X:Cx)(tg:Expr)(t:Tg):Prop:=PG X tg (lg X.K t)
def kE(X:Cx)(T:List Expr)(ts:List Tg):Prop:=th X T (jB X.K ts)
def jC:Expr->Bool|.Starred ..=>false|_=>true
def uM{es:List Expr}(h:jC e=true):assignEach (e::es) env=(false,assign e env)::assignEach es env:=by cases e <;> first|rfl|cases h
theorem uN:∀{ts:List Tg}{ds:List D}{Y ρ':Rho},eC ts ds Y=some ρ'->ds.length=ts.length|[],ds,Y,ρ',e=>by simp only[eC]at e;split at e;{rename_i h;(have:ds=[]:=by simpa using h);subst this;rfl};cases e|t::ts,ds,Y,ρ',e=>by simp only[eC]at e;split at e;{split at e;{rw[gh,gh,uN e]};cases e};cases e
mutual
theorem l6{K:Fg}{F0 H0:Hp}:∀(t:Tg) {F H:Hp}{σ:L2.St}{Y ρ':Rho}{d:D}{v:V}{Q:L2.St->Hp->Prop},aS K F0 H0 F H σ Y->aB K F d v->aL t d Y=some ρ'->(∀f,aS K F0 H0 F H f ρ'->f.length=σ.length->(∀j,j∉dW t->f[j]? = σ[j]?)->Q f H)->lg K t v σ H Q|.nm i,F,H,σ,Y,ρ',d,v,Q,R,r,e,w=>by simp only[aL]at e;cases e;simp only[lg];refine w _ (R.set (m:=false) (.refl R.sub) r (by nofun)) (by rw[mf]) λj B=>?_;simp only[dW,gV]at B;rw[h5 (λz=>B z.symm)]|.tp ts,F,H,σ,Y,ρ',d,v,Q,R,r,e,w=>by simp only[aL]at e;split at e;{rename_i ds;simp only[aB]at r;exists a,U,rfl,A,o,r;simp only[lg];refine#[a,U,rfl,.inl (aE.seqT R.sub A),by rw[o.length];exact uN e,uO ts R o e ?_];simp only[dW]at w;exact w};{rename_i ds;simp only[aB]at r;exists a,U,rfl,A,o,r;simp only[lg];refine#[a,U,rfl,.inr (R.sub.seq A),by rw[o.length];exact uN e,uO ts R o e ?_];simp only[dW]at w;exact w};cases e
theorem uO{K:Fg}{F0 H0:Hp}:∀(ts:List Tg) {F H:Hp}{σ:L2.St}{Y ρ':Rho}{ds:List D}{vs:List V}{Q:L2.St->Hp->Prop},aS K F0 H0 F H σ Y->aC K F ds vs->eC ts ds Y=some ρ'->(∀a,aS K F0 H0 F H a ρ'->a.length=σ.length->(∀j,j∉qE ts->a[j]? = σ[j]?)->Q a H)->jB K ts vs σ H Q|[],F,H,σ,Y,ρ',ds,vs,Q,R,r,e,w=>by simp only[eC]at e;split at e;{cases e;rename_i hd;(have:ds=[]:=by simpa using hd);subst this;simp only[aC]at r;simp only[jB];exact#[r,w σ R rfl λ_ _=>rfl]};cases e|t::ts,F,H,σ,Y,ρ',ds,vs,Q,R,r,e,w=>by simp only[eC]at e;split at e;{rename_i d ds';split at e;{rename_i A O;simp only[aC]at r;exists y,ys,rfl,E,B,r;simp only[jB];refine#[y,ys,rfl,l6 t R E O λo S G N=>uO ts S B e λf R2 L J=>w f R2 (L.trans G) λj m=>?_];simp only[qE,ii,not_or]at m;rw[J j m.2,N j m.1]};cases e};cases e
end
def Qq(hN:X.N.Nodup)(hi:X.N[i]? = some x)(hx:L2.Loc X.env.scope x)(hf:X.fn x=true\/X.env.scope.names.lookup x=some .local):ln X (.Name x pos) (.nm i):=by unfold ln;simp only[lg];exact MW hN hi hx hf
def Qr:kE X [] []:=by unfold kE;simp only[jB];exact MX
def Qs{es:List Expr}{ts:List Tg}(d:ln X e t)(a:kE X es ts)(hs:jC e=true):kE X (e::es) (t::ts):=by unfold kE;simp only[jB];exact MY d a (by rw[uM hs];rfl)
def Qt{es:List Expr}(hs:∀e∈es,jC e=true):(assignEach es env).length=es.length/\(assignEach es env).findIdx? (·.1)=none:=by induction es with|nil=>exact#[rfl,rfl]|cons e es a=>exists f,d,a λx hx=>hs x (cs hx);rw[uM (hs e cj)];refine#[by rw[gh,gh,f],?_];rw[qh];simp[d]
def Qu{es:List Expr}{ts:List Tg}(d:X.calm=true)(h:kE X es ts)(hs:∀e∈es,jC e=true)(a:es.length=ts.length):ln X (.Tuple es k pos) (.tp ts):=by have st:=Qt (env:=X.env) hs;unfold ln;simp only[lg];exact Qp (n:=ts.length) d h (by rw[st.1,a]) st.2
def Qv(h:ln X tg t):Fb C X tg (aL t) :=
 #[_,h,λF H σ Y ρ' d v Q R r e w=>l6 t R r e λa f _ _=>w a F H (aE.refl _) f]
def qF(t:Tg)(Y:Rho)(r:Res):aI:=(aG r).thS Y λm d=>match m with|.fz=>(match aL t d Y with|some ρ'=>.nx ρ'|none=>.stuck)|_=>.stuck
def Qw(J:PV C X e g)(G:ln X tg t)(hs:swapsWithSole [tg] e pos.line X.env=pure false)(D:swappedStores [tg] e X.env=pure none)(f:jC tg=true):ja C X (.Assign [tg] e pos) (λY=>qF t Y (g Y)):=by
 refine PS.imp (M0 (eH J) G hs D (by rw[uM f];rfl)) λN σ H B=>?_
 exists Y,F,R,w,B;unfold qF at w;refine iS R w λm d v F' H' W s L A fr=>?_;cases m with
 |fr|bo=>exact(show False from W).elim|fz =>
 cases E:aL t d Y with|none=>rw[E]at W;exact(show False from W).elim|some ρ'=>rw[E]at W;have o:aB X.K F' d v:=A;exact l6 t L o E λa r _ _=>W a F' H' (aE.refl _) r
noncomputable def dX(t:Rho->Res)(b:Rho->aI):Nat->Rho->aI|0,_=>.stuck|n+1,Y=>(t Y).thS Y λ_ d=>match d with|.bl true=>((match b Y with|.nx ρ'|.ct ρ'=>dX t b n ρ'|.bk ρ'=>.nx ρ'|r=>r))|.bl false=>.nx Y|_=>.stuck
def Qx{t:Rho->Res}{b:Rho->aI}(n:Nat)(hp:PassesOwn (model X.prog X.w) X.A X.env X.xe)(L:jq C X c t)(N:io C X body b):ja C X (.While c body [] pos) (dX t b n):=by refine PS.imp (M4 hp L N) λG σ H q=>?_;exists Y,F,R,w,q;refine#[λm σ H=>∃Y F,aS X.K C.F0 C.H0 F H σ Y/\bZ (C.at X) F (dX t b m Y) G,#[n,Y,F,R,w],?_];rintro m σ H ⟨Y,F,R,w⟩;refine#[Y,F,R,?_];cases m with|zero=>exact w.elim|succ m=>unfold dX at w;cases D:t Y with|stuck=>rw[D]at w;exact w|exc c=>rw[D]at w;exact λF' H' s=>w σ F' H' s.fsame (R.step s)|ok J d=>rw[D]at w;cases d with|bl k=>(intro F' H' s;cases k with|false=>rw[a0 fq];exact w σ F' H' s.fsame (R.step s)|true=>(rw[al rfl];have w:bZ (C.at X) F (match b Y with|.nx ρ'=>dX t b m ρ'|.ct ρ'=>dX t b m ρ'|.bk ρ'=>.nx ρ'|r=>r) G:=w);refine#[λf H'=>∃Y F,aS X.K C.F0 C.H0 F H' f Y/\bZ (C.at X) F (dX t b m Y) G,λf H' h=>#[m,Cg _,h],Y,F',R.step s,?_];cases E:b Y with|nx ρ'|ct ρ'=>rw[E]at w;exact λa o B z R2=>#[ρ',o,R2,bZ.mono (s.fsame.trans z) w]|bk ρ'=>rw[E]at w;exact λa o B z R2=>w a o B (s.fsame.trans z) R2|rt J d=>rw[E]at w;exact w|exc c ρ'=>rw[E]at w;exact λa o B z R2=>w a o B (s.fsame.trans z) R2|stuck=>rw[E]at w;exact w.elim)|_=>exact w.elim
theorem FC{gt:Rho->Res}(af:∀j∈dW t,aD.length<=j){Q:VK}(q:tG (C.at X) (λY=>bI (gi Y) Y aD tgN.length (aL t) gt ge) σ H Q):n6 aD tgN.length (Dr (C.at X) gi) (lg X.K t) (tT (C.nox.at X) gt) (tG (C.nox.at X) λY=>aG (ge Y)) σ H Q:=by
 rw[aV]at q;exists Y,F,RS,w,q;unfold n6;refine#[Y,F,RS,?_];cases er:gi Y with
 |stuck|exc c=>rw[er]at w;exact w|ok m d =>
  rw[er]at w;cases d with
  |lst ds =>
   unfold bI at w;rw[Res.thn_ok]at w;dsimp only at w;split at w
   . rename_i ak;intro J F1 H1 s1 hJ Da hDa;cases et:eJ (aL t) gt ge (bU aD Y++List.replicate tgN.length none) ds with
     |none=>rw[et]at w;exact w.elim|some T =>
      rw[et]at w;have E:H Da=none:=s1.same.free hDa;have aa:F1 Da=none:=s1.sub.free hDa;have R0:=Fi aD tgN.length RS;refine#[λi m ys H'=>m=ds.length-i/\i<=ds.length/\H' Da=some (.lst ys)/\∃F' zs,aJ F H F' H'/\aE F1 F'/\F' Da=none/\aC X.K F' zs ys/\zs.length<=i /\
       ∃rest,eJ (aL t) gt ge (bU aD Y++List.replicate tgN.length none) (ds.drop i)=some rest/\T=zs++rest,
       #[ds.length,by simp,gy _,aY,F1,[],s1.upd E aa,aE.refl _,aa,aC.nil,dg _,T,by simpa using et,rfl],?_]
      rintro i m ys H' ⟨rfl,hile,hD,F',zs,st,sF,hFD,rz,hzl,rest,ec,etot⟩;refine#[hD,?_];by_cases f:i<ds.length
      . refine .inr #[hJ.go i H' (sF.trans st.sub) f,by rw[rz.length];lia,λv H2 y=>?_]
        exists F2,d,ed,r,rd,hJ.yld i F' H' v H2 sF st.sub f y;have hd:ds.drop i=d::ds.drop (i+1):=by rw[Ba f];rw[gg f]at ed;cases ed;rfl
        rw[hd]at ec;unfold eJ at ec;have ae:H2 Da=some (.lst ys):=r.same _ _ hD;have ah:F2 Da=none:=r.new _ hFD (by rw[hD];exact λz=>nomatch z)
        cases eg:aL t d (bU aD Y++List.replicate tgN.length none)with
        |none=>rw[eg]at ec;cases ec|some o =>
        rw[eg]at ec;dsimp only at ec;have R2:=(R0.step st).step r;refine l6 t R2 rd eg λaj R1 V B=>?_;refine#[#[V.symm,λj u ej=>?_],o,F2,R1,?_]
        . by_cases hj:j∈dW t;{have:=af j hj;rw[p8 (by simpa[dB]using this),p9]at ej;split at ej <;> cases ej};rw[B j hj];exact ej
        cases G:gt o with
        |stuck|exc c=>rw[G]at ec;cases ec|ok mt dt=>cases dt with|bl b=>(rw[G]at ec;intro F3 H3 S;have D:H3 Da=some (.lst ys):=S.same _ _ ae;have Z:F3 Da=none:=S.new _ ah (by rw[ae];exact λz=>nomatch z);cases b with|false=>rw[a0 fq];exact#[ds.length-(i+1),by lia,rfl,f,D,F3,zs,(st.trans r).trans S,(sF.trans r.fsame).trans S.fsame,Z,rz.mono (r.fsame.trans S.fsame) _ _,Nat.le_succ_of_le hzl,rest,ec,etot]|true=>rw[al rfl,aV];refine#[_,F3,R1.step S,?_];dsimp only at ec;cases N:aG (ge o)with|stuck|exc c=>rw[N]at ec;cases ec|ok me ye=>(rw[N]at ec;dsimp only at ec;have ag:me=.fz:=by cases h:ge o with|ok m' d'=>rw[h]at N;cases m' <;> cases N <;> rfl|exc c|stuck=>rw[h]at N;cases N);subst ag;cases L:eJ (aL t) gt ge (bU aD Y++List.replicate tgN.length none) (ds.drop (i+1))with|none=>rw[L]at ec;cases ec|some A=>rw[L]at ec;cases ec;intro u F4 H4 O ru _;have ai:H4 Da=some (.lst ys):=O.same _ _ D;have W:F4 Da=none:=O.new _ Z (by rw[D];exact λz=>nomatch z);refine#[ai,ds.length-(i+1),by lia,rfl,f,aY,F4,zs++[ye],(((st.trans r).trans S).trans O).upd E W,((sF.trans r.fsame).trans S.fsame).trans O.fsame,W,?_,by simp;lia,A,L,by rw[etot];simp];exact aC.append (rz.mono ((r.fsame.trans S.fsame).trans O.fsame) _ _) (aC.cons ru aC.nil))|_=>rw[G]at ec;cases ec
      . (have ei:i=ds.length:=by lia);subst ei;rw[uj]at ec;cases ec;rw[ij]at etot;subst etot;exact .inl #[hJ.stop _ H' (sF.trans st.sub) (dg _),w (.ref Da) F' H' st #[Da,rfl,hFD,ys,hD,rz] λ_ a ea=>by cases ea;exact E]
   . exact w.elim
  |_=>exact w.elim
def Qy{gt:Rho->Res}(r:X.calm=true)(hi:jz C X tg iter gi)(L:∀y∈scope.names,y.2 ≠ .cell)(J:scope.kind=.function)(F:∀y∈scope.names,y.2=.local->scope.names.lookup y.1=some .local)(G:∀y∈scope.names,y.2=.free->X.env.kindOf y.1=some .cell\/X.env.kindOf y.1=some .free)(D:aM.map some=aD.map λi=>X.N[i]?)(E:∀y∈aM,(y,NameKind.free)∈scope.names)(B:∀y∈aM,(relabel scope X.env).names.lookup y=some .cell\/(relabel scope X.env).names.lookup y=some .free)(f:∀j∈dW t,aD.length<=j)(m:∀cl A fp S a,ln (a8 X scope (aM++tgN) cl A fp S a) tg t)(hf:∀cl A fp S a,eB (a8 X scope (aM++tgN) cl A fp S a) ifs (tT (C.nox.at X) gt))(o:∀cl A fp S a,PV C.nox (a8 X scope (aM++tgN) cl A fp S a) elt ge)(hs:∀x,foldedSetIterable iter X.env x=pure x:=by intro _;rfl):PV C X (.ListComp elt [#[tg,iter,ifs,0]] scope pos) (λY=>bI (gi Y) Y aD tgN.length (aL t) gt ge):=by
 have d:aM.length=aD.length:=by simpa using congrArg List.length D
 refine PE.imp (PB (aM:=aM) (tgN:=tgN) (gt:=lg X.K t) (tt:=tT (C.nox.at X) gt) (te:=tG (C.nox.at X) λY=>aG (ge Y)) r hi L J F G D E B
  m hf (λcl A fp S a=>eH (o cl A fp S a)) hs) λσ H Q q=>FC f q
def Qz(fz:Bool){spos:Pos}{gt:Rho->Res}(r:X.calm=true)(hi:jz C X tg iter gi)(T:∀y∈scope.names,y.2 ≠ .cell)(O:scope.kind=.function)(G:∀y∈scope.names,y.2=.local->scope.names.lookup y.1=some .local)(J:∀y∈scope.names,y.2=.free->X.env.kindOf y.1=some .cell\/X.env.kindOf y.1=some .free)(L:aM.map some=aD.map λi=>X.N[i]?)(B:∀y∈aM,(y,NameKind.free)∈scope.names)(D:∀y∈aM,(relabel scope X.env).names.lookup y=some .cell\/(relabel scope X.env).names.lookup y=some .free)(f:∀j∈dW t,aD.length<=j)(m:∀cl A fp S a,ln (a8 X scope (aM++tgN) cl A fp S a) tg t)(hf:∀cl A fp S a,eB (a8 X scope (aM++tgN) cl A fp S a) ifs (tT (C.nox.at X) gt))(o:∀cl A fp S a,PV C.nox (a8 X scope (aM++tgN) cl A fp S a) elt ge)(hN:X.N.Nodup)(hx:X.N[i]? = some x)(hk:X.env.scope.names.lookup x=some .local)(d:swapsWith (.ListComp elt [#[tg,iter,ifs,0]] scope pos) (some (.Name x pos')) spos.line X.env=pure true)(hs:∀x,foldedSetIterable iter X.env x=pure x:=by intro _;rfl):ja C X (.Assign [.Name x pos'] (.ListComp elt [#[tg,iter,ifs,0]] scope pos) spos) (λY=>eA Y i (if fz=true then aG (bI (gi Y) Y aD tgN.length (aL t) gt ge)else bI (gi Y) Y aD tgN.length (aL t) gt ge)):=by
 refine PS.imp (PC (aM:=aM) (tgN:=tgN) (gt:=lg X.K t) (tt:=tT (C.nox.at X) gt) (te:=tG (C.nox.at X) λY=>aG (ge Y)) r hi T O G J L B D
  m hf (λcl A fp S a=>eH (o cl A fp S a)) hN hx hk d hs) λE σ H q=>FC f ?_
 cases fz with|false=>exact uF q|true=>have q:=uF q;unfold nL at q;rw[aV]at q ⊢;exists Y,F,R,w,q;exact#[Y,F,R,aX.frz w]
inductive DB(C:Cw)(X:Cx):List Expr->List (Rho->Res)->Prop where
 |nil:DB C X [] []
 |cons {e:Expr}{g:Rho->Res}{es:List Expr}{gs:List (Rho->Res)} (h:PV C X e g) (r:DB C X es gs):DB C X (e::es) (g::gs)
inductive ki(A:di)(s:bz):List ba->List ba->Bool->Prop where
 |nn:ki A s [] [] false
 |nc {w:ba}{ws:List ba}:ki A s [] (w::ws) true
 |cn {v:ba}{vs:List ba}:ki A s (v::vs) [] false
 |eq {v w:ba}{vs ws:List ba}{b:Bool} (h:SeqAt.EqAt A s v w true) (r:ki A s vs ws b):ki A s (v::vs) (w::ws) b
 |ne {v w:ba}{vs ws:List ba}{b:Bool} (h:SeqAt.EqAt A s v w false) (l:∀(prog:e7) (w':cw) (E:dc) (Q:dc),Q (.bool b) s->wpAny (model prog w') A (richCompare .Lt v w) Q E s):ki A s (v::vs) (w::ws) b
section
open PySem.SeqAt
open PySem.AutoSeq1 (wpAny_loadPart')
open PySem.MeetsSeq PySem.MeetsSeq2 PySem.MeetsSeq3
theorem QA(l b:Addr)(items a:Array ba)(n n2:Nat)(T G:Option Addr)(J S:Array (Option ba))(r:Bool):Meets (Builtin.«tuple.__lt__» #[[.ref l,.ref b],[]]) (λA R s=>s.heap.get? l=some { cls:=.type "tuple",dict:=T,data:=.seq items n,slots:=J }/\s.heap.get? b=some { cls:=.type "tuple",dict:=G,data:=.seq a n2,slots:=S }/\ki A.in1 s items.toList a.toList r/\R (.ok (.ret (.bool r))) s):=
 .of_wp λprog w A R s h=>by
  exists hp,g,d,tk,os,s;exists L,O,N,h,h;have f2:=AutoSeq1.sub_tuple_tuple
  wp_walk using wpAny_loadPart' L,wpAny_loadPart' O,A8 _ (λrest b s'=>b.1=none/\s'=#[hp,g,d,tk,os]/\∃(vs ws:List ba),rest=vs.zip ws /\
   ki A.in1 #[hp,g,d,tk,os] vs ws r/\vs.length+a.size=ws.length+items.size) _
  case turn =>
   rintro⟨y,x⟩ rest b s' ⟨o,rfl,vs,ws,hz,hvi,hlen⟩;cases hvi with|nn|nc=>rw[List.zip_nil_left]at hz;cases hz|cn=>rw[List.zip_nil_right]at hz;cases hz|eq D B=>(rw[se]at hz;injection hz with m f;injection m with E hx;subst E hx;simp only[gh]at hlen;refine bp (D prog w _ _ ?_);wp_walk;exact#[rfl,rfl,_,_,f,B,by lia])|ne D B=>rw[se]at hz;injection hz with m f;injection m with E hx;subst E hx;refine bp (D prog w _ _ ?_);have F:=B prog w;wp_walk using F;exact#[_,rfl,by simpa using h]
  case fin =>
   rintro⟨W,V⟩ s' ⟨o,rfl,vs,ws,hz,hvi,hlen⟩;simp only at o;subst o;have K:r=decide (items.size<a.size):=by cases hvi with|nn=>simp only[qc]at hlen;exact(ig (by lia)).symm|nc=>simp only[qc,gh]at hlen;exact(gS (by lia)).symm|cn=>simp only[qc,gh]at hlen;exact(ig (by lia)).symm|eq D B|ne D B=>rw[se]at hz;cases hz
   rw[K]at h
   wp_walk
   exact#[_,rfl,by simpa[Builtin.Tuple.tupleCompareSizes]using h]
  case h=>exact#[rfl,rfl,items.toList,a.toList,rfl,N,by simp[Nat.add_comm]]
end
section
variable{A:di}{E:dc}
def QB{a:Array ba}{r:Bool}(K:IsTup s.heap l items)(L:IsTup s.heap b a)(hi:ki (A.in1) s items.toList a.toList r)(J:A.units<cLine)(h:Q (.bool r) s):wpAny (model prog w) A (compareOp .Lt (.ref l) (.ref b)) Q E s:=by
 obtain⟨⟨cls,N,data,G⟩,ho,o,n,hd⟩:=id K;obtain⟨⟨B,D,data2,S⟩,d,m,n2,f⟩:=id L;simp only at o hd m f;subst o hd m f;exact richCompare_meets_room (op:=.Lt) #[_,ho,rfl] #[_,d,rfl] PySem.F.slot_tuple_lt PySem.F.entry_tuple_lt (PySem.F.args_tuple_lt_2 _ _) (QA l b items a n n2 N D G S r)
  #[ho,d,hi,show Value.bool r≠Value.notImplemented/\Q (.bool r) s from#[(λx=>nomatch x),h]] J
end
section
open PySem.SeqAt
open PySem.AutoSeq1 (wpAny_loadPart')
open PySem.MeetsSeq PySem.MeetsSeq2 PySem.MeetsSeq3
variable{A:di}{E:dc}
def QC{t:Addr}{U:Array ba}{x:ba}(hi:s.heap.IsTupleIter it t i)(ht:IsTup s.heap t U)(hx:U[i]? = some x)(q:∀h',h'.IsTupleIter it t (i+1)->Heap.SameBut it s.heap h'->Q x {s with heap:=h'}):wpAny (model prog w) A (Builtin.SmallTypes.nextOf (.ref it)) Q E s:=by
 have ty:=hi.typeIs;exists o,ho,a,hd,hi;exists p,hp,_,n,hs,ht
 delta Builtin.SmallTypes.nextOf
 apply bp;apply qb (name:=Str.ofString "__next__") ty Be;refine li Be ty ES ?w (ET _)
 case w =>
  refine bp (m:=field (.ref it) 0) (mr ho hd (x:=.ref t) rfl ?_);rw[show(Value.ref t==Value.none)=false from rfl,a0 fq]
  refine bp (m:=field (.ref it) 1) (mr ho hd (x:=.int i 0) rfl ?_);apply bp;apply wpAny_seqItems hp hs;rw[rj];simp only[hx];apply bp;apply um ho hd (by simp)
  refine ci #[x,rfl,ci (q _ #[_,A2 _ ho (Obj.isFreed_of_fields (Bf hd _)),?_,?_] (mi ..))]
  . rw[Obj.cls_mapFields,a]
  . rw[Bf hd];simp[rawInt]
def FE{t:Addr}{U:Array ba}(h0:A.handled=none)(hi:s.heap.IsTupleIter it t i)(ht:IsTup s.heap t U)(hx:U[i]? = none)(q:∀h' e,Heap.ExtBut it s.heap h'->(∃o,h'.get? e=some o/\o.cls=.type "StopIteration")->E (.ref e) {s with heap:=h'}):wpAny (model prog w) A (Builtin.SmallTypes.nextOf (.ref it)) Q E s:=by
 have ty:=hi.typeIs;exists o,ho,d,hd,hi;exists p,hp,_,n,hs,ht
 delta Builtin.SmallTypes.nextOf
 apply bp;apply qb (name:=Str.ofString "__next__") ty Be;refine li Be ty ES ?w (ET _)
 case w =>
  refine bp (m:=field (.ref it) 0) (mr ho hd (x:=.ref t) rfl ?_);rw[show(Value.ref t==Value.none)=false from rfl,a0 fq]
  refine bp (m:=field (.ref it) 1) (mr ho hd (x:=.int i 0) rfl ?_);apply bp;apply wpAny_seqItems hp hs;rw[rj];simp only[hx];apply bp;apply rr;apply bp;apply um ho hd (by simp)
  refine bp (m:=newExc (.type "StopIteration") []) ?_;simp only[newExc,newTuple];apply bp;refine lj ?_ (by size_fits)
  apply bp (m:=firstArgMember _ _);refine wpAny_of_eq (a:=.none) ?_ ?_
  . first|rfl|(unfold firstArgMember;rfl)
  refine lj (hd:=by size_fits) ?_
  simp only[raiseNew];apply bp;apply wpAny_handled
  first|rw[show A.in1.handled=none from h0]|rw[h0]
  refine wpAny_throw ?_;exact q _ _ ((Heap.SameBut.extBut (mi ..)).push _ |>.push _) #[_,fo _ rfl,rfl]
def FG{a:Addr}{U:Array ba}(x:IsTup h a U)(k:∀o,h.get? a=some o->h'.get? a=some o):IsTup h' a U:=by exists o,ho,r,x;exact#[o,k o ho,r]
end
def QD{its:List Addr}{n:Addr}(I:Inv X aA σ H s)(k:∀b o,b∉its->s.heap.get? b=some o->h'.get? b=some o)(hf:∀b∈its,c9 X aA H b)(hn:s.heap.objs.size<=n)(new:∃us,aO U us/\gX h' n us.toArray)(hz:U.length<=sizeLine):Inv X aA σ (upd H n (.tup U)) {s with heap:=h',toks:=t'}:=by
 have fr:H n=none:=I.hok.fresh hn;have lt:∀{b o},s.heap.get? b=some o->b≠n:=λe z=>absurd (dy e) (by rw[z];exact Nat.not_lt.mpr hn)
 have N:∀{b u},H b=some u->b≠n:=λe z=>by rw[z,fr]at e;cases e
 have d:∀{b u},H b=some u->b∉its:=λe z=>by rw[(hf _ z).1]at e;cases e
 refine I.call (g':=s.gens) (d':=s.drawn) (ch:=its) #[λb o e _ _ hx=>k b o hx e,λb o e _ _ hx=>#[o.slots,k b o hx e],λb o e h0 _=>by rw[aP (lt e)];exact h0,λb o e hx=>#[o,k b o hx e],
  λb u e=>by rw[aP (N e)];exact e,λb u v e=>by rw[aP (N e)];exact e,λb u e=>#[#[],by rw[aP (N e),e];simp]] (λb u e=>?_) I.bare λb a=>?_
 . by_cases a:b=n;{subst a;rw[aY]at e;cases e;exact#[hz,new]};rw[aP a]at e;refine(I.hok b u e).stay (λc v f q=>k c v ?_ q) (λc q=>?_) λc v q=>?_;{rcases f with z|z;{rw[z];exact d e};exact d z};{rw[aP (N q)];exact q};rw[aP (N q)];exact q
 . exists f0,f1,f2,f3,m,F,hf b a;exact#[f3,f1,m,F]
def qG{its:List Addr}(I:Inv X aA σ H s)(k:∀b o,b∉its->s.heap.get? b=some o->h'.get? b=some o)(hf:∀b∈its,c9 X aA H b):Inv X aA σ H {s with heap:=h',toks:=t'}:=by
 have N:∀{b u},H b=some u->b∉its:=λe z=>by rw[(hf _ z).1]at e;cases e
 refine I.call (g':=s.gens) (d':=s.drawn) (ch:=its) #[λb o e _ _ hx=>k b o hx e,λb o e _ _ hx=>#[o.slots,k b o hx e],λb o e h0 _=>h0,λb o e hx=>#[o,k b o hx e],
  λb u e=>e,λb u v e=>e,λb u e=>#[#[],by rw[e];simp]] (λb u e=>?_) I.bare λb d=>?_
 . refine(I.hok b u e).stay (λc v a q=>k c v ?_ q) (λ_ q=>q) λ_ _ q=>q;rcases a with z|z;{rw[z];exact N e};exact N z
 . exists f0,f1,f2,f3,F,f,hf b d;exact#[f3,f1,F,f]
open PySem.AutoSeq1 (wpAny_loadPart')
def QE{A:di}(r:A.handled=none)(it t:Addr)(f:t≠it)(items:Array ba):Draws prog w A it [it,t] items.size (λi v=>items[i]? = some v) (λi h=>h.IsTupleIter it t i/\IsTup h t items) where
 live:=λ_ _ st=>let⟨o,ho,_⟩:=st.1;#[o,ho]
 frame:=λ_ _ _ st hk=>#[st.1.at λo e=>hk it (by simp) o e,FG st.2 λo e=>hk t (by simp) o e]
 item:=λi s Q E m st B=>by refine QC st.1 st.2 (x:=items[i]) (by simp[m]) λh' d a=>?_;exact B _ h' s.toks (by simp[m]) #[d,FG st.2 λo e=>a.extBut _ o f e] a
 done:=λs Q E st D=>FE r st.1 st.2 (by simp) D
def QF(l:Addr)(items:Array ba):Meets (Builtin.«enumerate.__new__» #[[.type "enumerate",.ref l],[]]) (λ_ R s=>s.heap.IsTuple l items/\R (.ok (.ret (.ref (s.heap.push { cls:=.type "tuple_iterator",data:=.fields (List.toArray [.ref l,.int 0 0]) }).objs.size))) { s with heap:=(s.heap.push { cls:=.type "tuple_iterator",data:=.fields (List.toArray [.ref l,.int 0 0]) }).push { cls:=.type "enumerate",data:=.fields (List.toArray [.none,.bool false,.ref s.heap.objs.size,rawInt 0,.none,.none]) } }):=
 .of_wp λprog w A R s h=>by exists hp,g,d,tk,os,s;exists a,h,h;have f:=sub_enumerate;have a:Heap.IsTuple (Shared.heap #[hp,g,d,tk,os]) l items:=a;exists o,ho,m,n,hd,id a;wp_walk using wpAny_loadPart' ho;refine wpAny_stack_any λst=>ci ?_;split;{rename_i c _ _ _ _ _;cases(c==Value.type "enumerate");{wp_walk using wpAny_loadPart' ho,AU a;exact#[_,rfl,h]};wp_walk using wpAny_loadPart' ho,AU a;exact#[_,rfl,h]};wp_walk using wpAny_loadPart' ho,AU a;exact#[_,rfl,h]
section
variable{A:di}{E:dc}
def QG{a:Addr}{us:Array ba}(ha:s.heap.IsTuple a us)(q:∀g,IsEnum g (s.heap.objs.size+1) s.heap.objs.size 0 .none->g.IsTupleIter s.heap.objs.size a 0->(∀c u,s.heap.get? c=some u->g.get? c=some u)->Q (.ref (s.heap.objs.size+1)) {s with heap:=g}):wpAny (model prog w) A (call (.type "enumerate") [.ref a]) Q E s:=by let i0:Obj:={ cls:=.type "tuple_iterator",data:=.fields (List.toArray [.ref a,.int 0 0]) };let d:Obj:={ cls:=.type "enumerate",data:=.fields (List.toArray [.none,.bool false,.ref s.heap.objs.size,rawInt 0,.none,.none]) };(have Z:(s.heap.push i0).objs.size=s.heap.objs.size+1:=q0 ..;have G:((s.heap.push i0).push d).get? (s.heap.objs.size+1)=some d:=by rw[<- Z];exact fo _ rfl);have m:((s.heap.push i0).push d).get? s.heap.objs.size=some i0:=hps (fo _ rfl);have up:∀c u,s.heap.get? c=some u->((s.heap.push i0).push d).get? c=some u:=λc u z=>hps (hps z);have f:(∃o,((s.heap.push i0).push d).get? (s.heap.objs.size+1)=some o/\o.cls=.type "enumerate")/\Q (.ref (s.heap.objs.size+1)) {s with heap:=(s.heap.push i0).push d}:=#[#[d,G,rfl],q _ G #[i0,m,rfl,rfl] up];rw[<- Z]at f;exact callType_new F.called_enumerate (by decide) (F.typeCall_enumerate_1 _) (F.newCall_enumerate_1 _) (λo=>F.args_object_init_2 o _) F.entry_enumerate_new (QF a us) #[ha,f]
end
def tm(S:Hp->List V->Prop):It :=
 #[fun i H => ∃ U x, S H U ∧ U[i]? = some x,
  λi H v H'=>∃p x,v=.ref p/\H p=none/\H'=upd H p (.tup [.int i,x])/\∀U,S H U->U[i]? = some x,
  λi H=>∃U,S H U/\U.length<=i]
section
variable{K:Fg}{a:Nat}
theorem FH{Sq:Hp->List V->Prop}(e it l:Addr)(J:e≠it)(ae:e≠l)(ai:l≠it)(r:Nat->Heap->Prop)(At:Heap->Array ba->Prop)(L:∀i h,r i h->∃o,h.get? it=some o/\∀v,o.data ≠ .cell v)(keep:∀i h h',r i h->(∀o,h.get? it=some o->h'.get? it=some o)->r i h')(dr:∀A:di,A.handled=none->∀items:Array ba,Draws P w A it [it,l] items.size (λi v=>items[i]? = some v) (λi h=>r i h/\At h items))(dn:∀(A:di) (s:bz) (items:Array ba) (k:Nat) (Q E:dc),A.handled=none->r k s.heap->At s.heap items->items[k]? = none->(∀h' x,Heap.ExtBut it s.heap h'->(∃o,h'.get? x=some o/\o.cls=.type "StopIteration")->E (.ref x) {s with heap:=h'})->wpAny (model P w) A (Builtin.SmallTypes.nextOf (.ref it)) Q E s)(look:∀(X:Cx) (aA:eh) (s:bz) (σ:L2.St) (H:Hp) (U:List V),X.prog=P->X.w=w->X.K=K->Inv X aA σ H s->Sq H U->∃us,aO U us/\At s.heap us.toArray)(inj:∀(X:Cx) (aA:eh) (s:bz) (σ:L2.St) (H:Hp) (U ys:List V),X.prog=P->X.w=w->X.K=K->Inv X aA σ H s->Sq H U->Sq H ys->ys=U):gY P w K (.Tuple elts a pos) (tm Sq) [e,it] e (λk h=>(∃O,IsEnum h e it k O)/\r k h) where
 mem:=by simp
 obj:=λk h st b f=>by obtain⟨⟨O,B⟩,G⟩:=st;simp only[cy,mj,h9]at f;rcases f with rfl|rfl;{exact#[_,B,λv e=>by cases e]};exists o,e,d,L k h G;exact#[o,e,d]
 keep:=λk h h' st q=>by obtain⟨⟨O,B⟩,G⟩:=st;exact#[#[O,q e (by simp) _ B],keep k h h' G λo e=>q it (by simp) o e]
 item:=by
  intro X W S Z hc k aA s σ H E I hf st hg;obtain⟨⟨O,B⟩,G⟩:=st;exists U,x,N,hx,hg;exists us,r1,p1,look X aA s σ H U W S Z I N;exists u,hu,ru,r1.get hx;have aa:k<us.toArray.size:=by rw[fh];exact(lA.mp hu).1
  refine wpAny_pyNext_enum_itemD (dr X.A.in1 (I.ok.hd hc) us.toArray) B #[G,p1] aa J (by simp[J,ae]) λx' h' tk D a1 a2 a3 a4 a5=>?_
  have:x'=u:=by rw[List.getElem?_toArray]at D;rw[hu]at D;exact(jw D).symm
  subst this;refine#[_,rfl,wpAny_letOwnedTupleGo_enum (s:={s with heap:=h',toks:=tk+1}) a1 λh2 b1 b2=>?_]
  have en:s.heap.objs.size≠e:=λq=>absurd (dy B) (by rw[<- q];exact ky _)
  have up:∀b o,b∉[e,it]->s.heap.get? b=some o->h2.get? b=some o:=λb o f z=>by simp only[cy,mj,h9,not_or]at f;exact b2.extBut _ _ f.1 (a5 b o f.1 f.2 z)
  have I2:=QD (t':=tk+1) (U:=[.int k,x]) I up hf (dg _) #[[.int k tk,x'],.cons #[tk,rfl] (.cons ru .nil),#[_,b2.extBut _ _ en a3,rfl,rfl,_,rfl]] (show 2<=sizeLine by decide +kernel)
  refine#[.ref s.heap.objs.size,_,I2,rfl,#[_,x,rfl,I.hok.fresh (dg _),rfl,λzs q=>by rw[inj X aA s σ H U zs W S Z I N q];exact hx],?_,λb f=>?_]
  . (have ek:((k:Int)+1)=((k+1:Nat):Int):=by lia);rw[ek]at b1;exact#[#[x',b1],keep _ _ _ a2.1 λo z=>b2.extBut _ o J.symm z]
  . have ah:=f;obtain⟨o,z⟩:∃o,s.heap.get? b=some o:=by
      simp only[cy,mj,h9]at f;rcases f with rfl|rfl
      . exact#[_,B]
      . exists o,z,_,L _ _ G;exact#[o,z]
    rw[aP λq=>absurd (dy z) (by rw[q];exact ky _)]
    exact(hf b ah).1
 done:=by
  intro X W S Z hc k aA s σ H E I hf st hg;obtain⟨⟨O,B⟩,G⟩:=st;exists U,N,hn,hg;exists us,r1,p1,look X aA s σ H U W S Z I N;have e1:=r1.length;have te:s.TypeIs (.ref e) "enumerate":=#[_,B,rfl]
  delta pyNext
  apply bp;apply Bg;apply qb (name:=Str.ofString "__next__") te F.slot_enumerate_next;refine li F.slot_enumerate_next te F.entry_enumerate_next ?nx (F.args_enumerate_next_1 _);refine bp (m:=field (.ref e) 2) (mr B rfl (x:=.ref it) rfl ?_);refine bp (dn X.A.in1 s us.toArray k _ _ (I.ok.hd hc) G p1 (by simp;lia) λh' x af D=>?_)
  exists o,ho,ag,D;refine bp (Cv (T:="StopIteration") (b:=true) #[o,ho,ag] isSubtype_stop ?_);refine ci #[rfl,qG (t':=s.toks) I (λb o f z=>af b o (by
   simp only[cy,mj,h9,not_or]at f;exact f.2) z) hf]
 self:=λ_ _ _ _ _ st h=>by obtain⟨⟨O,B⟩,_⟩:=st;exact CB B h
def QH(e it l:Addr)(B:e≠it)(m:e≠l)(f:l≠it):gY P w K (.Tuple elts a pos) (tm λH=>dz K H l) [e,it] e (λk h=>(∃O,IsEnum h e it k O)/\h.IsListIter it l k) :=
 FH e it l B m f (fun k h => h.IsListIter it l k) (fun h U => h.IsList l U) (fun i h st => by
     exists o,e,_,d,st;exact#[o,e,λv q=>by rw[d]at q;cases q]) (λi h h' st k=>st.at k) (λA F items=>Draws.list F it l f items)
  (λA s items k Q E F st ha hx q=>wpAny_nextOf_list_end F st ha hx q)
  (λX aA s σ H U J G D I q=>by
   subst D;exists us,r,p,_,I.list q;exact#[us,r,p.isList])
  (λX aA s σ H U ys J G D I q q'=>by subst D;exact I.list_inj q' q)
def QI(e it l:Addr)(B:e≠it)(m:e≠l)(f:l≠it):gY P w K (.Tuple elts a pos) (tm λH=>d3 K H l) [e,it] e (λk h=>(∃O,IsEnum h e it k O)/\h.IsTupleIter it l k) :=
 FH e it l B m f (fun k h => h.IsTupleIter it l k) (fun h U => IsTup h l U) (fun i h st => by
     exists o,e,_,d,st;exact#[o,e,λv q=>by rw[d]at q;cases q]) (λi h h' st k=>st.at k) (λA F items=>QE F it l f items)
  (λA s items k Q E F st ha hx q=>FE F st ha hx q)
  (λX aA s σ H U J G D I q=>by
   subst D;exists us,r,p,_,I.tuple q;exact#[us,r,p])
  (λX aA s σ H U ys J G D I q q'=>by subst D;exact I.tuple_inj q' q)
end
def QJ:bootBuiltins ("enumerate":Str)=some (.type "enumerate"):=by first|rfl|decide +kernel|kernel_rfl
def FI(K:Fg)(ta:TA):TI:=λσ H R=>ta σ H λvs H1=>∃a U,vs=[.ref a]/\((dz K H1 a U/\R (tm λH=>dz K H a) H1)\/(d3 K H1 a U/\R (tm λH=>d3 K H a) H1))
def QK{a:Expr}{ta:TA}{cx}{N:Pos}(T:Gl X "enumerate")(O:X.mg "enumerate"=none)(ha:PA X [a] ta)(hs:starEach [a] X.env=[(false,eval a X.env)]:=by rfl):PI X (.Tuple elts cx N) (.Call (.Name "enumerate" p) [a] [] pos) (FI X.K ta):=by intro aA s σ H R I h;refine Call_ (jY I T O QJ (AV (thn (ha pos aA s σ H _ I h) λus S q1=>?_) (by rw[hs];rfl) (by rfl)));exists vs,H1,d,J,l,U,rfl,q,q1;cases J with|cons r G=>(cases G;cases r;have E:∀b:Addr,S.heap.objs.size<=b->c9 X aA H1 b:=λb f=>d.fpOk f (d.hok.fresh f);have F:∀b:Addr,b∈[S.heap.objs.size+1,S.heap.objs.size]->c9 X aA H1 b:=λb f=>by simp only[cy,mj,h9]at f;rcases f with rfl|rfl;{exact E _ (sb _)};exact E _ (dg _));rcases q with⟨m,q⟩|⟨m,q⟩;{exists ls,_,p1,_,d.list m;(have L:l<S.heap.objs.size:=by exists o,n,e,_,id p1;exact dy e);refine call_enumerate_list p1.isList λh' A D V B=>CB (s:={S with heap:=h'}) A ?_;exact#[_,[S.heap.objs.size+1,S.heap.objs.size],_,_,H1,rfl,d.kept (t':=S.toks) B,QH _ _ l (Nat.succ_ne_self _) (p7 (Cz L)) (gx L),#[#[_,A],D],F,q]};exists ls,_,p1,_,d.tuple m;(have L:l<S.heap.objs.size:=by exists o,e,_,id p1;exact dy e);refine QG (show S.heap.IsTuple l ls.toArray from p1) λh' A D B=>CB (s:={S with heap:=h'}) A ?_;exact#[_,[S.heap.objs.size+1,S.heap.objs.size],_,_,H1,rfl,d.kept (t':=S.toks) B,QI _ _ l (Nat.succ_ne_self _) (p7 (Cz L)) (gx L),#[#[_,A],D],F,q]
def fN:Nat->List D->List D|_,[]=>[]|i,d::ds=>.tup [.int i,d]::fN (i+1) ds
theorem qH:∀{ds:List D}{i:Nat},(fN i ds).length=ds.length|[],_=>rfl|d::ds,i=>by simp only[fN,gh,qH]
theorem FJ:∀{ds:List D}{j i:Nat}{d:D},ds[i]? = some d->(fN j ds)[i]? = some (.tup [.int ((j+i:Nat):Int),d])|[],_,_,_,h=>by simp at h|x::ds,j,0,d,h=>by simp at h;subst h;rfl|x::ds,j,i+1,d,h=>by have:=FJ (ds:=ds) (j:=j+1) (i:=i) (by simpa using h);(have e:j+1+i=j+(i+1):=by lia);rw[e]at this;simpa[fN]using this
theorem FK{K:Fg}{F:Hp}{m:Hp->List V->Prop}(d:∀H,aE F H->m H U)(r:aC K F ds U):kB K F (tm m) (fN 0 ds) where
 go:=λi H s a=>by(rw[qH]at a;have A:i<U.length:=by rw[r.length];lia);exact#[U,U[i],d H s,by simp[A]]
 stop:=λi H s a=>by rw[qH]at a;exact#[U,d H s,by rw[r.length];lia]
 yld:=λi Fc H x H' f S a y=>by rw[qH]at a;exists p,u,rfl,hp,rfl,hx,y;have ex:=hx U (d H (f.trans S));exists B,E,o,r.get' (gg a);rw[ex]at E;cases E;refine#[_,_,FJ (gg a),aJ.laid (.tup [.int i,u]) S hp,?_];refine aB.tup_of (S.free hp) ?_;simp only[aC];exact#[.int i,[u],rfl,by simp only[aB,mh],u,[],rfl,o.mono f _ _,rfl]
def qI(r:bH):Res:=r.thn λU=>match U with|[(.fz,.lst ds)]|[(.fz,.tup ds)]=>.ok .fz (.lst (fN 0 ds))|_=>.stuck
def QL{a:Expr}{cx}{f:Pos}(o:Gl X "enumerate")(m:X.mg "enumerate"=none)(ha:jm C X [a] gs)(hs:starEach [a] X.env=[(false,eval a X.env)]:=by rfl):jz C X (.Tuple elts cx f) (.Call (.Name "enumerate" p) [a] [] pos) (λY=>qI (gs Y)):=by refine PI.imp (QK o m ha hs) λσ H R q=>?_;exists Y,F,B,w,q;dsimp only at w;unfold FI;refine#[Y,F,B,?_];cases E:gs Y with|stuck|exc c=>rw[E]at w;exact w|ok U=>rw[E]at w;intro vs F' H' st rp;unfold qI at w;rw[bH.thn_ok]at w;split at w;{rename_i ds;exists v,rfl,r,rp.one;have r:aB X.K F' (.lst ds) v:=r;simp only[aB]at r;exists A,d,rfl,q1,L,r;exact#[A,d,rfl,.inl #[st.sub.seq q1,w _ F' H' st (FK (λH s=>s.seq q1) L)]]};{rename_i ds;exists v,rfl,r,rp.one;have r:aB X.K F' (.tup ds) v:=r;simp only[aB]at r;exists A,d,rfl,q1,L,r;exact#[A,d,rfl,.inr #[aE.seqT st.sub q1,w _ F' H' st (FK (λH s=>aE.seqT s q1) L)]]};exact w.elim
open PySem.Calls PySem.W
section
variable{K:Fg}{x D:Addr}{a:Obj}
def X4(h:Heap)(x:Addr)(a:Obj)(D:Addr):Prop:=h.get? x=some a/\a.cls=.ref D
structure DC(K:Fg)(D:Addr):Prop where
 ga:W.findIn K (.ref D) "__getattribute__"=some (some (.builtin "BaseException.__getattribute__"))
 gn:W.findIn K (.ref D) "__getattr__"=some none
 ca:W.findIn K (.ref D) "__class__"=some (some (.builtin "object.__class__"))
 bx:W.mroIn K D (.type "BaseException")=some true
 ob:W.mroIn K D (.type "object")=some true
 hn:W.specialIn K (.builtin "object.__class__") "__get__"=some (some (.builtin "getset_descriptor.__get__"))
 tk:W.takesIn K (.builtin "object.__class__")=some true
end
open PySem.Calls
structure jo(P:e7)(w:cw)(outer:List Env)(H:Hp)(s:bz)(H1:Hp)(B hp:Heap):Prop where
 un:Un (gj outer) [] H H1 s.heap hp
 ok:fj P w H1 hp
 kb:∀b o,hp.get? b=some o->s.heap.get? b≠none->b∉gj outer->B.get? b=some o
 kh:∀b u,H1 b=some u->∃o,hp.get? b=some o/\B.get? b=some o
 fr:∀b∈gj outer,H b=none/\∃o,s.heap.get? b=some o/\∀vs,o.data ≠ .fields vs
section
variable{H1:Hp}{B:Heap}
def iU:b∉([]:List Addr):=by simp
theorem jo.slots(f:jo P w outer H s H1 B hp)(up:hp.UpToSlots h')(d:b∈gj outer):∃o a S,s.heap.get? b=some o/\hp.get? b=some {o with slots:=a}/\h'.get? b=some {o with slots:=S}:=by exists hn,o,e,nf,f.fr b d;exists a,E,f.un.slot b o e hn d iU;exists S,m,up b _ E nf;exact#[o,a,S,e,E,m]
def jo.on(f:jo P w outer H s H1 B hp)(st:B.StaysIn h')(up:hp.UpToSlots h'):jo P w outer H s H1 B h' where
 un:={
  keep:=λb o e n d _=>st b o (f.kb b o (f.un.keep b o e n d iU) (by rw[e];exact λz=>nomatch z) d)
  slot:=λb o e n d _=>by exists O,F,S,r,_,E,f.slots up d;rw[e]at r;cases r;exact#[S,E]
  free:=f.un.free
  there:=λb o e _=>by by_cases d:b∈gj outer;{exists O,F,S,r,_,E,f.slots up d;exact#[_,E]};exists O,m,f.un.there b o e iU;exact#[O,st b O (f.kb b O m (by rw[e];exact λz=>nomatch z) d)]
  tups:=f.un.tups
  frzs:=f.un.frzs
  tbls:=f.un.tbls }
 ok := fun a o e => (f.ok a o e).stay (fun b u d q => by
     have:∃A,H1 b=some A:=by rcases d with rfl|d;{exact#[o,e]};exact#[_,d]
     exists A,J,this;exists O,m,E,f.kh b A J;rw[q]at m;cases m;exact st b u E) (λ_ q=>q) λ_ _ q=>q
 kb:=λb o e ns d=>by cases r:s.heap.get? b with|none=>exact absurd r ns|some G=>exists O,m,f.un.there b G r iU;have E:=f.kb b O m ns d;have D:=st b O E;rw[e]at D;cases D;exact E
 kh:=λb u e=>by exists o,_,E,f.kh b u e;exact#[o,st b o E,E]
 fr:=f.fr
end
def eS(P:e7)(w:cw):CXT:=λouter H s E ev s'=>∃(e C:Addr) (a:ba) (H1:Hp) (B:Heap),
 ev=.ref e/\s'.os=s.os/\AllBare s'.gens/\Heap.FlyingW B outer e (.ref C) a s'.heap/\jo P w outer H s H1 B s'.heap/\E (.ref C) none H1
section
variable{H1:Hp}{B:Heap}
def QM(I:Inv X aA σ H s):∀b∈gj X.stack,H b=none/\∃o,s.heap.get? b=some o/\∀vs,o.data ≠ .fields vs:=λb a =>
 #[I.stkFree b a,(I.stack.mem a).2]
def jo.inv(I:Inv X aA σ H s)(f:jo X.prog X.w X.stack H s H1 B s'.heap)(ho:s'.os=s.os)(a:AllBare s'.gens):Inv X aA σ H1 s' :=
 Inv.call' (ch:=[]) I ho f.un f.ok a (λb z=>absurd z iU)
def jo.out(I:Inv X aA σ H s)(f:jo X.prog X.w X.stack H s H1 B s'.heap)(ho:s'.os=s.os)(J:AllBare s'.gens)(hx:X.ex=[])(hs:X.stack=X.env::X.outer)(hf:X.env.frame=some X.env.locals)(st:B.StaysIn h')(up:s'.heap.UpToSlots h'):jo X.prog X.w X.outer X.H₀ X.s₀ H1 B h':=by have V:=f.inv I ho J;have f1:=f.on st up;have d:=V.base;rw[hx]at d;have O:∀b o,X.s₀.heap.get? b=some o->∃m,s.heap.get? b=some m:=λb o e=>I.base.there b o e (by rw[hx];exact iU);have N:∀b o,X.s₀.heap.get? b=some o->b≠X.env.locals:=λb o e z=>absurd (dy e) (by rw[z];exact Nat.not_lt.mpr I.ok.above);(have sub:∀b,b∉gj X.outer->b≠X.env.locals->b∉gj X.stack:=λb L K z=>by rcases cy.mp (I.stkSub b z)with q|q;{exact K q};exact L q);(have S:∀b,b∈gj X.outer->b∈gj X.stack:=λb a=>by rw[hs];unfold gj;rw[pv,hf];exact cs a);refine#[#[λb o e n a _=>?_,λb o e n a _=>?_,d.free,λb o e _=>?_,d.tups,d.frzs,d.tbls],f1.ok,λb o e ns a=>?_,f1.kh,λb a=>?_];{have r:=d.keep b o e n a iU;exists m,E,O b o e;exact st b o (f.kb b o r (by rw[E];exact λz=>nomatch z) (sub b a (N b o e)))};{exists Z,r,d.slot b o e n a iU;exists m,G,A,E,D,T,f.slots up (S b a);have q:=jw (r.symm.trans D);refine#[A,?_];rw[T];exists c1,d1,W,l1,o;exists c2,d2,t2,l2,m;simp only[Obj.mk.injEq]at q;exists rfl,rfl,rfl,_,q;rfl};{exists m,E,O b o e;exact f1.un.there b m E iU};{cases E:X.s₀.heap.get? b with|none=>exact absurd E ns|some F=>exists m,r,O b F E;exact f1.kb b o e (by rw[r];exact λz=>nomatch z) (sub b a (N b F E))};exact#[I.ok.frf b a,(I.ok.funs.mem a).2]
def oB(h:Heap)(l:List Env):Heap:=W.hideAll h (gj l)
def jo.raise(I:Inv X aA σ H s)(hx:X.ex=[])(hs:X.stack=X.env::X.outer)(hf:X.env.frame=some X.env.locals)(st:(oB s.heap X.stack).StaysIn h')(up:s.heap.UpToSlots h'):jo X.prog X.w X.outer X.H₀ X.s₀ H (oB s.heap X.stack) h':=by
 have f:jo X.prog X.w X.stack H s H (oB s.heap X.stack) s.heap :=
  #[Un.refl,I.hok,λb o e _ a=>W.hideAll_get _ e a,λb u e=>by
   have hn:b∉gj X.stack:=λz=>by rw[I.stkFree b z]at e;cases e
   have:∃o,s.heap.get? b=some o:=by have:=I.hok b u e;cases u with|lst U=>exists _,_,_,_,e,this;exact#[_,e]|tup U=>exists _,_,_,o,e,_,this;exact#[_,e]|dK kvs|dT kvs|dN kvs=>exists _,_,_,_,o,_,_,e,_,this;exact#[_,e]|set S n=>exists o,_,_,_,e,_,this;exact#[_,e]|ins C dx fs=>exists _,_,_,e,_,this;exact#[_,e]|own y=>exists _,e,this;exact#[_,e]|xd fs=>obtain⟨_,⟨_,_,_,e,_⟩,_⟩:=this;exact#[_,e]|rng lo m=>exists _,_,_,e,this;exact#[_,e]|frz ob u=>exists e,_,this;exact#[_,e]|tbl ps|crec q=>exists _,_,_,e,_,this;exact#[_,e]|met f y=>exact#[_,this]|ext d=>obtain⟨_,⟨_,e⟩,_⟩:=this;exact#[_,e]
   exists o,E,this;exact#[o,E,W.hideAll_get _ E hn],QM I]
 exact f.out I rfl I.bare hx hs hf st up
end
noncomputable def ww:List ba:=[.type "ValueError",.type "Exception",.type "BaseException",.type "object"]
def FL(K:Fg)(C:Addr):Prop:=W.excIn K C ww "ValueError.__new__"=true
def wx(C:Cw)(X:Cx):Prop:=∀(aA:eh) (σ:L2.St) (H:Hp) (s:bz) (c:Str) (a:Addr) (vs:List ba) (h':Heap) (e:Addr),Inv X aA σ H s->X.mg c=some (.ref a)->C.EE c σ H ->
 Heap.MadeExcOf s.heap h' e (.ref a) vs->X.xe (.ref e) {s with heap:=h'}
section
structure wy(X:Cx):Prop where
 hx:X.ex=[]
 hs:X.stack=X.env::X.outer
 hf:X.env.frame=some X.env.locals
end
section
variable{K:Fg}{N:List Str}{f:Addr}{A:di}{E:XK}
def DD:wy (cO (eS P w) P w K mg base N qual scope f cdv A outer s H E):=#[rfl,rfl,rfl]
def iA(mg:fg)(E:XK):XE:=λc _ H'=>∀u,mg c=some u->E u none H'
def uP(o:C.EE=iA mg E):nk (eS P w) C (cO (eS P w) P w K mg base N qual scope f cdv A outer s H E):=by intro aA σ H1 s1 ev s' I h;exists e,L,D,J,B,rfl,ho,a,fl,r,c,m,d,h;rw[o]at d;have G:=I.ok.frames;refine wpAny_leaves_onW G rfl fl λh' F up=>?_;exact#[e,L,D,J,B,rfl,ho.trans I.os,a,F,r.out I ho a rfl rfl rfl F.1 up,d _ m]
def QN(B:C.EE=iA mg E):wx C (cO (eS P w) P w K mg base N qual scope f cdv A outer s H E):=by intro aA σ H1 s1 c Cc vs h1 e I hm d made;rw[B]at d;have D:=I.ok.frames;have r:∀env∈(cO (eS P w) P w K mg base N qual scope f cdv A outer s H E).stack,∀a,env.frame=some a->a∈gj (cO (eS P w) P w K mg base N qual scope f cdv A outer s H E).stack:=λenv d a ha=>Ce.mpr #[env,d,ha];have F:s1.heap.FunFrames (oB s1.heap (cO (eS P w) P w K mg base N qual scope f cdv A outer s H E).stack) _:=W.funFrames_hide I.stack r;have S:(oB s1.heap (cO (eS P w) P w K mg base N qual scope f cdv A outer s H E).stack).StaysIn s1.heap:=λb o q=>W.of_hideAll _ q;refine wpAny_leaves_madeW (s:={s1 with heap:=h1}) D rfl S F made λh' t fl _ _ up=>?_;have m:s1.heap.UpToSlots h':=(Heap.UpToSlots.of_keeps made.keeps).trans up;exact#[e,Cc,.ref t,H1,_,rfl,I.os,I.bare,fl,jo.raise I rfl rfl rfl fl.1 m,d _ hm]
end
structure HX where
 cls:Str
 slot:Option Nat
 g:Rho->aI
def uQ(K:Fg)(mg:fg)(xt:Str->Str->Option Bool):Prop:=∀c x b,xt c x=some b->∃C a,W.nsIn K mainGlobals c=some (some (.ref C))/\mg c=some (.ref C)/\mg x=some (.ref a) /\
 W.mroIn K a (.type "BaseException")=some true/\W.typeIn K (.ref a)=some (.type "type")/\W.mroIn K C (.ref a)=some b
def qJ(mg:fg)(n:Str)(cv:V):Prop:=(∃C,mg n=some (.ref C)/\cv=.ref C)\/(mg n=none/\n ≠ "__name__" /\ ∃T,bootBuiltins n=some (.type T)/\cv=.ty T)
def FN:V->ba|.ref a=>.ref a|.ty T=>.type T|_=>.none
def uR(K:Fg)(mg:fg)(a:Str->Str->Option Bool):Prop:=∀c n b,a c n=some b->∃C cv,W.nsIn K mainGlobals c=some (some (.ref C))/\DC K C/\qJ mg n cv/\W.kitOne K (.ref C) (FN cv)=some b
def QO{K:Fg}{f:Addr}{N:List Str}{g:Rho->aI}(F:nA K x qual st f fd)(S:j4 N ps (dR st))(a:∀(C:Cw) (cdv:ba),W.codeIn K cdv qual=true->∀(A:di) (outer:List Env) (s:bz) (H:Hp) (E:XK),C.EE=iA mg E->bF k (A.deeper (envOfC qual (dR st) s.heap.objs.size f cdv))->io C (cO (eS P w) P w K mg base N qual (dR st) f cdv A outer s H E) (gZ st) g):bT P w K mg base (eS P w) (k+1) f fd ps (lf K mg ps.length (gm ps.length N.length g)):=by(exists oc,od,kV,aa,pm,an,cdv,ct,O,rfl,L,o,F.ex;refine zG L o S (λvs H Q E h=>h.1) λA outer s H vs Q E V h=>?_;exists Z,F0,ds,sF,G,h,h;have D:ds.length=ps.length:=by rw[<- G.length];exact Z);let C:Cw:=#[K,F0,H,iA mg E];refine#[_,a C cdv o A outer s H E rfl V,eY N.length ds,F0,Fo sF G,?_];unfold gm at h;rw[al D]at h;cases r:g (eY N.length ds)with|nx Y=>rw[r]at h;exact λB F' H' _ R=>h.2 .non F' H' R.st z5 (by nofun)|rt m d=>rw[r]at h;exact λv F' H' s J fr=>h.2 v F' H' s J fr|bk Y|ct Y=>rw[r]at h;exact h.elim|exc c Y=>rw[r]at h;exact λB F' H' _ R u T=>h F' H' u R.st T|stuck=>rw[r]at h;exact h.elim
noncomputable def eZ(Y:Rho)(i:Nat)(r:Res):aI:=match Y[i]? with
 |some (some (true,.lst ds))=>(aG r).thS Y λm d=>match m with|.fz=>if ds.length<sizeLine then .nx (Y.set i (some (true,.lst (ds++[d]))))else .stuck|_=>.stuck
 |_=>.stuck
def uS{r:Res}{m:Md}{d:D}(h:aG r=.ok m d):m=.fz:=by cases r with|ok m' a=>cases m' <;> cases h <;> rfl|exc c|stuck=>cases h
def QP(i:Nat)(N:PE X (.Name x p) (fZ i))(V:PV C X e g)(hs:bQ e=true)(f:ap.endLine=cp.line):ja C X (.Expr (.Call (.Attribute (.Name x p) "append" ap) [e] [] cp) pos) (λY=>eZ Y i (g Y)):=by
 have Z := zP (X := X) (o := .Name x p) (e := e) (es := []) (apos := ap) (cpos := cp) PySem.F.plainAttrs_list PySem.F.slot_list_append PySem.F.type_list_append t8 N (nP (eH V) nO (bW hs)) (lZ rfl) (by
     rw[kC _ _ (λy J=>by simp only[cy,mj,h9]at J;subst J;exact hs)];rfl) (ck.mpr f) (bW hs) rfl
 refine PS.imp (pE Z) λE σ H q=>?_;exists Y,F,R,w,q;dsimp only at w;unfold tQ Dl;cases r:Y[i]? with
 |none=>unfold eZ at w;rw[r]at w;exact w.elim|some o =>
  cases o with
  |none=>unfold eZ at w;rw[r]at w;exact w.elim|some bd =>
   exists b,d0,bd;cases b with
   |false=>unfold eZ at w;rw[r]at w;exact w.elim|true =>
    cases d0 with
    |lst ds =>
     unfold eZ at w;rw[r]at w;dsimp only at w;exists v0,A,B,O,R.slot i true _ r;exists a,ea,T,U,K,G,B;subst ea;refine#[.ref a,A,.inl #[rfl,U,dz.of K],?_];unfold iM;refine iS R w λm d v F' H' W s R' L fr=>?_;cases m with
     |fr|bo=>exact(show False from W).elim|fz =>
     dsimp only at W;split at W
     . rename_i S;have D:H' a=some (.lst U):=s.same _ _ K;refine#[a,U,v,rfl,rfl,D,by rw[G.length];exact S,?_];exact W σ F' _ (aE.refl _) (R'.mut r A #[_,aY,aC.append (G.mono s.fsame _ _) (aC.cons L aC.nil)])
     . exact W.elim
    |_=>unfold eZ at w;rw[r]at w;exact w.elim
def DE(B:Heap)(l:List Env)(e:Addr)(cls a:ba)(h:Heap):Prop:=B.StaysIn h/\B.get? e=none/\h.FunFrames B l/\∃fl,h.TracedAtW B e cls a fl
section
variable{M:Model}{A:di}{E:dc}{B:Heap}{L e:Addr}{cls a:ba}{Q:Unit->bz->Prop}
def QR(J:A.frames=some (env::outer))(hf:env.frame=some L)(hh:DE B (env::outer) e cls a s.heap)(hQ:∀h',Heap.HeldW B (env::outer) e cls a L h'->s.heap.UpToSlots h'->Q () {s with heap:=h'}):wpAny M A (noteFrame (.ref e) env) Q E s:=by
 exists V,K,S,fl,G,hh;by_cases Z:fl=rawInt L
 . subst Z;exact wpAny_noteFrame_againW hf G (hQ s.heap #[V,K,S,G] (Heap.UpToSlots.refl _))
 obtain⟨oe,U,T,oT,ys,q1,⟨q2,q3⟩,O,N,q6,q7,r,m,f⟩:=G;subst q2;unfold noteFrame;simp only[hf];refine bp (mr q1 O N ?_);have n1:(Value.ref T != Value.none)=true:=by simp
 have n2:¬ ((fl==rawInt L)=true):=by rw[ck];exact Z
 rw[al n1];refine bp (mr r m f ?_);rw[a0 n2];exists D,_,qy.mp f;exists F,_,qy.mp N;refine bp (um r m D ?_);generalize hg:s.heap.update T (Obj.mapFields λz=>z.setIfInBounds 3 Value.none)=g;have oth:∀b,b≠T->g.get? b=s.heap.get? b:=λb hb=>by rw[<- hg];exact Cp _ _ (Ne.symm hb)
 have plain:∀b o,s.heap.get? b=some o->(∀z,o.data ≠ .fields z)->g.get? b=some o:=λb o W d=>by rw[oth b (by rintro rfl;rw[r]at W;cases W;exact d ys m)];exact W
 have inB:∀b o,B.get? b=some o->g.get? b=some o:=λb o w=>by rw[oth b (by rintro rfl;rw[q6]at w;cases w)];exact V b o w
 refine wpAny_entryW (s:={s with heap:=g}) J (S.of_keeps λb o W d=>#[o,plain b o W d,rfl]) hf (by show g.get? e=_;rw[oth e (Ne.symm q7)];exact q1) inB K O F q3 λh' hn=>?_
 exists m1,m2,m3,m4,hn;exact hQ h' #[m1,K,m2,m3] λb o W d=>m4 b o (plain b o W d) d
def QS(o:A.frames=some (env::outer))(hf:env.frame=some L)(G:DE B (env::outer) e cls a s.heap)(J:∀h',Heap.FlyingW B outer e cls a h'->s.heap.UpToSlots h'->Q () {s with heap:=h'}):wpAny M A (leaving env (.ref e)) Q E s:=by unfold leaving;refine bp (QR o hf G λN d m=>?_);refine wpAny_landsW (s:={s with heap:=N}) d λK fl f=>?_;exists F,D,r,W,fl;exact J K #[F,D,r.2.2,W] (m.trans f)
end
def FP(P:e7)(w:cw):CXT:=λouter H s E ev s'=>∃(e C:Addr) (a:ba) (H1:Hp) (B:Heap),
 ev=.ref e/\s'.os=s.os/\AllBare s'.gens/\DE B outer e (.ref C) a s'.heap/\jo P w outer H s H1 B s'.heap/\E (.ref C) none H1
section
variable{K:Fg}{N:List Str}{f:Addr}{A:di}{E:XK}
def QT(o:C.EE=iA mg E):nk (FP P w) C (cO (eS P w) P w K mg base N qual scope f cdv A outer s H E):=by intro aA σ H1 s1 ev s' I h;exists e,J,D,G,B,rfl,ho,a,fl,r,c,m,d,h;rw[o]at d;refine QS I.ok.frames rfl fl λh' F up=>?_;exact#[e,J,D,G,B,rfl,ho.trans I.os,a,F,r.out I ho a rfl rfl rfl F.1 up,d _ m]
end
end D3
namespace L2
open D3
end L2
namespace D3
end D3
namespace PySem
open PySem.Sem (wp)
open Builtin
end PySem
namespace L2
end L2
namespace D3
open PySem.Calls
theorem aC.drop{K:Fg}{F:Hp}:∀(n:Nat) {ds:List D}{U:List V},aC K F ds U->aC K F (ds.drop n) (U.drop n)|0,_,_,h=>h|n+1,[],U,h=>by simp only[aC]at h;subst h;simp[aC]|n+1,d::ds,U,h=>by simp only[aC]at h;exists v,vs,rfl,_,t,h;exact aC.drop n t
theorem aC.take{K:Fg}{F:Hp}:∀(n:Nat) {ds:List D}{U:List V},aC K F ds U->aC K F (ds.take n) (U.take n)|0,_,_,_=>by simp[aC]|n+1,[],U,h=>by simp only[aC]at h;subst h;simp[aC]|n+1,d::ds,U,h=>by simp only[aC]at h;exists v,vs,rfl,r,t,h;simp only[List.take_succ_cons,aC];exact#[v,_,rfl,r,aC.take n t]
def eK(U:List D)(lo hi:Option Int):List D:=(U.drop (HT.sIx U.length 0 lo)).take (HT.sIx U.length U.length hi-HT.sIx U.length 0 lo)
def aC.cut{K:Fg}{F:Hp}(h:aC K F ds U)(lo hi:Option Int):aC K F (eK ds lo hi) (iO U lo hi):=by unfold eK iO;rw[h.length];exact(h.drop _).take _
def oC(n:Nat)(lo hi:Option Int):Bool:=HT.sIx n 0 lo==0&&HT.sIx n n hi==n
noncomputable def js(x:Res)(lo hi:Option (Rho->Res))(Y:Rho):Res:=x.thn λm d=>match d with|.lst ds=>fJ lo Y λl=>fJ hi Y λh=>.ok .fr (.lst (eK ds l h))|.tup ds=>fJ lo Y λl=>fJ hi Y λh=>if(oC ds.length l h&&m != .fz)=true then .stuck else .ok .fz (.tup (eK ds l h))|_=>.stuck
section
variable{a:Expr}
def QU{lo hi:Option Expr}{gl G:Option (Rho->Res)}(ha:PV C X a ga)(V:BD C X lo gl)(Z:BD C X hi G):PV C X (.Subscript a (.Slice lo hi none p2) pos) (λY=>js (ga Y) gl G Y):=by refine PE.imp (NO (N1.or (NP.or Qo)) ha (E8 V) (E8 Z)) λσ H Q q=>?_;unfold E0;rw[aV]at q ⊢;exists Y,F,R,w,q;(try dsimp only at w);refine#[Y,F,R,?_];cases O:ga Y with|stuck|exc c=>rw[O]at w;exact w|ok m d=>rw[O]at w;intro v F1 H1 s1 rp _;cases d with|lst ds=>have K:aX (C.at X) F1 H1 σ (fJ gl Y λl=>fJ G Y λh=>.ok .fr (.lst (eK ds l h))) Q:=aX.step s1 w;refine pU (R.step s1) K λl F2 H2 B R2 J=>pU R2 J λh L T S r W=>.inl ?_;exists p,U,rfl,E,o,((rp.step B).step S).seqL r.sub;exact#[p,U,rfl,E,λD f=>W (.ref D) L _ (aJ.fresh _ r.sub f) #[D,rfl,r.sub.free f,_,aY,o.cut l h] λ_ a ea=>by cases ea;exact f]|tup ds=>((have K:aX (C.at X) F1 H1 σ (fJ gl Y λl=>fJ G Y λh=>if(oC ds.length l h&&m != .fz)=true then .stuck else .ok .fz (.tup (eK ds l h))) Q:=aX.step s1 w;refine pU (R.step s1) K λl F2 H2 B R2 J=>pU R2 J λh L T S r W=>.inr ?_;exists p,U,rfl,E,o,((rp.step B).step S).seqT r.sub;have N:oC ds.length l h=true↔HT.sIx U.length 0 l=0/\HT.sIx U.length U.length h=U.length:=by rw[o.length];unfold oC;simp);cases A:oC ds.length l h with|true=>(cases m with|fz=>rw[A,a0 (by decide)]at W;(have e:=N.mp A;have ec:eK ds l h=ds:=by unfold eK;rw[<- o.length,e.1,e.2,o.length,Bc,Nat.sub_zero];exact CC);rw[ec]at W;exact .inr #[p,U,rfl,E,e,W (.ref p) L T (.refl r.sub) ((rp.step B).step S) (by nofun)]|fr|bo=>rw[A,al (by decide)]at W;exact W.elim)|false=>rw[A,a0 (by simp)]at W;refine .inl #[p,U,rfl,E,λz=>?_,λD f=>W (.ref D) _ _ (aJ.laid (.tup (iO U l h)) r.sub f) (aB.tup_of (r.sub.free f) (o.cut l h)) (by nofun)];rw[N.mpr z]at A;cases A)|_=>exact(show False from w).elim
end
def cB(kvs:List (Key×D))(k:Key):Option D:=(kvs.find? λkv=>decide (kv.1=k)).map (·.2)
theorem aR.val{K:Fg}{F:Hp}:∀{kvs:List (Key×D)}{U:List (Key×V)} (k:Key),aR K F kvs U->match cB kvs k with|some d=>∃v,d9 U k=some v/\aB K F d v|none=>d9 U k=none
 |[],U,k,h=>by simp only[aR]at h;subst h;rfl|(a,d)::kvs,U,k,h=>by simp only[aR]at h;exists y,ys,rfl,r,t,h;by_cases e:a=k;{(have E:cB ((a,d)::kvs) k=some d:=by simp[cB,ft,e]);rw[E];exact#[y,t9 e,r]};(have E:cB ((a,d)::kvs) k=cB kvs k:=by simp[cB,ft,e]);rw[E,uA (p:=(a,y)) e];exact aR.val k t
def DF:R2:=λx y H Q=>∃a v,x=.ref a/\iP H a y (some v)/\Q v H
def QV(m:X.A.units+1<cLine):mn X DF:=by
 intro value slice aA s σ H x y v u Q I rx ry h hsub;exists a,W,rfl,g,q,h;cases(show v=Value.ref a from rx)
 have d:s.TypeIs (.ref a) "dict":=Oe I g;unfold subscriptTail;refine bp ?_;rw[Cr d.not_modules];refine bp (qd d PySem.F.slot_dict_getitem.lookup ?_);have f:wpAny (model X.prog X.w) X.A (subscripted slice false (.ref a) u) (λr S=>wpAny (model X.prog X.w) X.A (letTemporaryGo value (.ref a) r>>=λ_=>pure r) (EP X aA σ Q) X.xe S) X.xe s:=by rw[hsub];exact Cs (Ob m I g ry λz S o rz=>bp (Ct (ci #[W,H,o,rz,q])))
 first
  |exact ci (bp f)
  |exact bp (ci (bp f))
  |exact bp f
def qo:Md->D->Md->D->Option (Md×D):=λ_ x _ y=>match x,hU y with|.dct kvs,some k|.dcf kvs,some k=>(cB kvs k).map λd=>(.fz,d)|_,_=>none
def QW{K:Fg}{F:Hp}{m n:Md}{kvs:List (Key×D)}{k:Key}{u:V}(s:aE F H)(d:Rp K F H m (.dcf kvs) v)(f:Rp K F H n y u)(E:hU y=some k):∃a U,v=.ref a/\aR K F kvs U/\iP H a u (d9 U k):=by cases m with|fz=>have d:aB K F (.dcf kvs) v:=d;simp only[aB]at d;exists a,o,U,rfl,hf,r,d;exact#[a,U,rfl,r,.inl #[U,k,.inr #[o,s _ _ hf],nY E f,rfl]]|fr|bo=>exists a,_,_,q,d;exact q.elim
def uT{K:Fg}{F:Hp}{m n:Md}{kvs:List (Key×D)}{k:Key}{u:V}(s:aE F H)(f:Rp K F H m (.dct kvs) v)(r:Rp K F H n y u)(E:hU y=some k):∃a U,v=.ref a/\H a=some (.dK U)/\aR K F kvs U/\iP H a u (d9 U k):=by exists a,U,rfl,d,rk,f.dict s;exact#[a,U,rfl,d,rk,.inl #[U,k,.inl d,nY E r,rfl]]
section
variable{a:Expr}
def nl(neg:Bool):Md->D->Md->D->Option (Md×D):=λ_ x _ y=>match hU x,y with|some k,.dct kvs=>some (.fz,.bl (if neg then !(cB kvs k).isSome else(cB kvs k).isSome))|_,_=>none
def FQ{K:Fg}{F:Hp}{kvs:List (Key×D)}{U:List (Key×V)}(k:Key)(h:aR K F kvs U):(d9 U k).isSome=(cB kvs k).isSome:=by have:=aR.val k h;cases e:cB kvs k with|none=>rw[e]at this;have this:d9 U k=none:=this;rw[this];rfl|some d=>rw[e]at this;exists v,ev,_,this;rw[ev];rfl
def FR(f:X.A.units+1<cLine):ez C X (compareOp .In) (nl false):=by refine#[λx y H Q=>∃a o,y=.ref a/\iP H a x o/\Q (.bl o.isSome) H,?_,?_];{intro aA s σ H x y v u Q I rx ry h;exists a,o,rfl,g,q,h;cases(show u=Value.ref a from ry);exact Dm f I g rx λS r=>#[.bl o.isSome,H,r,rfl,q]};intro F H m x n y v u k d Q s rx ry e w;unfold nl at e;split at e;{rename_i K kvs E;cases e;exists p,U,rfl,B,rk,g,uT s ry rx E;exact#[p,_,rfl,g,by rw[FQ K rk];exact w _ F H (.refl s) (cJ _) (by nofun)]};cases e
def FS(f:X.A.units+1<cLine):ez C X (compareOp .NotIn) (nl true):=by refine#[λx y H Q=>∃a o,y=.ref a/\iP H a x o/\Q (.bl (!o.isSome)) H,?_,?_];{intro aA s σ H x y v u Q I rx ry h;exists a,o,rfl,g,q,h;cases(show u=Value.ref a from ry);exact Oc f I g rx λS r=>#[.bl (!o.isSome),H,r,rfl,q]};intro F H m x n y v u k d Q s rx ry e w;unfold nl at e;split at e;{rename_i K kvs E;cases e;exists p,U,rfl,B,rk,g,uT s ry rx E;exact#[p,_,rfl,g,by rw[FQ K rk];exact w _ F H (.refl s) (cJ _) (by nofun)]};cases e
end
def oD(kvs:List (Key×D))(k:Key)(d:D):List (Key×D):=if(kvs.any λkv=>decide (kv.1=k))=true then kvs.map (λkv=>if kv.1=k then(kv.1,d)else kv)else kvs++[(k,d)]
theorem aR.keys{K:Fg}{F:Hp}:∀{kvs:List (Key×D)}{U:List (Key×V)},aR K F kvs U->U.map (·.1)=kvs.map (·.1)|[],U,h=>by simp only[aR]at h;subst h;rfl|(k,d)::kvs,U,h=>by simp only[aR]at h;exists y,ys,rfl,_,t,h;simp[aR.keys t]
theorem aR.snoc{K:Fg}{F:Hp}{k:Key}{d:D}{v:V}(r:aB K F d v):∀{kvs:List (Key×D)}{U:List (Key×V)},aR K F kvs U->aR K F (kvs++[(k,d)]) (U++[(k,v)])|[],U,h=>by simp only[aR]at h;subst h;simp only[ow,aR];exact#[v,[],rfl,r,rfl]|(f,m)::kvs,U,h=>by simp only[aR]at h;exists y,ys,rfl,a,t,h;simp only[ou,aR];exact#[y,_,rfl,a,aR.snoc r t]
theorem aR.repl{K:Fg}{F:Hp}{k:Key}{d:D}{v:V}(r:aB K F d v):∀{kvs:List (Key×D)}{U:List (Key×V)},aR K F kvs U->aR K F (kvs.map λkv=>if kv.1=k then(kv.1,d)else kv) (U.map λkv=>if kv.1=k then(kv.1,v)else kv)|[],U,h=>by simp only[aR]at h;subst h;simp[aR]|(m,o)::kvs,U,h=>by simp only[aR]at h;exists y,ys,rfl,f,t,h;have a:=aR.repl (k:=k) r t;by_cases e:m=k;{simp only[cu,e,ot,aR];exact#[v,_,rfl,r,a]};simp only[cu,e,ji,aR];exact#[y,_,rfl,f,a]
def aR.put{K:Fg}{F:Hp}{k:Key}{d:D}{kvs:List (Key×D)}{U:List (Key×V)}(h:aR K F kvs U)(r:aB K F d v):aR K F (oD kvs k d) (dI U k v):=by(have e:(U.any λkv=>decide (kv.1=k))=(kvs.any λkv=>decide (kv.1=k)):=by(have:=h.keys;have a:∀{f:Type} (l:List (Key×f)),(l.any λkv=>decide (kv.1=k))=(l.map (·.1)).any (λx=>decide (x=k)):=λl=>by rw[List.any_map];rfl);rw[a,a,this]);unfold oD dI;rw[e];split;{exact aR.repl r h};exact aR.snoc r h
def aR.len{K:Fg}{F:Hp}{kvs:List (Key×D)}{U:List (Key×V)}(h:aR K F kvs U):U.length=kvs.length:=by have:=congrArg List.length h.keys;simpa using this
section
variable{a b:Expr}
def QX(D:X.A.units+1<cLine)(ha:PV C X a ga)(G:PV C X b gb)(hs:nQ b):PV C X (.Subscript a b pos) (λY=>bv qo (ga Y) (gb Y)):=by refine PE.imp (tZ (QV D) ha G hs) λσ H Q q=>lN (λF H m x n y v u k d Q s B o e w=>?_) q;unfold qo at e;split at e;{rename_i kvs K f;exists p,U,rfl,L,rk,g,uT s B o f;cases E:cB kvs K with|none=>rw[E]at e;cases e|some J=>rw[E]at e;cases e;have:=aR.val K rk;rw[E]at this;exists V,ev,r,this;rw[ev]at g;exact#[p,V,rfl,g,w V F H (.refl s) r (by nofun)]};{rename_i kvs K f;exists p,U,rfl,rk,g,QW s B o f;cases E:cB kvs K with|none=>rw[E]at e;cases e|some J=>rw[E]at e;cases e;have:=aR.val K rk;rw[E]at this;exists V,ev,r,this;rw[ev]at g;exact#[p,V,rfl,g,w V F H (.refl s) r (by nofun)]};cases e
def QY{op:CmpOp}(ho:op=if neg then .NotIn else .In)(d:X.A.units+1<cLine)(ha:PV C X a ga)(m:PV C X b gb)(f:behindInMarks op b=false):PV C X (.Compare a [op] [b] pos) (λY=>bv (nl neg) (ga Y) (gb Y)):=by cases neg with|false=>subst ho;exact j8 (FR d) ha m f|true=>subst ho;exact j8 (FS d) ha m f
end
open PySem.SeqAt PySem.MeetsSeq
def QZ{M:Model}{A:di}{E:dc}{a:Type}{r:Std.Legacy.Range}{f:Nat->a->Sem (ForInStep a)}{b:a}{Q:a->bz->Prop}(h:wpAny M A (forIn (List.range' r.start r.size r.step) b f) Q E s):wpAny M A (forIn r b f) Q E s:=by rw[Std.Legacy.Range.forIn_eq_forIn_range'];exact h
theorem Q0(l:Addr)(items:Array ba)(n:Nat)(F:Option Addr)(S:Array (Option ba))(x:ba)(e:ba->Bool)(j:Nat)(J:j<items.size)(hit:e items[j]=true)(f:∀m (G:m<items.size),m<j->e items[m]=false):Meets (Builtin.«tuple.index» #[[.ref l,x],[]]) (λA R s=>s.heap.get? l=some #[.type "tuple",F,.seq items n,S]/\(∀y,y∈items->EqAt A.in1 s y x (e y))/\R (.ok (.ret (.int j s.toks))) {s with toks:=s.toks+1}):=
 .of_wp λprog w A R s h=>by exists hp,g,d,tk,os,s;exists r,B,h,h;wp_walk using wpAny_loadPart' r,QZ;(rw[Nat.min_self];have E:(List.range' (Std.Legacy.Range.start [:items.size]) (Std.Legacy.Range.size [:items.size]) (Std.Legacy.Range.step [:items.size]))=List.range' 0 items.size 1:=by simp[Std.Legacy.Range.size]);rw[E];refine A8 _ (λrest b s'=>b=(none,())/\s'=#[hp,g,d,tk,os]/\∃i,rest=List.range' i (items.size-i) 1/\i<=j) _ ?_ ?_ _ _ #[rfl,rfl,0,rfl,gy _];{rintro y rest b s' ⟨rfl,rfl,i,hr,hi⟩;(have a:i<items.size:=by lia);(have hs:items.size-i=(items.size-(i+1))+1:=by lia);(rw[hs,List.range'_succ]at hr;cases hr;have o:items[y]? = some items[y]:=by simp[a]);dsimp only;rw[o];dsimp only;refine bp (B _ (Array.getElem_mem a) prog w _ _ ?_);by_cases D:y=j;{subst D;rw[hit,al rfl];wp_walk;exact#[_,rfl,h]};rw[f y a (by lia),a0 fq];exact ci #[rfl,rfl,y+1,rfl,by lia]};rintro b s' ⟨rfl,rfl,i,hr,hi⟩;(have:(List.range' i (items.size-i) 1).length=0:=by rw[<- hr];rfl);simp at this;lia
def d3.plain{a:Addr}(I:L2.Inv X aA σ H s)(h:d3 X.K H a U):∃its:List ba,aO U its/\gX s.heap a its.toArray/\U.length<=sizeLine:=by rcases h with h|⟨o,its,n,hk,hc,hd,hs,hz,r⟩;{exists z,its,r,p,h.ok I.hok;exact#[its,r,p,z]};exact#[its.toList,r,#[o,I.kIn a o hk,hc,hd,n,by simpa using hs],by rw[r.length,lB];exact hz]
def FT(K:Fg)(td ty:TE):TE:=λσ H Q=>td σ H λx H1=>∃a xs0,x=.ref a/\d3 K H1 a xs0/\ty σ H1 λy d=>∃U j,d3 K d a U/\fF y=true/\U.all fF=true/\U.findIdx? (λz=>lb z y)=some j/\Q (.int (j:Nat)) d
theorem FU{y:V}:∀{U:List V}{us:List ba},aO U us->U.all fF=true->us.findIdx? (iy y)=U.findIdx? λz=>lb z y|_,_,.nil,_=>rfl|z::U,u::us,.cons r t,f=>by rw[jk,cc]at f;rw[qh,qh,t7 r f.1,FU t f.2]
section
variable{o:Expr}{ty:TE}
def Q1(ho:PE X o td)(he:PE X e ty)(m:M1 X o "index" apos e cpos):PE X (.Call (.Attribute o "index" apos) [e] [] cpos) (FT X.K td ty):=by
 intro aA s σ H Q I h;refine CF m.base m.few m.line PySem.F.plainAttrs_tuple PySem.F.slot_tuple_index PySem.F.type_tuple_index (thn (ho aA s σ H _ I h) λu Z E=>?_);exists x,H1,T,rx,a,V,rfl,hq,q1,E;cases(show u=Value.ref a from rx)
 obtain⟨D,_,⟨O,N,c0,d0,_⟩,_⟩:=d3.plain T hq;refine#[#[O,N,c0],λb eb=>by cases eb;exact#[O,N,d0],?_]
 rw[m.trees];refine A5 rfl (A6 (rc (thn (he aA Z σ H1 _ T q1) λiv s2 d=>AX ?_)));exists y,H2,S,ry,U,j,f,fy,fs,G,q2,d;obtain⟨its,r,⟨⟨cls,dd,data,W⟩,J,co,_,n,L⟩,E⟩:=d3.plain S f;simp only at co L;subst co L;rw[<- FU r fs]at G;exists jl,hit,A,List.findIdx?_eq_some_iff_getElem.mp G
 exact call_meets PySem.F.slot_tuple_index #[_,J,rfl] PySem.F.entry_tuple_index (PySem.F.args_tuple_index_2 _ _) (Q0 a its.toArray n dd W iv (iy y) j (by simpa using jl) (by simpa using hit) (λk hk B=>by
  have:=A k B
  simpa using this)) #[J,λw hw=>lJ ry fy r fs w (by simpa using hw),#[.int (j:Nat),H2,S.tok _,#[_,rfl],q2]]
end
def oE(o r:Res):Res:=o.thn λ_ d=>match d with
 |.tup ds=>r.thn λ_ y=>if(cF y&&ds.all cF)=true then(match ds.findIdx? (λz=>jr z y)with|some j=>.ok .fz (.int (j:Nat))|none=>.stuck)else .stuck
 |_=>.stuck
theorem FW{y:D}(a:cF y=true):∀{ds:List D},ds.all cF=true->(ds.map kf).findIdx? (λz=>lb z (kf y))=ds.findIdx? λz=>jr z y|[],_=>rfl|d::ds,h=>by rw[jk,cc]at h;rw[cu,qh,qh,Fz h.1 a,FW a h.2]
section
variable{o:Expr}{go:Rho->Res}
def Q2(ho:PV C X o go)(L:PV C X e g)(m:M1 X o "index" apos e cpos):PV C X (.Call (.Attribute o "index" apos) [e] [] cpos) (λY=>oE (go Y) (g Y)):=by refine PE.imp (Q1 ho L m) λσ H Q q=>?_;unfold FT;rw[aV]at q ⊢;exists Y,F,R,w,q;(try dsimp only at w);refine#[Y,F,R,?_];cases E:go Y with|stuck|exc c=>rw[E]at w;exact w|ok m d=>rw[E]at w;intro v F1 H1 s1 rp _;cases d with|tup ds=>((exists a,U,rfl,B,J,rp.seqT s1.sub;refine#[a,U,rfl,B,?_];rw[aV];refine#[Y,F1,R.step s1,?_];have f:aX (C.at X) F1 H1 σ ((g Y).thn λ_ y=>if(cF y&&ds.all cF)=true then(match ds.findIdx? (λz=>jr z y)with|some j=>.ok .fz (.int (j:Nat))|none=>.stuck)else .stuck) Q:=aX.step s1 w);cases D:g Y with|stuck|exc c=>rw[D]at f;exact f|ok n y=>rw[D]at f;intro u N G S r _;have W:=aX.step S f;simp only[Res.thn]at W;split at W;{rename_i hf;rw[cc]at hf;have A:d3 X.K G a U:=aE.seqT S.same B;have ev:=qA hf.1 r;have es:=qB hf.2 J;subst ev;subst es;split at W;{rename_i j ej;exact#[_,j,A,qC hf.1,qD hf.2,by rw[FW hf.1 hf.2];exact ej,W _ N G (.refl S.sub) (fG _) (by nofun)]};exact W.elim};exact W.elim)|_=>exact(show False from w).elim
end
def f9(kb:List (Key×D)):List (Key×D)->Option Bool|[]=>some true|(k,d)::r=>match cB kb k with|none=>some false|some e=>(match aU d,aU e with|some p,some q=>if(gN p&&gN q)=true then(f9 kb r).map λb=>PyData.eqv p q&&b else none|_,_=>none)
theorem FX{aA:eh}{σ:L2.St}{F H:Hp}{s:bz}(hu:X.A.units+64<cLine)(I:L2.Inv X aA σ H s)(sF:aE F H){kb:List (Key×D)}{ys:List (Key×V)}{S:List (Key×ba)}(rb:aR X.K F kb ys)(f:KV ys S):∀{o:List (Key×D)}{U:List (Key×V)}{m:List (Key×ba)}{r:Bool},aR X.K F o U->KV U m->f9 kb o=some r->W.KeqHits X.A.in1 s S m r|[],U,m,r,h,kv,e=>by simp only[aR]at h;subst h;cases kv;cases e;exact .nil|(k,d)::o,U,m,r,h,kv,e=>by simp only[aR]at h;exists y,aa,rfl,ry,t,h;cases kv with|cons h1 t1=>rename_i q1 ae;exists k1,Z,q1;exists e1,r1,h1;dsimp only at e1 r1;subst e1;unfold f9 at e;have a:=aR.val k rb;have B:=f.val k;cases eg:cB kb k with|none=>rw[eg]at e a;cases e;have a:d9 ys k=none:=a;rw[a]at B;exact .miss (cU.none_of B)|some ee=>rw[eg]at e a;exists v2,L,E,a;rw[L]at B;exists T,N,G,cU.some_of B;dsimp only at e;split at e;{rename_i p q ep eq;split at e;{rename_i hs;cases O:f9 kb o with|none=>rw[O]at e;cases e|some b=>rw[O]at e;cases e;rw[cc]at hs;have af:=kz hs.1;obtain⟨⟨as,ra⟩,ca⟩:=pV I sF d p y Z ry r1 ep;obtain⟨⟨bs,J⟩,cb⟩:=pV I sF ee q v2 T E G eq;exact .hit N (Cu p q X.A.in1 s Z T as bs ra J ca cb (by show X.A.units+1+min p.depth q.depth<cLine;have:=A9 p.depth q.depth;lia)) (FX hu I sF rb f t t1 O)};cases e};cases e
def kG(w:cw)(K:Fg):List (Str×Str)->List DictEntry->Prop|[],es=>es=[]|(z,f)::r,es=>∃t a es',es=#[PyData.keyHash w.params z,.str z t,.ref a]::es'/\W.nsIn K mainGlobals f=some (some (.ref a))/\kG w K r es'
structure jD(w:cw)(K:Fg)(mg:fg)(x:Str)(tb:List (Str×Str)):Prop where
 ex:∃a ob es ep,mg x=some (.ref a)/\K.lookup a=some ob/\ob.ExactDict/\ob.data=.dict es ep/\kG w K tb es.toList
 nd:(tb.map (·.1)).Nodup
theorem kG.pairs{P:e7}{w:cw}{K:Fg}:∀{tb:List (Str×Str)}{es:List DictEntry},kG w K tb es->∃kvs:List (Key×ba),Pairs (cI P w) es kvs/\kvs.map (·.1)=tb.map (λp=>.inr p.1)/\(∀e∈es,∃k,(cI P w).is k e.key=true/\e.hash=(cI P w).hash k)/\∀z f,tb.lookup z=some f->∃a,valueAt kvs (.inr z)=some (.ref a)/\W.nsIn K mainGlobals f=some (some (.ref a))|[],es,h=>by have h:es=[]:=h;subst h;refine#[[],.nil,rfl,λe h=>?_,λz f h=>?_];{cases h};cases h|(z,f)::r,es,h=>by(exists t,a,G,rfl,hn,E,h;exists kvs,p1,p2,D,B,kG.pairs (P:=P) E;have o:(cI P w).is (.inr z) (.str z t)=true:=by show Value.isStrOf z (.str z t)=true;simp[Value.isStrOf]);refine#[(.inr z,.ref a)::kvs,.cons o rfl p1,by simp[p2],λe m=>?_,λZ F d=>?_];{rcases cy.mp m with rfl|m;{exact#[.inr z,o,rfl]};exact D e m};rw[h7]at d;unfold valueAt;by_cases e:Z=z;{subst e;rw[nv]at d;cases d;exact#[a,by simp[ft],hn]};have:(Z==z)=false:=lz.mpr e;rw[this]at d;exists J,q1,A,B Z F d;refine#[J,?_,A];unfold valueAt at q1;simp[ft];simpa[Ne.symm e]using q1
abbrev DG:=List (Str×Str)
abbrev Q3:=List Str
def kH(tb:List (Str×Str))(r:Res):Res:=r.thn λ_ d=>match d with
 |.str z=>(match tb.lookup z with|some f=>.ok .fz (.fn f)|none=>.stuck)
 |_=>.stuck
def qK(Φ:Str->List D->Res)(fs:List Str)(n:Nat)(r:Res)(as:bH):Res:=match r with|.ok .fz (.fn f)=>if fs.contains f=true then aN n (Φ f) as else .stuck|_=>.stuck
section
variable{b:Expr}{es:List Expr}{tb:List (Str×Str)}
def Q4(T:jD X.w X.K X.mg x tb)(hg:Gl X x)(hb:PV C X b gb)(hs:uD b)(hd:(x==("__debug__":Str))=false):PV C X (.Subscript (.Name x p) b pos) (λY=>kH tb (gb Y)):=by
 exists a,ob,es,ep,V,hk,xd,r,te,T.ex;intro aA s σ H Q I h;rw[aV]at h;exists Y,F,R,w,h;have A:=hb aA s σ H (λy B=>∃z f,y=.str z/\tb.lookup z=some f/\∀fa,W.nsIn X.K mainGlobals f=some (some (.ref fa))->Q (.ref fa) B) I (by
  rw[aV];refine#[Y,F,R,?_];cases D:gb Y with
  |stuck|exc c=>rw[D]at w;exact w|ok m d =>
   rw[D]at w;intro v F1 H1 s1 r1 _;have o:aX (C.at X) F1 H1 σ (kH tb (.ok m d)) Q:=aX.step s1 w;unfold kH at o;rw[Res.thn_ok]at o;cases d with|str z=>(dsimp only at o;cases E:tb.lookup z with|none=>rw[E]at o;exact o.elim|some f=>rw[E]at o;refine#[z,f,?_,E,λfa hf=>o (.ref fa) F1 H1 (.refl s1.sub) (by show aB _ _ _ _;simp only[aB];exact#[fa,rfl,hf]) (by nofun)];exact(nY (k:=.inr z) rfl r1))|_=>exact o.elim)
 refine Od PySem.F.slot_dict_getitem.lookup hs (nJ I hg V (thn A λiv S ⟨y,B,J,L,z,f,ey,E,q⟩=>?_) hd);subst ey;exists kvs,p1,p2,O,N,kG.pairs (P:=X.prog) te;have Z:S.heap.get? a=some ob:=J.kIn a ob hk
 have G:S.heap.DictOf (cI X.prog X.w) a kvs:=#[ob,es,ep,Z,xd,r,λe he=>O e (by simpa using he),p1,by
  rw[p2];have:=T.nd;unfold List.Nodup at this ⊢;rw[kS]at this ⊢;exact this.imp λh z=>h (Sum.inr.inj z)]
 exists fa,v1,v2,N z f E;exact#[G.typeIs,wpAny_getItem_of (j5 (k:=.inr z) L) G.mapOf v1 #[.ref fa,B,J.tok _,rfl,q fa v2]]
def Q5{fs:List Str}{Φ:Str->List D->Res}(F:∀f,fs.contains f=true->qk X.prog X.w X.K X.mg X.base CX k f n (Φ f))(hr:bF k X.A)(hx:nk CX (C.at X) X)(hv:PE X (.Name x p) (fZ i))(ha:jm C X (e::es) gs)(he:starEach (e::es) X.env=(false,eval e X.env)::starEach es X.env)(B:(backTo pos (starEach es X.env)).any (·.1)=false):PV C X (.Call (.Name x p) (e::es) [] pos) (λY=>qK Φ fs n (cP Y i) (gs Y)):=by intro aA s σ H Q I h;rw[aV]at h;exists Y,G,R,w,h;unfold qK at w;split at w;rotate_left;{exact w.elim};rename_i f eg;split at w;rotate_left;{exact w.elim};(rename_i hf;exists fa,fd,ps,FF,hm,hk,hb,(F f hf).ex;have T:Y[i]? = some (some (false,.fn f)):=by unfold cP at eg;split at eg;{rename_i d q;cases eg;exact q};{cases eg};cases eg);(exists v,ev,o,_,R.slot i false (.fn f) T;have o:aB X.K G (.fn f) v:=o;simp only[aB]at o;exists a,rfl,na,o;have ea:a=fa:=by have:=k0 I.ok.mod.kin I.ok.mod.glob na;rw[hm]at this;cases this;rfl);subst ea;refine qa (thn (hv aA s σ H (λV H'=>V=.ref a/\H'=H) I #[.ref a,ev,rfl,rfl]) λu s0 ⟨V,H0,O,Z,e1,e2⟩=>?_);subst e1 e2;obtain rfl:u=Value.ref a:=Z;refine Bb (h₀:=X.base) O.ok.mod.kin hk (thn (ha pos aA s0 σ H0 (λvs H1=>lf X.K X.mg n (Φ f) vs H1 Q λu _ H'=>∃c,X.mg c=some u/\C.EE c σ H') O ?_) λus S ⟨vs,H1,J,r,q⟩=>#[J.kIn,uJ FF hr hb (λe s' hc=>hx aA σ H1 S e s' J hc) J r q]) he B;refine#[Y,G,R,?_];cases N:gs Y with|stuck|exc c=>rw[N]at w;exact w|ok U=>rw[N]at w;intro vs F1 H1 S r1;have W:aX (C.at X) F1 H1 σ (aN n (Φ f) (.ok U)) Q:=aX.step S w;unfold aN at W;rw[bH.thn_ok]at W;cases E:dA U with|none=>rw[E]at W;exact W.elim|some ds=>rw[E]at W;dsimp only at W;split at W;{rename_i hn;have L:=r1.fz E;refine#[by rw[L.length];exact hn,F1,ds,S.sub,L,?_];cases ep:Φ f ds with|stuck=>rw[ep]at W;exact W|exc c=>rw[ep]at W;exact λF' H' u st hu=>#[c,hu,W F' H' st]|ok m d=>rw[ep]at W;cases m with|bo=>exact W.elim|fz|fr=>exact#[by decide,W]};exact W.elim
end
def qL:Key->D|.inl i=>.int i|.inr x=>.str x
def iV:Key->Bool|.inl _=>true|.inr x=>decide (x.length<=sizeLine)&&PyData.strOk x
def wz{k:Key}(h:(cI P w).is k u=true):aH (kV k) u:=by cases k with|inl i=>have h:Value.isInt i u=true:=h;cases u <;> simp[Value.isInt]at h;subst h;exact#[_,rfl]|inr x=>have h:Value.isStrOf x u=true:=h;cases u <;> simp[Value.isStrOf]at h;subst h;exact#[_,rfl]
theorem FY{K:Fg}{F:Hp}:∀{kvs:List (Key×D)}{U:List (Key×V)},aR K F kvs U->(kvs.all λkv=>iV kv.1)=true->aC K F (kvs.map λkv=>qL kv.1) (U.map λkv=>kV kv.1)|[],U,h,_=>by simp only[aR]at h;subst h;simp[aC]|(k,d)::kvs,U,h,a=>by simp only[aR]at h;exists y,ys,rfl,_,t,h;rw[jk,cc]at a;simp only[cu,aC];refine#[_,_,rfl,?_,FY t a.2];cases k with|inl i=>simp only[qL,aB,kV]|inr x=>have A:(decide (x.length<=sizeLine)&&PyData.strOk x)=true:=a.1;rw[cc,fe]at A;show aB K F (.str x) (.str x);unfold aB;exact#[rfl,A]
def aS.frz{K:Fg}{F:Hp}(R:aS K F0 H0 F H σ Y){d:D}(e:Y[i]? = some (some (true,d))):∃F',aE F F'/\aS K F0 H0 F' H σ (Y.set i (some (false,d))):=by
 exists v,ev,W,hn,R.slot i true d e;exists x,rfl,nx,t,W;exists o,ho,r,t.freeze nx;have sm:aE F (upd F x o):=λb u q=>by rw[aP (bV q nx)];exact q
 have T:i<Y.length:=(lA.mp e).1;refine#[upd F x o,sm,R.st.freeze (hn rfl x rfl) nx ho,λj m O G=>?_,λj k J d2 a N e1 e2 q1 Z=>?_,by rw[mf];exact R.len]
 . by_cases A:j=i;{subst A;rw[nq T]at G;cases G;exact#[.ref x,ev,r,by nofun]};rw[h5 (λz=>A z.symm)]at G;exists V,E,B,L,R.slot j m O G;refine#[V,E,?_,L];cases m with|false=>exact aB.mono sm _ _ B|true=>(exists a,rfl,na,t',B;have ax:a≠x:=λz=>by subst z;exact R.apart j i O d a A G e E ev);refine#[a,rfl,by rw[aP ax];exact na,?_];cases O with|lst ds|dct ds=>exists U,q,f,t';exact#[U,q,f.mono sm _ _]|ins c fs=>exists C,dx,gs,n,q,f,t';exact#[C,dx,gs,n,q,f.mono sm _ _]|set ks=>exists S,q,f,t';exact#[S,q,f]|dtn ds=>exists U,q,f,t';exact#[U,q,f.mono sm _ _]|_=>exact t'.elim
 . have own:∀{j:Nat}{J:D},(Y.set i (some (false,d)))[j]? = some (some (true,J))->Y[j]? = some (some (true,J)):=λ{j J} z=>by
     by_cases A:j=i
     . subst A;rw[nq T]at z;cases z
     . rw[h5 (λy=>A y.symm)]at z;exact z
   exact R.apart j k J d2 a N (own e1) (own e2) q1 Z
def l7(Y:Rho)(i:Nat):aI:=match Y[i]? with|some (some (true,d))=>.nx (Y.set i (some (false,d)))|_=>.stuck
def Q6{g:Rho->aI}(h:io C X sts g):io C X sts (λY=>(l7 Y i).thn g):=by refine ie.imp h λE σ H q=>?_;exists Y,F,R,w,q;dsimp only at w;unfold l7 at w;split at w;{rename_i d e;exists F',sm,r,R.frz e;exact#[_,F',r,bZ.mono sm w]};exact w.elim
def DH(w:cw):List Str->List (Int×ba)->Prop|[],l=>l=[]|x::U,l=>∃t r,l=(hashStr w x,.str x t)::r/\DH w U r
def kI(w:cw):Bool:=w.params.followText "set-order"
def DI(w:cw)(h:Heap)(a:Addr)(U:List Str):Prop:=∃o es ep t,h.get? a=some o/\o.ExactSet/\o.data=.set es ep t/\DH w U es.toList/\U.Nodup/\U.length<scanBound/\t.fits es.size=true/\t.led = !kI w/\(U=[]\/t.plain=false)
def sob(w:cw):Obj:={ cls:=.type "set",dict:=none,data:=.set #[] 0 (.fresh 0 0 (!kI w)) }
def w4(m:Nat):Prop:=m=7\/m=15\/m=31
def Q7(w:cw)(h:Heap)(a:Addr)(U:List Str):Prop:=∃o es ep t,h.get? a=some o/\o.ExactSet/\o.data=.set es ep t/\DH w U es.toList/\U.Nodup/\U.length<scanBound/\t.fits es.size=true/\t.led = !kI w/\(U=[]\/t.plain=false)/\w4 t.mask/\t.dummies = #[]
section
def Wide(h:Heap)(a:Addr)(n:Nat):Prop:=∀o es ep t,h.get? a=some o->o.data=.set es ep t->n<=t.mask
end
noncomputable def gv(x y:Str):Bool:=ltCps x.cps.toList y.cps.toList
def l8{y:Str}:gv x y=true↔x.cps.toList<y.cps.toList:=by unfold gv;rw[ltCps_eq,fe]
def qM(x:Str):gv x x=false:=by cases h:gv x x with|false=>rfl|true=>exact absurd (l8.mp h) (List.lt_irrefl _)
def uU{y:Str}(a:gv x y=true)(b:gv y z=true):gv x z=true:=l8.mpr (List.lt_trans (l8.mp a) (l8.mp b))
def uV{y:Str}(a:gv x y=false)(b:gv y x=false):x=y:=by
 have f:¬ x.cps.toList<y.cps.toList:=λh=>by rw[l8.mpr h]at a;cases a
 have d:¬ y.cps.toList<x.cps.toList:=λh=>by rw[l8.mpr h]at b;cases b
 have e:=List.le_antisymm (List.not_lt.mp d) (List.not_lt.mp f);cases x;cases y;exact congrArg Str.mk (Array.ext' e)
theorem F5:∀{l:List Str}{p:Str},risingS p l=true->∀x∈l,gv x p=false|y::l,p,h,x,hx=>by have h:(!gv y p&&risingS y l)=true:=h;rw[cc,Bh]at h;rcases cy.mp hx with rfl|hx;{exact h.1};have a:=F5 h.2 x hx;cases q:gv x p with|false=>rfl|true=>cases d:gv p y with|true=>rw[uU q d]at a;cases a|false=>have:=uV d h.1;subst this;rw[q]at a;cases a
def sx(w:cw)(l:Addr)(ys:List Str):HO:=.ext λh=>DI w h l ys
theorem F6:∀{ys:List Str}{us:List ba},StrsAre us ys->aO (ys.map V.str) us|[],_,.nil=>.nil|_::ys,_,.cons y t h=>.cons #[t,rfl] (F6 h)
def F7:bootBuiltins "sorted"=some (.builtin "sorted"):=by decide +kernel
def pa:List D->Option (List Str)|[]=>some []|.str x::ds=>(pa ds).map (x :: ·)|_::_=>none
theorem F8{K:Fg}{F:Hp}:∀{ds:List D}{U:List V}{ns:List Str},pa ds=some ns->aC K F ds U->U=ns.map V.str/\∀x∈ns,x.length<=sizeLine/\PyData.strOk x=true|[],U,ns,e,r=>by cases e;simp only[aC]at r;subst r;exact#[rfl,λx hx=>by cases hx]|d::ds,U,ns,e,r=>by cases d with|str x=>(simp only[pa]at e;cases q:pa ds with|none=>rw[q]at e;cases e|some ms=>rw[q]at e;cases e;simp only[aC]at r;exists v,vs,rfl,a,f,r;exists rfl,o,F8 q f;simp only[aB]at a;exists rfl,A,a;exact#[rfl,λy m=>(cy.mp m).elim (λe=>by subst e;exact A) (o y)])|_=>cases e
theorem F9{K:Fg}{F:Hp}:∀{ns:List Str},(∀x∈ns,x.length<=sizeLine/\PyData.strOk x=true)->aC K F (ns.map .str) (ns.map V.str)|[],_=>by simp[aC]|x::ns,h=>by simp only[cu,aC,aB];exact#[_,_,rfl,#[rfl,h x cj],F9 λy a=>h y (cs a)]
def Q8(Y:Rho):Prop:=∀(i:Nat) (m:Bool) (d:D),Y[i]? = some (some (m,d))->m=false
def AR(K:Fg)(w:cw)(b:Bool)(d:Addr)(F:Hp)(zs:List D)(o:HO):Prop:=match b with|true=>∃ys,o=.lst ys/\aC K F zs ys|false=>∃(ns ys:List Str),zs=ns.map .str/\o=sx w d ys/\ys.Nodup/\ys.length<=ns.length/\(∀x,x∈ys↔x∈ns)/\∀x∈ns,x.length<=sizeLine/\PyData.strOk x=true
open PySem.W
section
variable{lt:Nat->Nat->Bool}{cmp:Nat->Nat->(Bool->bz->Prop)->bz->Prop}{J:bz->Prop}
def Q9(lt:Nat->Nat->Bool)(p:Array Nat)(b:Nat):Prop:=∀i j,i<j->j<b->lt (p.getD i 0) (p.getD j 0)=true
def iW(n:Nat)(lt:Nat->Nat->Bool)(cmp:Nat->Nat->(Bool->bz->Prop)->bz->Prop)(J:bz->Prop):Prop:=∀i j s C,i<n->j<n->J s->(∀s',J s'->C (lt i j) s')->cmp i j C s
end
def qN(d:α):∀(l:List α),(List.range l.length).map (λi=>l.getD i d)=l:=λl=>by apply CG;{simp};intro i h1 h2;simp at h1;simp[h1]
theorem uW{α:Type}{K:Fg}{F:Hp}{f:α->D}{g:α->V}:∀{q:List α},(∀i∈q,aB K F (f i) (g i))->aC K F (q.map f) (q.map g)|[],_=>aC.nil|i::q,h=>aC.cons (h i cj) (uW λj a=>h j (cs a))
theorem Ga{α:Type}{g:α->V}{u:α->ba}:∀{q:List α},(∀i∈q,aH (g i) (u i))->aO (q.map g) (q.map u)|[],_=>.nil|i::q,h=>.cons (h i cj) (Ga λj a=>h j (cs a))
theorem Gb:∀{U:List V}{us:List ba}{i:Nat},aO U us->i<U.length->aH (U.getD i .non) (us.getD i .none)
 |[],_,i,h,e=>by simp at e|x::U,_,0,h,e=>by cases h with|cons r t=>exact r
 |x::U,_,i+1,h,e=>by cases h with|cons r t=>have:=Gb (i:=i) t (by simpa using e);simpa using this
open PySem.SeqAt PySem.MeetsSeq
def oa(o:Obj):Nat:=match o.data with|.dict _ ep=>ep|_=>0
def DJ(d:Addr)(o:Obj)(U:List (Key×V)):It :=
 #[λi H=>H d=some (.frz o (.dK U))/\i<U.length,λi H x H'=>H'=H/\∃kv,U[i]? = some kv/\x=kV kv.1,λi H=>H d=some (.frz o (.dK U))/\U.length<=i]
def uX{d:Addr}{o:Obj}{U:List (Key×V)}(ok:fj P w H h)(hd:H d=some (.frz o (.dK U))):(d==sysModules)=false/\∃vs,KV U vs/\h.DictAt (cI P w) d vs (oa o):=by(exists g,z,y,vs,r,f,ok d _ hd;exists ep,D,f.dictAt;refine#[y,vs,r,?_];exists O,es,G,c,a,rest,id D;rw[g]at G;cases G;have:oa o=ep:=by unfold oa;rw[a]);rw[this];exact D
def Ra{U:List (Key×V)}{vs:List (Key×ba)}(r:KV U vs){k:Key}{x:ba}(h:vs[i]? = some (k,x)):∃v,U[i]? = some (k,v):=by(have e:=r.keys;have:(U.map (·.1))[i]? = (vs.map (·.1))[i]?:=by rw[e]);rw[gz,gz,h]at this;cases q:U[i]? with|none=>rw[q]at this;cases this|some kv=>rw[q]at this;exists K,v,kv;simp at this;subst this;exact#[v,rfl]
theorem Rb{K:Fg}(d it:Addr)(o:Obj)(U:List (Key×V)):gY P w K tg (DJ d o U) [it] it (λi h=>h.IsKeyIter it d i U.length (oa o)) where
 mem:=by simp
 obj:=λi h st b f=>by(have e:b=it:=by simpa using f);subst e;exists o,e,c,d,st;exact#[o,e,λv z=>by rw[d]at z;cases z]
 keep:=λi h h' st k=>st.at λo e=>k it (by simp) o e
 item:=by intro X D A F S i aA s σ H E I hf st hg;subst D A F;exists hd,O,hg;exists ns,vs,r,N,uX I.hok hd;exists f0,f1,f2,f3,J,G,hf it (by simp);(have L:vs.length=U.length:=r.length.symm;have hx:vs[i]? = some (vs[i]'(by lia)):=by simp[L,O]);exists v,ev,Ra r (k:=(vs[i]'(by lia)).1) (x:=(vs[i]'(by lia)).2) hx;refine wpAny_pyNext_dict_item (k:=(vs[i]'(by lia)).1) (v:=(vs[i]'(by lia)).2) (by rw[L];exact st) N hx λkey h' m a B=>?_;have I1:L2.Inv X aA σ H {s with heap:=h'}:=I.turned (t':=s.toks) (λb o f e=>B.extBut b o f e) f0 f1 f3 J G;rw[L]at a;exists o1,W,c1,Z,id a;exact#[key,rfl,lH (s:={s with heap:=h'}) W c1 Z (by decide) #[_,H,I1,wz m,#[rfl,_,ev,rfl],a,λb f=>(hf b f).1]]
 done:=by intro X D A F S i aA s σ H E I hf st hg;subst D A F;exists hd,O,hg;exists ns,vs,r,N,uX I.hok hd;exists f0,f1,f2,f3,J,G,hf it (by simp);have L:vs.length=U.length:=r.length.symm;exact wpAny_pyNext_dict_end (I.ok.hd S) (by rw[L];exact st) N (by simp;lia) λh' T=>#[rfl,I.turned (t':=s.toks) (λb o f e=>T b o f e) f0 f1 f3 J G]
 self:=λ_ _ _ _ _ st h=>CH st h
end D3
namespace L2
open D3
end L2
namespace D3
abbrev xa(U:Array Nat):Prop:=U.toList.Pairwise (· < ·)
def xb(t:SetTable):Prop:=t.plain=false\/(t.dummies = #[]/\xa t.place)
def xh(w:cw):List Int->List (Int×ba)->Prop|[],l=>l=[]|x::U,l=>∃t r,l=(hashInt x,.int x t)::r/\xh w U r
def Rc(w:cw)(h:Heap)(a:Addr)(U:List Int):Prop:=∃o es ep t,h.get? a=some o/\o.ExactSet/\o.data=.set es ep t/\xh w U es.toList/\U.Nodup/\U.length<scanBound/\t.fits es.size=true/\t.led = !kI w/\xb t
def iX(Y:Rho)(i:Nat)(rk r:Res):aI:=match Y[i]? with
 |some (some (true,.lst ds))=>(aG r).thS Y λm d=>match m with|.fz=>(rk.thS Y λ_ K=>(match K with|.int k=>((match ixN ds.length k with|some j=>.nx (Y.set i (some (true,.lst (ds.set j d))))|none=>.stuck))|_=>.stuck))|_=>.stuck
 |_=>.stuck
theorem aC.set{K:Fg}{F:Hp}:∀{ds:List D}{U:List V}{j:Nat}{d:D}{v:V},aC K F ds U->aB K F d v->aC K F (ds.set j d) (U.set j v)|[],_,_,_,_,h,_=>by simp only[aC]at h;subst h;exact aC.nil|a::ds,_,0,_,_,h,r=>by simp only[aC]at h;exists y,ys,rfl,q,t,h;exact aC.cons r t|a::ds,_,j+1,_,_,h,r=>by simp only[aC]at h;exists y,ys,rfl,q,t,h;exact aC.cons q (aC.set t r)
section
variable{gk:Rho->Res}
def Re(i:Nat)(hv:PE X (.Name x p) (fZ i))(hk:PV C X ke gk)(he:PV C X e g)(L:swapsWith e (some (.Subscript (.Name x p) ke sp)) pos.line X.env=pure false):ja C X (.Assign [.Subscript (.Name x p) ke sp] e pos) (λY=>iX Y i (gk Y) (g Y)):=by
 have h1:PS X (.Assign [.Subscript (.Name x p) ke sp] e pos) (λE σ H=>tG (C.at X) (λY=>aG (g Y)) σ H λv H1=>fZ i σ H1 λo B=>tG (C.at X) gk σ B λk V=>zO o k v V (λT=>E.nx σ T)):=by intro aA s σ H D I h;refine wpAny_Assign_Subscript (thn (eH he aA s σ H _ I h) λr s1 ⟨v,H1,I1,rv,q1⟩=>thn (hv aA s1 σ H1 _ I1 q1) λu S ⟨x,B,I2,rx,q2⟩=>thn (hk aA S σ B _ I2 q2) λiv s3 ⟨y,V,I3,ry,q3⟩=>?_) L;refine thn (NY aA s3 σ V _ _ _ _ _ _ _ I3 rx ry rv q3) λ_ s4 ⟨T,I4,q4⟩=>?_;exact#[σ,T,I4,q4]
 refine PS.imp h1 λE σ H q=>?_;exists Y,F,R,w,q;dsimp only at w;cases f:Y[i]? with
 |none=>unfold iX at w;rw[f]at w;exact w.elim|some o =>
  cases o with
  |none=>unfold iX at w;rw[f]at w;exact w.elim|some bd =>
   exists b,d0,bd;cases b with
   |false=>unfold iX at w;rw[f]at w;exact w.elim|true =>
    cases d0 with
    |lst ds =>
     unfold iX at w;rw[f]at w;dsimp only at w;exists v0,A,K,aa,R.slot i true _ f;exists a,ea,ae,U,hh,Z,K;subst ea;refine iS R w λm d v F' H' G s R' rp fr=>?_;cases m with
     |fr|bo=>exact(show False from G).elim|fz =>
     dsimp only at G;refine#[.ref a,A,?_];refine iS R' G λm2 kd u F2 B W S R2 J _=>?_;cases kd with|int k=>(dsimp only at W;cases O:ixN ds.length k with|none=>rw[O]at W;exact W.elim|some j=>rw[O]at W;dsimp only at W;have N:B a=some (.lst U):=S.same _ _ (s.same _ _ hh);cases J.int;refine#[a,U,k,j,rfl,rfl,N,by rw[Z.length];exact O,?_];exact W σ F2 _ (aE.refl _) (R2.mut f A #[_,aY,aC.set (Z.mono (s.fsame.trans S.fsame) _ _) (aB.mono S.fsame _ _ rp)]))|_=>exact(show False from W).elim
    |_=>unfold iX at w;rw[f]at w;exact w.elim
end
open PySem.Calls
end D3
namespace PySem
open PySem.Sem (wp)
def Rf(a b c:ba):checkTypeCall "range" #[[a,b,c],[]]=pure ():=by kernel_rfl
def Rg(a b c:ba):checkBuiltinCall "range.__new__" #[[.type "range",a,b,c],[]]=pure ():=by kernel_rfl
def Rh(obj a b c:ba):argsOk "object.__init__" #[[obj,a,b,c],[]]:=by unfold argsOk;rw[signature?_of (id:="object.__init__") (n:=['_','_','t','i','n','i','_','_']) (o:=['t','c','e','j','b','o']) (by kernel_rfl) F.owner_object];kernel_rfl
section
variable{A:di}{E:dc}
def Ri{a b c:Int}{t u v:Tok}(d:¬ (some c==some (0:Int))=true)(hp:Builtin.divisionGoesByPylong (b-a) c=false)(h:Q (.ref s.heap.objs.size) { s with heap:=s.heap.push { cls:=.type "range",data:=.fields (List.toArray [.int a t,.int b u,.int c v]) } }):wpAny (model prog w) A (call (.type "range") [.int a t,.int b u,.int c v]) Q E s:=
 callType_new F.called_range (by decide) (Rf _ _ _) (Rg _ _ _) (λobj=>Rh obj _ _ _) F.entry_range_new
  (AutoRange.range___new___type_int_int_int_1 a b c t u v F.called_range.sub d) #[hp,#[_,fo _ rfl,rfl],h]
end
end PySem
namespace L2
def nSt(lo hi c:Int):Nat:=(Builtin.Range.rangeSize lo hi c).toNat
def tu(lo c:Int)(n:Nat):It:=#[λi _=>i<n,λi H x H'=>H'=H/\x=.int (lo+i * c),λi _=>n<=i]
theorem Rj{K:Fg}(it:Addr)(lo c:Int)(n:Nat):gY P w K tg (tu lo c n) [it] it (λi h=>IsRangeIter h it (lo+(i:Nat) * c) ((n:Int)-(i:Nat)) c) where
 mem:=by simp
 obj:=λi h st b a=>by
  have e:b=it:=by simpa using a
  subst e;exact#[_,st,λv z=>by
   have Z:Data.fields _=Data.cell v:=z;cases Z]
 keep:=λi h h' st k=>k it (by simp) _ st
 item:=by intro X m d r f i aA s σ H E I hf st hg;subst m d r;exists f0,f1,f2,f3,A,F,hf it (by simp);have W:=Walks.range (prog:=X.prog) (w:=X.w) (I.ok.hd f) it lo c n;refine W.item i s _ _ hg st λv h' tk B S kk=>?_;exists t,rfl,B;have G:Inv X aA σ H {s with heap:=h',toks:=tk}:=I.turned (λb o a e=>kk b o (by simpa using a) e) f0 f1 f3 A F;exact#[_,rfl,lH (s:={s with heap:=h',toks:=tk}) (n:="range_iterator") S rfl rfl (by decide) #[.int (lo+i * c),H,G,#[t,rfl],#[rfl,rfl],S,λb a=>(hf b a).1]]
 done:=by intro X m d r f i aA s σ H E I hf st hg;subst m d r;exists f0,f1,f2,f3,A,F,hf it (by simp);exact wpAny_pyNext_range_end (I.ok.hd f) st (by have:n<=i:=hg;lia) λh' D=>#[rfl,I.turned (t':=s.toks) (λb o a e=>D b o a e) f0 f1 f3 A F]
 self:=λ_ _ _ _ _ st h=>wpAny_pyIter_rangeiter st h
theorem Rk{lo hi c:Int}(h:0<c):0<=Builtin.Range.rangeSize lo hi c:=by unfold Builtin.Range.rangeSize;rw[al h];split;{have:=Int.ediv_nonneg (show 0<=hi-lo-1 by lia) (show 0<=c by lia);lia};lia
theorem Rl{σ:St}{R:It->Hp->Prop}{E:dc}{lo hi c:Int}{t u v:Tok}{tk:Nat}(I:Inv X aA σ H s)(d:0<c)(hs:Builtin.Range.small lo hi c=true)(q:R (tu lo c (nSt lo hi c)) H):wpAny (model X.prog X.w) X.A (pyIter (.ref s.heap.objs.size)) (u3 X aA σ tg R) E { s with heap:=s.heap.push { cls:=.type "range",data:=.fields (List.toArray [.int lo t,.int hi u,.int c v]) },toks:=tk }:=by
 refine wpAny_pyIter_range (IsRange.new ..) hs ?_;have a:Inv X aA σ H { s with heap:=s.heap.push { cls:=.type "range",data:=.fields (List.toArray [.int lo t,.int hi u,.int c v]) },toks:=tk }:=I.kept λb o e=>hps e
 refine#[(s.heap.push { cls:=.type "range",data:=.fields (List.toArray [.int lo t,.int hi u,.int c v]) }).objs.size,[(s.heap.push { cls:=.type "range",data:=.fields (List.toArray [.int lo t,.int hi u,.int c v]) }).objs.size],_,_,H,rfl,
  a.kept (t':=tk) λb o e=>hps e,Rj _ lo c (nSt lo hi c),?_,λb f=>?_,q]
 . (have r:lo+((0:Nat):Int) * c=lo:=by simp);(have m:((nSt lo hi c:Nat):Int)-((0:Nat):Int)=Builtin.Range.rangeSize lo hi c:=by have:=Rk (lo:=lo) (hi:=hi) d;unfold nSt;lia);show IsRangeIter _ _ (lo+((0:Nat):Int) * c) (((nSt lo hi c:Nat):Int)-((0:Nat):Int)) c;rw[r,m];exact fo _ rfl
 . (have e:b=(s.heap.push { cls:=.type "range",data:=.fields (List.toArray [.int lo t,.int hi u,.int c v]) }).objs.size:=by simpa using f);subst e;exact a.fpOk (dg _) (a.hok.fresh (dg _))
def Gc(ta:TA):TI:=λσ H R=>ta σ H λvs H1=>∃i j c:Int,vs=[.int i,.int j,.int c]/\(0<=i/\i<=1000000/\0<=j+1000/\j<=1000000/\0<c/\c<=1000000)/\R (tu i c (nSt i j c)) H1
theorem Rm{i j c:Int}(h:0<=i/\i<=1000000/\0<=j+1000/\j<=1000000/\0<c/\c<=1000000):Builtin.Range.small i j c=true:=by(have q:0<=(j-i-1) / c\/¬ i<j:=by by_cases a:i<j;{exact .inl (Int.ediv_nonneg (by lia) (by lia))};exact .inr a);have d:i<j->(j-i-1) / c<=j-i-1:=λa=>Int.ediv_le_self _ (by lia);unfold Builtin.Range.small;simp only[Builtin.Range.rangeSize,Builtin.Range.rangeFitsLong,cc,jx,fe,ck,al h.2.2.2.2.1];by_cases a:i<j;{have B:=d a;have f:=q.resolve_right (λz=>z a);simp only[al a];generalize (j-i-1) / c=z at *;lia};simp only[a0 a];lia
theorem Rn{a b d:Expr}{ta:TA}(F:Gl X "range")(E:X.mg "range"=none)(ha:PA X [a,b,d] ta)(hs:starEach [a,b,d] X.env=(false,eval a X.env)::starEach [b,d] X.env)(o:(backTo pos (starEach [b,d] X.env)).any (·.1)=false):PI X tg (.Call (.Name "range" p) [a,b,d] [] pos) (Gc ta):=by intro aA s σ H R I h;refine Call_ (jY I F E boot_range (AV (thn (ha pos aA s σ H _ I h) λus S ⟨vs,H1,G,B,q1⟩=>?_) hs o));exists i,j,c,e,A,q,q1;subst e;cases B with|cons r f=>cases f with|cons D f=>cases f with|cons m f=>cases f;exists t,rfl,r;exists t',rfl,D;exists T,rfl,m;exact Ri (by simp;lia) (PyProof.noPylong_small (by lia)) (Rl G A.2.2.2.2.1 (Rm A) q)
end L2
namespace D3
open PySem.Calls
def jE(lo hi c:Int):List D:=(List.range (nSt lo hi c)).map λ(i:Nat)=>.int (lo+(i:Int) * c)
def kJ(r:bH):Res:=r.thn λU=>match U with|[(_,.int i),(_,.int j),(_,.int c)]=>if(decide (0<=i)&&decide (i<=1000000)&&decide (0<=j+1000)&&decide (j<=1000000)&&decide (0<c)&&decide (c<=1000000))=true then .ok .fz (.lst (jE i j c))else .stuck|_=>.stuck
def Ro{K:Fg}{F:Hp}{lo hi c:Int}:kB K F (tu lo c (nSt lo hi c)) (jE lo hi c) where
 go:=λi H s h=>by simpa[jE,tu]using h
 stop:=λi H s h=>by simpa[jE,tu]using h
 yld:=λi Fc H x H' a S h y=>by(exists rfl,rfl,y;have h':i<nSt lo hi c:=by simpa[jE]using h);refine#[Fc,.int (lo+i * c),?_,.refl S,by simp only[aB]];simp only[jE,gz,ui h',r4]
def iz.three{K:Fg}{F:Hp}{a b c:Md×D}{vs:List V}(h:iz K F H [a,b,c] vs):∃u v w,vs=[u,v,w]/\Rp K F H a.1 a.2 u/\Rp K F H b.1 b.2 v/\Rp K F H c.1 c.2 w:=by exists u,us,rfl,m,f,h;exists v,w,rfl,d,r,iz.two f;exact#[u,v,w,rfl,m,d,r]
def Rq{a b d:Expr}(D:Gl X "range")(B:X.mg "range"=none)(ha:jm C X [a,b,d] gs)(hs:starEach [a,b,d] X.env=(false,eval a X.env)::starEach [b,d] X.env)(o:(backTo pos (starEach [b,d] X.env)).any (·.1)=false):jz C X tg (.Call (.Name "range" p) [a,b,d] [] pos) (λY=>kJ (gs Y)):=by refine PI.imp (Rn D B ha hs o) λσ H R q=>?_;exists Y,F,G,w,q;dsimp only at w;unfold Gc;refine#[Y,F,G,?_];cases E:gs Y with|stuck|exc c=>rw[E]at w;exact w|ok U=>rw[E]at w;intro vs F' H' st rp;unfold kJ at w;rw[bH.thn_ok]at w;split at w;{rename_i J i m2 j m3 c;split at w;{rename_i f;simp only[cc,fe]at f;exists v,u,x,rfl,r,A,m,rp.three;cases r.int;cases A.int;cases m.int;exact#[i,j,c,rfl,#[f.1.1.1.1.1,f.1.1.1.1.2,f.1.1.1.2,f.1.1.2,f.1.2,f.2],w _ F' H' st Ro]};exact w.elim};exact w.elim
theorem bG.is:∀{U:List N}{ys:List V}{us:List ba},(∀x∈U,∀v u,df X.K H x v->aH v u->cz s.heap x u)->bG X.K H U ys->aO ys us->aW s.heap U us|[],ys,us,_,h,r=>by rw[bG]at h;subst h;cases r;rw[aW]|x::U,ys,us,k,h,r=>by rw[bG]at h;exists y,zs,rfl,o,m,h;cases r with|cons d a=>rw[aW];exact#[_,_,rfl,k x cj _ _ o d,bG.is (λz f=>k z (cs f)) m a]
theorem df.is(I:L2.Inv X aA σ H s)(k:N):∀v u,df X.K H k v->aH v u->cz s.heap k u:=by induction k using N.ind with|hi n=>intro v u h r;rw[df]at h;subst h;exists t,rfl,r;rw[cz];exact#[t,rfl]|hs x=>intro v u h r;rw[df]at h;exists rfl,_,hk,h;exists t,rfl,r;rw[cz];exact#[#[t,rfl],hk]|ht U m=>intro v u h r;rw[df]at h;exists a,ys,rfl,A,B,h;cases r;obtain⟨its,f,⟨o,e,c,_,n,d⟩,_⟩:=d3.plain I A;rw[cz];exact#[a,o,its.toArray,n,rfl,e,c,d,by simpa using bG.is m B f]
abbrev KN:=Paired (λ(p:N×Addr×V) (q:N×Addr×ba)=>p.1=q.1/\p.2.1=q.2.1/\aH p.2.2 q.2.2)
def iB(K:Fg)(H:Hp)(kvs:List (N×Addr×V)):Prop:=∀p∈kvs,df K H p.1 (.ref p.2.1)/\p.1.dp<=8
noncomputable def cC(kvs:List (N×Addr×V))(k:N):Option V:=(kvs.find? λp=>decide (p.1=k)).map (·.2.2)
def jF(kvs:List (N×Addr×V))(k:N)(b:Addr)(v:V):List (N×Addr×V):=if(cC kvs k).isSome=true then kvs.map (λp=>if p.1=k then(p.1,p.2.1,v)else p)else kvs++[(k,b,v)]
def qO{p:N×Addr×V}{r:List (N×Addr×V)}{k:N}(e:p.1=k):cC (p::r) k=some p.2.2:=by simp[cC,ft,e]
def qP{p:N×Addr×V}{r:List (N×Addr×V)}{k:N}(e:¬ p.1=k):cC (p::r) k=cC r k:=by simp[cC,ft,e]
def KN.val{U:List (N×Addr×ba)}(r:KN kvs U)(k:N):cU (cC kvs k) ((atKey U k).map (·.2)):=by induction r with|nil=>exact True.intro| @cons p q ps a h t d=>by_cases e:p.1=k;{(have b:atKey (q::a) k=some q.2:=by simp[atKey,ft,h.1.symm.trans e]);rw[qO e,b];exact h.2.2};have E:¬ q.1=k:=λz=>e (h.1.trans z);(have b:atKey (q::a) k=atKey a k:=by simp[atKey,ft,E]);rw[qP e,b];exact d
def KN.repl{U:List (N×Addr×ba)}(r:KN kvs U)(k:N){y:V}(a:aH y u):KN (kvs.map λp=>if p.1=k then(p.1,p.2.1,y)else p) (U.map (putAt k u)):=by induction r with|nil=>exact .nil| @cons p q ps f h t d=>rw[cu,cu];refine .cons ?_ d;unfold putAt;by_cases e:p.1=k;{rw[al e,al (h.1.symm.trans e)];exact#[h.1,h.2.1,a]};rw[a0 e,a0 (λz=>e (h.1.trans z))];exact h
def KN.put{U:List (N×Addr×ba)}(r:KN kvs U)(k:N)(b:Addr){y:V}(a:aH y u):KN (jF kvs k b y) (storedH U k b u):=by(have e:(cC kvs k).isSome=(atKey U k).isSome:=by rw[(r.val k).isSome_eq,ug]);unfold jF storedH;rw[e];by_cases q:(atKey U k).isSome=true;{rw[al q,al q];exact r.repl k a};rw[a0 q,a0 q];exact Paired.snoc r #[rfl,rfl,a]
theorem Rr(kvs:List (N×Addr×V))(k:N)(b:Addr)(v:V):(jF kvs k b v).length<=kvs.length+1:=by unfold jF;split;{rw[du];lia};rw[im];exact dg _
def KN.is{U:List (N×Addr×ba)}{P:N->Addr->Prop}(r:KN kvs U)(h:∀p∈kvs,P p.1 p.2.1):∀x∈U,P x.1 x.2.1:=by induction r with|nil=>intro x hx;cases hx| @cons p q ps f a t d=>intro x hx;rcases cy.mp hx with e|hx;{subst e;have:=h p cj;rw[a.1,a.2.1]at this;exact this};exact d (λp hp=>h p (cs hp)) x hx
def kK{a:Addr}(I:L2.Inv X aA σ H s)(e:Rd H a (.dN kvs))(hk:iB X.K H kvs):kvs.length<=sizeLine/\(a==sysModules)=false/\∃U,KN kvs U/\s.heap.DictOfH (nU X.prog X.w) a U:=by exists z,y,U,r,o,es,ep,B,A,m,f,d,(show bS X.prog X.w H s.heap a (.dN kvs)from e.ok I.hok);exact#[z,y,U,r,o,es,ep,B,A,m,f,KN.is (P:=λk b=>(nU X.prog X.w).is s.heap k b) r λp hp=>#[df.is I _ _ _ (hk p hp).1 rfl,(hk p hp).2],d]
def iC(K:Fg)(H:Hp)(a:Addr)(y:V)(r:Option V):Prop:=∃kvs k b,Rd H a (.dN kvs)/\iB K H kvs/\y=.ref b/\(df K H k (.ref b)/\k.dp<=8)/\r=cC kvs k
def xj(K:Fg)(H:Hp)(a:Addr)(y v:V)(H':Hp):Prop:=∃kvs k b,H a=some (.dN kvs)/\iB K H kvs/\y=.ref b/\(df K H k (.ref b)/\k.dp<=8)/\kvs.length<sizeLine/\H'=upd H a (.dN (jF kvs k b v))
section
variable{a:Addr}{y d:V}{r:ba}{o:Option V}{A:di}{E:dc}
theorem l9(f:A.units+64<cLine):(nU X.prog X.w).room A.in1:=by show A.units+1+8<cLine;lia
def Rs(G:A.units+64<cLine)(I:L2.Inv X aA σ H s)(g:iC X.K H a y (some v))(D:aH y u)(h:∀W s',L2.Inv X aA σ H s'->aH v W->Q W s'):wpAny (model X.prog X.w) A (getItem (.ref a) u) Q E s:=by exists kvs,k,b,e,hk,rfl,kb,l,g;cases D;exists z,hd,U,m,J,kK I e hk;exists W,F,f,cU.some_of (v:=v) (o:=(atKey U k).map (·.2)) (by rw[l];exact m.val k);exists p,hp,B,uf.mp F;refine wpAny_getItem_heap (l9 G) (k:=k) #[df.is I _ _ _ kb.1 rfl,kb.2] J hp ?_;rw[B];exact h W _ (I.tok _) f
def xk(B:A.units+64<cLine)(I:L2.Inv X aA σ H s)(g:iC X.K H a y o)(m:aH y u)(h:∀s',L2.Inv X aA σ H s'->Q (.bool o.isSome) s'):wpAny (model X.prog X.w) A (compareOp .In u (.ref a)) Q E s:=by exists kvs,k,b,e,hk,rfl,kb,l,g;cases m;exists z,hd,U,f,D,kK I e hk;refine wpAny_in_heap (l9 B) (k:=k) #[df.is I _ _ _ kb.1 rfl,kb.2] hd D ?_;have q:=(f.val k).isSome_eq;rw[ug]at q;rw[<- q,<- l];exact h _ (I.tok _)
def Rt(B:A.units+64<cLine)(I:L2.Inv X aA σ H s)(g:iC X.K H a y o)(m:aH y u)(h:∀s',L2.Inv X aA σ H s'->Q (.bool (!o.isSome)) s'):wpAny (model X.prog X.w) A (compareOp .NotIn u (.ref a)) Q E s:=by exists kvs,k,b,e,hk,rfl,kb,l,g;cases m;exists z,hd,U,f,D,kK I e hk;refine wpAny_notIn_heap (l9 B) (k:=k) #[df.is I _ _ _ kb.1 rfl,kb.2] hd D ?_;have q:=(f.val k).isSome_eq;rw[ug]at q;rw[<- q,<- l];exact h _ (I.tok _)
def Ru(G:A.units+64<cLine)(I:L2.Inv X aA σ H s)(g:iC X.K H a y o)(m:aH y u)(B:aH d r)(h:∀W s',L2.Inv X aA σ H s'->aH (o.getD d) W->Q W s'):wpAny (model X.prog X.w) A (call (.builtin "dict.get") [.ref a,u,r]) Q E s:=by exists kvs,k,b,e,hk,rfl,kb,l,g;cases m;exists z,hd,U,f,D,kK I e hk;refine call_meetsIn PySem.F.slot_dict_get D.typeIs PySem.F.entry_dict_get (PySem.F.args_dict_get_3 _ _ _) (meetsH_dict_get_default (nU X.prog X.w) a b hd r) #[l9 G,k,U,#[df.is I _ _ _ kb.1 rfl,kb.2],D,h _ _ (I.tok _) ?_];rw[l];exact(f.val k).getD B
theorem Rv{Q:Unit->bz->Prop}(J:A.units+64<cLine)(I:L2.Inv X aA σ H s)(g:xj X.K H a y v H')(B:aH y u)(F:aH v r)(h:∀s',L2.Inv X aA σ H' s'->Q () s'):wpAny (model X.prog X.w) A (setItem (.ref a) u r) Q E s:=by
 exists kvs,k,b,e,hk,rfl,kb,l,rfl,g;cases B;exists z,hd,U,f,V,kK I (.inl e) hk;have G:U.length<=sizeLine:=by rw[<- pq f];exact z
 have L:(jF kvs k b v).length<=sizeLine:=by have:=Rr kvs k b v;lia
 refine wpAny_setItem_heap (hsz:=G) (l9 J) (k:=k) #[df.is I _ _ _ kb.1 rfl,kb.2] V λh' D hs=>h _ ?_;exists q,es,ep,m,T,S,O,_,N,D;exact pO I (by rw[e];exact True.intro) hs #[q,m] #[L,hd,_,f.put k b F,q,es,ep,m,T,S,O,N]
def Rx(I:L2.Inv X aA σ H s)(g:iC X.K H a y o):s.TypeIs (.ref a) "dict":=by exists kvs,k,b,e,hk,_,g;exists _,_,U,_,D,kK I e hk;exact D.typeIs
end
open PySem.Calls
mutual
def nD:N->D|.i n=>.int n|.s x=>.str x|.t U=>.tup (nDL U)
def nDL:List N->List D|[]=>[]|x::U=>nD x::nDL U
end
mutual
def bA:D->Option N|.int i=>some (.i i)|.str x=>some (.s x)|.tup ds=>(cH ds).map .t|_=>none
def cH:List D->Option (List N)|[]=>some []|d::ds=>match bA d,cH ds with|some k,some ks=>some (k::ks)|_,_=>none
end
def cK(d:D):Option N:=match d with
 |.tup ds=>match cH ds with|some ks=>if(N.t ks).dp<=8 then some (.t ks)else none|none=>none
 |_=>none
section
variable{K:Fg}{F:Hp}
mutual
theorem uY:∀{d:D}{k:N}{v:V},bA d=some k->aB K F d v->df K F k v|.int i,k,v,e,r|.str x,k,v,e,r=>by simp only[bA]at e;cases e;simpa only [aB,df]using r|.tup ds,k,v,e,r=>by simp only[bA]at e;exists ks,E,rfl,uf.mp e;simp only[aB]at r;exists a,U,rfl,m,f,r;rw[df];exact#[a,U,rfl,m,kL E f]|.non,_,_,e,_|.bl _,_,_,e,_|.lst _,_,_,e,_|.dct _,_,_,e,_|.ty _,_,_,e,_|.ob _,_,_,e,_|.ins _ _,_,_,e,_|.fn _,_,_,e,_|.exn _,_,_,e,_|.set _,_,_,e,_|.dtn _,_,_,e,_|.dtf _,_,_,e,_|.dcf _,_,_,e,_|.clo _ _ _,_,_,e,_=>by simp only[bA]at e;cases e
theorem kL:∀{ds:List D}{ks:List N}{U:List V},cH ds=some ks->aC K F ds U->bG K F ks U|[],ks,U,e,r=>by simp only[cH]at e;cases e;simpa only [aC,bG]using r|d::ds,ks,U,e,r=>by simp only[cH]at e;simp only[aC]at r;exists y,ys,rfl,m,f,r;cases E:bA d with|none=>rw[E]at e;cases e|some k=>cases a:cH ds with|none=>rw[E,a]at e;cases e|some o=>rw[E,a]at e;cases e;rw[bG];exact#[y,ys,rfl,uY E m,kL a f]
end
def qQ{d:D}{k:N}{m:Md}(e:cK d=some k)(r:Rp K F H m d v):∃b,v=.ref b/\df K F k (.ref b)/\k.dp<=8:=by unfold cK at e;split at e;{rename_i ds;split at e;{rename_i ks E;split at e;{rename_i hd;cases e;cases m with|fz=>have r:aB K F (.tup ds) v:=r;have h:=uY (k:=.t ks) (by simp only[bA];rw[E];rfl) r;simp only[aB]at r;exists a,U,rfl,_,r;exact#[a,rfl,h,hd]|fr|bo=>exists a,_,_,q,r;exact q.elim};cases e};cases e};cases e
theorem Gd:∀{U:List N}{ys:List V},(∀x∈U,∀v,df K F x v->aB K F (nD x) v)->bG K F U ys->aC K F (nDL U) ys|[],ys,_,h=>by rw[bG]at h;subst h;rw[nDL];exact aC.nil|x::U,ys,k,h=>by rw[bG]at h;exists y,zs,rfl,f,d,h;rw[nDL];exact aC.cons (k x cj y f) (Gd (λz a=>k z (cs a)) d)
def uZ(k:N):∀v,df K F k v->aB K F (nD k) v:=by induction k using N.ind with|hi n|hs x=>intro v h;rw[df]at h;rw[nD];simpa only [aB]using h|ht U d=>intro v h;rw[df]at h;exists a,ys,rfl,f,m,h;rw[nD];simp only[aB];exact#[a,ys,rfl,f,Gd d m]
def bJ(kvs:List (N×D))(k:N):Option D:=(kvs.find? λkv=>decide (kv.1=k)).map (·.2)
def eD(kvs:List (N×D))(k:N)(d:D):List (N×D):=if(bJ kvs k).isSome=true then kvs.map (λkv=>if kv.1=k then(kv.1,d)else kv)else kvs++[(k,d)]
def qR{p:N×D}{r:List (N×D)}{k:N}(e:p.1=k):bJ (p::r) k=some p.2:=by simp[bJ,ft,e]
def qS{p:N×D}{r:List (N×D)}{k:N}(e:¬ p.1=k):bJ (p::r) k=bJ r k:=by simp[bJ,ft,e]
theorem aT.val:∀{kvs:List (N×D)}{U:List (N×Addr×V)} (k:N),aT K F kvs U->match bJ kvs k with|some d=>∃v,cC U k=some v/\aB K F d v|none=>cC U k=none
 |[],U,k,h=>by simp only[aT]at h;subst h;rfl|(a,d)::kvs,U,k,h=>by simp only[aT]at h;exists b,y,ys,rfl,_,r,t,h;by_cases e:a=k;{rw[qR (p:=(a,d)) e];exact#[y,qO (p:=(a,b,y)) e,r]};rw[qS (p:=(a,d)) e,qP (p:=(a,b,y)) e];exact aT.val k t
def aT.hasK{kvs:List (N×D)}{U:List (N×Addr×V)}(k:N)(h:aT K F kvs U):(cC U k).isSome=(bJ kvs k).isSome:=by have:=aT.val k h;cases e:bJ kvs k with|none=>rw[e]at this;dsimp only at this;rw[this];rfl|some d=>rw[e]at this;exists v,ev,_,this;rw[ev];rfl
theorem aT.keys:∀{kvs:List (N×D)}{U:List (N×Addr×V)},aT K F kvs U->iB K F U|[],U,h=>by simp only[aT]at h;subst h;intro p hp;cases hp|(a,d)::kvs,U,h=>by simp only[aT]at h;exists b,y,ys,rfl,q,r,t,h;intro p hp;rcases cy.mp hp with rfl|hp;{exact q};exact t.keys p hp
theorem iB.mono{U:List (N×Addr×V)}(s:aE F F')(h:iB K F U):iB K F' U:=λp hp=>#[df.mono s _ _ (h p hp).1,(h p hp).2]
theorem aT.len:∀{kvs:List (N×D)}{U:List (N×Addr×V)},aT K F kvs U->U.length=kvs.length|[],U,h=>by simp only[aT]at h;subst h;rfl|(a,d)::kvs,U,h=>by simp only[aT]at h;exists b,y,ys,rfl,q,r,t,h;rw[gh,gh,t.len]
theorem aT.repl{k:N}{d:D}(a:aB K F d v):∀{kvs:List (N×D)}{U:List (N×Addr×V)},aT K F kvs U->aT K F (kvs.map λkv=>if kv.1=k then(kv.1,d)else kv) (U.map λp=>if p.1=k then(p.1,p.2.1,v)else p)|[],U,h=>by simp only[aT]at h;subst h;simp only[aT,ll]|(f,m)::kvs,U,h=>by simp only[aT]at h;exists b,y,ys,rfl,q,r,t,h;rw[cu,cu];by_cases e:f=k;{rw[al e,al e];simp only[aT];exact#[b,v,_,rfl,q,a,t.repl a]};rw[a0 e,a0 e];simp only[aT];exact#[b,y,_,rfl,q,r,t.repl a]
theorem aT.snoc{k:N}{d:D}(hk:df K F k (.ref b)/\k.dp<=8)(a:aB K F d v):∀{kvs:List (N×D)}{U:List (N×Addr×V)},aT K F kvs U->aT K F (kvs++[(k,d)]) (U++[(k,b,v)])|[],U,h=>by simp only[aT]at h;subst h;simp only[aT,ow];exact#[b,v,[],rfl,hk,a,rfl]|(f,m)::kvs,U,h=>by simp only[aT]at h;exists B,y,ys,rfl,q,r,t,h;rw[ou,ou];simp only[aT];exact#[B,y,_,rfl,q,r,t.snoc hk a]
def aT.put{k:N}{d:D}{kvs:List (N×D)}{U:List (N×Addr×V)}(hk:df K F k (.ref b)/\k.dp<=8)(r:aB K F d v)(h:aT K F kvs U):aT K F (eD kvs k d) (jF U k b v):=by unfold eD jF;rw[h.hasK k];split;{exact h.repl r};exact h.snoc hk r
def asN:D->Option (List (N×D))|.dtn kvs|.dtf kvs=>some kvs|_=>none
theorem Rp.asN{m:Md}{d:D}{kvs:List (N×D)}(s:aE F H)(r:Rp K F H m d v)(e:asN d=some kvs):∃a U,v=.ref a/\Rd H a (.dN U)/\aT K F kvs U:=by
 cases d with
 |dtn ks=>cases e;cases m with|fz=>have r:aB K F (.dtn kvs) v:=r;simp only[aB]at r;exists a,U,rfl,q,t,r;exact#[a,U,rfl,.inl (s _ _ q),t]|fr|bo=>exists a,rfl,_,U,q,t,r;exact#[a,U,rfl,.inl q,t]
 |dtf ks=>cases e;cases m with|fz=>have r:aB K F (.dtf kvs) v:=r;simp only[aB]at r;exists a,o,U,rfl,q,t,r;exact#[a,U,rfl,.inr #[o,s _ _ q],t]|fr|bo=>exists a,_,_,q,r;exact q.elim
 |_=>cases e
def qT{m n:Md}{x:D}{kvs:List (N×D)}{k:N}{u:V}(s:aE F H)(f:Rp K F H m x v)(ex:D3.asN x=some kvs)(r:Rp K F H n y u)(E:cK y=some k):∃a U,v=.ref a/\Rd H a (.dN U)/\aT K F kvs U/\iC K H a u (cC U k):=by exists a,U,rfl,d,t,Rp.asN s f ex;exists b,rfl,hn,hd,qQ E r;exact#[a,U,rfl,d,t,U,k,b,d,t.keys.mono s,rfl,#[df.mono s _ _ hn,hd],rfl]
end
def DK(K:Fg):R2:=λx y H Q=>∃a v,x=.ref a/\iC K H a y (some v)/\Q v H
def xl(m:X.A.units+64<cLine):mn X (DK X.K):=by
 intro value slice aA s σ H x y v u Q I rx ry h hsub;exists a,W,rfl,g,q,h;cases(show v=Value.ref a from rx)
 have d:=Rx I g;unfold subscriptTail;refine bp ?_;rw[Cr d.not_modules];refine bp (qd d PySem.F.slot_dict_getitem.lookup ?_);have f:wpAny (model X.prog X.w) X.A (subscripted slice false (.ref a) u) (λr S=>wpAny (model X.prog X.w) X.A (letTemporaryGo value (.ref a) r>>=λ_=>pure r) (EP X aA σ Q) X.xe S) X.xe s:=by rw[hsub];exact Cs (Rs m I g ry λz S o rz=>bp (Ct (ci #[W,H,o,rz,q])))
 first
  |exact ci (bp f)
  |exact bp (ci (bp f))
  |exact bp f
noncomputable def eL:Md->D->Md->D->Option (Md×D):=λ_ x _ y=>match asN x,cK y with|some kvs,some k=>(bJ kvs k).map λd=>(.fz,d)|_,_=>none
def e9(neg:Bool):Md->D->Md->D->Option (Md×D):=λ_ x _ y=>match cK x,asN y with|some k,some kvs=>some (.fz,.bl (if neg then !(bJ kvs k).isSome else(bJ kvs k).isSome))|_,_=>none
def mD(a rk r:Res):Res:=a.thn λ_ f=>match asN f with
 |some kvs=>rk.thn λ_ D=>(aG r).thn λm d=>(match m,cK D with|.fz,some k=>.ok .fz ((bJ kvs k).getD d)|_,_=>.stuck)
 |none=>.stuck
noncomputable def fA(Y:Rho)(i:Nat)(rk r:Res):aI:=match Y[i]? with
 |some (some (true,.dtn kvs))=>(aG r).thS Y λm d=>match m with|.fz=>(rk.thS Y λ_ K=>(match cK K with|some k=>if kvs.length<sizeLine then .nx (Y.set i (some (true,.dtn (eD kvs k d))))else .stuck|none=>.stuck))|_=>.stuck
 |_=>.stuck
def xm:TE:=λ_ H Q=>∀p,H p=none->Q (.ref p) (upd H p (.dN []))
def Ge:PE X (.Dict [] [] pos) xm:=λaA s σ H Q I h =>
 wpAny_Dict_empty #[.ref s.heap.objs.size,_,I.laid (a:=s.heap.objs.size) (o:=.dN []) (t':=s.toks) (λ_ _ q=>hps q) (dg _)
  #[gy _,lz.mpr (Ne.symm (gx I.big)),[],.nil,_,#[],0,fo _ rfl,#[rfl,rfl,rfl],rfl,rfl,ml],rfl,h _ (I.hok.fresh (dg _))]
section
variable{a b o f:Expr}{go gf:Rho->Res}
def Ry:PV C X (.Dict [] [] pos) (λ_=>.ok .fr (.dtn [])):=by refine PE.imp Ge λσ H Q q=>?_;rw[aV]at q;exists Y,F,R,w,q;intro p hp;exact w (.ref p) F _ (aJ.fresh _ R.sub hp) #[p,rfl,R.sub.free hp,[],aY,by simp[aT]] λ_ a ea=>by cases ea;exact hp
def Rz(N:X.A.units+64<cLine)(ha:PV C X a ga)(O:PV C X b gb)(hs:nQ b):PV C X (.Subscript a b pos) (λY=>bv eL (ga Y) (gb Y)):=by refine PE.imp (tZ (xl N) ha O hs) λσ H Q q=>lN (λF H m x n y v u k d Q s J G e w=>?_) q;unfold eL at e;split at e;{rename_i kvs K r E;exists p,U,rfl,S,rk,g,qT s J r G E;have B:=aT.val K rk;cases D:bJ kvs K with|none=>rw[D]at e;cases e|some T=>rw[D]at e B;cases e;exists V,ev,L,B;rw[ev]at g;exact#[p,V,rfl,g,w V F H (.refl s) L (by nofun)]};cases e
def Gf(D:X.A.units+64<cLine):ez C X (compareOp .In) (e9 false):=by refine#[λx y H Q=>∃a o,y=.ref a/\iC X.K H a x o/\Q (.bl o.isSome) H,?_,?_];{intro aA s σ H x y v u Q I rx ry h;exists a,o,rfl,g,q,h;cases(show u=Value.ref a from ry);exact xk D I g rx λS G=>#[.bl o.isSome,H,G,rfl,q]};intro F H m x n y v u k d Q s rx ry e w;unfold e9 at e;split at e;{rename_i B kvs r E;cases e;exists p,U,rfl,J,rk,g,qT s ry E rx r;exact#[p,_,rfl,g,by rw[rk.hasK B];exact w _ F H (.refl s) (cJ _) (by nofun)]};cases e
def Gg(D:X.A.units+64<cLine):ez C X (compareOp .NotIn) (e9 true):=by refine#[λx y H Q=>∃a o,y=.ref a/\iC X.K H a x o/\Q (.bl (!o.isSome)) H,?_,?_];{intro aA s σ H x y v u Q I rx ry h;exists a,o,rfl,g,q,h;cases(show u=Value.ref a from ry);exact Rt D I g rx λS G=>#[.bl (!o.isSome),H,G,rfl,q]};intro F H m x n y v u k d Q s rx ry e w;unfold e9 at e;split at e;{rename_i B kvs r E;cases e;exists p,U,rfl,J,rk,g,qT s ry E rx r;exact#[p,_,rfl,g,by rw[rk.hasK B];exact w _ F H (.refl s) (cJ _) (by nofun)]};cases e
def RA{op:CmpOp}(ho:op=if neg then .NotIn else .In)(d:X.A.units+64<cLine)(ha:PV C X a ga)(r:PV C X b gb)(m:behindInMarks op b=false):PV C X (.Compare a [op] [b] pos) (λY=>bv (e9 neg) (ga Y) (gb Y)):=by cases neg with|false=>subst ho;exact j8 (Gf d) ha r m|true=>subst ho;exact j8 (Gg d) ha r m
def u0(H:Hp)(a:Addr):Prop:=∃kvs,Rd H a (.dN kvs)
def qU{a:Addr}(I:L2.Inv X aA σ H s)(d:u0 H a):s.TypeIs (.ref a) "dict" /\ ∀b,Value.ref a=.ref b->∃ob,s.heap.get? b=some ob/\ob.dict=none:=by exists kvs,e,d;exists _,_,U,_,ob,es,ep,r,m,_,(show bS X.prog X.w H s.heap a (.dN kvs)from e.ok I.hok);exact#[#[ob,r,m.1],λb q=>by cases q;exact#[ob,r,m.2.1]]
def Gh(K:Fg)(td ty tx:TE):TE:=λσ H Q=>td σ H λx H1=>∃a,x=.ref a/\u0 H1 a/\ty σ H1 λy m=>tx σ m λz d=>∃o,iC K d a y o/\Q (o.getD z) d
def RB{ty tx:TE}(N:X.A.units+64<cLine)(ho:PE X o td)(O:PE X e ty)(hf:PE X f tx)(m:M2 X o "get" apos e f cpos):PE X (.Call (.Attribute o "get" apos) [e,f] [] cpos) (Gh X.K td ty tx):=by
 intro aA s σ H Q I h;refine CF m.base m.few m.line PySem.F.plainAttrs_dict PySem.F.slot_dict_get PySem.F.type_dict_get (thn (ho aA s σ H _ I h) λu D ⟨x,H1,B,G,a,ex,d,q1⟩=>?_);subst ex;obtain rfl:u=Value.ref a:=G;refine#[(qU B d).1,(qU B d).2,?_];rw[m.trees];refine A5 rfl (A6 (rc (thn (O aA D σ H1 _ B q1) λiv S ⟨y,H2,W,E,L⟩ =>
  rc (thn (hf aA S σ H2 _ W L) λfv s3 ⟨z,Z,V,rz,ov,g,J⟩=>AX ?_))))
 exact Ru N V g E rz λw' s4 T r=>#[_,Z,T,r,J]
def RC(hu:X.A.units+64<cLine)(ho:PV C X o go)(he:PV C X e ge)(hf:PV C X f gf)(m:M2 X o "get" apos e f cpos):PV C X (.Call (.Attribute o "get" apos) [e,f] [] cpos) (λY=>mD (go Y) (ge Y) (gf Y)):=by
 refine PE.imp (RB hu ho he (eH hf) m) λσ H Q q=>?_;unfold Gh;rw[aV]at q ⊢;exists Y,F,R,w,q;refine#[Y,F,R,?_];unfold mD at w;cases ea:go Y with
 |stuck|exc c=>rw[ea]at w;exact w|ok ma da=>rw[ea,Res.thn_ok]at w;intro v F1 H1 s1 r1 _;have r:=aX.step s1 w;cases en:asN da with|none=>rw[en]at r;exact r.elim|some kvs=>rw[en]at r;dsimp only at r;exists a,U,rfl,hh,rk,Rp.asN s1.sub r1 en;refine#[a,rfl,#[U,hh],?_];rw[aV];refine#[Y,F1,R.step s1,?_];cases N:ge Y with|stuck|exc c=>rw[N]at r;exact r|ok mk dk=>rw[N,Res.thn_ok]at r;intro y F2 H2 G r2 _;have D:=aX.step G r;rw[aV];refine#[Y,F2,(R.step s1).step G,?_];cases K:aG (gf Y)with|stuck|exc c=>rw[K]at D;exact D|ok md d=>rw[K,Res.thn_ok]at D;intro z V T S r3 _;have W:=aX.step S D;have hm:md=.fz:=uS K;subst hm;cases E:cK dk with|none=>rw[E]at W;exact W.elim|some k=>rw[E]at W;dsimp only at W;exists a',Z,L,aa,J,g,qT S.sub ((r1.step G).step S) en (r2.step S) E;cases L;refine#[_,g,?_];have B:=aT.val k J;cases O:bJ kvs k with|none=>rw[O]at B W;dsimp only at B;rw[B];exact W z V T (.refl S.sub) r3 (by nofun)|some d'=>rw[O]at B W;exists v',ev,rv,B;rw[ev];exact W v' V T (.refl S.sub) rv (by nofun)
def u4(K:Fg)(td ty tv:TE):TS:=λD σ H=>tv σ H λv H1=>td σ H1 λx m=>ty σ m λy d=>∃a H4,x=.ref a/\xj K d a y v H4/\D.nx σ H4
def Gj{i:Expr}{ty:TE}(L:X.A.units+64<cLine)(ho:PE X o td)(hi:PE X i ty)(J:PE X value tv)(hs:swapsWith value (some (.Subscript o i pos')) pos.line X.env=pure false):PS X (.Assign [.Subscript o i pos'] value pos) (u4 X.K td ty tv):=by intro aA s σ H D I h;refine wpAny_Assign_Subscript (thn (J aA s σ H _ I h) λr d ⟨v,H1,V,E,q1⟩=>thn (ho aA d σ H1 _ V q1) λu S ⟨x,Z,T,B,G⟩=>thn (hi aA S σ Z _ T G) λiv s3 ⟨y,H3,O,m,a,W,ex,g,F⟩=>?_) hs;subst ex;obtain rfl:u=Value.ref a:=B;exact Rv L O g m E λs4 N=>#[σ,W,N,F]
end
section
variable{gk:Rho->Res}
def RD(i:Nat)(V:X.A.units+64<cLine)(T:PE X (.Name x p) (fZ i))(hk:PV C X ke gk)(he:PV C X e g)(G:swapsWith e (some (.Subscript (.Name x p) ke sp)) pos.line X.env=pure false):ja C X (.Assign [.Subscript (.Name x p) ke sp] e pos) (λY=>fA Y i (gk Y) (g Y)):=by
 refine PS.imp (Gj V T hk (eH he) G) λE σ H q=>?_;exists Y,F,R,w,q;dsimp only at w;unfold u4;unfold fA at w;split at w
 . rename_i kvs L;exists v0,f,D,Z,R.slot i true _ L;exists a,ea,aa,U,hh,rk,D;subst ea;refine iS R w λm d v F' H' o s R' N fr=>?_;cases m with
   |fr|bo=>exact(show False from o).elim|fz =>
   dsimp only at o;refine#[.ref a,f,?_];refine iS R' o λm2 O u F2 H2 W S R2 B _=>?_;cases K:cK O with|none=>rw[K]at W;exact W.elim|some k=>rw[K]at W;dsimp only at W;split at W;{rename_i hl;have J:H2 a=some (.dN U):=S.same _ _ (s.same _ _ hh);exists b,rfl,hn,hd,qQ K B;have r:=rk.mono (s.fsame.trans S.fsame) _ _;refine#[a,_,rfl,#[U,k,b,J,r.keys.mono S.sub,rfl,#[df.mono S.sub _ _ hn,hd],by rw[rk.len];exact hl,rfl],?_];exact W σ F2 _ (aE.refl _) (R2.mut L f #[_,aY,aT.put #[hn,hd] (aB.mono S.fsame _ _ N) r])};exact W.elim
 . exact w.elim
end
open PySem.W
structure jb(lt:Nat->Nat->Bool):Prop where
 ntr:∀{i j k},lt i j=false->lt j k=false->lt i k=false
 asy:∀{i j},lt i j=true->lt j i=false
def jb.irr{lt:Nat->Nat->Bool}(O:jb lt)(i:Nat):lt i i=false:=by cases e:lt i i with|false=>rfl|true=>have:=O.asy e;rw[e]at this;cases this
structure PW(n:Nat)(p:Array Nat):Prop where
 size:p.size=n
 below:∀k,p.getD k 0<n
def PW.perm{p q:Array Nat}(h:PW n p)(e:q.Perm p):PW n q:=by refine#[by rw[e.size_eq,h.size],λk=>?_];simp only[qi];cases z:q[k]? with|none=>have:=h.below p.size;simp only[qi,Array.getElem?_size]at this;exact this|some v=>have d:v∈p.toList:=(CJ.mp e).mem_iff.mp (by rw[Cf];exact Array.mem_of_getElem? z);exists i,a,List.getElem?_of_mem d;have:=h.below i;rw[Bi]at a;simp only[qi,a]at this;exact this
section
variable{lt:Nat->Nat->Bool}{cmp:Nat->Nat->(Bool->bz->Prop)->bz->Prop}{J:bz->Prop}
def jc(lt:Nat->Nat->Bool)(p:Array Nat)(b:Nat):Prop:=∀i j,i<j->j<b->lt (p.getD j 0) (p.getD i 0)=false
def lq(lt:Nat->Nat->Bool)(p:Array Nat)(b:Nat):Prop:=∀i j,i<j->j<b->lt (p.getD i 0) (p.getD j 0)=false
def xp(lt:Nat->Nat->Bool)(p:Array Nat)(a b:Nat):Prop:=∀i j,a<=i->i<b->a<=j->j<b->lt (p.getD i 0) (p.getD j 0)=false
theorem jc.more(O:jb lt){p:Array Nat}{m:Nat}(h:jc lt p m)(o:1<=m)(e:lt (p.getD m 0) (p.getD (m-1) 0)=false):jc lt p (m+1):=λi j d r=>by by_cases a:j<m;{exact h i j d a};(have:j=m:=by lia);subst this;by_cases f:i=j-1;{rw[f];exact e};exact O.ntr e (h i (j-1) (by lia) (by lia))
theorem lq.more(O:jb lt){p:Array Nat}{m:Nat}(h:lq lt p m)(o:1<=m)(e:lt (p.getD (m-1) 0) (p.getD m 0)=false):lq lt p (m+1):=λi j d r=>by by_cases a:j<m;{exact h i j d a};(have:j=m:=by lia);subst this;by_cases f:i=j-1;{rw[f];exact e};exact O.ntr (h i (j-1) (by lia) (by lia)) e
def jG{p:Array Nat}(a b:Nat)(d:b<=p.size)(k:Nat):(kas_rev p a b).getD k 0=if a<=k/\k<b then p.getD (a+b-1-k) 0 else p.getD k 0:=by simp only[qi];unfold kas_rev;rw[getElem?_mirror_all d];split <;> rfl
def qV{p:Array Nat}(f:PW n p)(a b:Nat):PW n (kas_rev p a b)/\(kas_rev p a b).Perm p:=by have d:(kas_rev p a b).Perm p:=mirror_perm _ _ _ _;exact#[f.perm d,d]
theorem u5(O:jb lt)(B:iW n lt cmp J){p:Array Nat}(r:PW n p):∀(f m:Nat) (s:bz) (Q:Nat->bz->Prop),m+f=n->1<=m->jc lt p m->J s->(∀m' s',m<=m'->m'<=n->jc lt p m'->(m'<n->lt (p.getD m' 0) (p.getD (m'-1) 0)=true)->J s'->Q m' s')->(kas_asc p f m).kasWp cmp Q s|0,m,s,Q,e,D,u,A,q=>q m s (dg _) (by lia) u (λz=>by lia) A|f+1,m,s,Q,e,D,u,A,q=>by refine B _ _ s _ (r.below m) (r.below (m-1)) A λs' o=>?_;cases E:lt (p.getD m 0) (p.getD (m-1) 0)with|true=>exact q m s' (dg _) (by lia) u (λ_=>E) o|false=>exact u5 O B r f (m+1) s' Q (by lia) (by lia) (u.more O D E) o λm' S a b c d e=>q m' S (by lia) b c d e
theorem lq.turn{p:Array Nat}{a m:Nat}(hp:m<=p.size)(d:lq lt p m)(e:xp lt p a m):lq lt (kas_rev p a m) m:=λi j r o=>by rw[jG a m hp,jG a m hp];by_cases A:a<=i;{rw[al #[A,by lia],al #[by lia,o]];exact e _ _ (by lia) (by lia) (by lia) (by lia)};rw[a0 (by lia)];by_cases f:a<=j;{rw[al #[f,o]];exact d _ _ (by lia) (by lia)};rw[a0 (by lia)];exact d i j r o
theorem qW(O:jb lt)(F:iW n lt cmp J)(D:Array Nat):∀(f m q:Nat) (p:Array Nat) (s:bz) (Q:Array Nat×Nat×Nat->bz->Prop),PW n p->p.Perm D->m+f=n->q+1<=m->lq lt p m->xp lt p (m-(q+1)) m->J s->(∀E m' q' s',PW n E->E.Perm D->q'+1<=m'->1<=m'->m'<=n->lq lt E m'->xp lt E (m'-(q'+1)) m'->J s'->Q (E,m',q') s')->(kas_desc f p m q).kasWp cmp Q s|0,m,q,p,s,Q,o,B,e,T,u,W,S,k=>k p m q s o B T (by lia) (by lia) u W S|f+1,m,q,p,s,Q,o,B,e,T,u,W,S,k=>by unfold kas_desc;refine F _ _ s _ (o.below m) (o.below (m-1)) S λs' A=>?_;have sz:=o.size;cases ec:lt (p.getD m 0) (p.getD (m-1) 0)with|true=>(have e1:=O.asy ec;have one:∀(r:Array Nat),xp lt r (m+1-(0+1)) (m+1):=λr i j a b c d=>by(have:i=j:=by lia);subst this;exact O.irr _);dsimp only;rw[al rfl];by_cases Z:q > 0;{rw[al Z];exists K,L,qV o (m-(q+1)) m;refine qW O F D f (m+1) 0 _ s' Q K (L.trans B) (by lia) (by lia) ?_ (one _) A k;refine(u.turn (by lia) W).more O (by lia) ?_;rw[jG _ _ (by lia),jG _ _ (by lia),al #[by lia,by lia],a0 (by lia)];exact O.ntr (W _ (m-1) (by lia) (by lia) (by lia) (by lia)) e1};rw[a0 Z];exact qW O F D f (m+1) 0 p s' Q o B (by lia) (by lia) (u.more O (by lia) e1) (one _) A k|false=>dsimp only;rw[a0 fq];refine F _ _ s' _ (o.below (m-1)) (o.below m) A λV G=>?_;cases ed:lt (p.getD (m-1) 0) (p.getD m 0)with|true=>dsimp only;rw[al rfl];exact k p m q V o B T (by lia) (by lia) u W G|false=>dsimp only;rw[a0 fq];refine qW O F D f (m+1) (q+1) p V Q o B (by lia) (by lia) (u.more O (by lia) ed) (λi j a b c d=>?_) G k;by_cases hi:i<m;{by_cases N:j<m;{exact W i j (by lia) hi (by lia) N};(have:j=m:=by lia);subst this;exact O.ntr (W i (j-1) (by lia) hi (by lia) (by lia)) ed};(have:i=m:=by lia);subst this;by_cases N:j<i;{exact O.ntr ec (W (i-1) j (by lia) (by lia) (by lia) N)};(have:j=i:=by lia);subst this;exact O.irr _
theorem Gk(O:jb lt)(F:iW n lt cmp J){p:Array Nat}(A:PW n p){m:Nat}(K:1<=m)(N:m<=n)(d:lq lt p m){Q:Nat×Array Nat->bz->Prop}(G:J s)(q:∀m' f s',1<=m'->m'<=n->PW n f->f.Perm p->jc lt f m'->J s'->Q (m',f) s'):(kas_tail3 m n p).kasWp cmp Q s:=by unfold kas_tail3;rw[KasT.kasWp_bind];exists a,o,qV A 0 m;have sz:=A.size;refine u5 O F a (n-m) m s _ (by lia) K (λi j E T=>?_) G λD S V L B _ r=>q D _ S (by lia) L a o B r;rw[jG _ _ (by lia),jG _ _ (by lia),al #[by lia,by lia],al #[by lia,by lia]];exact d _ _ (by lia) (by lia)
theorem Gm(O:jb lt)(V:iW n lt cmp J){p:Array Nat}(pp:PW n p){m:Nat}(hm:m<n)(d:lq lt p (m+1)){Q:Nat×Array Nat->bz->Prop}(hJ:J s)(q:∀m' r s',1<=m'->m'<=n->PW n r->r.Perm p->jc lt r m'->J s'->Q (m',r) s'):(kas_descPart m n p).kasWp cmp Q s:=by unfold kas_descPart;rw[KasT.kasWp_bind];refine qW O V p (n-(m+1)) (m+1) 0 p s _ pp (Bj _) (by lia) (by lia) d (λi j a b c d=>?_) hJ λr m' q' s' f o h1 h2 Z d' e' A=>?_;{(have:i=j:=by lia);subst this;exact O.irr _};dsimp only;have sz:=f.size;by_cases W:q' > 0;{rw[al W];exists L,N,qV f (m'-(q'+1)) m';exact Gk O V L h2 Z (d'.turn (by lia) e') A λT p2 S K G F E D B=>q T p2 S K G F ((E.trans N).trans o) D B};rw[a0 W];exact Gk O V f h2 Z d' A λT p2 S K G F E D B=>q T p2 S K G F (E.trans o) D B
theorem RE(O:jb lt)(E:iW n lt cmp J)(hn:2<=n){p:Array Nat}(f:PW n p){Q:Nat×Array Nat->bz->Prop}(hJ:J s)(q:∀m' A s',1<=m'->m'<=n->PW n A->A.Perm p->jc lt A m'->J s'->Q (m',A) s'):(kas_count n p).kasWp cmp Q s:=by
 unfold kas_count;rw[KasT.kasWp_bind];have sz:=f.size;refine u5 O E f (n-1) 1 s _ (by lia) (dg _) (λi j L h2=>by lia) hJ λm S a b u d o=>?_
 by_cases N:m=n
 . rw[al (by simpa using N)];exact q m p S a b f (Bj _) u o
 . rw[a0 (by simpa using N)]
   have T:=O.asy (d (by lia))
   by_cases L:m > 1
   . rw[al L];refine E _ _ S _ (f.below 0) (f.below (m-1)) o λs2 r=>?_;cases ec:lt (p.getD 0 0) (p.getD (m-1) 0)with|true=>dsimp only;rw[al rfl];exact q m p s2 a b f (Bj _) u r|false=>(dsimp only;rw[a0 fq];exists F,G,qV f 0 m;have ge:∀i,i<m->lt (p.getD i 0) (p.getD 0 0)=false:=λi D=>by by_cases h0:i=0;{rw[h0];exact O.irr _};exact u 0 i (by lia) D);(have le:∀i,i<m->lt (p.getD (m-1) 0) (p.getD i 0)=false:=λi D=>by by_cases h0:i=m-1;{rw[h0];exact O.irr _};exact u i (m-1) (by lia) (by lia));have all:xp lt p 0 m:=λi j _ D _ B=>O.ntr (O.ntr (ge i D) ec) (le j B);refine Gm O E F (by lia) (lq.more O (lq.turn (by lia) (λi j K B=>all i j (by lia) (by lia) (by lia) B) all) (by lia) ?_) r λm2 p2 s3 x1 x2 x3 Z W V=>q m2 p2 s3 x1 x2 x3 (Z.trans G) W V;rw[jG _ _ (by lia),jG _ _ (by lia),al #[by lia,by lia],a0 (by lia)];exact O.ntr (all _ (m-1) (by lia) (by lia) (by lia) (by lia)) T
   . rw[a0 L];have e1:m=1:=by lia
     subst e1
     exact Gm O E f (by lia) (λi j K B=>by
      have:i=0/\j=1:=by lia
      rw[this.1,this.2];exact T) o q
theorem u6(O:jb lt)(B:iW n lt cmp J){p:Array Nat}(o:PW n p){k:Nat}(hk:k<n)(u:jc lt p k):∀(f l r:Nat) (s:bz) (Q:Nat->bz->Prop),l<=r->r<=k->r-l<=f->J s->(∀i,i<l->lt (p.getD k 0) (p.getD i 0)=false)->(∀i,r<=i->i<k->lt (p.getD i 0) (p.getD k 0)=false)->(∀l' s',l'<=k->(∀i,i<l'->lt (p.getD k 0) (p.getD i 0)=false)->(∀i,l'<=i->i<k->lt (p.getD i 0) (p.getD k 0)=false)->J s'->Q l' s')->(kas_place p k f l r).kasWp cmp Q s|0,l,r,s,Q,N,D,L,A,a,b,q=>q l s (by lia) a (λi F=>b i (by lia)) A|f+1,l,r,s,Q,N,D,L,A,a,b,q=>by unfold kas_place;by_cases d:l ≥ r;{rw[al d];exact q l s (by lia) a (λi F=>b i (by lia)) A};rw[a0 d];refine B _ _ s _ (o.below k) (o.below ((l+r) / 2)) A λs' m=>?_;cases E:lt (p.getD k 0) (p.getD ((l+r) / 2) 0)with|true=>refine u6 O B o hk u f l ((l+r) / 2) s' Q (by lia) (by lia) (by lia) m a (λi K G=>?_) q;by_cases e:i=(l+r) / 2;{rw[e];exact O.asy E};exact O.ntr (u _ i (by lia) G) (O.asy E)|false=>refine u6 O B o hk u f ((l+r) / 2+1) r s' Q (by lia) D (by lia) m (λi K=>?_) b q;by_cases e:i=(l+r) / 2;{rw[e];exact E};exact O.ntr E (u i _ (by lia) (by lia))
theorem Gn(O:jb lt)(E:iW n lt cmp J):∀(f k:Nat) (p:Array Nat) (s:bz) (Q:Array Nat->bz->Prop),k+f=n->PW n p->jc lt p k->J s->(∀d s',PW n d->d.Perm p->jc lt d n->J s'->Q d s')->(kas_bin f p k).kasWp cmp Q s|0,k,p,s,Q,e,o,u,B,q=>by(have:k=n:=by lia);subst this;exact q p s o (Bj _) u B|f+1,k,p,s,Q,e,o,u,B,q=>by unfold kas_bin;rw[KasT.kasWp_bind];refine u6 O E o (by lia) u k 0 k s _ (gy _) (dg _) (by lia) B (λi h=>by lia) (λi F m=>by lia) λl K N a b A=>?_;have D:(bubble p k (k-l)).Perm p:=bubble_perm _ _ _;have g:=getElem?_bubble (xs:=p) (src:=k) (by rw[o.size];lia) (k-l) (by lia);refine Gn O E f (k+1) _ K Q (by lia) (o.perm D) (λi j r T=>?_) A λd S x y z w=>q d S x (y.trans D) z w;(have L:k-(k-l)=l:=by lia);(rw[L]at g;have G:∀i,(bubble p k (k-l)).getD i 0=if i=l then p.getD k 0 else if l<i/\i<=k then p.getD (i-1) 0 else p.getD i 0:=λi=>by simp only[qi];rw[g i];split;{rfl};split <;> rfl);rw[G i,G j];by_cases F:i<l;{rw[a0 (show ¬ i=l by lia),a0 (show ¬ (l<i/\i<=k) by lia)];by_cases m:j=l;{rw[al m];exact a i F};rw[a0 m];split;{exact u i (j-1) (by lia) (by lia)};exact u i j r (by lia)};by_cases m:i=l;{rw[al m,a0 (show ¬ j=l by lia),al (show l<j/\j<=k by lia)];exact b (j-1) (by lia) (by lia)};rw[a0 m,al (show l<i/\i<=k by lia),a0 (show ¬ j=l by lia),al (show l<j/\j<=k by lia)];exact u (i-1) (j-1) (by lia) (by lia)
theorem RF(O:jb lt)(r:iW n lt cmp J)(hn:2<=n){Q:Array Nat->bz->Prop}(F:J s)(q:∀p s',PW n p->p.Perm (List.toArray (List.range n))->jc lt p n->J s'->Q p s'):(kas_sort n).kasWp cmp Q s:=by(unfold kas_sort;rw[KasT.kasWp_bind];have B:PW n (List.toArray (List.range n)):=by refine#[by simp,λk=>?_];simp only[qi,List.getElem?_toArray,ui];by_cases hk:k<n;{simp[hk]};simp[hk];lia);refine RE O r hn B F λm p S a b d o u f=>?_;by_cases h:m<n;{rw[al h];(have E:max m 1=m:=by lia);rw[E];exact Gn O r (n-m) m p S Q (by lia) d u f λD A x y z w=>q D A x (y.trans o) z w};rw[a0 h];(have E:m=n:=by lia);subst E;exact q p S d o u f
end
def eM:Nat:=64
def kM:eM<=1000000:=by decide
def u7:64<=eM:=dg _
section
variable{A:di}{E:dc}{κ:SortKind}{ks:List ba}{lt:Nat->Nat->Bool}
def Go(O:jb lt)(D:ks.length=vs.length)(o:2<=vs.length)(K:vs.length<eM)(ask:∀i j (C:Bool->bz->Prop),i<vs.length->j<vs.length->C (lt i j) s->wpAny (model prog w) A (keyLt' κ (ks.getD i .none) (ks.getD j .none)) C (λ_ _=>False) s){Q:SortSt->bz->Prop}(q:∀p S,PW vs.length p->p.Perm (List.toArray (List.range vs.length))->jc lt p vs.length->arrOf S=p.map (kas_item (ks.toArray.zip vs.toArray))->failedOf S=none->Q S s):wpAny (model prog w) A ((sortRuns').run (SortSt.mk' κ (ks.toArray.zip vs.toArray) #[] 7 none)) (λr s'=>Q r.2 s') E s:=by
 have a:iW vs.length lt (kas_ask prog w A κ ks) (λd=>d=s):=λi j d C J F L q=>by subst L;unfold kas_ask;exact ask i j _ J F (q _ rfl)
 exact kat_run (G:=λp d=>d=s/\PW vs.length p/\p.Perm (List.toArray (List.range vs.length))/\jc lt p vs.length) D o K (λp S d Z W V T=>by
  exists rfl,m,f,B,T;exact q p S m f B W V) (RF O a o rfl λp d m f B N=>#[N,m,f,B])
end
mutual
def ltN:N->N->Bool|.i n,.i m=>decide (n<m)|.i _,.s _|.i _,.t _=>true|.s _,.i _=>false|.s x,.s y=>gv x y|.s _,.t _=>true|.t _,.i _|.t _,.s _=>false|.t U,.t ys=>bC U ys
def bC:List N->List N->Bool|[],[]=>false|[],_::_=>true|_::_,[]=>false|x::U,y::ys=>if x=y then bC U ys else ltN x y
end
mutual
def fx:N->N->Bool|.i _,.i _|.s _,.s _=>true|.t U,.t ys=>cM U ys|.i _,.s _|.i _,.t _|.s _,.i _|.s _,.t _|.t _,.i _|.t _,.s _=>false
def cM:List N->List N->Bool|[],_|_::_,[]=>true|x::U,y::ys=>if x=y then cM U ys else fx x y
end
theorem Gp:∀(U:List N),bC U U=false|[]=>by rw[bC]|x::U=>by rw[bC,al rfl,Gp U]
def jH(k:N):ltN k k=false:=by cases k with|i n=>rw[ltN];simp|s x=>rw[ltN];exact qM x|t U=>rw[ltN];exact Gp U
theorem Gq:∀{U ys:List N},(∀x∈U,∀y,ltN x y=false->ltN y x=false->x=y)->bC U ys=false->bC ys U=false->U=ys|[],[],_,_,_=>rfl|[],_::_,_,h,_|_::_,[],_,_,h=>by rw[bC]at h;cases h|x::U,y::ys,k,d,a=>by rw[bC]at d a;by_cases e:x=y;{subst e;rw[al rfl]at d a;rw[Gq (λz f=>k z (cs f)) d a]};rw[a0 e]at d;rw[a0 (λz=>e z.symm)]at a;exact absurd (k x cj y d a) e
theorem qX(k:N):∀y,ltN k y=false->ltN y k=false->k=y:=by
 induction k using N.ind with
 |hi n=>intro y d a;cases y with|i m=>(rw[ltN]at d a;have:n=m:=by have o:=CL d;have A:=CL a;lia);rw[this]|s x|t U=>rw[ltN]at d;cases d
 |hs x=>intro y d a;cases y with|i m=>rw[ltN]at a;cases a|s z=>rw[ltN]at d a;rw[uV d a]|t U=>rw[ltN]at d;cases d
 |ht U f=>intro y d a;cases y with|i m|s z=>rw[ltN]at a;cases a|t ys=>rw[ltN]at d a;rw[Gq f d a]
theorem Gr:∀{U ys zs:List N},(∀x∈U,∀y z,ltN x y=true->ltN y z=true->ltN x z=true)->bC U ys=true->bC ys zs=true->bC U zs=true|[],[],_,_,h,_|[],_::_,[],_,_,h=>by rw[bC]at h;cases h|[],_::_,_::_,_,_,_=>by rw[bC]|_::_,[],_,_,h,_|_::_,_::_,[],_,_,h=>by rw[bC]at h;cases h|x::U,y::ys,z::zs,k,d,a=>by rw[bC]at d a ⊢;by_cases f:x=y;{subst f;rw[al rfl]at d;by_cases E:x=z;{rw[al E]at a ⊢;exact Gr (λz o=>k z (cs o)) d a};rw[a0 E]at a ⊢;exact a};rw[a0 f]at d;by_cases E:y=z;{subst E;rw[a0 f];exact d};rw[a0 E]at a;have r:=k x cj y z d a;by_cases m:x=z;{rw[<- m]at a;have:=k x cj y x d a;rw[jH]at this;cases this};rw[a0 m];exact r
theorem u8(k:N):∀y z,ltN k y=true->ltN y z=true->ltN k z=true:=by
 induction k using N.ind with
 |hi n=>intro y z d a;cases z with|i l=>(cases y with|i m=>rw[ltN]at d a ⊢;have B:=kz d;have A:=kz a;exact gS (by lia)|s x|t U=>rw[ltN]at a;cases a)|s x|t U=>rw[ltN]
 |hs x=>intro y z d a;cases y with|i m=>rw[ltN]at d;cases d|s o=>(cases z with|i l=>rw[ltN]at a;cases a|s f=>rw[ltN]at d a ⊢;exact uU d a|t U=>rw[ltN])|t U=>cases z with|i l|s f=>rw[ltN]at a;cases a|t U=>rw[ltN]
 |ht U r=>intro y z d a;cases y with|i m|s o=>rw[ltN]at d;cases d|t ys=>cases z with|i l|s f=>rw[ltN]at a;cases a|t zs=>rw[ltN]at d a ⊢;exact Gr r d a
def oF{a b:N}(h:ltN a b=true):ltN b a=false:=by cases e:ltN b a with|false=>rfl|true=>have:=u8 a b a h e;rw[jH]at this;cases this
def oG{a b c:N}(f:ltN a b=false)(d:ltN b c=false):ltN a c=false:=by cases e:ltN a c with|false=>rfl|true=>cases E:ltN b a with|true=>have:=u8 b a c E e;rw[d]at this;cases this|false=>have:=qX a b f E;subst this;rw[e]at d;cases d
def gP(l:List N):Prop:=l.Pairwise λx y=>ltN y x=false
def mH(x:N):List N->List N|[]=>[x]|y::l=>if ltN y x=true then y::mH x l else x::y::l
def dJ(l:List N):List N:=l.foldr mH []
theorem u9(x:N):∀(l:List N),(mH x l).Perm (x::l)|[]=>jy _|y::l=>by unfold mH;split;{exact((u9 x l).cons y).trans (List.Perm.swap x y l)};exact jy _
theorem jI:∀(l:List N),(dJ l).Perm l|[]=>jy _|x::l=>(u9 x (dJ l)).trans ((jI l).cons x)
theorem Gs{x:N}:∀{l:List N},gP l->gP (mH x l)|[],_=>ox _ _|y::l,h=>by unfold mH;split;{rename_i e;refine gr.mpr #[λz a=>?_,Gs (gr.mp h).2];rcases cy.mp ((u9 x l).mem_iff.mp a)with rfl|a;{exact oF e};exact(gr.mp h).1 z a};rename_i e;(have e:ltN y x=false:=by simpa using e);refine gr.mpr #[λz a=>?_,h];rcases cy.mp a with rfl|a;{exact e};exact oG ((gr.mp h).1 z a) e
theorem mJ:∀(l:List N),gP (dJ l)|[]=>List.Pairwise.nil|x::l=>Gs (mJ l)
theorem vA:∀{l l':List N},gP l->gP l'->l.Perm l'->l=l'|[],l',_,_,p=>p.symm.eq_nil.symm|x::l,[],_,_,p=>p.eq_nil|x::l,y::l',h,h',p=>by(have f:=gr.mp h;have d:=gr.mp h';have E:x=y:=by(have a:ltN y x=false:=by rcases cy.mp (p.mem_iff.mpr cj)with e|e;{rw[e];exact jH _};exact f.1 y e);(have b:ltN x y=false:=by rcases cy.mp (p.mem_iff.mp cj)with e|e;{rw[e];exact jH _};exact d.1 x e);exact qX x y b a);subst E;rw[vA f.2 d.2 p.cons_inv]
def vB{l l':List N}(h:gP l')(p:l'.Perm l):l'=dJ l:=vA h (mJ l) (p.trans (jI l).symm)
theorem RG{A:di}{x y:N}{v:ba}(m:A.units+x.dp<cLine)(hx:cz s.heap x u)(d:cz s.heap y v):SeqAt.EqAt A s u v (decide (x=y)):=by obtain⟨⟨as,a⟩,ca⟩:=cz.reads x u hx;obtain⟨⟨bs,r⟩,f⟩:=cz.reads y v d;have:=Cu x.py y.py A s u v as bs a r ca f (by rw[N.py_depth];have:=A9 x.dp y.py.depth;lia);rw[N.py_eqv]at this;exact this
theorem qY{A:di}:∀{U ys:List N}{us vs:List ba},(∀x∈U,∀(y:N) (u v:ba),cz s.heap x u->cz s.heap y v->fx x y=true->∀(prog:e7) (W:cw) (E:dc) (Q:dc),Q (.bool (ltN x y)) s->wpAny (model prog W) A (compareOp .Lt u v) Q E s)->A.units+N.dpL U<cLine->aW s.heap U us->aW s.heap ys vs->cM U ys=true->ki A s us vs (bC U ys)|[],[],us,vs,_,_,d,a,_=>by rw[aW]at d a;subst d;subst a;rw[bC];exact .nn|[],y::ys,us,vs,_,_,d,a,_=>by rw[aW]at d;rw[aW]at a;subst d;exists v,ws,rfl,_,a;rw[bC];exact .nc|x::U,[],us,vs,_,_,d,a,_=>by rw[aW]at d;rw[aW]at a;subst a;exists v,ws,rfl,_,d;rw[bC];exact .cn|x::U,y::ys,us,vs,k,r,d,a,ok=>by rw[aW]at d a;exists u,us,rfl,p1,p2,d;exists v,vs,rfl,q1,m,a;rw[N.dpL]at r;rw[cM]at ok;have e:=RG (A:=A) (by lia) p1 q1;rw[bC];by_cases f:x=y;{rw[gS f]at e;rw[al f]at ok ⊢;exact .eq e (qY (λz o=>k z (cs o)) (by lia) p2 m ok)};rw[ig f]at e;rw[a0 f]at ok ⊢;exact .ne e λprog W E Q q=>k x cj y u v p1 q1 ok prog W E Q q
theorem qZ(k:N):∀{A:di}{E:dc}{y:N}{u v:ba}{Q:dc}{prog:e7}{w:cw},A.units+k.dp+1<cLine->cz s.heap k u->cz s.heap y v->fx k y=true->Q (.bool (ltN k y)) s->wpAny (model prog w) A (compareOp .Lt u v) Q E s:=by
 induction k using N.ind with
 |hi n=>intro A E y u v Q prog w hu h1 h2 ok q;cases y with|i m=>rw[cz]at h1 h2;exists t,rfl,h1;exists t',rfl,h2;rw[ltN]at q;exact lt_int q|s x|t U=>rw[fx]at ok;cases ok
 |hs x=>intro A E y u v Q prog w hu h1 h2 ok q;cases y with|s z=>rw[cz]at h1 h2;obtain⟨⟨t,rfl⟩,_⟩:=h1;obtain⟨⟨t',rfl⟩,_⟩:=h2;rw[ltN]at q;unfold gv at q;rw[ltCps_eq]at q;exact lt_str q|i m|t U=>rw[fx]at ok;cases ok
 |ht U B=>intro A E y u v Q prog w hu h1 h2 ok q;cases y with|i m|s x=>rw[fx]at ok;cases ok|t ys=>rw[cz]at h1 h2;exists a,o,its,n,rfl,D,c1,J,r,h1;exists b,O,d,f,rfl,G,K,F,L,h2;rw[ltN]at q;rw[fx]at ok;rw[N.dp]at hu;exact QB #[o,D,c1,n,J] #[O,G,K,f,F] (qY (A:=A.in1) (λx hx y u v p1 p2 ok prog W E Q q=>B x hx (by have:=N.dp_mem hx;show A.units+1+_+1<_;lia) p1 p2 ok q) (by show A.units+1+_<_;lia) r L ok) (by lia) q
def gB(h:Heap)(vs:List ba)(ks:List N):Prop:=vs.length=ks.length/\∀i,i<ks.length->cz h (ks.getD i (.i 0)) (vs.getD i .none)
def eN:N->Bool|.t (.t _::_)=>true|_=>false
structure kN(ks:List N)(p:List Nat):Prop where
 perm:p.Perm (List.range ks.length)
 up:gP (p.map λi=>ks.getD i (.i 0))
def kN.eq{p:List Nat}(h:kN ks p):(p.map λi=>ks.getD i (.i 0))=dJ ks:=by refine vB h.up ?_;have:=h.perm.map λi=>ks.getD i (.i 0);rw[qN]at this;exact this
def cz.kept(k:N):∀{v:ba},cz h k v->(∀a o,h.get? a=some o->o.cls=.type "tuple"->h'.get? a=some o)->cz h' k v:=by induction k using N.ind with|hi n|hs x=>intro v q _;rw[cz]at q ⊢;exact q|ht U f=>intro v q kp;rw[cz]at q ⊢;exists a,o,its,n,e,ha,d,hd,hi,q;exact#[a,o,its,n,e,kp a o ha d,d,hd,hi.map λx hx v q=>f x hx q kp]
def Gu(ks:List N):Prop:=∀x∈ks,∀y∈ks,fx x y=true
section
variable{A:di}{E:dc}
theorem Gv{F:Bool}{Q:Bool->bz->Prop}:∀{U ys:List N}{us vs:List ba}{i:Nat},A.units+N.dpL U+1<cLine->aW s.heap U us->aW s.heap ys vs->cM U ys=true->F=decide (us.length<vs.length)->Q (bC U ys) s->KatLex prog w A false F Q (us.zip vs) i s|[],[],us,vs,i,_,d,a,_,e,q=>by rw[aW]at d a;subst d;subst a;subst e;rw[bC]at q;exact q|[],y::ys,us,vs,i,_,d,a,_,e,q=>by rw[aW]at d;rw[aW]at a;subst d;exists v,zs,rfl,_,a;subst e;rw[bC]at q;exact q|x::U,[],us,vs,i,_,d,a,_,e,q=>by rw[aW]at d;rw[aW]at a;subst a;exists v,zs,rfl,_,d;subst e;rw[bC]at q;exact q|x::U,y::ys,us,vs,i,o,d,a,ok,e,q=>by rw[aW]at d a;exists u,us,rfl,p1,p2,d;exists v,vs,rfl,q1,m,a;rw[N.dpL]at o;rw[cM]at ok;rw[bC]at q;rw[se];refine kat_cons (vz (by lia) p1 q1 (kat_go (λh=>?_) λh=>?_));{have f:=kz h;rw[al f]at ok q;exact kat_yes (Gv (by lia) p2 m ok (by subst e;simp) q)};have f:=CL h;rw[a0 f]at ok q;exact kat_no (kat_one _ _ (qZ x (by lia) p1 q1 ok q))
theorem RH{x y:N}{v:ba}{Q:Bool->bz->Prop}(r:A.units+x.dp<cLine)(D:eN x=true)(F:eN y=true)(hx:cz s.heap x u)(f:cz s.heap y v)(ok:fx x y=true)(q:Q (ltN x y) s):wpAny (model prog w) A (keyLt' (tuples' false) u v) Q E s:=by cases x with|i n|s z=>cases D|t U=>cases y with|i n|s z=>cases F|t ys=>rw[cz]at hx f;exists a,o,its,n,rfl,B,c1,K,m,hx;exists b,O,d,S,rfl,G,T,J,L,f;rw[fx]at ok;rw[ltN]at q;rw[N.dp]at r;exact kat_lt B K G J (Gv (by lia) m L ok (by simp) q)
theorem Gw:∀{vs:List ba}{ks:List N},gB s.heap vs ks->(∀k∈ks,eN k=true)->∃fs:List ba,KatTups s.heap vs fs/\fs.length=ks.length/\∀f∈fs,Looks (model prog w) s.heap (typeOf f) (.type "tuple")
 |[],[],_,_=>#[[],trivial,rfl,λf hf=>nomatch hf]|[],_::_,h,_|_::_,[],h,_=>by have:=h.1;simp at this|v::vs,k::ks,h,r=>by
  have h0:=h.2 0 (by simp)
  have h0:cz s.heap k v:=by simpa using h0
  have tail:gB s.heap vs ks:=#[by simpa using h.1,λi J=>by
   have:=h.2 (i+1) (by simpa using J)
   simpa using this]
  exists fs,D,B,K,Gw tail λt G=>r t (cs G);have F:=r k cj;unfold eN at F;split at F
  . rename_i ys zs;rw[cz]at h0;exists a,o,its,n,rfl,T,c1,W,d,h0;rw[aW]at d;exists f,us,V,p1,_,d;rw[cz]at p1;exists b,O,m,n2,rfl,S,Z,d2,_,p1;have f0:its[0]? = some (.ref b):=by
      have:its.toList[0]? = some (.ref b):=by rw[V];rfl
      simpa using this
    refine#[.ref b::fs,#[#[a,o,its,n,rfl,T,c1,W,f0],D],by simp[B],λf hf=>?_]
    rcases cy.mp hf with rfl|hf
    . have L:Looks (model prog w) s.heap (typeOf (.ref b)) O.cls:=(Looks.ld S).andThen .now;rw[Z]at L;exact L
    . exact K f hf
  . cases F
theorem xq{Q:SortKind->bz->Prop}(h:gB s.heap vs ks)(f:∀k∈ks,eN k=true)(m:0<ks.length)(q:Q (tuples' false) s):wpAny (model prog w) A (keyKind' vs.toArray) Q E s:=by exists fs,a,d,K,Gw (prog:=prog) (w:=w) h f;exact kat_kind (T:=.type "tuple") a (by lia) K rfl q
def xr(ks:List N):jb λi j=>ltN (ks.getD i (.i 0)) (ks.getD j (.i 0)):=#[λa b=>oG a b,λa=>oF a]
def RI{p:Array Nat}(m:PW ks.length p)(o:p.Perm (List.toArray (List.range ks.length)))(u:jc (λi j=>ltN (ks.getD i (.i 0)) (ks.getD j (.i 0))) p ks.length):kN ks p.toList:=by refine#[by simpa using CJ.mp o,?_];unfold gP;rw[kS];refine List.pairwise_iff_getElem.mpr λi j f a d=>?_;rw[lB]at f a;have:=u i j d (by rw[<- m.size];exact a);simpa[Array.getD,f,a]using this
theorem gB.kept(q:gB h vs ks)(kp:∀a o,h.get? a=some o->o.cls=.type "tuple"->h'.get? a=some o):gB h' vs ks:=#[q.1,λi d=>cz.kept _ (q.2 i d) kp]
theorem RJ{a:Addr}{P:PySem.Fin->bz->Prop}(hu:A.units+13<cLine)(ho:s.heap.get? a=some (seqObj "list" vs.toArray n))(N:gB s.heap vs ks)(d8:∀k∈ks,k.dp<=12)(ok:Gu ks)(F:ks.length<=1\/∀k∈ks,eN k=true)(r:ks.length<eM)(h:∀p,kN ks p->P (.done (.ret .none)) {s with heap:=sortedHeap s.heap a vs (p.map λi=>vs.getD i .none).toArray}):wpAny (model prog w) A (Builtin.«list.sort» #[[.ref a],[]]) P E s:=by
 have V:ks.length<1000000:=gq r kM;have L:=N.1;have la:a<s.heap.objs.size:=dy ho;rw[list_sort_plain];refine bp (uo ho rfl (bp (oy ho rfl ?_ (by rw[fh,dj];lia) (gy _))))
 obtain⟨Z,m⟩:∃c,(s.heap.update a (Obj.mapSeq λ_=>(#[]:Array ba))).get? a=some (seqObj "list" #[] c):=#[_,uq ho λ_=>#[]];refine bp (ur m rfl (bp (wpAny_newTuple (bp (sg (jj ?_) (gy _))) (by show vs.length<=_;rw[dj];lia))))
 have d:(((s.heap.update a (Obj.mapSeq λ_=>(#[]:Array Value))).push (seqObj "tuple" vs.toArray 0)).push (seqObj "list" #[] 0)).get? a=some (seqObj "list" #[] Z):=hps (hps m);have f:gB (((s.heap.update a (Obj.mapSeq λ_=>(#[]:Array Value))).push (seqObj "tuple" vs.toArray 0)).push (seqObj "list" #[] 0)) vs ks:=N.kept λb o e c=>by(have T:b≠a:=λz=>by rw[z,ho]at e;cases e;have c:Value.type "list"=.type "tuple":=c;injection c with c;exact absurd c (by decide));exact hps (hps ((CM _ _ _ _ T).trans e))
 have B:=h;show wpAny (model prog w) A _ P E { s with heap:=((s.heap.update a (Obj.mapSeq λ_=>(#[]:Array ba))).push (seqObj "tuple" vs.toArray 0)).push (seqObj "list" #[] 0) }
 dsimp only;by_cases hs:vs.toArray.size<2
 . rw[al hs,al hs];rw[fh]at hs;refine bp (ci ?_);rw[StateT.run_pure];refine bp (ci ?_);have O:kN ks (List.range ks.length):=#[jy _,by
     rw[qN]
     match ks,L with|[],_=>exact List.Pairwise.nil|[t],_=>exact ox _ _|_::_::_,L=>simp at L;lia]
   have ev:((List.range ks.length).map λi=>vs.getD i Value.none).toArray=(arrOf (SortSt.mk' general' (vs.toArray.zip vs.toArray) #[] 7 none)).map (·.2):=by rw[<- L,qN];show vs.toArray=(vs.toArray.zip vs.toArray).map (·.2);apply Array.ext;{simp};intro i h1 h2;simp
   have W:=B _ O;rw[ev]at W;refine bp (ur d rfl (bp (oy d rfl ?_ (gy _) (by rw[<- ev,fh,du,oz,dj];lia))))
   simp only[CN,mw,ji];exact ci W
 . rw[a0 hs,a0 hs];rw[fh]at hs;have F:∀k∈ks,eN k=true:=F.resolve_left (by lia)
   refine bp (xq (s:={ s with heap:=((s.heap.update a (Obj.mapSeq λ_=>(#[]:Array ba))).push (seqObj "tuple" vs.toArray 0)).push (seqObj "list" #[] 0) }) f F (by lia) ?_)
   refine bp (jh (Go (ks := vs) (vs := vs) (κ := tuples' false) (xr ks) rfl (by lia) (by lia) (fun i j C J G q => by
       have J:i<ks.length:=by lia
       have G:j<ks.length:=by lia
       have D:ks.getD i (.i 0)∈ks:=by simp[J]
       have K:ks.getD j (.i 0)∈ks:=by simp[G]
       exact RH (by have:=d8 _ D;lia) (F _ D) (F _ K) (f.2 i J) (f.2 j G) (ok _ D _ K) q)
    (Q:=λS s'=>s'=_/\∃p:Array Nat,PW ks.length p/\p.Perm (List.toArray (List.range ks.length))/\jc (λi j=>ltN (ks.getD i (.i 0)) (ks.getD j (.i 0))) p ks.length/\arrOf S=p.map (kas_item (vs.toArray.zip vs.toArray))/\failedOf S=none)
    λp S a1 a2 a3 a4 a5=>#[rfl,p,by rw[<- L];exact a1,by rw[<- L];exact a2,by rw[<- L];exact a3,a4,a5]) ?_ λ_ _ e=>e)
   rintro⟨⟨⟩,S⟩ s' ⟨rfl,p,pp,pe,u,ea,ef⟩;have W:=B _ (RI pp pe u);have ev:=kat_snds (vs:=vs) rfl ea;rw[<- ev]at W;refine bp (ur d rfl (bp (oy d rfl ?_ (gy _) (by rw[ev,fh,du,lB,pp.size,dj];lia))))
   rw[ef];simp only[CN,mw,ji];exact ci W
theorem vC{Q:List ba->bz->Prop}(d:IsTup s.heap l vs.toArray)(hz:vs.length<=sizeLine)(h:Q vs { s with heap:=(s.heap.push (seqObj "list" #[] 0)).update s.heap.objs.size (Obj.mapSeq (·++vs.toArray)) }):wpAny (model prog w) A (collect (.ref l)) Q E s:=by exists o,ho,f,n,hd,id d;have a:=Heap.get?_push_of_some (seqObj "list" #[] 0) ho;have G:(s.heap.push (seqObj "list" #[] 0)).get? s.heap.objs.size=some (seqObj "list" #[] 0):=fo _ rfl;unfold collect;refine bp (wpAny_runValue (sj entry_proto_collect' ?_));show wpAny _ _ (do let l' <- newList [];again (.builtin "list.__iadd__" #[[l',.ref l],[]])) _ _ s;refine bp (sg (ci #[Code.quiet_builtin _ (by decide +kernel),sj entry_list_iadd' ?_]));show wpAny (model prog w) _ (Builtin.List.listExtendWith (.ref s.heap.objs.size) (.ref l) (.ref s.heap.objs.size)) _ _ _;unfold Builtin.List.listExtendWith;refine bp (A1 (T:="tuple") (s:={ s with heap:=s.heap.push (seqObj "list" #[] 0) }) #[o,a,f] ?_);rw[al (by rw[show(Value.type "tuple" == Value.type "tuple")=true from rfl,Bool.or_true])];refine bp (uo (s:={ s with heap:=s.heap.push (seqObj "list" #[] 0) }) a hd (bp (uo (xs:=#[]) (n:=0) G rfl ?_)));rw[a0 (by simp)];refine bp (oy (xs:=#[]) (n:=0) G rfl (ci ?_) (gy _) (by show(#[]++vs.toArray).size<=sizeLine+1;simp only[Array.size_append,fh,qc];lia));(show wpAny (model prog w) A (do match(<- load s.heap.objs.size).data with|.seq U _=>pure U.toList|_=>unsupported "internal:collect") Q E _);refine bp (wpAny_load (uq G _) ?_);show wpAny _ A (pure ((#[]:Array ba)++vs.toArray).toList) Q E _;rw[show((#[]:Array ba)++vs.toArray).toList=vs by simp];exact ci h
theorem RK(N:A.units+64<cLine)(d:s.heap.IsList l vs.toArray\/IsTup s.heap l vs.toArray)(B:gB s.heap vs ks)(K:∀k∈ks,k.dp<=12)(ok:Gu ks)(J:ks.length<=1\/∀k∈ks,eN k=true)(a:ks.length<eM)(h:∀p,kN ks p->Q (.ref (s.heap.objs.size+1)) {s with heap:=sortedAll s.heap vs (p.map λi=>vs.getD i .none).toArray}):wpAny (model prog w) A (call (.builtin "sorted") [.ref l]) Q E s:=by
 have F:ks.length<1000000:=gq a kM;have L:=B.1;refine Calls.call_function_entry kind_sorted plain_sorted entry_sorted (args_sorted1 (.ref l)) ?_;unfold Builtin.«sorted»;have col:∀{R:List ba->bz->Prop}{D:dc},R vs { s with heap:=(s.heap.push (seqObj "list" #[] 0)).update s.heap.objs.size (Obj.mapSeq (·++vs.toArray)) }->wpAny (model prog w) A.in1 (collect (.ref l)) R D s:=λ{R D} r=>by rcases d with d|d;{exact collect_list d r (by rw[dj];lia)};exact vC d (by rw[dj];lia) r
 refine bp (m:=checkCount "sorted" 1 1 [Value.ref l].length) (ci (bp (col (bp (sg ?_ (by rw[dj];lia))))))
 have Z:((s.heap.push (seqObj "list" #[] 0)).update s.heap.objs.size (Obj.mapSeq (·++vs.toArray))).objs.size=s.heap.objs.size+1:=(Bk ..).trans (size_push' ..);have G:(((s.heap.push (seqObj "list" #[] 0)).update s.heap.objs.size (Obj.mapSeq (·++vs.toArray))).push (seqObj "list" vs.toArray 0)).get? (s.heap.objs.size+1)=some (seqObj "list" vs.toArray 0):=Z ▸ fo _ rfl;have f:gB (((s.heap.push (seqObj "list" #[] 0)).update s.heap.objs.size (Obj.mapSeq (·++vs.toArray))).push (seqObj "list" vs.toArray 0)) vs ks:=B.kept λb o e _=>
  hps ((CM _ _ _ _ (gx (dy e))).trans (hps e))
 show wpAny _ _ _ _ _ { s with heap:=((s.heap.push (seqObj "list" #[] 0)).update s.heap.objs.size (Obj.mapSeq (·++vs.toArray))).push (seqObj "list" vs.toArray 0) }
 rw[Z];exact bp (jj (li slot_list_sort #[_,G,rfl] entry_list_sort (RJ (A:=A.in1.in1) (by show A.units+1+1+13<_;lia) (s:={ s with heap:=((s.heap.push (seqObj "list" #[] 0)).update s.heap.objs.size (Obj.mapSeq (·++vs.toArray))).push (seqObj "list" vs.toArray 0) }) G f K ok J a λp W=>#[_,rfl,ci #[_,rfl,h p W]]) (args_list_sort _)))
end
theorem Gx:∀{h:Heap}{ks:List N}{us:List ba},aW h ks us->gB h us ks|h,[],us,q=>by rw[aW]at q;subst q;exact#[rfl,λi a=>by simp at a]|h,k::ks,us,q=>by rw[aW]at q;exists u,us,rfl,q1,d,q;exists l,r,Gx d;refine#[by simp[l],λi a=>?_];cases i with|zero=>simpa using q1|succ i=>have:=r i (by simpa using a);simpa using this
theorem bG.nth{K:Fg}{F:Hp}:∀{ks:List N}{vs:List V},bG K F ks vs->vs.length=ks.length/\∀i,i<ks.length->df K F (ks.getD i (.i 0)) (vs.getD i .non)|[],vs,q=>by rw[bG]at q;subst q;exact#[rfl,λi a=>by simp at a]|k::ks,vs,q=>by rw[bG]at q;exists u,us,rfl,q1,d,q;exists l,r,bG.nth d;refine#[by simp[l],λi a=>?_];cases i with|zero=>simpa using q1|succ i=>have:=r i (by simpa using a);simpa using this
theorem eO:∀(ks:List N),nDL ks=ks.map nD|[]=>by rw[nDL];rfl|k::ks=>by rw[nDL,eO ks];rfl
def tz(ks:List N):Bool:=ks.all (λk=>decide (k.dp<=12))&&(decide (ks.length<=1)||ks.all eN)&&ks.all (λx=>ks.all λy=>fx x y)&&decide (ks.length<eM)
def kP(l:List Str):Prop:=l.Pairwise λx y=>gv y x=false
def mK(x:Str):List Str->List Str|[]=>[x]|y::l=>if gv y x=true then y::mK x l else x::y::l
def fB(l:List Str):List Str:=l.foldr mK []
def RL{y:Str}(h:gv x y=true):gv y x=false:=by cases e:gv y x with|false=>rfl|true=>have:=uU h e;rw[qM]at this;cases this
def RM{a b c:Str}(f:gv a b=false)(d:gv b c=false):gv a c=false:=by have:=oG (a:=.s a) (b:=.s b) (c:=.s c) (by rw[ltN];exact f) (by rw[ltN];exact d);rw[ltN]at this;exact this
theorem vD(x:Str):∀(l:List Str),(mK x l).Perm (x::l)|[]=>jy _|y::l=>by unfold mK;split;{exact((vD x l).cons y).trans (List.Perm.swap x y l)};exact jy _
theorem vE:∀(l:List Str),(fB l).Perm l|[]=>jy _|x::l=>(vD x (fB l)).trans ((vE l).cons x)
theorem Gy{x:Str}:∀{l:List Str},kP l->kP (mK x l)|[],_=>ox _ _|y::l,h=>by unfold mK;split;{rename_i e;refine gr.mpr #[λz a=>?_,Gy (gr.mp h).2];rcases cy.mp ((vD x l).mem_iff.mp a)with rfl|a;{exact RL e};exact(gr.mp h).1 z a};rename_i e;(have e:gv y x=false:=by simpa using e);refine gr.mpr #[λz a=>?_,h];rcases cy.mp a with rfl|a;{exact e};exact RM ((gr.mp h).1 z a) e
theorem Gz:∀(l:List Str),kP (fB l)|[]=>List.Pairwise.nil|x::l=>Gy (Gz l)
theorem GA:∀{l l':List Str},kP l->kP l'->l.Perm l'->l=l'|[],l',_,_,p=>p.symm.eq_nil.symm|x::l,[],_,_,p=>p.eq_nil|x::l,y::l',h,h',p=>by(have f:=gr.mp h;have d:=gr.mp h';have E:x=y:=by(have a:gv y x=false:=by rcases cy.mp (p.mem_iff.mpr cj)with e|e;{rw[e];exact qM _};exact f.1 y e);(have b:gv x y=false:=by rcases cy.mp (p.mem_iff.mp cj)with e|e;{rw[e];exact qM _};exact d.1 x e);exact uV b a);subst E;rw[GA f.2 d.2 p.cons_inv]
def RN{l l':List Str}(h:kP l')(p:l'.Perm l):l'=fB l:=GA h (Gz l) (p.trans (vE l).symm)
theorem GB:∀{l:List Str},sortedS l=true->kP l|[],_=>.nil|x::l,h=>by refine gr.mpr #[λy a=>F5 (show risingS x l=true from h) y a,GB ?_];cases l with|nil=>rfl|cons y l=>have h:(!gv y x&&risingS y l)=true:=h;rw[cc]at h;exact h.2
section
variable{A:di}{E:dc}
theorem RO{ns:List Str}(a:s.heap.IsList l vs.toArray\/IsTup s.heap l vs.toArray)(sa:StrsAre vs ns)(d:vs.length<64)(h:∀(out:Array ba) ys,StrsAre out.toList ys->ys.Perm ns->sortedS ys=true->Q (.ref (s.heap.objs.size+1)) {s with heap:=sortedAll s.heap vs out}):wpAny (model prog w) A (call (.builtin "sorted") [.ref l]) Q E s:=by(refine Calls.call_function_entry kind_sorted plain_sorted entry_sorted (args_sorted1 (.ref l)) ?_;unfold Builtin.«sorted»;have col:∀{R:List ba->bz->Prop}{f:dc},R vs { s with heap:=(s.heap.push (seqObj "list" #[] 0)).update s.heap.objs.size (Obj.mapSeq (·++vs.toArray)) }->wpAny (model prog w) A.in1 (collect (.ref l)) R f s:=λ{R f} r=>by rcases a with a|a;{exact collect_list a r (by rw[dj];lia)};exact vC a (by rw[dj];lia) r);refine bp (m:=checkCount "sorted" 1 1 [Value.ref l].length) (ci (bp (col (bp (sg ?_ (by rw[dj];lia))))));have Z:((s.heap.push (seqObj "list" #[] 0)).update s.heap.objs.size (Obj.mapSeq (·++vs.toArray))).objs.size=s.heap.objs.size+1:=(Bk ..).trans (size_push' ..);have G:(((s.heap.push (seqObj "list" #[] 0)).update s.heap.objs.size (Obj.mapSeq (·++vs.toArray))).push (seqObj "list" vs.toArray 0)).get? (s.heap.objs.size+1)=some (seqObj "list" vs.toArray 0):=Z ▸ fo _ rfl;show wpAny _ _ _ _ _ { s with heap:=((s.heap.push (seqObj "list" #[] 0)).update s.heap.objs.size (Obj.mapSeq (·++vs.toArray))).push (seqObj "list" vs.toArray 0) };rw[Z];refine bp (jj (li slot_list_sort #[_,G,rfl] entry_list_sort (list_sort_treeK strKind_oneLt (s:={ s with heap:=((s.heap.push (seqObj "list" #[] 0)).update s.heap.objs.size (Obj.mapSeq (·++vs.toArray))).push (seqObj "list" vs.toArray 0) }) G sa.keysOf (λv1 v2 r e=>keyKind_strs (by rw[<- e];exact sa)) d λS p1 p2=>#[_,rfl,?_]) (args_list_sort _)));exists zs,D,B,o,sorted_out_str sa p1 p2;exact ci #[_,rfl,h _ zs D B o]
end
def xu(K:Fg):List V->Hp->VK->Prop:=λU H Q=>∃(p:Addr) (vs:List V) (ks:List N),U=[.ref p]/\(dz K H p vs\/d3 K H p vs)/\bG K H ks vs/\tz ks=true/\∀l q,H l=none->kN ks q->Q (.ref l) (upd H l (.lst (q.map λi=>vs.getD i .non)))
def vF{p:Addr}{vs:List V}(I:L2.Inv X aA σ H s)(h:dz X.K H p vs\/d3 X.K H p vs):∃its:List ba,aO vs its/\(s.heap.IsList p its.toArray\/IsTup s.heap p its.toArray):=by rcases h with h|h;{exists its,r,pl,_,I.list h;exact#[its,r,.inl pl.isList]};exists its,r,pl,_,d3.plain I h;exact#[its,r,.inr pl.isTup]
theorem RP(E:X.A.units+64<cLine):fE X (.builtin "sorted") (xu X.K):=by
 intro aA s σ H U us Q I r h;exists p,vs,ks,rfl,hp,hn,ok,q,h;exists u,rfl,D,jZ r;cases D;exists its,m,pl,vF I hp;unfold tz at ok;simp only[cc,jx,fe,fi]at ok;obtain⟨⟨⟨N,L⟩,O⟩,d⟩:=ok;have J:_<1000000:=gq d kM;have S:its.length=vs.length:=m.length.symm;have T:=hn.nth.1;have ta:gB s.heap its ks:=Gx (bG.is (λx _ v u a b=>df.is I x v u a b) hn m);refine RK E pl ta N O L d λw W=>?_;exists e,G,sortedAll_at s.heap its (w.map λi=>its.getD i .none).toArray;have B:w.length=ks.length:=by rw[W.perm.length_eq,oz]
 have le:(w.map λi=>vs.getD i V.non).length<=sizeLine:=by rw[du,B,dj];lia
 have f:aO (w.map λi=>vs.getD i V.non) (w.map λi=>its.getD i Value.none):=Ga λi F=>Gb m (by
  have:=W.perm.mem_iff.mp F;rw[oo]at this;lia)
 exact#[.ref (s.heap.objs.size+1),_,I.laid (t':=s.toks) (λb o e=>sortedAll_old e) (sb _) (show bS X.prog X.w _ _ _ (.lst (w.map λi=>vs.getD i V.non))from#[le,_,e,f,G]),rfl,q _ w (I.hok.fresh (sb _)) W]
def xv(K:Fg):List V->Hp->VK->Prop:=λU H Q=>∃(p:Addr) (ns:List Str),U=[.ref p]/\(dz K H p (ns.map V.str)\/d3 K H p (ns.map V.str))/\ns.length<64/\∀l,H l=none->Q (.ref l) (upd H l (.lst ((fB ns).map V.str)))
theorem RQ:fE X (.builtin "sorted") (xv X.K):=by intro aA s σ H U us Q I r h;exists p,ns,rfl,hp,f,q,h;exists u,rfl,a,jZ r;cases a;exists its,d,pl,vF I hp;have sa:=Fn d;have L:its.length=ns.length:=sa.length;refine RO pl sa (by rw[L];exact f) λout ys O py S=>?_;(exists e,m,sortedAll_at s.heap its out;have E:ys=fB ns:=RN (GB S) py;have le:((fB ns).map V.str).length<=sizeLine:=by rw[du,<- E,py.length_eq,dj];lia);exact#[.ref (s.heap.objs.size+1),_,I.laid (t':=s.toks) (λb o e=>sortedAll_old e) (sb _) (show bS X.prog X.w _ _ _ (.lst ((fB ns).map V.str))from#[le,out.toList,e,by rw[<- E];exact F6 O,by simpa using m]),rfl,q _ (I.hok.fresh (sb _))]
def fE.or{f:ba}{d a:List V->Hp->VK->Prop}(o:fE X f d)(m:fE X f a):fE X f (λU H Q=>d U H Q\/a U H Q):=λaA s σ H U us Q I r h=>by rcases h with h|h;{exact o aA s σ H U us Q I r h};exact m aA s σ H U us Q I r h
def seqD:D->Option (List D)|.lst ds|.tup ds=>some ds|_=>none
def gC:List (Md×D)->Option (Md×D)
 |[(_,d)]=>match seqD d with|some ds=>(match pa ds with|some ns=>if ns.length<64 then some (.fr,.lst ((fB ns).map .str))else none|none=>match cH ds with|some ks=>if tz ks=true then some (.fr,.lst (nDL (dJ ks)))else none|none=>none)|none=>none
 |_=>none
theorem Rp.seqD{K:Fg}{F:Hp}{m:Md}{d:D}(s:aE F H)(e:D3.seqD d=some ds)(r:Rp K F H m d v):∃a U,v=.ref a/\(dz K H a U\/d3 K H a U)/\aC K F ds U:=by cases d with|lst es=>cases e;exists a,U,rfl,q,f,r.seqL s;exact#[a,U,rfl,.inl q,f]|tup es=>cases e;exists a,U,rfl,q,f,r.seqT s;exact#[a,U,rfl,.inr q,f]|_=>cases e
def RR(E:X.A.units+64<cLine):hW X (.builtin "sorted") gC:=by refine#[_,fE.or RQ (RP E),λF H U vs k d Q s D e w=>?_];unfold gC at e;split at e;{rename_i m L;exists v,rfl,r,D.one;split at e;{rename_i ds J;exists a,U,rfl,q,B,Rp.seqD s J r;split at e;{rename_i ns en;split at e;{rename_i o;cases e;exists rfl,K,F8 en B;exact .inl #[a,ns,rfl,q,o,λl f=>w (.ref l) F _ (aJ.fresh _ s f) #[l,rfl,s.free f,_,aY,F9 λx hx=>K x ((vE ns).mem_iff.mp hx)] λ_ a ea=>by cases ea;exact f]};cases e};split at e;{rename_i ks en;split at e;{rename_i o;cases e;have hn:=kL en B;refine .inr #[a,U,ks,rfl,q,hn.map (λx _ v z=>df.mono s x v z),o,λl p f W=>w (.ref l) F _ (aJ.fresh _ s f) #[l,rfl,s.free f,_,aY,?_] λ_ a ea=>by cases ea;exact f];rw[<- W.eq,eO,fu];refine uW λi G=>?_;have:=W.perm.mem_iff.mp G;rw[oo]at this;exact uZ _ _ (hn.nth.2 i this)};cases e};cases e};cases e};cases e
section
variable{A:di}{E:dc}{d:Addr}{o:Obj}{es:Array DictEntry}
def GC(f:(d==sysModules)=false)(ho:s.heap.get? d=some o)(m:o.ExactDict)(hd:o.data=.dict es ep)(q:Q (.ref s.heap.objs.size) { s with heap:=s.heap.push { cls:=.type "dict_keyiterator",data:=.fields (List.toArray [.ref d,.int 0 0,.int es.size 0,.int ep 0]) } }):wpAny (model prog w) A (pyIter (.ref d)) Q E s:=by have a:s.TypeIs (.ref d) "dict":=#[o,ho,m.1];refine wpAny_pyIter_slot a F.slot_dict_iter (li F.slot_dict_iter a F.entry_dict_iter ?_ (F.args_dict_iter_1 (.ref d)));unfold Builtin.«dict.__iter__» Builtin.Dict.dictSlotNone;refine bp (bp (wpAny_notOrdered_dict a (ci ?_)));show wpAny (model prog w) _ (Builtin.Dict.showsAll d>>=_) _ _ s;unfold Builtin.Dict.showsAll;rw[a0 (λz=>by rw[f]at z;cases z)];refine bp (ci (bp (Bl ho hd (bp (CO ho hd ?_)))));refine bp (lj (ci #[.ref s.heap.objs.size,rfl,"dict_keyiterator",_,#[_,fo _ rfl,rfl],F.slot_dict_keyiterator_next.lookup,?_]));simpa[rawInt]using q
theorem GE{e:DictEntry}{Q:Option ba->bz->Prop}(hit:s.heap.IsKeyIter it d i es.size ep)(ho:s.heap.get? d=some o)(hd:o.data=.dict es ep)(D:es[i]? = some e)(q:∀h',h'.IsKeyIter it d (i+1) es.size ep->Heap.SameBut it s.heap h'->Q (some e.key) {s with heap:=h'}):wpAny (model prog w) A (pyNext (.ref it)) Q E s:=by
 exists F,f,B,a,id hit;exists r,rfl,qy.mp D;unfold pyNext;refine bp (Bg (qb (name:=Str.ofString "__next__") hit.typeIs Bm (li Bm hit.typeIs EU ?_ (EV (.ref it)))));refine bp (ci (bp (bp ?_)))
 first|refine bp (Bo hit.typeIs (ci (bp (Bp f a ?_))))|refine bp (Bq hit.typeIs (ci (bp (Bp f a ?_))))
 simp only[show Builtin.Dict_items.ownsTuple "dict_keyiterator"=false by decide,mw,ji]
 show wpAny _ _ (if(Value.ref d==Value.none)=true then _ else _) _ _ s;rw[a0 (λ(z:(Value.ref d==Value.none)=true)=>fq z)];refine bp (ci (bp (Bl ho hd ?_)));rw[a0 (by simp)]
 refine bp (ci (bp (CO ho hd ?_)));rw[a0 (by simp)]
 refine ci ?_;simp only[show ¬ ((i:Int)<0)from by lia,ji,rj,CP r]
 refine bp ?_
 first|refine bp (Bo hit.typeIs (ci (bp (CQ hit.typeIs ?_))))|refine bp (Bq hit.typeIs (ci (bp (CQ hit.typeIs ?_))))
 show wpAny _ _ (setField (.ref it) 1 (rawInt ((i:Int)+1))>>=_) _ _ s;refine bp (um f a (by simp) ?_)
 have m:(s.heap.update it (Obj.mapFields (·.setIfInBounds 1 (rawInt ((i:Int)+1))))).IsKeyIter it d (i+1) es.size ep :=
  #[_,A2 _ f (Obj.isFreed_of_fields (Bf a _)),(Obj.cls_mapFields ..).trans B,by rw[Bf a];simp[rawInt]]
 refine bp (jj (bp (CQ (s:={s with heap:=s.heap.update it (Obj.mapFields (·.setIfInBounds 1 (rawInt ((i:Int)+1))))}) m.typeIs ?_)))
 show wpAny _ _ (pure es[i].key) _ _ _;exact ci (ci #[_,rfl,ci (q _ m (mi ..))])
end
theorem GH{A:di}{E:dc}{d:Addr}{o:Obj}{es:Array DictEntry}{Q:Option ba->bz->Prop}(D:A.handled=none)(hit:s.heap.IsKeyIter it d i es.size ep)(ho:s.heap.get? d=some o)(hd:o.data=.dict es ep)(hi:es.size<=i)(q:∀h',Heap.ExtBut it s.heap h'->Q none {s with heap:=h'}):wpAny (model prog w) A (pyNext (.ref it)) Q E s:=by exists F,f,B,r,id hit;unfold pyNext;refine bp (Bg (qb (name:=Str.ofString "__next__") hit.typeIs Bm (li Bm hit.typeIs EU ?_ (EV (.ref it)))));refine bp (ci (bp (bp ?_)));(first|refine bp (Bo hit.typeIs (ci (bp (Bp f r ?_))))|refine bp (Bq hit.typeIs (ci (bp (Bp f r ?_)))));simp only[show Builtin.Dict_items.ownsTuple "dict_keyiterator"=false by decide,mw,ji];show wpAny _ _ (if(Value.ref d==Value.none)=true then _ else _) _ _ s;rw[a0 (λ(z:(Value.ref d==Value.none)=true)=>fq z)];refine bp (ci (bp (Bl ho hd ?_)));rw[a0 (by simp)];refine bp (ci (bp (CO ho hd ?_)));rw[a0 (by simp)];refine ci ?_;simp only[show ¬ ((i:Int)<0)from by lia,ji,rj,Array.getElem?_eq_none hi];refine bp ?_;(first|refine bp (Bo hit.typeIs (ci ?_))|refine bp (Bq hit.typeIs (ci ?_)));show wpAny (model prog w) _ (setField (.ref it) 0 .none>>=_) _ _ s;refine bp (um f r (by simp) ?_);show wpAny (model prog w) _ (newExc (.type "StopIteration") []>>=_) _ _ _;refine bp ?_;simp only[newExc,newTuple];refine bp (lj (bp (m:=firstArgMember _ _) (wpAny_of_eq (a:=Value.none) (by first|rfl|(simp only[firstArgMember];rfl)) (lj ?_ (by size_fits)))) (by size_fits));simp only[raiseNew];refine bp (wpAny_handled ?_);rw[show A.in1.handled=none from D];refine bp (ci (wpAny_throw ?_));refine bp (Cv (b:=true) (T:="StopIteration") #[_,fo _ rfl,rfl] isSubtype_stop ?_);exact ci (q _ (((mi ..).extBut.push _).push _))
def DL(d:Addr)(o:Obj)(U:List (N×Addr×V)):It :=
 #[λi H=>H d=some (.frz o (.dN U))/\i<U.length,λi H x H'=>H'=H/\∃p,U[i]? = some p/\x=.ref p.2.1,λi H=>H d=some (.frz o (.dN U))/\U.length<=i]
def KN.nth{U:List (N×Addr×ba)}(r:KN kvs U):U.length=kvs.length/\∀(i:Nat) (p:N×Addr×V),kvs[i]? = some p->∃u,U[i]? = some (p.1,p.2.1,u):=by induction r with|nil=>exact#[rfl,λi p h=>by simp at h]| @cons a b as bs h t d=>refine#[by simp[d.1],λi p hp=>?_];cases i with|zero=>(have hp:a=p:=by simpa using hp);subst hp;refine#[b.2.2,?_];rw[h.1,h.2.1];rfl|succ i=>have:=d.2 i p (by simpa using hp);simpa using this
def rA{d:Addr}{o:Obj}{U:List (N×Addr×V)}(ok:fj P w H h)(hd:H d=some (.frz o (.dN U))):(d==sysModules)=false/\∃es,h.get? d=some o/\o.ExactDict/\o.data=.dict es (oa o)/\es.size=U.length/\∀(i:Nat) (p:N×Addr×V),U[i]? = some p->∃e,es[i]? = some e/\e.key=.ref p.2.1:=by exists g,z,y,vs,r,O,es,ep,f,B,A,a,D,ok d _ hd;rw[g]at f;cases f;exists l,n,KN.nth r;refine#[y,es,g,B,by unfold oa;rw[A],by rw[<- lB,a,du,l],λi p hp=>?_];exists u,m,n i p hp;refine#[yM w (p.1,p.2.1,u),?_,rfl];rw[<- Bi,a,gz,m];rfl
theorem RT{K:Fg}(d it:Addr)(o:Obj)(U:List (N×Addr×V)):gY P w K tg (DL d o U) [it] it (λi h=>h.IsKeyIter it d i U.length (oa o)) where
 mem:=by simp
 obj:=λi h st b f=>by(have e:b=it:=by simpa using f);subst e;exists o,e,c,d,st;exact#[o,e,λv z=>by rw[d]at z;cases z]
 keep:=λi h h' st k=>st.at λo e=>k it (by simp) o e
 item:=by intro X B m D L i aA s σ H E I hf st hg;subst B m D;exists hd,A,hg;exists ns,es,g,hx,J,sz,n,rA I.hok hd;exists f0,f1,f2,f3,G,F,hf it (by simp);exists e,O,ke,n i U[i] (by simp[A]);rw[<- sz]at st;refine GE st g J O λh' a r=>?_;have Z:L2.Inv X aA σ H {s with heap:=h'}:=I.turned (t':=s.toks) (λb o f e=>r.extBut b o f e) f0 f1 f3 G F;rw[sz]at a;exists o1,T,c1,W,id a;refine#[e.key,rfl,lH (s:={s with heap:=h'}) T c1 W (by decide) #[.ref U[i].2.1,H,Z,ke,#[rfl,U[i],by simp[A],rfl],a,λb f=>(hf b f).1]]
 done:=by intro X B m D L i aA s σ H E I hf st hg;subst B m D;exists hd,A,hg;exists ns,es,g,hx,J,sz,n,rA I.hok hd;exists f0,f1,f2,f3,G,F,hf it (by simp);exact GH (I.ok.hd L) (by rw[sz];exact st) g J (by lia) λh' S=>#[rfl,I.turned (t':=s.toks) (λb o f e=>S b o f e) f0 f1 f3 G F]
 self:=λ_ _ _ _ _ st h=>CH st h
def GI(tl:TE):TI:=λσ H R=>tl σ H λx H1=>∃d o U,x=.ref d/\H1 d=some (.frz o (.dN U))/\R (DL d o U) H1
def xw{l:Expr}(f:PE X l tl):PI X tg l (GI tl):=by intro aA s σ H R I h;refine thn (f aA s σ H _ I h) λv S ⟨x,H1,a,r,q1⟩=>?_;exists d,o,U,e,hd,q,q1;subst e;cases r;exists ns,es,g,hx,D,sz,n,rA a.hok hd;refine GC ns g hx D ?_;rw[sz];have A:L2.Inv X aA σ H1 { S with heap:=S.heap.push { cls:=.type "dict_keyiterator",data:=.fields (List.toArray [.ref d,.int 0 0,.int U.length 0,.int (oa o) 0]) } }:=a.kept (t':=S.toks) λb o e=>hps e;(refine#[S.heap.objs.size,[S.heap.objs.size],_,_,_,rfl,A,RT d _ o U,#[_,fo _ rfl,rfl,rfl],λb m=>?_,q];have e:b=S.heap.objs.size:=by simpa using m);subst e;exact a.fpOk (dg _) (a.hok.fresh (dg _))
theorem aT.nth{K:Fg}{F:Hp}:∀{kvs:List (N×D)}{U:List (N×Addr×V)},aT K F kvs U->∀(i:Nat) (p:N×Addr×V),U[i]? = some p->∃d,kvs[i]? = some (p.1,d)/\df K F p.1 (.ref p.2.1)|[],U,h,i,p,e=>by simp only[aT]at h;subst h;simp at e|(k,d)::kvs,U,h,i,p,e=>by simp only[aT]at h;exists b,y,ys,rfl,q,r,t,h;cases i with|zero=>(have e:(k,b,y)=p:=by simpa using e);subst e;exact#[d,rfl,q.1]|succ i=>have:=t.nth i p (by simpa using e);simpa using this
def RU{K:Fg}{F:Hp}{a:Addr}{o:Obj}{kvs:List (N×D)}{U:List (N×Addr×V)}(hf:F a=some (.frz o (.dN U)))(r:aT K F kvs U):kB K F (DL a o U) (kvs.map λkv=>nD kv.1) where
 go:=λi H s f=>#[s _ _ hf,by rw[r.len];simpa using f]
 stop:=λi H s f=>#[s _ _ hf,by rw[r.len];simpa using f]
 yld:=λi Fc H x H' m S f y=>by exists rfl,p,hp,rfl,y;exists d,hd,hn,r.nth i p hp;exact#[Fc,nD p.1,by rw[gz,hd];rfl,.refl S,uZ _ _ (df.mono m _ _ hn)]
def rB(r:Res):Res:=r.thn λ_ d=>match d with|.dtf kvs=>.ok .fz (.lst (kvs.map λkv=>nD kv.1))|_=>.stuck
def RV(h:PV C X e g):jz C X tg e (λY=>rB (g Y)):=by refine PI.imp (xw h) λσ H R q=>?_;exists Y,F,A,w,q;dsimp only at w;unfold GI;rw[aV];refine#[Y,F,A,?_];unfold rB at w;cases E:g Y with|stuck=>rw[E]at w;exact w.elim|exc c=>rw[E]at w;exact w|ok m d=>rw[E,Res.thn_ok]at w;intro v F' H' st f _;cases d with|dtf kvs=>(cases m with|fz=>have f:aB X.K F' (.dtf kvs) v:=f;simp only[aB]at f;exists a,o,U,rfl,hf,r,f;exact#[a,o,U,rfl,st.sub _ _ hf,w _ F' H' st (RU hf r)]|fr|bo=>exists a,_,_,q,f;exact q.elim)|_=>exact w.elim
def oH(Y:Rho)(i:Nat):aI:=match Y[i]? with|some (some (true,.dtn kvs))=>.nx (Y.set i (some (false,.dtf kvs)))|some (some (true,.dct kvs))=>.nx (Y.set i (some (false,.dcf kvs)))|_=>.stuck
def aS.nfrz{K:Fg}{F:Hp}{d0 d1:D}{a:Addr}{v:HO}(R:aS K F0 H0 F H σ Y)(e:Y[i]? = some (some (true,d0)))(ev:σ[i]? = some (some (.ref a)))(V:F a=none)(h0:H0 a=none)(r:aE F (upd F a v)->aB K (upd F a v) d1 (.ref a)):aE F (upd F a v)/\aS K F0 H0 (upd F a v) (upd H a v) σ (Y.set i (some (false,d1))):=by(have sm:aE F (upd F a v):=λb u q=>by rw[aP (bV q V)];exact q);(have O:i<Y.length:=(lA.mp e).1;have own:∀{j:Nat}{o:D},(Y.set i (some (false,d1)))[j]? = some (some (true,o))->j≠i/\Y[j]? = some (some (true,o)):=λ{j o} z=>by by_cases f:j=i;{subst f;rw[nq O]at z;cases z};rw[h5 (λy=>f y.symm)]at z;exact#[f,z]);refine#[sm,#[λb u q=>?_,λb u q=>?_,λb u q=>?_,λb q1 J=>?_],λj m o B=>?_,λj k d1 d2 b N e1 e2 q1 J=>R.apart j k d1 d2 b N (own e1).2 (own e2).2 q1 J,by rw[mf];exact R.len];{rw[aP (bV q h0)];exact R.st.same b u q};{rw[aP (bV (R.st.fsame b u q) V)];exact R.st.fsame b u q};{by_cases T:b=a;{subst T;rw[aY]at q ⊢;exact q};rw[aP T]at q ⊢;exact R.sub b u q};{have:b≠a:=λz=>J (iR (by rw[z];exact h0));rw[aP this];exact R.st.new b q1 J};by_cases f:j=i;{subst f;rw[nq O]at B;cases B;exact#[.ref a,ev,r sm,by nofun]};rw[h5 (λz=>f z.symm)]at B;exists W,E,A,L,R.slot j m o B;refine#[W,E,?_,L];cases m with|false=>exact aB.mono sm _ _ A|true=>(exists b,rfl,Z,t',A;have G:b≠a:=λz=>by subst z;exact R.apart j i o _ b f B e E ev);refine#[b,rfl,by rw[aP G];exact Z,?_];cases o with|lst ds|dct ds=>exists ys,q,d,t';exact#[ys,by rw[aP G];exact q,d.mono sm _ _]|ins c fs=>exists C,dx,gs,n,q,d,t';exact#[C,dx,gs,n,by rw[aP G];exact q,d.mono sm _ _]|set ks=>exists S,q,d,t';exact#[S,by rw[aP G];exact q,d]|dtn ds=>exists ys,q,d,t';exact#[ys,by rw[aP G];exact q,d.mono sm _ _]|_=>exact t'.elim
def RW{g:Rho->aI}(h:io C X sts g):io C X sts (λY=>(oH Y i).thn g):=by intro aA s σ H E I q;exists Y,F,R,w,q;dsimp only at w;unfold oH at w;split at w;{rename_i kvs e;exists v,ev,f,hn,R.slot i true _ e;exists a,rfl,m,U,d,r,f;have ok:=I.hok a _ d;exists _,_,_,_,o,_,_,G,_,id ok;have A:=I.write (x:=a) (e:=a) (o:=.frz o (.dN U)) (t':=s.toks) (h':=s.heap) (by rw[d];exact trivial) (.inl rfl) (λ_ _ _ q=>q) #[_,G] #[G,ok.stay (λ_ _ _ q=>q) (λc q=>by rw[aP (λz=>by rw[z,d]at q;cases q)];exact q) λc ys q=>by rw[aP (λz=>by rw[z,d]at q;cases ys <;> cases q)];exact q];(exists sm,R2,aS.nfrz (v:=.frz o (.dN U)) (d1:=.dtf kvs) R e ev m (hn rfl a rfl) λsm=>by simp only[aB];exact#[a,o,U,rfl,aY,r.mono sm _ _]);exact h aA s σ _ E A #[_,_,R2,bZ.mono sm w]};{rename_i kvs e;exists v,ev,f,hn,R.slot i true _ e;exists a,rfl,m,U,d,r,f;have ok:=I.hok a _ d;exists _,_,_,_,o,_,_,G,_,id ok;have A:=I.write (x:=a) (e:=a) (o:=.frz o (.dK U)) (t':=s.toks) (h':=s.heap) (by rw[d];exact trivial) (.inl rfl) (λ_ _ _ q=>q) #[_,G] #[G,ok.stay (λ_ _ _ q=>q) (λc q=>by rw[aP (λz=>by rw[z,d]at q;cases q)];exact q) λc ys q=>by rw[aP (λz=>by rw[z,d]at q;cases ys <;> cases q)];exact q];(exists sm,R2,aS.nfrz (v:=.frz o (.dK U)) (d1:=.dcf kvs) R e ev m (hn rfl a rfl) λsm=>by simp only[aB];exact#[a,o,U,rfl,aY,r.mono sm _ _]);exact h aA s σ _ E A #[_,_,R2,bZ.mono sm w]};exact w.elim
def vG(w:cw)(p:N×Addr):Int×ba:=(fY w p.1,.ref p.2)
def DM(w:cw)(h:Heap)(a:Addr)(ps:List (N×Addr)):Prop:=∃o es ep t,h.get? a=some o/\o.ExactSet/\o.data=.set es ep t/\es.toList=ps.map (vG w)/\ps.length<=4/\t.fits es.size=true/\t.led = !kI w/\xb t
def RX(w:cw)(h:Heap)(a:Addr)(p:N×Addr):Prop:=∃o ep t,h.get? a=some o/\o.ExactSet/\o.data=.set (List.toArray [vG w p]) ep t/\t.mask=7/\t.dummies = #[]/\t.place = (List.toArray [SetTable.bits (fY w p.1) % 8])/\t.led = !kI w
theorem vH{α d:Type}{f:α->d}:∀{l:List d}{ps:List α},l.Perm (ps.map f)->∃a:List α,a.Perm ps/\l=a.map f|[],ps,h=>by(have:=h.symm.eq_nil;have e:ps=[]:=by simpa using this);subst e;exact#[[],.refl _,rfl]|x::l,ps,h=>by exists p,hp,rfl,de.mp (h.mem_iff.mp cj);exists s,t,rfl,List.append_of_mem hp;have m:(s++p::t).Perm (p::(s++t)):=List.perm_middle;exists a,q1,o,vH ((h.trans (m.map f)).cons_inv);exact#[p::a,(q1.cons p).trans m.symm,by rw[o];rfl]
open PySem.W
def sn(w:cw)(l:Addr)(ps:List (N×Addr)):HO:=.ext λh=>DM w h l ps
def DN(t:SetTable)(h:Int):Nat->SetTable.Probe|0=>t.probeStart h|n+1=>t.advance (DN t h n)
def RY(t:SetTable)(h:Int)(j:Nat):Prop:=∃n,(DN t h n).j=j/\∀m<n,(DN t h m).j∈t.place.toList
structure RZ(w:cw)(t:SetTable)(es:Array (Int×ba))(qs:List (Nat×N×Addr)):Prop where
 mask:t.mask=7
 dum:t.dummies = #[]
 rise:xa t.place
 place:t.place.toList=qs.map (·.1)
 ents:es.toList=qs.map λq=>vG w q.2
 few:qs.length<=4
 led:t.led = !kI w
 rch:∀q∈qs,RY t (fY w q.2.1) q.1
def R5(w:cw)(h:Heap)(a:Addr)(d:List (Nat×N×Addr)):Prop:=∃o es ep t,h.get? a=some o/\o.ExactSet/\o.data=.set es ep t/\RZ w t es d
open PySem.W
def lh:Md->D->Md->D->Option (Md×D):=λ_ x _ y=>match bA x,bA y with|some a,some b=>if(decide (a.dp<=40)&&fx a b)=true then some (.fz,.bl (ltN a b))else none|_,_=>none
def GJ{K:Fg}{F:Hp}{m:Md}{d:D}{k:N}(e:bA d=some k)(r:Rp K F H m d v):df K F k v:=by
 cases m with
 |fz=>exact uY e r|fr=>exists a,_,_,q,r;cases d with|lst ds|dct ds|ins c fs|set ks|dtn ds=>simp only[bA]at e;cases e|_=>exact q.elim
 |bo=>exists a,_,_,q,r;cases d with|lst ds|dct ds|ins c fs|set ks|dtn ds=>simp only[bA]at e;cases e|_=>exact q.elim
theorem R6(r:X.A.units+64<cLine):ez C X (compareOp .Lt) lh:=by refine#[λx y H Q=>∃a b,df X.K H a x/\df X.K H b y/\a.dp<=40/\fx a b=true/\Q (.bl (ltN a b)) H,?_,?_];{intro aA s σ H x y v u Q I rx ry h;exists a,b,o,N,hd,ok,q,h;exact qZ a (by lia) (df.is I a x v o rx) (df.is I b y u N ry) ok #[.bl (ltN a b),H,I,rfl,q]};intro F H m x n y v u k d Q s rx ry e w;unfold lh at e;split at e;{rename_i a b ea eb;split at e;{rename_i f;rw[cc,fe]at f;cases e;exact#[a,b,df.mono s _ _ (GJ ea rx),df.mono s _ _ (GJ eb ry),f.1,f.2,w _ F H (.refl s) (cJ _) (by nofun)]};cases e};cases e
end D3
namespace L2
def R7{K:Fg}{f c:Addr}{args:Arguments}{body:Expr}{D ct:ba}{A:di}{Q:VK}{E:XK}{t:TE}(S:j4 [x] [x] scope)(Z:bindArgs (W.kla_fn "<lambda>" qual args body scope [] D (.ref c) ct) #[[u],[]]=pure [(x,u)])(hd:A.handled=none)(m:A.depth<recursionLimit)(d:iN P w K mg base A outer s H)(hf:H f=some (g9 f (W.kla_obj "<lambda>" qual args body scope [] D c ct)))(T:H c=some (.crec qual))(r:aH v u)(a:PE (cO CX P w K mg base [x] qual scope f (.ref c) A outer s H E) body t)(N:t (start [x] [v]) H Q):codeAny (model P w) A (.call (.ref f) #[[u],[]]) (CR CX outer P w H s Q E) s:=by(have L:s.heap.NoLimit:=d.mod.nolimit.keeps λb o e=>(d.bs b o e).1;have cS:∀y∈[x].zip [u],scope.names.lookup y.1=some .local\/(scope.names.lookup y.1=some .cell/\((cellsFrom (s.heap.objs.size+1) scope.names []).lookup y.1).isSome=true):=λ⟨n,v⟩ G=>by rcases S.par n (AY G).1 with q|q;{exact .inl q};exact .inr #[q,Ci _ _ _ (.inl q)]);refine W.kla_callFunE m (Os d.hok hf) rfl S.co S.gen rfl (Ot d.hok T) ?_;rw[Z];refine ci (wpAny_newFunctionEnv_cells S.kind cS λenv O B y=>?_);subst O;refine#[L.keeps y.toInCall.keep,W.kla_codeExpr ?_];have I:Inv (cO CX P w K mg base [x] qual scope f (.ref c) A outer s H E) [] (start [x] [v]) H B:=zF S hd d rfl (.cons r .nil) y;refine jh (a [] B (start [x] [v]) H _ I N) (λu' s' hs=>?_) λe s' hs=>hs;exists V,H',J,F,q,hs;exact#[V,H',J.os,J.bare,J.base,J.hok,F,q]
end L2
namespace D3
section
open PySem.SeqAt
open PySem.AutoSeq1 (wpAny_loadPart')
open PySem.MeetsSeq PySem.MeetsSeq2 PySem.MeetsSeq3
theorem R8(l b:Addr)(items a:Array ba)(n n2:Nat)(Z O:Option Addr)(T S:Array (Option ba))(r:Bool):∀(us vs:List ba) (i:Nat),items.toList.drop i=us->a.toList.drop i=vs->i<=items.size->i<=a.size->Meets (Builtin.«list.__eq__.loop» #[[.ref l,.ref b,rawInt i,rawInt 0],[]]) (λA R s=>s.heap.get? l=some { cls:=.type "list",dict:=Z,data:=.seq items n,slots:=T }/\s.heap.get? b=some { cls:=.type "list",dict:=O,data:=.seq a n2,slots:=S }/\ki A.in1 s us vs r/\R (.ok (.ret (.bool r))) s):=by
 intro us
 induction us with
 |nil=>(intro vs i h1 h2 l1 l2 prog w A R s h;exists hp,g,d,tk,os,s;exists B,D,o,h,h;have z1:items.size=i:=by have:=congrArg List.length h1;simp at this;lia);wp_walk using wpAny_loadPart' B,wpAny_loadPart' D;(have f:items[((i:Nat):Int).toNat]? = none:=by simp;lia);(rw[f];have F:r=decide (items.size<a.size):=by cases o with|nn=>have:=congrArg List.length h2;simp at this;exact(ig (by lia)).symm|nc=>have:=congrArg List.length h2;simp at this;exact(gS (by lia)).symm);rw[F]at h;wp_walk using wpAny_loadPart' B,wpAny_loadPart' D;exact h
 |cons u us V =>
  intro vs i h1 h2 l1 l2 prog w A R s h;exists hp,g,d,tk,os,s;exists B,D,o,h,h;have E:i<items.size:=by have:=congrArg List.length h1;simp at this;lia
  have f:items[((i:Nat):Int).toNat]? = some u:=by(have:items.toList[i]? = some u:=by have:=congrArg (λl=>l[0]?) h1;simpa using this);simpa using this
  have N:items.toList.drop (i+1)=us:=by have:=congrArg List.tail h1;simpa using this
  wp_walk using wpAny_loadPart' B,wpAny_loadPart' D
  cases vs with
  |nil=>((have z2:a.size=i:=by have:=congrArg List.length h2;simp at this;lia);(have m:a[((i:Nat):Int).toNat]? = none:=by simp;lia);(rw[f,m];have F:r=decide (items.size<a.size):=by cases o with|cn=>exact(ig (by lia)).symm);rw[F]at h;wp_walk using wpAny_loadPart' B,wpAny_loadPart' D;exact h)|cons v vs =>
   have L:i<a.size:=by have:=congrArg List.length h2;simp at this;lia
   have m:a[((i:Nat):Int).toNat]? = some v:=by(have:a.toList[i]? = some v:=by have:=congrArg (λl=>l[0]?) h2;simpa using this);simpa using this
   have K:a.toList.drop (i+1)=vs:=by have:=congrArg List.tail h2;simpa using this
   have W:((i:Int)+1)=((i+1:Nat):Int):=by push_cast;rfl
   rw[f,m];cases o with
   |eq o J =>
    refine bp (o prog w _ _ ?_)
    wp_walk
    rw[W];exact#[plainId_quiet plain_eq_loop _,sj entry_eq_loop (by
     rw[Br plain_eq_loop _];exact V vs (i+1) N K E L prog w A R _ #[B,D,J,h])]
   |ne o J=>refine bp (o prog w _ _ ?_);have G:=J prog w;wp_walk using wpAny_loadPart' B,wpAny_loadPart' D;rw[f,m];wp_walk using G;exact h
def GK(l b:Addr)(items a:Array ba)(n n2:Nat)(B D:Option Addr)(f S:Array (Option ba))(r:Bool):Meets (Builtin.«list.__lt__» #[[.ref l,.ref b],[]]) (λA R s=>s.heap.get? l=some { cls:=.type "list",dict:=B,data:=.seq items n,slots:=f }/\s.heap.get? b=some { cls:=.type "list",dict:=D,data:=.seq a n2,slots:=S }/\ki A.in1 s items.toList a.toList r/\R (.ok (.ret (.bool r))) s):=by
 intro prog w A R s h;exists hp,g,d,tk,os,s;exists m,o,E,h,h;have f3:=AutoSeq1.sub_list_list
 wp_walk using wpAny_loadPart' m,wpAny_loadPart' o
 exact#[plainId_quiet plain_eq_loop _,sj entry_eq_loop (by
  rw[Br plain_eq_loop _];exact R8 l b items a n n2 B D f S r _ _ 0 rfl rfl (gy _) (gy _) prog w A R _ #[m,o,by simpa using E,h])]
end
section
variable{A:di}{E:dc}
theorem R9{a:Addr}{U ys:List N}{its its':Array ba}{Q:Bool->bz->Prop}(L:A.units+N.dpL U+4<cLine)(ha:s.heap.IsList a its)(J:s.heap.IsList b its')(hx:aW s.heap U its.toList)(B:aW s.heap ys its'.toList)(ok:cM U ys=true)(q:Q (bC U ys) s):wpAny (model prog w) A (keyLt' oneType' (.ref a) (.ref b)) Q E s:=by obtain⟨⟨cls,K,data,r⟩,ga,m,n,hd⟩:=ha;obtain⟨⟨o,D,data2,S⟩,gb,f,n2,d⟩:=J;simp only at m hd f d;subst m hd f d;rw[keyLt'_oneType,oneLt'_eq];simp only[ot];refine bp (wpAny_cRoomFor (by lia) ?_);refine bp (wpAny_callSpecialIfBound?_slot #[_,ga,rfl] CS ?_);have G:ki A.in1 s its.toList its'.toList (bC U ys):=qY (A:=A.in1) (λx hx y u v p1 p2 ok prog W E Q q=>qZ x (by have:=N.dp_mem hx;show A.units+1+_+1<_;lia) p1 p2 ok q) (by show A.units+1+_<_;lia) hx B ok;refine call_meets CS #[_,ga,rfl] PySem.F.entry_list_lt (PySem.F.args_list_lt_2 _ _) (GK a b its its' n n2 K D r S (bC U ys)) #[ga,gb,G,?_];exact qz q
end
open PySem.W
structure vI(prog:e7)(w:cw)(A:di)(n:Nat)(lt:Nat->Nat->Bool)(ks:List ba)(s:bz):Prop where
 ex:2<=n->∃κ,(∀(Q:SortKind->bz->Prop) (E:dc),Q κ s->wpAny (model prog w) A (keyKind' ks.toArray) Q E s) /\
  ∀i j (Q:Bool->bz->Prop),i<n->j<n->Q (lt i j) s->wpAny (model prog w) A (keyLt' κ (ks.getD i .none) (ks.getD j .none)) Q (λ_ _=>False) s
section
variable{E:dc}
def rE{a:Addr}{o:Obj}(I:Inv X aA σ H s)(hf:c9 X aA H a)(e:s.heap.get? a=some o)(hd:∀v,o.data ≠ .cell v):Inv X ((a,o)::aA) σ H s:=by refine I.pins_of λp hp=>?_;rcases cy.mp hp with rfl|hp;{exact#[e,hf.1,hf.2.1,hf.2.2.1,hd]};exact I.pin p (iu _ hp)
def jJ{p:Addr×Obj}(I:Inv X (p::aA) σ H s):Inv X aA σ H s:=I.pins_of λq a=>I.pin q (iu _ (cs a))
def rF{p:Addr×Obj}(I:Inv X (p::aA) σ H s):H p.1=none:=(I.pin p (iu _ cj)).2.1
def rG{p:Addr×Obj}(I:Inv X (p::aA) σ H s):s.heap.get? p.1=some p.2:=(I.pin p (iu _ cj)).1
def rH{a:Addr}(hf:c9 X aA H a)(hn:H' a=none):c9 X aA H' a:=#[hn,hf.2]
def Inv.track{a:Addr}{o:HO}(I:Inv X aA σ H s)(hf:c9 X aA H a)(new:bS X.prog X.w (upd H a o) s.heap a o):Inv X aA σ (upd H a o) s:=by(exists f0,f1,f2,f3,F,f,hf;have up:∀{b:Addr}{u:HO},H b=some u->upd H a o b=some u:=λ{b u} e=>by rw[aP (bV e f0)];exact e);(refine I.call (g':=s.gens) (d':=s.drawn) (t':=s.toks) (ch:=[a]) #[λb o e _ _ _=>e,λb o e _ _ _=>#[o.slots,e],λb o e n d=>by rw[aP (by simpa using d)];exact n,λb o e _=>#[o,e],λb U e=>up e,λb o u e=>up e,λb ps e=>#[#[],by rw[up e];simp]] (λb u e=>?_) I.bare λb d=>by(obtain rfl:b=a:=by simpa using d);exact#[f3,f1,F,f]);by_cases d:b=a;{subst d;rw[aY]at e;cases e;exact new};rw[aP d]at e;exact(I.hok b u e).stay (λ_ _ _ q=>q) (λc q=>up q) λc v q=>up q
theorem Sa{f:ba}{a K:Addr}{Z:Nat}{lt:Nat->Nat->Bool}{A:di}{P:Nat->List V->Hp->Prop}{R:PySem.Fin->bz->Prop}(O:jb lt)(hv:aO U vs)(ae:U.length<eM)(ne:a≠K)(fa:c9 X aA H a)(fk:c9 X aA H K)(I:Inv X ((K,seqObj "list" #[] 0)::(a,seqObj "list" #[] Z)::aA) σ H s)(P0:P 0 [] H)(cl:∀i v u kvs H' pins' s',U[i]? = some v->aH v u->Inv X pins' σ H' s'->P i kvs H'->wpAny (model X.prog X.w) A (call f [u]) (λm af=>∃kv H'',Inv X pins' σ H'' af/\aH kv m/\P (i+1) (kvs++[kv]) H'') (λ_ _=>False) s')(kd:∀kvs ks H' pins' s',Inv X pins' σ H' s'->P U.length kvs H'->aO kvs ks->ks.length=U.length->vI X.prog X.w A U.length lt ks s')(ak:∀(p:List Nat) H' s' kvs,p.Perm (List.range U.length)->(p.Pairwise λi j=>lt j i=false)->P U.length kvs H'->H' a=none->Inv X aA σ (upd H' a (.lst (p.map λi=>U.getD i .non))) s'->R (.done (.ret .none)) s'):wpAny (model X.prog X.w) A (ksk_rest a f false vs.toArray Z (.ref K)) R E s:=by
 have aq:U.length<1000000:=gq ae kM;have lv:U.length=vs.length:=hv.length;unfold ksk_rest;refine bp (rr ?_);rw[List.forIn_toArray]
 let J:Nat->bz->Prop:=λi s'=>∃ks kvs e H',Inv X ((K,seqObj "list" (List.toArray ks) e)::(a,seqObj "list" #[] Z)::aA) σ H' s'/\P i kvs H'/\aO kvs ks/\ks.length=i
 refine bp (ksk_fold J vs 0 s #[[],[],0,H,I,P0,.nil,rfl] (λj x s' hx hJ=>?_) λs' hJ=>?_)
 . rw[mh]at hJ ⊢;exists ks,kvs,e,H',L,p,r,hl,hJ;have am:j<vs.length:=(lA.mp hx).1;obtain⟨v,ev⟩:∃v,U[j]? = some v:=#[_,gg (by lia)]
   exists u,eu,rv,hv.get ev;rw[hx]at eu;cases eu;refine bp (Bg (jh (cl j v x kvs H' _ s' ev rv L p) (λm D hk=>?_) λ_ _ hF=>hF.elim));exists kv,H2,I2,rk,p2,hk;have gk:=rG I2;dsimp only at gk ⊢;have sm:=mi D.heap K (Obj.mapSeq (·.push m));have ea:(List.toArray ks).push m=List.toArray (ks++[m]):=by simp
   obtain⟨c2,N⟩:∃c2,(D.heap.update K (Obj.mapSeq (·.push m))).get? K=some (seqObj "list" (List.toArray (ks++[m])) c2):=#[_,by rw[<- ea];exact uq gk (·.push m)]
   refine bp (oy gk rfl ?_ (by rw[fh,dj];lia) (ir (AW (Array.size_push ..)) (by rw[fh,dj];lia)))
   have ga:=rG (jJ I2);have F:=rH fk (rF I2);have d:=rH fa (rF (jJ I2))
   have I3:=qG (t':=D.toks) (its:=[K]) (jJ (jJ I2)) (h':=D.heap.update K (Obj.mapSeq (·.push m))) (λb o B q=>(sm.2 b (by simpa using B)).trans q) (λb B=>by
    obtain rfl:b=K:=by simpa using B
    exact F)
   have I4:=rE I3 d ((sm.2 a ne).trans ga) (by intro v z;cases z)
   have I5:=rE I4 #[F.1,F.2.1,F.2.2.1,F.2.2.2.1,F.2.2.2.2.1,λp hp=>by
    rcases ii.mp hp with hp|hp
    . exact F.2.2.2.2.2 p (oq _ hp)
    . rcases cy.mp hp with rfl|hp
      . exact ne
      . exact F.2.2.2.2.2 p (iu _ hp)] N (by intro v z;cases z)
   exact ci #[rfl,ks++[m],kvs++[kv],c2,H2,I5,p2,aO.append r (.cons rk .nil),by simp[hl]]
 . rw[mh]at hJ;exists ks,kvs,e,H',L,p,r,hl,hJ;have gk:=rG L;dsimp only at gk ⊢;refine bp (uo gk rfl ?_);rw[<- lv]at p hl;have KO:=kd kvs ks H' _ s' L p r hl;have tail:∀(st:SortSt) (q:List Nat),q.Perm (List.range U.length)->(q.Pairwise λi j=>lt j i=false)->(arrOf st).map (·.2)=(q.map λi=>vs.getD i Value.none).toArray->failedOf st=none->wpAny (model X.prog X.w) A (ksk_tail a false Z (.ref K) st) R E s':=by
     intro st q qp qs hout hf;have ql:q.length=U.length:=by rw[qp.length_eq,oz]
     unfold ksk_tail;dsimp only;rw[hout,a0 fq];have s1:=mi s'.heap K (Obj.mapSeq λ_=>(#[]:Array ba));refine bp (oy gk rfl ?_ (by rw[fh,dj];lia) (gy _))
     refine bp (wpAny_letGo ?_);have ga:=rG (jJ L);dsimp only at ga;have W:(s'.heap.update K (Obj.mapSeq λ_=>(#[]:Array ba))).get? a=some (seqObj "list" #[] Z):=(s1.2 a ne).trans ga;refine bp (ur W rfl ?_);have ag:((q.map λi=>vs.getD i Value.none).toArray).size=U.length:=by rw[fh,du,ql]
     refine bp (oy W rfl ?_ (gy _) (ir (AW ag) (by rw[dj];lia)))
     rw[hf];simp only[CN,mw,ji];have D:=mi (s'.heap.update K (Obj.mapSeq λ_=>(#[]:Array ba))) a (Obj.mapSeq λ_=>(q.map λi=>vs.getD i Value.none).toArray);obtain⟨c2,N⟩:∃c2,((s'.heap.update K (Obj.mapSeq λ_=>(#[]:Array ba))).update a (Obj.mapSeq λ_=>(q.map λi=>vs.getD i Value.none).toArray)).get? a=some (seqObj "list" ((q.map λi=>vs.getD i Value.none).toArray) c2):=#[_,uq W λ_=>(q.map λi=>vs.getD i Value.none).toArray];have F:=rH fk (rF L);have d:=rH fa (rF (jJ L));have I3:=qG (t':=s'.toks) (its:=[K,a]) (jJ (jJ L)) (h':=(s'.heap.update K (Obj.mapSeq λ_=>(#[]:Array ba))).update a (Obj.mapSeq λ_=>(q.map λi=>vs.getD i Value.none).toArray))
      (λb o B z=>by
       simp only[cy,mz,h9,not_or]at B;exact(D.2 b B.2).trans ((s1.2 b B.1).trans z)) (λb B=>by
       simp only[cy,mz,h9]at B;rcases B with rfl|rfl
       . exact F
       . exact d)
     have n0:H' a=none:=d.1;have vo:aO (q.map λi=>U.getD i .non) (q.map λi=>vs.getD i Value.none):=by(have:∀q:List Nat,(∀i∈q,i<U.length)->aO (q.map λi=>U.getD i .non) (q.map λi=>vs.getD i Value.none):=by intro q;induction q with|nil=>intro _;exact .nil|cons i q ih=>(intro hq;have G:=hq i cj;exists u,eu,ru,hv.get (gg G);refine .cons ?_ (ih λj hj=>hq j (cs hj));have Z:U.getD i .non=U[i]:=by simp[G]);(have e2:vs.getD i Value.none=u:=by simp[eu]);show aH (U.getD i .non) (vs.getD i Value.none);rw[Z,e2];exact ru);exact this q λi G=>by simpa using qp.mem_iff.mp G
     have I4:=Inv.track I3 (o:=.lst (q.map λi=>U.getD i .non)) d #[by rw[du,ql,dj];lia,_,c2,vo,N]
     exact ci (ak q H' _ kvs qp qs p n0 I4)
   unfold ksk_end;dsimp only;rw[a0 fq];simp only[mw,ji];by_cases T:vs.toArray.size<2
   . rw[al T,al T];rw[fh]at T;refine bp (ci ?_);rw[StateT.run_pure];refine bp (ci ?_);refine tail _ (List.range U.length) (jy _) ?_ ?_ rfl;{(have hx:U.length=0\/U.length=1:=by lia);rcases hx with hx|hx <;> rw[hx] <;> simp[CT]};rw[lv,qN];show(((List.toArray ks).zip vs.toArray).map (·.2))=vs.toArray;apply Array.ext;{simp;lia};intro i h1 T;simp
   . rw[a0 T,a0 T];rw[fh]at T;exists κ,ai,ah,KO.ex (by lia)
     refine bp (ai _ _ ?_);have aa:ks.length=vs.length:=by lia
     refine bp (jh (Go (ks:=ks) (vs:=vs) (κ:=κ) O aa (by lia) (by lia) (λi j C G hj hq=>ah i j C (by lia) (by lia) hq)
      (Q:=λS D=>D=s'/\∃p:Array Nat,PW vs.length p/\p.Perm (List.toArray (List.range vs.length))/\jc lt p vs.length/\arrOf S=p.map (kas_item ((List.toArray ks).zip vs.toArray))/\failedOf S=none)
      λp S a1 a2 a3 a4 a5=>#[rfl,p,a1,a2,a3,a4,a5]) ?_ λ_ _ e=>e)
     rintro⟨⟨⟩,S⟩ D ⟨rfl,p,pp,pe,u,ea,ef⟩;dsimp only;refine tail S p.toList (by rw[lv];simpa using CJ.mp pe) ?_ (kat_snds aa ea) ef
     refine List.pairwise_iff_getElem.mpr λi j G hj aj=>?_;rw[lB]at G hj;have:=u i j aj (by rw[<- pp.size];exact hj)
     simpa[Array.getD,G,hj]using this
end
def iY(κ:α->Int)(x:α):List α->List α|[]=>[x]|y::l=>if κ y<κ x then y::iY κ x l else x::y::l
section
variable{A:di}{E:dc}
def Sb{d:Addr}{P:Nat->ba->Prop}{O:Heap->Prop}{R:List ba->bz->Prop}(K:W.KdlSrc prog w "dict" d d n P O)(a:A.handled=none)(hok:O s.heap)(hn:n<=sizeLine)(h:∀h' tk vs,(∀b o,s.heap.get? b=some o->h'.get? b=some o)->s.heap.objs.size<h'.objs.size->ItemsOf P vs n->R vs.toList {s with heap:=h',toks:=tk}):wpAny (model prog w) A (collect (.ref d)) R E s:=by
 have L:=(K.there _ hok).1;unfold collect;refine bp (wpAny_runValue (sj PySem.F.entry_proto_collect ?_));rw[Br PySem.F.plain_proto_collect _];show wpAny (model prog w) A.in1 (newList []>>=λl=>again (.builtin "list.__iadd__" #[[l,.ref d],[]])) _ _ s;refine bp (lj (ci #[plainId_quiet PySem.F.plain_list_iadd _,sj PySem.F.entry_list_iadd ?_]));rw[Br PySem.F.plain_list_iadd _];have m:(s.heap.push { cls:=.type "list",data:=.seq ([]:List Value).toArray }).get? s.heap.objs.size=some { cls:=.type "list",data:=.seq #[] }:=fo _ rfl;show wpAny (model prog w) A.in1 (Builtin.List.listExtendWith (.ref s.heap.objs.size) (.ref d) (.ref s.heap.objs.size)) _ _ _;have key:=W.kdl_extend (A:=A) (prog:=prog) (s:={ s with heap:=s.heap.push { cls:=.type "list",data:=.seq ([]:List Value).toArray } })
  (R:=λq s'=>∃h' tk vs c,q=.ok (.ret (.ref s.heap.objs.size))/\s'={s with heap:=h',toks:=tk}/\(∀b o,s.heap.get? b=some o->h'.get? b=some o)/\h'.get? s.heap.objs.size=some { cls:=.type "list",dict:=none,data:=.seq vs c,slots:=#[] }/\ItemsOf P vs n)
  K a (K.keep _ _ hok λb _ o e=>hps e) s.heap.objs.size (p7 L) (p7 L) (.ref s.heap.objs.size) 0 m
  (λh' tk vs c kp G it=>#[h',tk,vs,c,rfl,rfl,λb o e=>kp b o (gx (dy e)) (hps e),G,it]) hn
 refine jh key (λf s' x=>?_) λe s' x=>?_
 . cases f with|done f=>exists h',tk,vs,c,e,rfl,kp,G,it,x;cases e;show wpAny _ A (load s.heap.objs.size>>=_) _ _ _;exact bp (wpAny_load G (ci (h h' tk vs kp (dy G) it)))|again c1=>refine#[x.1,qe x.2 λq S y=>?_];exists h',tk,vs,c,rfl,rfl,kp,G,it,y;show wpAny _ A (load s.heap.objs.size>>=_) _ _ _;exact bp (wpAny_load G (ci (h h' tk vs kp (dy G) it)))
 . exists _,_,_,_,r,_,x;cases r
end
def Sc{d:Addr}{o:Obj}{es:Array DictEntry}(J:(d==sysModules)=false)(F:o.ExactDict)(hd:o.data=.dict es ep):W.KdlSrc P w "dict" d d es.size (λi v=>∃e,es[i]? = some e/\e.key=v) (λh=>h.get? d=some o) where
 type:=λ_ e=>#[o,e,F.1]
 there:=λ_ e=>#[dy e,dy e]
 keep:=λ_ _ e hk=>hk d (.inl rfl) o e
 notList:=by decide
 notTuple:=by decide
 hint:=λ_ _ _ _ e B=>W.kdl_hint_dict #[o,e,F.1] B
 iter:=λA s L e=>#[_,λi h=>h.IsKeyIter s.heap.objs.size d i es.size ep/\h.get? d=some o,(λ_ _ B=>GC J e F hd B),
  { sub:=λb a=>by simp at a;simp[a]
    frame:=λ_ _ _ st hk=>#[st.1.at λo e=>hk _ (by simp) o e,hk d (by simp) o st.2]
    item:=λi S Q E K st r=>by have G:es[i]? = some es[i]:=CP K;refine GE st.1 st.2 hd G λh' m f=>r _ h' S.toks #[_,G,rfl] #[m,f.extBut d o (gx (dy e)) st.2] λb o a e=>f.extBut b o (λh=>a (by simp[h])) e
    done:=λS Q E st r=>GH L st.1 st.2 hd (dg _) λh' D=>r h' S.toks λb o a e=>D b o (λh=>a (by simp[h])) e
    self:=λ_ _ _ _ st r=>CH st.1 r },#[_,fo _ rfl,rfl,rfl],hps e]
theorem GL:∀{U:List (N×Addr×V)}{us:List ba},us.length=U.length->(∀(j:Nat) v,us[j]? = some v->∃p:N×Addr×V,U[j]? = some p/\v=.ref p.2.1)->aO (U.map λp=>V.ref p.2.1) us|[],[],_,_=>.nil|[],_::_,h,_|_::_,[],h,_=>by simp at h|x::U,u::us,h,q=>by exists p,d,E,q 0 u rfl;cases d;exact .cons E (GL (by simpa using h) λj v a=>q (j+1) v a)
theorem GN{K:Fg}{F:Hp}:∀{kvs:List (N×D)}{U:List (N×Addr×V)},aT K F kvs U->aC K F (kvs.map λkv=>nD kv.1) (U.map λp=>V.ref p.2.1)|[],U,h=>by simp only[aT]at h;subst h;simp[aC]|(k,d)::kvs,U,h=>by simp only[aT]at h;exists b,y,ys,rfl,q,_,t,h;simp only[cu,aC];exact#[_,_,rfl,uZ _ _ q.1,GN t]
open PySem.W
section
variable{E:dc}
theorem Sd{f:ba}{q:Addr}{lt:Nat->Nat->Bool}{P:Nat->List V->Hp->Prop}{Q:VK}(hf:f=.ref q)(O:jb lt)(r:U.length<eM)(I:Inv X aA σ H s)(rv:aO U vs)(col:∀{R:List ba->bz->Prop}{E':dc},(∀h' tk,(∀b o,s.heap.get? b=some o->h'.get? b=some o)->s.heap.objs.size<=h'.objs.size->R vs {s with heap:=h',toks:=tk})->wpAny (model X.prog X.w) X.A.in1 (collect (.ref l)) R E' s)(P0:P 0 [] H)(cl:∀i v u kvs H' pins' s',U[i]? = some v->aH v u->Inv X pins' σ H' s'->P i kvs H'->wpAny (model X.prog X.w) X.A.in1.in1 (call f [u]) (λku S=>∃kv H'',Inv X pins' σ H'' S/\aH kv ku/\P (i+1) (kvs++[kv]) H'') (λ_ _=>False) s')(kd:∀kvs ks H' pins' s',Inv X pins' σ H' s'->P U.length kvs H'->aO kvs ks->ks.length=U.length->vI X.prog X.w X.A.in1.in1 U.length lt ks s')(W:∀(p:List Nat) H' kvs l',p.Perm (List.range U.length)->(p.Pairwise λi j=>lt j i=false)->P U.length kvs H'->H' l'=none->H l'=none->Q (.ref l') (upd H' l' (.lst (p.map λi=>U.getD i .non)))):wpAny (model X.prog X.w) X.A (call (.builtin "sorted") [.ref l] [(Str.ofString "key",f)]) (EP X aA σ Q) E s:=by
 subst hf;have aa:U.length<1000000:=gq r kM;have lv:U.length=vs.length:=rv.length;refine call_function_entry_kw kind_sorted plain_sorted entry_sorted (ksk_s1 _ _) ?_;unfold Builtin.«sorted»;refine bp (m:=checkCount "sorted" 1 1 [Value.ref l].length) (ci (bp (col λd tk kc zc=>bp (sg ?_ (by rw[dj];lia)))))
 have K:∀b o,s.heap.get? b=some o->(d.push (seqObj "list" vs.toArray 0)).get? b=some o:=λb o e=>hps (kc b o e);have G:(d.push (seqObj "list" vs.toArray 0)).get? d.objs.size=some (seqObj "list" vs.toArray 0):=fo _ rfl;show wpAny _ _ _ _ _ { s with heap:=d.push (seqObj "list" vs.toArray 0),toks:=tk }
 have Z:(d.push (seqObj "list" vs.toArray 0)).objs.size=d.objs.size+1:=size_push' ..;generalize d.push (seqObj "list" vs.toArray 0)=h1 at K G Z;have I1:Inv X aA σ H {s with heap:=h1,toks:=tk}:=I.kept (t':=tk) K
 have D:s.heap.objs.size<=d.objs.size:=zc;show wpAny _ _ (_>>=_) _ _ _;generalize hA:d.objs.size=a at G D Z;have fa:c9 X aA H a:=I.fpOk D (I.hok.fresh D);refine bp (jj (wpAny_call_entry_kw slot_list_sort #[_,G,rfl] entry_list_sort ?body (ksk_l1 _ _)));show wpAny (model X.prog X.w) X.A.in1.in1 (Builtin.«list.sort» #[[.ref a],[(Str.ofString "key",.ref q)]]) _ _ _;rw[ksk_t1];unfold ksk_tree;refine bp (uo G rfl (bp (oy G rfl ?_ (by rw[fh,dj];lia) (gy _))))
 have s1:=mi h1 a (Obj.mapSeq λ_=>(#[]:Array ba));obtain⟨e1,J⟩:∃c,(h1.update a (Obj.mapSeq λ_=>(#[]:Array ba))).get? a=some (seqObj "list" #[] c):=#[_,uq G λ_=>#[]];refine bp (ur J rfl (bp (wpAny_newTuple (bp (sg (jj ?_) (gy _))) (by show vs.length<=_;rw[dj];lia))))
 have B:∀b o,b∉[a]->h1.get? b=some o->(((h1.update a (Obj.mapSeq λ_=>(#[]:Array ba))).push (seqObj "tuple" vs.toArray 0)).push (seqObj "list" #[] 0)).get? b=some o:=λb o T e=>
  hps (hps ((s1.2 b (by simpa using T)).trans e))
 have N:(((h1.update a (Obj.mapSeq λ_=>(#[]:Array Value))).push (seqObj "tuple" vs.toArray 0)).push (seqObj "list" #[] 0)).get? a=some (seqObj "list" #[] e1):=hps (hps J);have gk:(((h1.update a (Obj.mapSeq λ_=>(#[]:Array Value))).push (seqObj "tuple" vs.toArray 0)).push (seqObj "list" #[] 0)).get? ((h1.update a (Obj.mapSeq λ_=>(#[]:Array Value))).push (seqObj "tuple" vs.toArray 0)).objs.size=some (seqObj "list" #[] 0):=fo _ rfl;have z3:((h1.update a (Obj.mapSeq λ_=>(#[]:Array Value))).push (seqObj "tuple" vs.toArray 0)).objs.size=a+2:=by rw[size_push',Bk,Z]
 rw[z3]at gk;rw[z3];show wpAny (model X.prog X.w) X.A.in1.in1 (ksk_rest a (.ref q) false vs.toArray e1 (.ref (a+2))) _ _ { s with heap:=((h1.update a (Obj.mapSeq λ_=>(#[]:Array ba))).push (seqObj "tuple" vs.toArray 0)).push (seqObj "list" #[] 0),toks:=tk }
 have I2:Inv X aA σ H { s with heap:=((h1.update a (Obj.mapSeq λ_=>(#[]:Array ba))).push (seqObj "tuple" vs.toArray 0)).push (seqObj "list" #[] 0),toks:=tk }:=qG (s:={s with heap:=h1,toks:=tk}) (t':=tk) (its:=[a]) I1 B λb T=>by(obtain rfl:b=a:=by simpa using T);exact fa
 have L:s.heap.objs.size<=a+2:=by lia
 have F:c9 X aA H (a+2):=I.fpOk L (I.hok.fresh L);have ne:a≠a+2:=by lia
 have I3:=rE I2 fa N (by intro v z;cases z)
 have I4 := rE I3 #[F.1, F.2.1, F.2.2.1, F.2.2.2.1, F.2.2.2.2.1, fun p hp => by
     rcases ii.mp hp with hp|hp
     . exact F.2.2.2.2.2 p (oq _ hp)
     . rcases cy.mp hp with rfl|hp
       . exact ne
       . exact F.2.2.2.2.2 p (iu _ hp)] gk (by intro v z;cases z)
 refine Sa O rv r ne fa F I4 P0 cl kd λp H' s' kvs pp ps hP hn I5=>?_;exact#[_,rfl,ci #[_,rfl,.ref a,_,I5,rfl,W p H' kvs a pp ps hP hn fa.1]]
theorem Se(m:U.length<eM)(I:Inv X aA σ H s)(a:dz X.K H l U\/d3 X.K H l U):∃vs,aO U vs/\∀{R:List ba->bz->Prop}{f:dc},(∀h' tk,(∀b o,s.heap.get? b=some o->h'.get? b=some o)->s.heap.objs.size<=h'.objs.size->R vs {s with heap:=h',toks:=tk})->wpAny (model X.prog X.w) X.A.in1 (collect (.ref l)) R f s:=by have B:U.length<1000000:=gq m kM;exists vs,d,pl,vF I a;have L:U.length=vs.length:=d.length;refine#[vs,d,λ{R f} r=>?_];have r:=r ((s.heap.push (seqObj "list" #[] 0)).update s.heap.objs.size (Obj.mapSeq (·++vs.toArray))) s.toks (λb o e=>(CM _ _ _ _ (gx (dy e))).trans (hps e)) (by rw[Bk,size_push'];lia);rcases pl with a|a;{exact collect_list a r (by rw[dj];lia)};exact vC a (by rw[dj];lia) r
end
def eP:D->Option (Bool×N)|.int i=>some (true,.i i)|.lst ds=>(cH ds).map λks=>(false,.t ks)|_=>none
noncomputable def gD(b:Bool):List D->Option (List N)|[]=>some []|d::ds=>match eP d,gD b ds with|some (c,k),some ks=>if c=b then some (k::ks)else none|_,_=>none
def np(ks:List N):Bool:=ks.all (λk=>decide (k.dp<=8))&&ks.all (λx=>ks.all λy=>fx x y)&&decide ks.Nodup
def iZ(x:N×D):List (N×D)->List (N×D)|[]=>[x]|y::l=>if ltN y.1 x.1=true then y::iZ x l else x::y::l
def gE(l:List (N×D)):List (N×D):=l.foldr iZ []
def kQ(l:List (N×D)):Prop:=l.Pairwise λx y=>ltN y.1 x.1=false
theorem vJ(x:N×D):∀(l:List (N×D)),(iZ x l).Perm (x::l)|[]=>jy _|y::l=>by unfold iZ;split;{exact((vJ x l).cons y).trans (List.Perm.swap x y l)};exact jy _
theorem rJ:∀(l:List (N×D)),(gE l).Perm l|[]=>jy _|x::l=>(vJ x (gE l)).trans ((rJ l).cons x)
theorem GO{x:N×D}:∀{l:List (N×D)},kQ l->kQ (iZ x l)|[],_=>ox _ _|y::l,h=>by unfold iZ;split;{rename_i e;refine gr.mpr #[λz a=>?_,GO (gr.mp h).2];rcases cy.mp ((vJ x l).mem_iff.mp a)with rfl|a;{exact oF e};exact(gr.mp h).1 z a};rename_i e;(have e:ltN y.1 x.1=false:=by simpa using e);refine gr.mpr #[λz a=>?_,h];rcases cy.mp a with rfl|a;{exact e};exact oG ((gr.mp h).1 z a) e
theorem vK:∀(l:List (N×D)),kQ (gE l)|[]=>List.Pairwise.nil|x::l=>GO (vK l)
theorem key_inj:∀{l:List (N×D)},(l.map (·.1)).Nodup->∀{x y:N×D},x∈l->y∈l->x.1=y.1->x=y|z::l,nd,x,y,hx,a,e=>by rw[cu,ik]at nd;rcases cy.mp hx with ex|mx;{rcases cy.mp a with E|m;{rw[ex,E]};exact absurd (de.mpr #[y,m,by rw[<- e,ex]]) nd.1};rcases cy.mp a with E|m;{exact absurd (de.mpr #[x,mx,by rw[e,E]]) nd.1};exact key_inj nd.2 mx m e
theorem GP:∀{l l':List (N×D)},kQ l->kQ l'->l.Perm l'->(l.map (·.1)).Nodup->l=l'|[],l',_,_,p,_=>p.symm.eq_nil.symm|x::l,[],_,_,p,_=>p.eq_nil|x::l,y::l',h,h',p,nd=>by(have f:=gr.mp h;have d:=gr.mp h';have m:y∈x::l:=p.mem_iff.mpr cj;have o:x∈y::l':=p.mem_iff.mp cj;have E:x.1=y.1:=by(have a:ltN y.1 x.1=false:=by rcases cy.mp m with e|e;{rw[e];exact jH _};exact f.1 y e);(have b:ltN x.1 y.1=false:=by rcases cy.mp o with e|e;{rw[e];exact jH _};exact d.1 x e);exact qX x.1 y.1 b a);have E:x=y:=key_inj nd cj m E;subst E;rw[cu,ik]at nd;rw[GP f.2 d.2 p.cons_inv nd.2]
def GQ{l l':List (N×D)}(h:kQ l')(p:l'.Perm l)(nd:(l.map (·.1)).Nodup):l'=gE l:=(GP (vK l) h ((rJ l).trans p.symm) (((rJ l).map _).nodup_iff.mpr nd)).symm
theorem Sf{p:List Nat}(d:ks.length=ds.length)(nd:ks.Nodup)(a:p.Perm (List.range ds.length))(ps:p.Pairwise λi j=>ltN (ks.getD j (.i 0)) (ks.getD i (.i 0))=false):(p.map λi=>ds.getD i .non)=(gE (ks.zip ds)).map (·.2):=by
 have E:((List.range ds.length).map λi=>(ks.getD i (.i 0),ds.getD i .non))=ks.zip ds:=by apply CG;{simp[d]};intro i h1 h2;simp at h1 h2 ⊢;(have f:i<ks.length:=by lia);simp[h1,f]
 have key:=GQ (l:=ks.zip ds) (l':=p.map λi=>(ks.getD i (.i 0),ds.getD i .non)) (by unfold kQ;rw[kS];exact ps) (by rw[<- E];exact a.map _) (by
  rw[List.map_fst_zip (by lia)];exact nd)
 rw[<- key,fu];rfl
section
variable{A:di}{E:dc}
theorem GR:∀(vs:List ba) {Q:List (Option ba)->bz->Prop},(∀v∈vs,Looks (model prog w) s.heap (typeOf v) (.type "list"))->Q (vs.map λ_=>none) s->wpAny (model prog w) A (vs.mapM firstOfTuple') Q E s|[],_,_,h=>by rw[List.mapM_nil];exact ci h|v::vs,Q,t,h=>by rw[List.mapM_cons];refine bp ?_;rw[kas_first_eq];refine bp (Looks.here (t v cj) ?_);rw[al (by first|decide|simp)];refine ci ?_;exact bp (GR vs (Q:=λbs s'=>wpAny (model prog w) A (pure (none::bs)) Q E s') (λv a=>t v (cs a)) (ci h))
def Sg{Q:SortKind->bz->Prop}(t:∀v∈vs,Looks (model prog w) s.heap (typeOf v) (.type "list"))(d:2<=vs.length)(h:Q oneType' s):wpAny (model prog w) A (keyKind' vs.toArray) Q E s:=by
 obtain⟨f,fr,rfl⟩:∃f fr,vs=f::fr:=by match vs,d with|f::fr,_=>exact#[f,fr,rfl]
 rw[kat_kind_eq,List.mapM_toArray,map_eq_pure_bind];refine bp (bp (GR _ t (ci ?_)));rw[a0 (by simp),a0 (by simp)]
 rw[oneTypeOnly'_eq,List.mapM_toArray,map_eq_pure_bind];refine bp (bp (bp (kas_mapM (r:=Value.type "list") _ (λv m B o=>(t v m).here o) (ci ?_))));have a:((List.map (λ_=>Value.type "list") (f::fr)).toArray.all λx=>x==Value.type "list")=true:=by simp only[List.all_toArray,List.all_map,fi];intro _ _;rfl
 have h0:(List.map (λ_=>Value.type "list") (f::fr)).toArray[0]? = some (Value.type "list"):=by simp
 rw[h0];simp only[a,ot];exact ci (ci h)
end
def jK(K:List D):Option (List N):=match gD true K with|some ks=>some ks|none=>gD false K
theorem vL{b:Bool}:∀{K:List D}{ks:List N},gD b K=some ks->ks.length=K.length/\∀(i:Nat) d,K[i]? = some d->∃k,ks[i]? = some k/\eP d=some (b,k)|[],ks,e=>by cases e;exact#[rfl,λi d h=>by simp at h]|d::ds,ks,e=>by unfold gD at e;split at e;{rename_i c k ks' h1 h2;split at e;{rename_i a;cases e;subst a;exists l,r,vL h2;refine#[by simp[l],λi f h=>?_];cases i with|zero=>simp at h;subst h;exact#[k,rfl,h1]|succ i=>exact r i f (by simpa using h)};cases e};cases e
def xx(ks:List N):jb λi j=>ltN (ks.getD i (.i 0)) (ks.getD j (.i 0)):=#[λa b=>oG a b,λa=>oF a]
section
variable{F:Hp}
theorem Sh{A:di}{b:Bool}{f:List D}{kvs:List V}(hu:A.units+40<cLine)(e:gD b f=some ks)(ok:np ks=true)(I:Inv X aA σ H s)(sF:aE F H)(rl:aC X.K F f kvs)(rv:aO kvs us):vI X.prog X.w A f.length (λi j=>ltN (ks.getD i (.i 0)) (ks.getD j (.i 0))) us s:=by(exists kl,kg,vL e;unfold np at ok;simp only[cc,fi,fe]at ok;obtain⟨⟨d8,ao⟩,nd⟩:=ok;have lk:kvs.length=f.length:=rl.length;have lu:us.length=f.length:=by rw[<- rv.length,lk]);(have at_:∀i,i<f.length->∃d k v u,f[i]? = some d/\ks.getD i (.i 0)=k/\k∈ks/\eP d=some (b,k)/\aB X.K F d v/\aH v u/\us.getD i .none=u:=λi J=>by exists k,G,hk,kg i _ (gg J);exists v,ev,rd,rl.get' (gg J);exists u,eu,ru,rv.get ev;exact#[_,k,v,u,gg J,by simp[G],rh G,hk,rd,ru,by simp[eu]]);refine#[λh2=>#[oneType',λQ E q=>?_,λi j Q J hj q=>?_]];{cases b with|true=>((have ia:∃ns,IntsAre us ns:=by(have:∀{f:List D}{kvs:List V}{us:List ba},(∀(i:Nat) d,f[i]? = some d->∃k,eP d=some (true,k))->aC X.K F f kvs->aO kvs us->∃ns,IntsAre us ns:=by intro f;induction f with|nil=>intro kvs us _ r v;simp only[aC]at r;subst r;cases v;exact#[[],.nil]|cons d ds ih=>intro kvs us hk r v;simp only[aC]at r;exists y,ys,rfl,q1,q2,r;cases v with|cons r1 r2=>exists ns,hn,ih (λi d h=>hk (i+1) d (by simpa using h)) q2 r2;exists k,G,hk 0 d rfl;cases d with|int n=>simp only[aB]at q1;subst q1;exists t,rfl,r1;exact#[n::ns,.cons n t hn]|lst es=>(unfold eP at G;dsimp only at G;cases z:cH es with|none|some zs=>rw[z]at G;cases G)|_=>cases G);exact this (λi d h=>let⟨k,_,z⟩:=kg i d h;#[k,z]) rl rv);exists ns,hn,ia;match us,lu with|v1::v2::vs,_=>rw[keyKind_ints hn];exact ci q|[],z|[_],z=>simp at z;lia)|false=>refine Sg (λu hu=>?_) (by lia) q;exists i,J,rfl,List.mem_iff_getElem.mp hu;exists d,k,v,u,e1,e2,e3,m,O,e6,W,at_ i (by lia);(have W:us[i]=u:=by rw[<- W];simp[J]);rw[W];cases d with|int n=>cases m|lst es=>simp only[aB]at O;exists a,U,rfl,hq,r,O;cases e6;exists its,_,pl,_,I.list (sF.seq hq);exists o,ho,hc,_,pl.isList;have L:Looks (model X.prog X.w) s.heap (typeOf (.ref a)) o.cls:=(Looks.ld ho).andThen .now;rw[hc]at L;exact L|_=>cases m};exists d,k,v,u,e1,e2,e3,m,O,e6,W,at_ i J;exists d',k',v',u',f1,f2,f3,B,Z,f6,f7,at_ j hj;rw[W,f7];rw[e2,f2]at q;have T:=ao k e3 k' f3;cases b with|true=>(cases d with|int n=>(cases d' with|int n'=>cases m;cases B;simp only[aB]at O Z;subst O;subst Z;exists t,rfl,e6;exists t',rfl,f6;rw[ltN]at q;exact kat_lt_int q|lst es=>(unfold eP at B;dsimp only at B;cases z:cH es with|none|some zs=>rw[z]at B;cases B)|_=>cases B)|lst es=>(unfold eP at m;dsimp only at m;cases z:cH es with|none|some zs=>rw[z]at m;cases m)|_=>cases m)|false=>cases d with|int n=>cases m|lst es=>(cases d' with|int n=>cases B|lst ai=>(unfold eP at m B;dsimp only at m B;cases z:cH es with|none=>rw[z]at m;cases m|some zs=>rw[z]at m;cases m;cases z':cH ai with|none=>rw[z']at B;cases B|some aa=>rw[z']at B;cases B;simp only[aB]at O Z;exists a,U,rfl,hq,r,O;exists a',ae,rfl,ah,r',Z;cases e6;cases f6;exists its,af,pl,_,I.list (sF.seq hq);exists aj,S,ag,_,I.list (sF.seq ah);have n1:bG X.K H zs U:=(kL z r).map λx _ v y=>df.mono sF x v y;have n2:bG X.K H aa ae:=(kL z' r').map λx _ v y=>df.mono sF x v y;rw[fx]at T;rw[ltN]at q;have dd:=d8 _ e3;rw[N.dp]at dd;exact R9 (by lia) pl.isList ag.isList (by simpa using bG.is (λx _ v u a b=>df.is I x v u a b) n1 af) (by simpa using bG.is (λx _ v u a b=>df.is I x v u a b) n2 S) T q)|_=>cases B)|_=>cases m
end
def i4(Φ:D->Res):List D->Option (List D)|[]=>some []|d::ds=>match aG (Φ d),i4 Φ ds with|.ok .fz a,some K=>some (a::K)|_,_=>none
def jL:Md->D->Option (List D)|.fz,.dtf kvs=>some (kvs.map λkv=>nD kv.1)|_,d=>seqD d
def cX(Φ:D->Res)(r:Res):Res:=r.thn λm d=>match jL m d with
 |some ds=>(match i4 Φ ds with|some K=>((match jK K with|some ks=>if(np ks&&decide (ds.length<eM))=true then .ok .fr (.lst ((gE (ks.zip ds)).map (·.2)))else .stuck|none=>.stuck))|none=>.stuck)
 |none=>.stuck
theorem GS{Φ:D->Res}:∀{ds K:List D},i4 Φ ds=some K->K.length=ds.length/\∀(i:Nat) d,ds[i]? = some d->∃kd,K[i]? = some kd/\aG (Φ d)=.ok .fz kd|[],K,e=>by cases e;exact#[rfl,λi d h=>by simp at h]|d::ds,K,e=>by unfold i4 at e;split at e;{rename_i kd a m f;cases e;exists l,r,GS f;refine#[by simp[l],λi o h=>?_];cases i with|zero=>simp at h;subst h;exact#[kd,rfl,m]|succ i=>exact r i o (by simpa using h)};cases e
def Si{K:List D}(h:jK K=some ks):∃b,gD b K=some ks:=by unfold jK at h;split at h;{rename_i z;cases h;exact#[true,z]};exact#[false,h]
section
variable{F:Hp}
theorem Sj(hc:X.calm=true)(I:Inv X aA σ H s)(sF:aE F H){m:Md}{d:D}(e:jL m d=some ds)(E:Rp X.K F H m d v)(N:ds.length<eM):∃l U,v=.ref l/\aC X.K F ds U/\∃vs,aO U vs/\∀{R:List ba->bz->Prop}{J:dc},(∀h' tk,(∀b o,s.heap.get? b=some o->h'.get? b=some o)->s.heap.objs.size<=h'.objs.size->R vs {s with heap:=h',toks:=tk})->wpAny (model X.prog X.w) X.A.in1 (collect (.ref l)) R J s:=by
 have T:seqD d=some ds->∃l U,v=.ref l/\aC X.K F ds U/\∃vs,aO U vs/\∀{R:List ba->bz->Prop}{J:dc},(∀h' tk,(∀b o,s.heap.get? b=some o->h'.get? b=some o)->s.heap.objs.size<=h'.objs.size->R vs {s with heap:=h',toks:=tk})->wpAny (model X.prog X.w) X.A.in1 (collect (.ref l)) R J s:=λe1=>by exists l,U,rfl,Z,L,Rp.seqD sF e1 E;exists vs,W,col,Se (by rw[L.length];exact N) I Z;exact#[l,U,rfl,L,vs,W,col]
 unfold jL at e;split at e
 . rename_i kvs;cases e;have E:aB X.K F (.dtf kvs) v:=E;simp only[aB]at E;exists a,o,U,rfl,hf,r,E;have hd:=sF _ _ hf;exists ns,es,g,hx,dt,sz,n,rA I.hok hd;have S:aO (U.map λp=>V.ref p.2.1) (es.toList.map (·.key)):=GL (by rw[du,lB,sz]) λj v f=>by
     rw[gz,Bi]at f;cases B:es[j]? with|none=>rw[B]at f;cases f|some e=>(rw[B]at f;cases f;have O:j<U.length:=by rw[<- sz];exact(qy.mp B).1);exists e',G,ke,n j U[j] (by simp[O]);rw[B]at G;cases G;exact#[U[j],by simp[O],ke]
   refine#[a,_,rfl,GN r,_,S,λ{R J} q=>?_];refine Sb (A:=X.A.in1) (Sc ns hx dt) (I.ok.hd hc) g (by rw[sz,r.len,dj];rw[du]at N;have:=kM;lia) λh' tk vs kp zs it=>?_
   have:vs.toList=es.toList.map (·.key):=by refine CG (by rw[lB,it.1,du,lB]) λi h1 h2=>?_;exists e,B,f,it.2 i _ (by rw[<- Bi];exact gg h1);(rw[<- f,List.getElem_map];have h3:i<es.size:=by simpa using h2);rw[CP h3]at B;cases B;simp
   rw[this];exact q h' tk kp (AQ zs)
 . exact T e
end
section
variable{F:Hp}{E:dc}
theorem Sk{Φ:D->Res}{f:Addr}{m:Md}{d:D}{Q:VK}(V:X.calm=true)(hu:X.A.units+64<cLine)(I:Inv X aA σ H s)(sF:aE F H)(rp:Rp X.K F H m d v)(N:aH v u)(cl:∀pins' H' F' s' v u d B,Inv X pins' σ H' s'->aJ F H F' H'->aB X.K F' d v->aH v u->aG (Φ d)=.ok .fz B->wpAny (model X.prog X.w) X.A.in1.in1 (call (.ref f) [u]) (λku r=>∃kv F'' H'',Inv X pins' σ H'' r/\aH kv ku/\aJ F' H' F'' H''/\aB X.K F'' B kv) (λ_ _=>False) s')(w:aX (C.at X) F H σ (cX Φ (.ok m d)) Q):wpAny (model X.prog X.w) X.A (call (.builtin "sorted") [u] [(Str.ofString "key",.ref f)]) (EP X aA σ Q) E s:=by(have w:aX (C.at X) F H σ (match jL m d with|some ds=>((match i4 Φ ds with|some o=>((match jK o with|some ks=>if(np ks&&decide (ds.length<eM))=true then .ok .fr (.lst ((gE (ks.zip ds)).map (·.2)))else .stuck|none=>.stuck))|none=>.stuck))|none=>.stuck) Q:=w);cases e1:jL m d with|none=>rw[e1]at w;exact w.elim|some ds=>rw[e1]at w;dsimp only at w;cases e2:i4 Φ ds with|none=>rw[e2]at w;exact w.elim|some o=>rw[e2]at w;dsimp only at w;cases Z:jK o with|none=>rw[Z]at w;exact w.elim|some ks=>rw[Z]at w;dsimp only at w;split at w;{rename_i hc;rw[cc,fe]at hc;exists ok,W,hc;exists b,eb,Si Z;exists l,U,rfl,O,aa,L,col,Sj V I sF e1 rp W;cases N;have lx:U.length=ds.length:=O.length;exists kl,kg,GS e2;have ae:=(vL eb).1;refine Sd rfl (xx ks) (by lia) I L col (P:=λi kvs H'=>∃F',aJ F H F' H'/\aC X.K F' (o.take i) kvs) #[F,.refl sF,aC.nil] ?_ ?_ ?_;{rintro i v u kvs H' pins' s' ex N I' ⟨F',st,rk⟩;exists d',ed,rd,O.get ex;exists B,ek,er,kg i d' ed;refine jh (cl pins' H' F' s' v u d' B I' st (rd.mono st.fsame _ _) N er) (λku r hk=>?_) λ_ _ x=>x;exists kv,F2,H2,I2,r2,S,J,hk;refine#[kv,H2,I2,r2,F2,st.trans S,?_];(have:o.take (i+1)=o.take i++[B]:=by rw[List.take_succ,ek];rfl);rw[this];exact aC.append (rk.mono S.fsame _ _) (aC.cons J aC.nil)};{rintro kvs us H' pins' s' I' ⟨F',st,rk⟩ rv hl;rw[Bd (by lia)]at rk;have:=Sh (A:=X.A.in1.in1) (by show X.A.units+1+1+40<_;lia) eb ok I' st.sub rk rv;rw[kl,<- lx]at this;exact this};rintro p H' kvs l' T ps ⟨F',st,_⟩ hn hn0;(have nd:ks.Nodup:=by unfold np at ok;simp only[cc,fe]at ok;exact ok.2);(rw[lx]at T;have hz:ks.length=ds.length:=by lia);(refine w (.ref l') F' _ (st.trans (aJ.fresh _ st.sub hn)) #[l',rfl,st.sub.free hn,_,aY,?_] λ_ a ea=>by cases ea;exact hn0);rw[<- Sf hz nd T ps];exact uW λi hi=>by(have G:i<ds.length:=by simpa using T.mem_iff.mp hi);(exists x,ex,rx,O.get' (gg G);have a1:ds.getD i .non=ds[i]:=by simp[G]);(have a2:U.getD i .non=x:=by simp[ex]);rw[a1,a2];exact rx.mono st.fsame _ _};exact w.elim
end
theorem GT:∀{ps:List Str}{us:List ba},ps.Nodup->us.length=ps.length->ps.filterMap (λn=>((ps.zip us).lookup n).map (n,·))=ps.zip us/\∀n∈ps,((ps.zip us).lookup n).isNone=false
 |[],us,_,_=>#[rfl,λ_ h=>by cases h]|p::ps,[],_,h=>by cases h|p::ps,u::us,nd,h=>by
  exists r,o,ik.mp nd;exists i1,m,GT (us:=us) o (Nat.succ.inj h);have e:∀n∈ps,((p,u)::ps.zip us).lookup n=(ps.zip us).lookup n:=λn hn=>by rw[h7];have:(n==p)=false:=lz.mpr λz=>r (z ▸ hn);rw[this]
  refine#[?_,λn hn=>?_]
  . rw[se,pv,h7,nv];dsimp only[Option.map];refine congrArg _ (Eq.trans ?_ i1);have c:∀l:List Str,(∀n∈l,n∈ps)->l.filterMap (λn=>(((p,u)::ps.zip us).lookup n).map (n,·))=l.filterMap (λn=>((ps.zip us).lookup n).map (n,·)):=by
      intro l d
      induction l with|nil=>rfl|cons a l f=>rw[pv,pv,e a (d a cj),f λn hn=>d n (cs hn)]
    exact c ps λ_ h=>h
  . rw[se];rcases cy.mp hn with rfl|hn;{rw[h7,nv];rfl};rw[e n hn];exact m n hn
def GU(D:fd.params.posonlyargs=[])(B:fd.params.args.map (·.arg)=ps)(A:fd.params.vararg=none)(r:fd.params.kwonlyargs=[])(o:fd.params.kwarg=none)(hd:fd.defaults=.none)(m:ps.Nodup)(us:List ba)(a:us.length=ps.length):bindArgs fd #[us,[]]=pure (ps.zip us):=by(exists f,d,GT m a;have Z:(ps.take (ps.length-0)).filter (λn=>((ps.zip us).lookup n).isNone)=[]:=by rw[Nat.sub_zero,CC,List.filter_eq_nil_iff];intro n hn;rw[d n hn];decide);unfold bindArgs;simp only[D,B,A,r,o,hd,ll,ow,ij,uk,qg,a,ky,seqItems?];have q:(do notAStandIn Value.none;pure none:Sem (Option (Array ba)))=pure none:=rfl;rw[q];simp only[qg,A3,qc,Nat.zero_sub,Bc,Z,decide_false,Bool.false_and,mw,ji,List.isEmpty_nil,Bool.not_true,List.zip_nil_right,uk,f,Array.toList_empty,List.drop_nil]
section
variable{q kp:Pos}{Φ:D->Res}
def GW(T:Addr->Hp->Prop)(O:X.calm=true)(hu:X.A.units+64<cLine)(hg:Gl X "sorted")(hm:X.mg "sorted"=none)(he:PV C X e g)(hs:bQ e=true)(hk:PE X ke (λσ H Q=>∀f H',aE H H'->T f H'->Q (.ref f) H'))(cl:∀f pins' σ H F H' F' s' v u d B,T f H->Inv X pins' σ H' s'->aJ F H F' H'->aB X.K F' d v->aH v u->aG (Φ d)=.ok .fz B->wpAny (model X.prog X.w) X.A.in1.in1 (call (.ref f) [u]) (λku G=>∃kv F'' H'',Inv X pins' σ H'' G/\aH kv ku/\aJ F' H' F'' H''/\aB X.K F'' B kv) (λ_ _=>False) s'):PV C X (.Call (.Name "sorted" p) [e] [#[some "key",ke,kp]] pos) (λY=>cX Φ (g Y)):=by intro aA s σ H Q I h;rw[aV]at h;exists Y,F,R,w,h;have st:starEach [e] X.env=[(false,eval e X.env)]:=bW hs;refine qa (jY I hg hm F7 ?_ (by decide) (by decide));refine callWith_kw (e:=e) (rest:=[]) ?_ (by rw[st];rfl) (by rw[st];rfl) rfl rfl;have W:PA X [e] (iM (tG (C.at X) g) pI):=nP he nO st;refine thn (W pos aA s σ H (λvs H1=>∃v,vs=[v]/\∃F1,aJ F H F1 H1/\∃m d,g Y=.ok m d/\Rp X.K F1 H1 m d v) I ?_) λus D hz=>?_;{show tG (C.at X) g σ H _;rw[aV];refine#[Y,F,R,?_];cases E:g Y with|stuck=>rw[show cX Φ (g Y)=.stuck by rw[E];rfl]at w;exact w|exc c=>rw[show cX Φ (g Y)=.exc c by rw[E];rfl]at w;exact w|ok m d=>exact λv F1 H1 D L _=>#[v,rfl,F1,D,m,d,rfl,L]};exists vs,H1,I1,rv,v,rfl,F1,o,m,d,E,L,hz;exists u,rfl,ru,jZ rv;have V:PK X [#[some "key",ke,kp]] (iM (λσ H Q=>∀f H',aE H H'->T f H'->Q (.ref f) H') pI):=NF hk NE;refine thn (V pos aA D σ H1 (λws r=>∃f,ws=[.ref f]/\aE H1 r/\T f r) I1 (λf H' sm t=>#[f,rfl,sm,t])) λws s2 N=>?_;exists zs,r,I2,rz,f,rfl,sm,t,N;exists wv,rfl,J,jZ rz;cases(show wv=Value.ref f from J);have S:aJ F1 H1 F1 r:=#[sm,aE.refl _,o.sub.trans sm,λ_ h _=>h];have Z:=aX.step (o.trans S) w;rw[show cX Φ (g Y)=cX Φ (.ok m d) by rw[E]]at Z;exact Sk (C:=C) O hu I2 S.sub (L.step S) ru (λpins' H' F' s' v u d B a b c d' e'=>cl f pins' σ r F1 H' F' s' v u d B t a b c d' e') Z
def GY{F:Hp}{K:Frag}{m:Md}{d kd:D}(E:aG (.ok m d)=.ok .fz kd)(st:aJ F H F' H')(A:Rp K F' H' m d v)(fr:m=.fr->∀a,v=.ref a->H a=none):∃f,aJ F H f H'/\aB K f kd v:=by cases m with|fz=>cases E;exact#[F',st,A]|bo=>cases E|fr=>cases E;exists x,rfl,n,t,A;exists o,ho,r,t.freeze n;exact#[upd F' x o,st.freeze (fr rfl x rfl) n ho,r]
def xy{n:Nat}{Ψ:List D->Res}(FV:qk X.prog X.w X.K X.mg X.base (eS X.prog X.w) k x 1 Ψ)(hr:bF k X.A.in1.in1){f:Addr}(hf:X.mg x=some (.ref f)){d kd:D}(I:Inv X pins' σ H' s')(sF:aE F' H')(Z:aB X.K F' d v)(V:aH v u)(E:aG (Ψ [d])=.ok .fz kd):wpAny (model X.prog X.w) X.A.in1.in1 (call (.ref f) [u]) (λku B=>∃kv F a,Inv X pins' σ a B/\aH kv ku/\aJ F' H' F a/\aB X.K F kd kv) (λ_ _=>False) s':=by
 exists f',fd,ps,O,L,hk,hb,FV.ex;rw[hf]at L;cases L;have sp:lf X.K X.mg 1 Ψ [v] H' (λkv a=>∃F,aJ F' H' F a/\aB X.K F kd kv) (λ_ _ _=>False):=by refine#[rfl,F',[d],sF,aC.cons Z aC.nil,?_];cases ep:Ψ [d]with|stuck|exc c=>rw[ep]at E;cases E|ok m d'=>rw[ep]at E;exact#[(by intro z;rw[z]at E;cases E),λv T N st W fr=>GY E st W fr]
 have hl:([u]++[]).length=ps.length:=by rw[<- O.len _ _ _ _ sp];rfl
 have o:=hb s' [u] I.kIn hl;rw[ij]at o;refine ul (qe (O.run X.A.in1.in1 X.stack s' H' #[[u],[]] [u] [v] _ _ hr I.env0.in1.in1 o (.cons V .nil) sp) λr s2 J=>?_);cases r with|error e=>exists _,_,_,_,_,_,_,_,_,_,z,J;exact z|ok fl=>cases fl with|ret w=>exists kv,N,I2,rk,T,S,G,I.after J;exact#[kv,T,N,I2,rk,S,G]|next|brk|cont=>exact False.elim J
theorem bF.in2{A:di}(r:bF (k+1) A):bF k A.in1.in1 :=
 #[r.hd,by have:=r.dp;show A.depth+3 * k+5<_;lia,by have:=r.un;show A.units+1+1+16 * k+200<_;lia]
def Sl{Ψ:List D->Res}(r:X.calm=true)(G:X.A.units+64<cLine)(N:Gl X "sorted")(L:X.mg "sorted"=none)(O:PV C X e g)(hs:bQ e=true)(m:Gl X x)(o:(x==("__debug__":Str))=false)(E:qk X.prog X.w X.K X.mg X.base (eS X.prog X.w) k x 1 Ψ)(J:bF (k+1) X.A):PV C X (.Call (.Name "sorted" p) [e] [#[some "key",.Name x q,kp]] pos) (λY=>cX (λd=>Ψ [d]) (g Y)):=by exists f,fd,ps,T,a,hk,S,id E.ex;refine GW (λB _=>B=f) r G N L O hs (PE.imp (tM m a (v:=.ref f) rfl o) λσ H Q h=>h f H (aE.refl _) rfl) ?_;intro B pins' σ H F H' F' s' v u d kd t I st rd ru er;subst t;exact xy (n:=1) E (bF.in2 J) a I st.sub rd ru er
end
section
variable{K:Type}[DecidableEq K]{knd:HeapKind prog w K}{A:di}{E:dc}
theorem Sn{d a:Addr}{U:List (K×Addr×ba)}{k:K}{v:ba}(L:knd.room A)(f:knd.is s.heap k a)(N:s.heap.DictOfH knd d U)(m:∀p,atKey U k=some p->Q p.2 {s with toks:=s.toks+knd.draws k})(D:atKey U k=none->∀h',h'.DictOfH knd d (U++[(k,a,v)])->Heap.SameBut d s.heap h'->Q v {s with heap:=h',toks:=s.toks+knd.draws k})(hsz:U.length<=sizeLine):wpAny (model prog w) A (dictSetDefault d (.ref a) v) Q E s:=by
 exists o,es,ep,ho,O,hd,G,F,hn,N;unfold dictSetDefault
 try with_reducible refine jj ?_
 refine bp (knd.pyHash L f (bp (wpAny_dictFind_heap (s:={s with toks:=s.toks+knd.draws k}) L f ho hd G F hn ?_ ?_)))
 . intro B;have r:k∉U.map (·.1):=not_mem_keys_of_get B;refine bp (rr (bp (wpAny_updateDictKeys (hz:=by have e:=size_of_entries G;lia) (s:={s with toks:=s.toks+knd.draws k}) ho hd (ci (D (atKey_none_of_get B) _ #[_,_,ep+1,A2 _ ho (Obj.isFreed_of_dict (Obj.data_mapDictKeys hd _)),
     O.mapDictKeys _,Obj.data_mapDictKeys hd _,?_,?_,?_] (mi ..))))))
   . simp[G,entryOfKey]
   . intro x hx;rcases ii.mp hx with hx|hx;{exact knd.keeps (F x hx) ho hd (mi ..)};simp only[gV]at hx;subst hx;exact knd.keeps f ho hd (mi ..)
   . rw[hL,sk];refine#[hn,by simp,λx hx y J=>?_];simp only[cu,ll,gV]at J;subst J;intro z;subst z;exact r hx
 . intro j p hj;have h:=m p (atKey_of_get hn hj);refine bp (Bl (s:={s with toks:=s.toks+knd.draws k}) ho hd ?_);rw[entry_at G j,hj];exact bp (rr (ci h))
end
section
variable{a:Addr}{A:di}{E:dc}
def So{k:N}{z:V}{r:ba}(G:A.units+64<cLine)(I:L2.Inv X aA σ H s)(e:H a=some (.dN kvs))(hk:iB X.K H kvs)(kb:df X.K H k (.ref b)/\k.dp<=8)(J:kvs.length<sizeLine)(rz:aH z r)(O:∀v W s',cC kvs k=some v->L2.Inv X aA σ H s'->aH v W->Q W s')(L:∀s',cC kvs k=none->L2.Inv X aA σ (upd H a (.dN (kvs++[(k,b,z)]))) s'->Q r s'):wpAny (model X.prog X.w) A (call (.builtin "dict.setdefault") [.ref a,.ref b,r]) Q E s:=by(exists Z,hd,U,f,m,kK I (.inl e) hk;have B:U.length<=sizeLine:=by rw[<- pq f];exact Z);refine li EW m.typeIs PySem.F.entry_dict_setdefault ?_ (PySem.F.args_dict_setdefault_3 _ _ _);unfold Builtin.«dict.setdefault»;refine bp ?_;unfold Builtin.Dict.keyAndDefault;refine bp (wpAny_notOrdered_dict m.typeIs ?_);show wpAny _ _ (pure (a,Value.ref b,some r)) _ _ s;refine ci ?_;show wpAny _ _ (if(a==sysModules)=true then _ else(dictSetDefault a (.ref b) r>>=_)) _ _ s;rw[a0 (by rw[hd];exact fq)];refine bp (Sn (knd:=nU X.prog X.w) (l9 G) (k:=k) #[df.is I _ _ _ kb.1 rfl,kb.2] m (λp hp=>?_) (λhn h' D hs=>?_) B);{have d:=f.val k;rw[hp]at d;cases ev:cC kvs k with|none=>rw[ev]at d;exact d.elim|some v=>rw[ev]at d;exact ci #[_,rfl,O v p.2 _ ev (I.tok _) d]};have d:=f.val k;rw[hn]at d;cases ev:cC kvs k with|some v=>rw[ev]at d;exact d.elim|none=>exists q,es,ep,o,c2,c3,T,_,S,D;refine ci #[_,rfl,L _ ev (pO I (by rw[e];exact True.intro) hs #[q,o] #[?_,hd,_,Paired.snoc f #[rfl,rfl,rz],q,es,ep,o,c2,c3,T,S])];rw[im];exact J
end
section
variable{o f:Expr}
def GZ(K:Fg)(td ty tx:TE):TE:=λσ H Q=>td σ H λx H1=>∃a,x=.ref a/\u0 H1 a/\ty σ H1 λy m=>tx σ m λz d=>∃kvs k b,y=.ref b/\d a=some (.dN kvs)/\iB K d kvs/\(df K d k (.ref b)/\k.dp<=8)/\kvs.length<sizeLine /\
 (∀v,cC kvs k=some v->Q v d)/\(cC kvs k=none->Q z (upd d a (.dN (kvs++[(k,b,z)]))))
def Sr{ty tx:TE}(T:X.A.units+64<cLine)(ho:PE X o td)(W:PE X e ty)(hf:PE X f tx)(m:M2 X o "setdefault" apos e f cpos):PE X (.Call (.Attribute o "setdefault" apos) [e,f] [] cpos) (GZ X.K td ty tx):=by
 intro aA s σ H Q I h;refine CF m.base m.few m.line PySem.F.plainAttrs_dict EW PySem.F.type_dict_setdefault (thn (ho aA s σ H _ I h) λu D ⟨x,H1,r,G,a,ex,d,q1⟩=>?_);subst ex;obtain rfl:u=Value.ref a:=G;refine#[(qU r d).1,(qU r d).2,?_];rw[m.trees];refine A5 rfl (A6 (rc (thn (W aA D σ H1 _ r q1) λiv S ⟨y,H2,I2,E,O⟩ =>
  rc (thn (hf aA S σ H2 _ I2 O) λfv s3 ⟨z,H3,I3,rz,kvs,k,b,ey,Z,hk,kb,V,N,L⟩=>AX ?_))))
 subst ey;cases E;exact So T I3 Z hk kb V rz (λv w' s' ev B J=>#[v,H3,B,J,N v ev]) λs' ev B=>#[z,_,B,rz,L ev]
end
abbrev GX:=N×Addr×Addr×List V
abbrev GD:=List (N×List D)
def cY(x:GX):N×Addr×V:=(x.1,x.2.1,.ref x.2.2.1)
def cN(K:Fg)(F:Hp):GD->List GX->Prop|[],U=>U=[]|(k,ds)::r,U=>∃x ys,U=x::ys/\x.1=k/\aC K F ds x.2.2.2/\cN K F r ys
structure jt(K:Fg)(F H H0:Hp)(a:Addr)(kvs:GD)(U:List GX):Prop where
 at_:H a=some (.dN (U.map cY))
 fa:F a=none
 ha:H0 a=none
 nd:(U.map λx=>x.2.2.1).Nodup
 kn:(U.map λx=>x.1).Nodup
 each:∀x∈U,H x.2.2.1=some (.lst x.2.2.2)/\F x.2.2.1=none/\H0 x.2.2.1=none/\x.2.2.1≠a/\df K F x.1 (.ref x.2.1)/\x.1.dp<=8
 rep:cN K F kvs U
theorem cN.mono{K:Fg}{F:Hp}(s:aE F F'):∀{kvs:GD}{U:List GX},cN K F kvs U->cN K F' kvs U|[],_,h=>h|(k,ds)::r,_,h=>by exists x,ys,rfl,e,q,t,h;exact#[x,ys,rfl,e,q.mono s _ _,t.mono s]
theorem cN.len{K:Fg}{F:Hp}:∀{kvs:GD}{U:List GX},cN K F kvs U->U.length=kvs.length|[],_,h=>by have h:_=[]:=h;subst h;rfl|(k,ds)::r,_,h=>by exists x,ys,rfl,e,q,t,h;rw[gh,gh,t.len]
def jt.step{K:Fg}{F:Hp}{a:Addr}{kvs:GD}{U:List GX}(g:jt K F H H0 a kvs U)(st:aJ F H F' H'):jt K F' H' H0 a kvs U :=
 #[st.same _ _ g.at_,st.new _ g.fa (by rw[g.at_];exact λz=>nomatch z),g.ha,g.nd,g.kn,λx hx=>by
  exists E,r,o,m,f,d,g.each x hx
  exact#[st.same _ _ E,st.new _ r (by rw[E];exact λz=>nomatch z),o,m,df.mono st.fsame _ _ f,d],g.rep.mono st.fsame]
def jt.keys{K:Fg}{F:Hp}{a:Addr}{kvs:GD}{U:List GX}(g:jt K F H H0 a kvs U)(s:aE F H):iB K H (U.map cY):=λp hp=>by exists x,hx,rfl,de.mp hp;exists _,_,_,_,d,E,g.each x hx;exact#[df.mono s _ _ d,E]
def a7(kvs:GD)(k:N):Option (List D):=(kvs.find? λkv=>decide (kv.1=k)).map (·.2)
def i5(kvs:GD)(k:N)(ds:List D):GD:=kvs.map λkv=>if kv.1=k then(kv.1,ds)else kv
def dY(kvs:GD)(k:N)(d:D):GD:=match a7 kvs k with|some ds=>i5 kvs k (ds++[d])|none=>kvs++[(k,[d])]
theorem cN.find {K : W.Frag} {F : Hp} {k : N} : ∀ {kvs : GD} {U : List GX}, cN K F kvs U → match a7 kvs k with|some ds=>∃x,x∈U/\x.1=k/\aC K F ds x.2.2.2/\cC (U.map cY) k=some (.ref x.2.2.1)|none=>cC (U.map cY) k=none
 |[],_,h=>by have h:_=[]:=h;subst h;rfl|(f,ds)::r,_,h=>by exists x,ys,rfl,e,q,t,h;by_cases hk:f=k;{(have:a7 ((f,ds)::r) k=some ds:=by simp[a7,ft,hk]);rw[this];exact#[x,cj,e.trans hk,q,by rw[cu,qO (p:=cY x) (e.trans hk)];rfl]};(have:a7 ((f,ds)::r) k=a7 r k:=by simp[a7,ft,hk]);(rw[this];have d:=cN.find (k:=k) t;have m:cC ((x::ys).map cY) k=cC (ys.map cY) k:=by rw[cu,qP (p:=cY x) (λz=>hk (e.symm.trans z))]);cases E:a7 r k with|some es=>rw[E]at d;exists y,o,a,b,c,d;exact#[y,cs o,a,b,by rw[m];exact c]|none=>rw[E]at d;show cC ((x::ys).map cY) k=none;rw[m];exact d
theorem cN.snoc{K:Fg}{F:Hp}{x:GX}{ds:List D}(r:aC K F ds x.2.2.2):∀{kvs:GD}{U:List GX},cN K F kvs U->cN K F (kvs++[(x.1,ds)]) (U++[x])|[],_,h=>by have h:_=[]:=h;subst h;exact#[x,[],rfl,rfl,r,rfl]|(k,es)::t,_,h=>by exists y,ys,rfl,e,q,s,h;exact#[y,ys++[x],rfl,e,q,cN.snoc r s]
def eQ(c:Addr)(ys:List V)(x:GX):GX:=if x.2.2.1=c then(x.1,x.2.1,c,ys)else x
theorem G0(c:Addr)(ys:List V):∀U:List GX,(U.map (eQ c ys)).map cY=U.map cY|[]=>rfl|x::U=>by rw[cu,cu,cu,G0 c ys U];unfold eQ;split;{rename_i h;unfold cY;rw[h]};rfl
theorem G2(c:Addr)(ys:List V):∀U:List GX,(U.map (eQ c ys)).map (λx=>x.2.2.1)=U.map λx=>x.2.2.1|[]=>rfl|x::U=>by rw[cu,cu,cu,G2 c ys U];unfold eQ;split;{rename_i h;rw[h]};rfl
theorem cN.put{K:Fg}{F:Hp}{k:N}{c:Addr}{ds:List D}{ys:List V}(r:aC K F ds ys):∀{kvs:GD}{U:List GX},(∀x∈U,x.1=k↔x.2.2.1=c)->cN K F kvs U->cN K F (i5 kvs k ds) (U.map (eQ c ys))|[],_,_,h=>by have h:_=[]:=h;subst h;rfl|(d,es)::t,_,hk,h=>by exists y,zs,rfl,e,q,s,h;have f:=cN.put r (λx hx=>hk x (cs hx)) s;have m:=hk y cj;show cN K F ((if d=k then(d,ds)else(d,es))::i5 t k ds) (eQ c ys y::zs.map (eQ c ys));by_cases z:d=k;{rw[al z];have a:y.2.2.1=c:=m.mp (e.trans z);refine#[_,_,rfl,?_,?_,f];{unfold eQ;rw[al a];exact e};unfold eQ;rw[al a];exact r};rw[a0 z];have a:y.2.2.1≠c:=λw=>z (e.symm.trans (m.mpr w));refine#[_,_,rfl,?_,?_,f];{unfold eQ;rw[a0 a];exact e};unfold eQ;rw[a0 a];exact q
theorem G3:∀{U:List GX},(U.map λx=>x.2.2.1).Nodup->∀{x y:GX},x∈U->y∈U->x.2.2.1=y.2.2.1->x=y|z::l,nd,x,y,hx,a,e=>by rw[cu,ik]at nd;rcases cy.mp hx with ex|mx;{rcases cy.mp a with E|m;{rw[ex,E]};exact absurd (de.mpr #[y,m,by rw[<- e,ex]]) nd.1};rcases cy.mp a with E|m;{exact absurd (de.mpr #[x,mx,by rw[e,E]]) nd.1};exact G3 nd.2 mx m e
def jt.key_inj{K:Fg}{F:Hp}{a:Addr}{kvs:GD}{U:List GX}(g:jt K F H H0 a kvs U):∀{x y:GX},x∈U->y∈U->x.1=y.1->x=y:=by(have key:∀{U:List GX},(U.map λx=>x.1).Nodup->∀{x y:GX},x∈U->y∈U->x.1=y.1->x=y:=by intro U;induction U with|nil=>intro _ x y hx;cases hx|cons z l d=>intro nd x y hx hy e;rw[cu,ik]at nd;rcases cy.mp hx with ex|mx;{rcases cy.mp hy with E|m;{rw[ex,E]};exact absurd (de.mpr #[y,m,by rw[<- e,ex]]) nd.1};rcases cy.mp hy with E|m;{exact absurd (de.mpr #[x,mx,by rw[e,E]]) nd.1};exact d nd.2 mx m e);intro x y hx hy e;exact key g.kn hx hy e
theorem G5{k:N}:∀{U:List GX},cC (U.map cY) k=none->∀x∈U,x.1≠k|[],_,x,hx=>by cases hx|y::ys,h,x,hx=>by by_cases e:y.1=k;{rw[cu,qO (p:=cY y) e]at h;cases h};rw[cu,qP (p:=cY y) e]at h;rcases cy.mp hx with rfl|hx;{exact e};exact G5 h x hx
theorem G6(c:Addr)(ys:List V):∀U:List GX,(U.map (eQ c ys)).map (λx=>x.1)=U.map λx=>x.1|[]=>rfl|x::U=>by rw[cu,cu,cu,G6 c ys U];unfold eQ;split <;> rfl
def iD(Y:Rho):Prop:=∀(j:Nat) d,Y[j]?≠some (some (true,d))
def jM(Y:Rho):Bool:=Y.all λx=>match x with|some (true,_)=>false|_=>true
def G7(h:jM Y=true):iD Y:=λj d e=>by have:=fi.mp h _ (rh e);cases this
def aS.other{K:Fg}{F:Hp}{o:HO}(R:aS K F0 H0 F H σ Y)(n:iD Y)(hf:F b=none)(h0:H0 b=none):aS K F0 H0 F (upd H b o) σ Y:=by refine#[#[λc u q=>by rw[aP (bV q h0)];exact R.st.same c u q,R.st.fsame,λc u q=>by rw[aP (bV q hf)];exact R.st.sub c u q,R.st.new],λj m d e=>?_,λi j d D a _ E _ _ _=>(n i d E).elim,R.len];exists v,E,r,f,R.slot j m d e;cases m with|true=>exact(n j d e).elim|false=>exact#[v,E,r,f]
abbrev GM:=Rho->GD->Option (Rho×GD)
def xz(C:Cw)(X:Cx)(st:Stmt)(i:Nat)(g:GM):Prop:=∀a:Addr,PS X st λE σ H=>∃Y F kvs U,aS X.K C.F0 C.H0 F H σ Y/\iD Y/\σ[i]? = some (some (.ref a))/\jt X.K F H C.H0 a kvs U/\∃ρ' d,g Y kvs=some (ρ',d) /\
 ∀f F' H' m,aE F F'->aS X.K C.F0 C.H0 F' H' f ρ'->iD ρ'->f[i]? = some (some (.ref a))->jt X.K F' H' C.H0 a d m->E.nx f H'
def jN(i:Nat)(gk G:Rho->Res):GM:=λY kvs=>match aG (gk Y)with
 |.ok .fz K=>(match cK K with|some k=>((match aG (G Y)with|.ok .fz d=>if(decide (kvs.length<sizeLine)&&kvs.all λkv=>decide (kv.2.length<sizeLine))=true then some (Y,dY kvs k d)else none|_=>none))|none=>none)
 |_=>none
section
variable{J:Expr}{gk D:Rho->Res}{m r A B K:Pos}
def Ss(i:Nat)(hu:X.A.units+64<cLine)(hv:PE X (.Name x p) (fZ i))(hk:PV C X ke gk)(he:PV C X J D)(hs:bQ ke=true)(ag:bQ J=true)(l1:m.endLine=r.line)(l2:A.endLine=B.line):xz C X (.Expr (.Call (.Attribute (.Call (.Attribute (.Name x p) "setdefault" m) [ke,.List [] K] [] r) "append" A) [J] [] B) pos) i (jN i gk D):=by
 intro a; have af := Sr (X := X) (o := .Name x p) (e := ke) (f := .List [] K) (apos := m) (cpos := r) hu hv (eH hk) (y0 nO) #[lZ rfl, by
     rw[kC _ _ (λz N=>by
      simp only[cy,mj,h9]at N;rcases N with rfl|rfl
      . exact hs
      . rfl)];rfl,ck.mpr l1,by rw[bW hs];rfl]
 have h1:=zP (X:=X) (o:=.Call (.Attribute (.Name x p) "setdefault" m) [ke,.List [] K] [] r) (e:=J) (es:=[]) (apos:=A) (cpos:=B) PySem.F.plainAttrs_list PySem.F.slot_list_append PySem.F.type_list_append t8 af (nP (eH he) nO (bW ag)) (lZ rfl) (by
     rw[kC _ _ (λy hy=>by simp only[cy,mj,h9]at hy;subst hy;exact ag)];rfl) (ck.mpr l2) (bW ag) rfl
 refine PS.imp (pE h1) λE σ H q=>?_;exists Y,F,kvs,U,R,no,ei,G,ρ',am,L,w,q;unfold jN at L;cases ek:aG (gk Y)with
 |stuck|exc c=>rw[ek]at L;cases L|ok mk kd =>
 have:=uS ek;subst this;rw[ek]at L;dsimp only at L;cases e8:cK kd with
 |none=>rw[e8]at L;cases L|some k =>
 rw[e8]at L;dsimp only at L;cases ev:aG (D Y)with
 |stuck|exc c=>rw[ev]at L;cases L|ok mv d =>
 have:=uS ev;subst this;rw[ev]at L;dsimp only at L;have hc:(decide (kvs.length<sizeLine)&&kvs.all λkv=>decide (kv.2.length<sizeLine))=true:=by cases z:(decide (kvs.length<sizeLine)&&kvs.all λkv=>decide (kv.2.length<sizeLine))with|true=>rfl|false=>rw[z]at L;cases L
 rw[al hc]at L;rw[cc,fe,fi]at hc;cases L;unfold tQ Dl GZ;refine#[.ref a,ei,a,rfl,#[_,.inl G.at_],?_];rw[aV];refine#[Y,F,R,?_];show aX (C.at X) F H σ (aG (gk Y)) _;rw[ek];intro kv F1 H1 st1 rk _;exists b,rfl,nb,dp,qQ e8 rk;have G1:=G.step st1;have R1:=R.step st1;refine#[gy _,λc O=>?_];have S:aJ F1 H1 F1 (upd H1 c (.lst [])):=aJ.fresh _ st1.sub O;have V:=G1.step S;have R2:=R1.step S;have cf:F1 c=none:=st1.sub.free O;have c0:C.H0 c=none:=R1.st.same.free O;have ca:c≠a:=λz=>by rw[z,G1.at_]at O;cases O
 have cx:∀x∈U,x.2.2.1≠c:=λx hx z=>by have:=(G1.each x hx).1;rw[z,O]at this;cases this
 have lx:=G.rep.len;refine#[U.map cY,k,b,rfl,V.at_,V.keys S.sub,#[df.mono S.sub _ _ nb,dp],by rw[du,lx];exact hc.1,λv ae=>?_,λen=>?_]
 . -- it is there
   have fd:=G.rep.find (k:=k);cases L:a7 kvs k with
   |none=>rw[L]at fd;rw[show cC (U.map cY) k=none from fd]at ae;cases ae|some ds =>
    rw[L]at fd;exists y,hy,ey,rl,vy,fd;rw[vy]at ae;cases ae;exists q1,q2,q3,q4,q5,q6,V.each y hy;refine#[.inl #[rfl,_,dz.of q1],?_];unfold iM;rw[aV];refine#[Y,F1,R2,?_];show aX (C.at X) F1 _ σ (aG (D Y)) _;rw[ev];intro vv F3 H3 aa rv _;have W:=V.step aa;have R3:=R2.step aa;exists p1,p2,p3,p4,p5,p6,W.each y hy;have ai:aC X.K F3 ds y.2.2.2:=rl.mono ((st1.fsame.trans S.fsame).trans aa.fsame) _ _;have ly:ds.length<sizeLine:=by(have hm:∃kv∈kvs,kv.2=ds:=by unfold a7 at L;exists kv,h1,h2,uf.mp L;exact#[kv,CU h1,h2]);exists kv,ak,rfl,hm;simpa using hc.2 kv ak
    refine#[y.2.2.1,y.2.2.2,vv,rfl,rfl,p1,by rw[ai.length];exact ly,?_]
    have kc:∀x∈U,x.1=k↔x.2.2.1=y.2.2.1:=λx hx=>#[λz=>by
     have:=G.key_inj hx hy (z.trans ey.symm);rw[this],λz=>by rw[G3 G.nd hx hy z];exact ey]
    refine w σ F3 _ (U.map (eQ y.2.2.1 (y.2.2.2++[vv]))) ((st1.fsame.trans S.fsame).trans aa.fsame) (R3.other no p2 p3) no ei ?_;refine#[by rw[aP (λz=>p4 z.symm),G0];exact W.at_,W.fa,W.ha,by rw[G2];exact W.nd,by rw[G6];exact W.kn,λz N=>?_,?_]
    . exists u,T,rfl,de.mp N;exists t1,t2,t3,t4,t5,t6,W.each u T;unfold eQ;by_cases ah:u.2.2.1=y.2.2.1;{rw[al ah];exact#[aY,p2,p3,p4,t5,t6]};rw[a0 ah];exact#[by rw[aP ah];exact t1,t2,t3,t4,t5,t6]
    . unfold dY;rw[L];exact cN.put (aC.append ai (aC.cons rv aC.nil)) kc W.rep
 . -- it is new
   have fd:=G.rep.find (k:=k);cases L:a7 kvs k with|some ds=>rw[L]at fd;exists y,hy,ey,rl,vy,fd;rw[vy]at en;cases en|none=>let H3:Hp:=upd (upd H1 c (.lst [])) a (.dN (U.map cY++[(k,b,.ref c)]));(have R3:aS X.K C.F0 C.H0 F1 H3 σ Y:=R2.other no V.fa V.ha;have aj:H3 c=some (.lst []):=by show upd (upd H1 c (.lst [])) a _ c=_;rw[aP ca,aY]);let nx:GX:=(k,b,c,[]);(have W:jt X.K F1 H3 C.H0 a (kvs++[(k,[])]) (U++[nx]):=by refine#[?_,V.fa,V.ha,?_,?_,λz N=>?_,cN.snoc (x:=nx) aC.nil V.rep];{show upd _ a _ a=_;rw[aY,hL];rfl};{rw[hL,sk];refine#[G.nd,by simp,λp hp q hq=>?_];simp only[cu,ll,gV]at hq;subst hq;exists u,T,rfl,de.mp hp;exact cx u T};{rw[hL,sk];refine#[G.kn,by simp,λp hp q hq=>?_];simp only[cu,ll,gV]at hq;subst hq;exists u,T,rfl,de.mp hp;exact G5 en u T};rcases ii.mp N with N|N;{exists t1,t2,t3,t4,t5,t6,V.each z N;exact#[by show upd _ a _ _=_;rw[aP t4];exact t1,t2,t3,t4,t5,t6]};(obtain rfl:z=nx:=by simpa using N);exact#[aj,cf,c0,ca,nb,dp]);refine#[.inl #[rfl,_,dz.of aj],?_];unfold iM;rw[aV];refine#[Y,F1,R3,?_];show aX (C.at X) F1 _ σ (aG (D Y)) _;rw[ev];intro vv F4 H4 Z rv _;have G4:=W.step Z;have R4:=R3.step Z;have hn:nx∈U++[nx]:=iu _ cj;exists p1,p2,p3,p4,p5,p6,G4.each nx hn;refine#[c,[],vv,rfl,rfl,p1,by rw[dj];decide,?_];refine w σ F4 _ (U++[(k,b,c,[vv])]) ((st1.fsame.trans S.fsame).trans Z.fsame) (R4.other no p2 p3) no ei ?_;refine#[?_,G4.fa,G4.ha,?_,?_,λz N=>?_,?_];{rw[aP (λz=>p4 z.symm),G4.at_];rw[hL,hL];rfl};{have:=G4.nd;rw[hL]at this ⊢;exact this};{have:=G4.kn;rw[hL]at this ⊢;exact this};{rcases ii.mp N with N|N;{exists t1,t2,t3,t4,t5,t6,G4.each z (oq _ N);exact#[by rw[aP (cx z N)];exact t1,t2,t3,t4,t5,t6]};(obtain rfl:z=(k,b,c,[vv]):=by simpa using N);exact#[aY,p2,p3,p4,p5,p6]};unfold dY;rw[L];exact cN.snoc (x:=(k,b,c,[vv])) (aC.cons rv aC.nil) (V.rep.mono Z.fsame)
end
def kR(t:Tg)(g:GM):List D->GM|[],Y,kvs=>some (Y,kvs)|d::ds,Y,kvs=>match aL t d Y with|some a=>(if jM a=true then(match g a kvs with|some (f,K)=>kR t g ds f K|none=>none)else none)|none=>none
def mL(t:Tg)(gi:Rho->Res)(g:GM):GM:=λY kvs=>match gi Y with|.ok _ (.lst ds)=>kR t g ds Y kvs|_=>none
section
variable{g:GM}
theorem Su(hp:PassesOwn (model X.prog X.w) X.A X.env X.xe)(hc:X.calm=true)(hi:jz C X tg e gi)(hg:ln X tg t)(hit:i∉dW t)(hb:xz C X st i g)(hs:∀x,foldedSetIterable e X.env x=pure x):xz C X (.For tg e [st] [] pos) i (mL t gi g):=by
 intro a;refine PS.imp (yX hp hc hi hg (tP (hb a)) hs) λE σ H q=>?_;exists Y,F,kvs,U,R,no,ei,G,W,N,T,w,q;unfold tU;refine#[Y,F,R,?_];unfold mL at T;cases er:gi Y with
 |stuck|exc c=>rw[er]at T;cases T|ok m d =>
  rw[er]at T;cases d with
  |lst ds =>
   dsimp only at T;intro J F1 H1 s1 hJ;refine#[λj m D H'=>m=ds.length-j/\j<=ds.length/\∃ρ' F' r L,aE F1 F'/\aS X.K C.F0 C.H0 F' H' D ρ'/\iD ρ'/\D[i]? = some (some (.ref a))/\jt X.K F' H' C.H0 a r L/\kR t g (ds.drop j) ρ' r=some (W,N),
    #[ds.length,by simp,gy _,Y,F1,kvs,U,aE.refl _,R.step s1,no,ei,G.step s1,by simpa using T],?_]
   rintro j m D H' ⟨rfl,hj,ρ',F',r,L,sF,R',no',ei',G',eg'⟩;by_cases B:j<ds.length
   . refine .inr #[hJ.go j H' (sF.trans R'.sub) B,λO Z=>∃f V o ae,aE F1 V/\aS X.K C.F0 C.H0 V Z O f/\iD f/\O[i]? = some (some (.ref a))/\jt X.K V Z C.H0 a o ae/\kR t g (ds.drop (j+1)) f o=some (W,N),
       λO Z ⟨f,V,k2,x2,a1,a2,a3,a4,a5,a6⟩=>#[ds.length-(j+1),by lia,rfl,B,f,V,k2,x2,a1,a2,a3,a4,a5,a6],λx Z y=>?_]
     exists V,d,ed,s2,rd,hJ.yld j F' H' x Z sF R'.sub B y;have hd:ds.drop j=d::ds.drop (j+1):=by rw[Ba B];rw[gg B]at ed;cases ed;rfl
     rw[hd]at eg';unfold kR at eg';cases es:aL t d ρ' with|none=>rw[es]at eg';cases eg'|some S=>rw[es]at eg';dsimp only at eg';cases en:jM S with|false=>rw[en]at eg';cases eg'|true=>rw[en,al rfl]at eg';cases eb:g S r with|none=>rw[eb]at eg';cases eg'|some q=>exists f,o,q;rw[eb]at eg';dsimp only at eg';refine l6 t (R'.step s2) rd es λag R3 l3 k3=>?_;refine#[S,V,r,L,R3,G7 en,by rw[k3 i hit];exact ei',G'.step s2,f,o,eb,?_];exact λaf F4 H4 aa z4 R4 n4 e4 G4=>#[f,F4,o,aa,(sF.trans s2.fsame).trans z4,R4,n4,e4,G4,eg']
   . (have ej:j=ds.length:=by lia);subst ej;refine .inl #[hJ.stop _ H' (sF.trans R'.sub) (dg _),?_];rw[uj]at eg';cases eg';exact w D F' H' L (s1.fsame.trans sF) R' no' ei' G'
  |_=>cases T
end
def mM(i:Nat)(g:GM)(Y:Rho):aI:=if(decide (i<Y.length)&&jM (Y.set i none))=true then(match g (Y.set i none) []with|some (ρ',kvs)=>.nx (ρ'.set i (some (true,.dtn (kvs.map λkv=>(kv.1,.lst kv.2)))))|none=>.stuck)else .stuck
def aS.hide{K:Fg}{F:Hp}(i:Nat)(v:V)(R:aS K F0 H0 F H σ Y)(n:iD (Y.set i none)):aS K F0 H0 F H (σ.set i (some v)) (Y.set i none):=by refine#[R.st,λj m d e=>?_,λj k d D a _ E _ _ _=>(n j d E).elim,by rw[mf,mf];exact R.len];by_cases f:j=i;{subst f;rw[r0]at e;split at e;{split at e <;> cases e};rename_i z;exact absurd rfl z};rw[h5 (λz=>f z.symm)]at e ⊢;exact R.slot j m d e
theorem G8{K:Fg}{F H:Hp}:∀{kvs:GD}{U:List GX},cN K F kvs U->(∀x∈U,F x.2.2.1=some (.lst x.2.2.2)/\df K F x.1 (.ref x.2.1)/\x.1.dp<=8)->aT K F (kvs.map λkv=>(kv.1,.lst kv.2)) (U.map cY)|[],_,h,_=>by have h:_=[]:=h;subst h;simp only[ll,aT]|(k,ds)::r,_,h,each=>by exists x,ys,rfl,e,q,t,h;exists m,f,E,each x cj;have a:=G8 (H:=H) t λy d=>each y (cs d);rw[cu,cu];simp only[aT];refine#[x.2.1,.ref x.2.2.1,ys.map cY,by rw[<- e];rfl,#[by rw[<- e];exact f,by rw[<- e];exact E],?_,a];simp only[aB];exact#[x.2.2.1,x.2.2.2,rfl,dz.of m,q]
def Sv{K:Fg}{F:Hp}{a:Addr}{kvs:GD}{U:List GX}(R:aS K F0 H0 F H σ Y)(n:iD Y)(W:σ[i]? = some (some (.ref a)))(G:jt K F H H0 a kvs U):∃F',aE F F'/\aS K F0 H0 F' H σ (Y.set i (some (true,.dtn (kvs.map λkv=>(kv.1,.lst kv.2))))):=by(let F':Hp:=λb=>if b∈U.map (λx=>x.2.2.1)then H b else F b);(have A:∀{b:Addr},b∈U.map (λx=>x.2.2.1)->F' b=H b:=λf=>al f;have out:∀{b:Addr},b∉U.map (λx=>x.2.2.1)->F' b=F b:=λf=>a0 f;have sF:aE F F':=λb o e=>by by_cases f:b∈U.map (λx=>x.2.2.1);{exists x,hx,rfl,de.mp f;have:=(G.each x hx).2.1;rw[e]at this;cases this};rw[out f];exact e);(have sub:aE F' H:=λb o e=>by by_cases f:b∈U.map (λx=>x.2.2.1);{rw[A f]at e;exact e};rw[out f]at e;exact R.sub b o e);(have S:a∉U.map (λx=>x.2.2.1):=λf=>by exists x,hx,e,de.mp f;exact(G.each x hx).2.2.2.1 e);refine#[F',sF,#[R.st.same,R.st.fsame.trans sF,sub,λb V J=>?_],λj m d e=>?_,λj k d d' b D E L q1 q2=>?_,by rw[mf];exact R.len];{by_cases f:b∈U.map (λx=>x.2.2.1);{exists x,hx,rfl,de.mp f;exact absurd (iR (G.each x hx).2.2.1) J};rw[out f];exact R.st.new b V J};{by_cases B:j=i;{subst B;rw[r0]at e;rw[al rfl]at e;split at e;{cases e;refine#[.ref a,W,#[a,rfl,by rw[out S];exact G.fa,_,G.at_,?_],λ_ b Z=>by cases Z;exact G.ha];exact G8 (H:=H) (G.rep.mono sF) λx hx=>by exists O,_,_,_,N,T,G.each x hx;exact#[by rw[A (de.mpr #[x,hx,rfl])];exact O,df.mono sF _ _ N,T]};cases e};rw[h5 (λz=>B z.symm)]at e;exists v,E,r,e3,R.slot j m d e;cases m with|true=>exact(n j d e).elim|false=>exact#[v,E,aB.mono sF _ _ r,e3]};by_cases B:j=i;{by_cases hk:k=i;{exact D (B.trans hk.symm)};rw[h5 (λz=>hk z.symm)]at L;exact n k d' L};rw[h5 (λz=>B z.symm)]at E;exact n j d E
section
variable{g:GM}{rest:List Stmt}{h:Rho->aI}
def Sw(hN:X.N.Nodup)(hi:X.N[i]? = some x)(hx:Loc X.env.scope x)(hf:X.fn x=true\/X.env.scope.names.lookup x=some .local)(L:xz C X st i g)(J:io C X rest h)(hs:swapsWith (.Dict [] [] p2) (some (.Name x p1)) sp.line X.env=pure false):io C X (.Assign [.Name x p1] (.Dict [] [] p2) sp::st::rest) (λY=>(mM i g Y).thn h):=by
 have T : PS X st (fun E σ H => ∃ a : Addr, ∃ Y F kvs U, aS X.K C.F0 C.H0 F H σ Y ∧ iD Y ∧ σ[i]? = some (some (.ref a)) ∧ jt X.K F H C.H0 a kvs U ∧ ∃ ρ' d, g Y kvs = some (ρ', d) ∧
     ∀f F' H' o,aE F F'->aS X.K C.F0 C.H0 F' H' f ρ'->iD ρ'->f[i]? = some (some (.ref a))->jt X.K F' H' C.H0 a d o->E.nx f H'):=λaA s σ H D I ⟨a,q⟩=>L a aA s σ H D I q
 refine ie.imp (tO (yV hN hi hx Ge hs hf) (tO T J)) λE σ H q=>?_;exists Y,F,R,w,q;dsimp only at w;unfold mM at w;cases m:(decide (i<Y.length)&&jM (Y.set i none))with|false=>rw[m]at w;exact w.elim|true=>rw[m,al rfl]at w;rw[cc,fe]at m;exists r,en,m;cases A:g (Y.set i none) []with|none=>rw[A]at w;exact w.elim|some q=>exists ρ',d,q;rw[A]at w;dsimp only at w;rw[aI.thn_nx]at w;have no:=G7 en;intro a ha;have S:aJ F H F (upd H a (.dN [])):=aJ.fresh _ R.sub ha;have V:aS X.K C.F0 C.H0 F (upd H a (.dN [])) (σ.set i (some (.ref a))) (Y.set i none):=(R.step S).hide i (.ref a) no;refine#[a,Y.set i none,F,[],[],V,no,?_,#[aY,R.sub.free ha,R.st.same.free ha,ml,ml,λx hx=>(nomatch hx),rfl],ρ',d,A,?_];{rw[nq (by rw[R.len];exact r)]};intro f F' H' o z W G O Z;exists F2,B,R2,Sv W G O Z;exact#[_,F2,R2,bZ.mono (z.trans B) w]
end
abbrev JD:=List (Key×List D)
abbrev HM:=Rho->JD->Option (Rho×JD)
abbrev FZ:=List D×List Str
abbrev Sx(Z:Type):=Rho->Z->Option (Rho×Z)
abbrev FM:=Sx FZ
abbrev KD:=List (Key×D)
def G9(kvs:KD):Prop:=∀kv∈kvs,∀x,kv.1=.inr x->x.length<=sizeLine/\PyData.strOk x=true
def mN(H:Hp)(a:Addr):Hp:=λc=>if c=a then none else H c
def oI{a c:Addr}(h:c≠a):mN H a c=H c:=a0 h
def Ha{a:Addr}:mN H a a=none:=al rfl
def Sy(K:Fg)(Ψ:D->KD->Option KD)(vs:List V)(H:Hp)(Q:VK):Prop:=∃F d v a kvs U kvs',vs=[v,.ref a]/\aE F H/\aB K F d v/\H a=some (.dK U)/\F a=none/\aR K F kvs U/\G9 kvs/\Ψ d kvs=some kvs' /\
 ∀F' H' f,aJ F (mN H a) F' H'->F' a=none->H' a=some (.dK f)->aR K F' kvs' f->G9 kvs'->Q (.ref a) H'
def rK(K:Fg)(Ψ:D->KD->Option KD):Sp:=λvs H Q _=>Sy K Ψ vs H Q
section
variable{f:Str}{r:Pos}
def x0{f:Addr}{Q:VK}{vs:List V}{E:XK}{sp:Sp}(F:bT X.prog X.w X.K X.mg X.base CX k f fd ps sp)(m:bF k X.A)(B:cV X.K fd ps [])(hx:∀e s',CX X.stack H s E e s'->X.xe e s')(I:Inv X aA σ H s)(r:aO vs us)(h:sp vs H Q E):wpAny (model X.prog X.w) X.A (call (.ref f) us) (EP X aA σ Q) X.xe s:=by(have o:(us++[]).length=ps.length:=by rw[ij,<- r.length];exact F.len _ _ _ _ h);have a:=B s us I.kIn o;rw[ij]at a;refine ul (qe (F.run X.A X.stack s H #[us,[]] us vs Q E m I.env0 a r h) λr s' d=>?_);cases r with|error e=>exact hx e s' d|ok fl=>cases fl with|ret u=>exact I.after d|next|brk|cont=>exact False.elim d
structure Sz(P:e7)(w:cw)(K:Fg)(mg:fg)(base:Heap)(CX:CXT)(k:Nat)(x:Str)(Ψ:D->KD->Option KD):Prop where
 ex:∃f fd ps,bT P w K mg base CX k f fd ps (rK K Ψ)/\mg x=some (.ref f)/\W.keepIn K (.ref f)=true/\cV K fd ps []
end
end D3
namespace L2
end L2
namespace D3
def SA(K:Fg)(f0 a b:Str):Sp:=λvs H Q _=>∃F kd v1 p0 U kvs,vs=[v1,.ref p0]/\aE F H/\aB K F kd v1/\Rd H p0 (.dK U)/\aR K F kvs U/\∀F' H' v,aJ F H F' H'->aB K F' (.clo f0 "" [(a,kd),(b,.dct kvs)]) v->Q v H'
mutual
def BF:D->Bool|.tup U|.lst U=>Hb U|.dct kvs=>Hc kvs|.ins _ fs=>Hd fs|.exn _=>false|.clo _ _ _=>false|.dtn _=>false|.dtf _=>false|.dcf _=>false|_=>true
def Hb:List D->Bool|[]=>true|d::ds=>BF d&&Hb ds
def Hc:List (Key×D)->Bool|[]=>true|(_,d)::ds=>BF d&&Hc ds
def Hd:List (Str×D)->Bool|[]=>true|(_,d)::ds=>BF d&&Hd ds
end
def X5(H H':Hp):Prop:=∀b o,H b=some o->(∀p,o ≠ .ext p)->H' b=some o
structure SC(P:e7)(w:cw)(K:Fg)(mg:fg)(base:Heap)(CX:CXT)(k:Nat)(x a b:Str):Prop where
 ex:∃f fd ps,bT P w K mg base CX k f fd ps (SA K x a b)/\mg x=some (.ref f)/\W.keepIn K (.ref f)=true/\cV K fd ps []
structure DO(K:Fg)(f kn pn g:Str):Prop where
 ex:∃q rn vn params scope p1 p2 p3 p4 p5 p6 pos,wb K f "" q (.FunctionDef vn params [.Return (some (.Call (.Name g p1) [.Name kn p2,.Name pn p3,.Name rn p4] [] p5)) p6] [] none [] scope none vn pos) /\
  scope.kind=.function/\scope.isCoroutine=false/\scope.isGenerator=false/\[kn,pn,rn].Nodup/\(∀y∈scope.names,y.2 ≠ .cell)/\(∀y∈scope.names,y.2=.free->y.1=kn\/y.1=pn) /\
  scope.names.lookup kn=some .free/\scope.names.lookup pn=some .free/\scope.names.lookup rn=some .local/\scope.names.lookup g=some .globalImplicit/\(∀y∈[kn,pn,rn,g],(y==("__debug__":Str))=false/\(y==("__classdict__":Str))=false) /\
  ∀name q body cl doc pm c ct u,bindArgs (W.fnX name q params body scope cl .none .none doc pm none (.ref c) ct) #[[u],[]]=pure [(rn,u)]
def rL(P:e7)(w:cw)(K:Fg)(mg:fg)(base:Heap)(k:Nat)(f0 n:Str)(m:List (Str×D)->D->Res):Prop :=
 ∀(A:di) (outer:List Env) (s:bz) (F H:Hp) (u:ba) (v:V) (fs:List (Str×D)) (a d:D) (fa:Addr) (Q:VK),bF k A->iN P w K mg base A outer s H->aE F H->aB K F (.clo f0 n fs) (.ref fa)->aH v u->aB K F a v->BF a=true->m fs a=.ok .fz d ->
  (∀f F' H',aJ F H F' H'->aB K F' d f->Q f H')->codeAny (model P w) A (.call (.ref fa) #[[u],[]]) (CR On outer P w H s Q λ_ _ _=>False) s
inductive DP where|nm (i:Nat)|ix (j:Nat)
structure fO where
 ps:List Str
 ws:List (Str×List Str)
 r:DP
def fO.pick(I:fO)(ds:List D):Option Nat:=match I.r with|.nm i=>some i|.ix j=>match ds[j]? with|some (.int z)=>L2.ixN I.ws.length z|_=>none
def ya(ps:List Str)(ds:List D)(x:Str):Option D:=(ps.zip ds).lookup x
def fO.dat(I:fO)(f0:Str)(ps:List Str)(ds:List D)(x:Str):D:=match ya ps ds x with|some d=>d|none=>match I.ws.lookup x with|some aD=>.clo f0 x (aD.map λz=>(z,(ya ps ds z).getD .non))|none=>.non
def fO.out(I:fO)(f0:Str)(ps:List Str)(ds:List D):Option D:=(I.pick ds).bind λi=>(I.ws[i]?).map λz=>.clo f0 z.1 (z.2.map λx=>(x,I.dat f0 ps ds x))
def SD(K:Fg)(f0:Str)(ps:List Str)(I:fO):Sp:=λvs H Q _=>vs.length=ps.length/\∃F ds d,aE F H/\aC K F ds vs/\I.out f0 ps ds=some d/\∀F' H' v,aJ F H F' H'->aB K F' d v->Q v H'
def vM{K:Fg}{f0 n:Str}:rL P w K mg base k f0 n λ_ _=>.stuck:=λ_ _ _ _ _ _ _ _ _ _ _ _ _ _ _ _ _ _ _ h=>by cases h
structure DQ(P:e7)(w:cw)(K:Fg)(mg:fg)(base:Heap)(CX:CXT)(k:Nat)(x:Str)(I:fO):Prop where
 ex:∃f fd,bT P w K mg base CX k f fd I.ps (SD K x I.ps I)/\mg x=some (.ref f)/\W.keepIn K (.ref f)=true/\cV K fd I.ps []
open PySem.W
def mO(r:Res):Res:=r.thn λ_ d=>match d with|.dcf kvs=>if(kvs.all λkv=>iV kv.1)=true then .ok .fz (.lst (kvs.map λkv=>qL kv.1))else .stuck|_=>.stuck
def He(tl:TE):TI:=λσ H R=>tl σ H λx H1=>∃d o U,x=.ref d/\H1 d=some (.frz o (.dK U))/\R (DJ d o U) H1
def yb{l:Expr}(A:PE X l tl):PI X tg l (He tl):=by intro aA s σ H R I h;refine thn (A aA s σ H _ I h) λv S ⟨x,H1,a,f,q1⟩=>?_;exists d,o,U,e,hd,q,q1;subst e;cases f;exists m,vs,r,D,uX a.hok hd;have L:vs.length=U.length:=r.length.symm;refine wpAny_pyIter_dict m D ?_;rw[L];have E:L2.Inv X aA σ H1 { S with heap:=S.heap.push { cls:=.type "dict_keyiterator",data:=.fields (List.toArray [.ref d,.int 0 0,.int U.length 0,.int (oa o) 0]) } }:=a.kept (t':=S.toks) λb o e=>hps e;(refine#[S.heap.objs.size,[S.heap.objs.size],_,_,_,rfl,E,Rb d _ o U,#[_,fo _ rfl,rfl,rfl],λb B=>?_,q];have e:b=S.heap.objs.size:=by simpa using B);subst e;exact a.fpOk (dg _) (a.hok.fresh (dg _))
def SE{K:Fg}{F:Hp}{a:Addr}{o:Obj}{kvs:List (Key×D)}{U:List (Key×V)}(hf:F a=some (.frz o (.dK U)))(r:aR K F kvs U)(ha:(kvs.all λkv=>iV kv.1)=true):kB K F (DJ a o U) (kvs.map λkv=>qL kv.1) where
 go:=λi H s f=>#[s _ _ hf,by rw[r.len];simpa using f]
 stop:=λi H s f=>#[s _ _ hf,by rw[r.len];simpa using f]
 yld:=λi Fc H x H' m S f y=>by exists rfl,p,hp,rfl,y;exists d,hd,hn,(FY r ha).get (i:=i) (x:=kV p.1) (by rw[gz,hp];rfl);exact#[Fc,d,hd,.refl S,aB.mono m _ _ hn]
def SF(h:PV C X e g):jz C X tg e (λY=>mO (g Y)):=by refine PI.imp (yb h) λσ H R q=>?_;exists Y,F,A,w,q;dsimp only at w;unfold He;rw[aV];refine#[Y,F,A,?_];unfold mO at w;cases E:g Y with|stuck=>rw[E]at w;exact w.elim|exc c=>rw[E]at w;exact w|ok m d=>rw[E,Res.thn_ok]at w;intro v F' H' st f _;cases d with|dcf kvs=>(dsimp only at w;split at w;{rename_i ha;cases m with|fz=>have f:aB X.K F' (.dcf kvs) v:=f;simp only[aB]at f;exists a,o,U,rfl,hf,r,f;exact#[a,o,U,rfl,st.sub _ _ hf,w _ F' H' st (SE hf r ha)]|fr|bo=>exists a,_,_,q,f;exact q.elim};exact w.elim)|_=>exact w.elim
def SG{ns:List Int}(h:IntsAre us ns):aO (ns.map V.int) us:=by induction h with|nil=>exact .nil|cons n t h a=>exact .cons #[t,rfl] a
end D3
namespace L2
open D3
theorem yc{σ:St}{a:Addr}{kvs:List (Key×V)}{k:Key}{r:ba}{A:di}{E:dc}{Q:Unit->bz->Prop}(I:Inv X aA σ H s)(e:H a=some (.dK kvs))(l:kvs.length<sizeLine)(f:aH (kV k) u)(m:aH v r)(h:∀s',Inv X aA σ (upd H a (.dK (dI kvs k v))) s'->Q () s'):wpAny (model X.prog X.w) A (dictSet a u r) Q E s:=by(exists z,hd,vs,d,J,uB I.hok e;have o:vs.length<=sizeLine:=by rw[<- d.length];exact z);(have F:(dI kvs k v).length<=sizeLine:=by have:=zQ kvs k v;lia);refine wpAny_dictSet_pairs (hsz:=o) (j5 f) J λh' D hs=>h _ ?_;have G:∃q,h'.get? a=some q:=let⟨q,_,_,B,_⟩:=D;#[q,B];exact pO I (by rw[e];exact True.intro) hs G (uC F hd (d.put k m) D)
def vN(aD:List Nat)(k:Nat)(wi:TI)(gt:TG)(tt:TT)(tk tv:TE):TE:=λσ H Q=>wi σ H λJ H1=>∀D,H1 D=none ->
 ∃W:Nat->Nat->List (Key×V)->Hp->Prop,(∃m,W 0 m [] (upd H1 D (.dK [])))/\∀i m ys H,W i m ys H->H D=some (.dK ys) /\
  ((J.stop i H/\Q (.ref D) H)\/(J.go i H/\ys.length<sizeLine/\∀x H',J.yld i H x H'->gt x (dB aD σ++List.replicate k none) H' λa r=>uH (dB aD σ++List.replicate k none) a/\tt a r λb f =>
   if b=true then tk a f λK o=>∃q,K=kV q/\tv a o λy d=>d D=some (.dK ys)/\∃m',m'<m/\W (i+1) m' (dI ys q y) (upd d D (.dK (dI ys q y)))else ∃m',m'<m/\W (i+1) m' ys f))
def SH {X : Cx} {a V tg iter : Expr} {ifs : List Expr} {scope : Scope} {pos : Pos} {N : List Str} {tk tv : TE} (hk : ∀ cl C fp s3 H3, PE (a8 X scope N cl C fp s3 H3) a tk) (B : ∀ cl C fp s3 H3, PE (a8 X scope N cl C fp s3 H3) V tv) :
    CK X (.DictComp a V [#[tg,iter,ifs,0]] scope pos) tg iter ifs scope N .dK newDict (λD env=>do let kv <- eval a env;let vv <- holding [kv] (eval V env);standAt {a.pos with endLine:=V.pos.endLine,endCol:=V.pos.endCol};holding [kv,vv] (dictSet D kv vv)) (λσ H D ys K=>tk σ H λf m=>∃q,f=kV q/\tv σ m λy d=>d D=some (.dK ys)/\K (dI ys q y) (upd d D (.dK (dI ys q y)))) where
 cl:=rfl
 tn _ _ _ _ _ _:=#[rfl,rfl]
 st:=codeAny_compStart_dict
 nw I h:=lj (h _ (q0 _ _) (λb o e=>hps e) (I.laid (t':=_) (λb u e=>hps e) (dg _) (uC (gy _) (by rw[lz];exact p7 I.big) .nil (Heap.DictOf.new _))))
 ac {cl C fp s3 H3 _ σ _ _ D ys _ _} I hlen h w:=bp (thn (hk cl C fp s3 H3 _ _ σ _ _ I h) λkv Z ⟨f,m,O,rk,k,G,F⟩=>bp (jj (thn (B cl C fp s3 H3 _ _ σ _ _ O F) λy W ⟨S,d,L,r,E,A⟩=>bp (ue (jj (yc (X:=a8 X scope N cl C fp s3 H3) L E hlen (G ▸ rk) r λT J=>w _ _ _ J A))))))
def SI{K V:Expr}{tk:TE}(r:X.calm=true)(hi:PI X tg iter wi)(O:∀y∈scope.names,y.2 ≠ .cell)(L:scope.kind=.function)(F:∀y∈scope.names,y.2=.local->scope.names.lookup y.1=some .local)(G:∀y∈scope.names,y.2=.free->X.env.kindOf y.1=some .cell\/X.env.kindOf y.1=some .free)(J:aM.map some=aD.map λi=>X.N[i]?)(E:∀y∈aM,(y,NameKind.free)∈scope.names)(B:∀y∈aM,(relabel scope X.env).names.lookup y=some .cell\/(relabel scope X.env).names.lookup y=some .free)(o:∀cl C fp s3 H3,PG (a8 X scope (aM++tgN) cl C fp s3 H3) tg gt)(hf:∀cl C fp s3 H3,eB (a8 X scope (aM++tgN) cl C fp s3 H3) ifs tt)(hk:∀cl C fp s3 H3,PE (a8 X scope (aM++tgN) cl C fp s3 H3) K tk)(f:∀cl C fp s3 H3,PE (a8 X scope (aM++tgN) cl C fp s3 H3) V tv)(hs:∀x,foldedSetIterable iter X.env x=pure x):PE X (.DictComp K V [#[tg,iter,ifs,0]] scope pos) (vN aD tgN.length wi gt tt tk tv):=by intro aA s σ H Q I h;rw[arm_eval_DictComp];exact uI (use:=none) r hi O L F G J E B o hf (SH hk f) hs I h λD Z T S a A _ _ _ _ _ q=>by exists m,a,a;exact#[m,a,λd hs=>#[.ref D,S,A d hs,rfl,q]]
end L2
namespace D3
def og(k:D->Rho->Option Rho)(gk ge:Rho->Res)(f:Rho):List D->List (Key×D)->Option (List (Key×D))|[],z=>some z|d::ds,z=>match k d f with|none=>none|some a=>match gk a,aG (ge a)with|.ok _ K,.ok _ y=>((match hU K with|some q=>if z.length<sizeLine then og k gk ge f ds (oD z q y)else none|none=>none))|_,_=>none
def oJ(src:Res)(Y:Rho)(aD:List Nat)(n:Nat)(k:D->Rho->Option Rho)(gk ge:Rho->Res):Res:=src.thn λ_ d=>match d with
 |.lst ds=>(match og k gk ge (bU aD Y++List.replicate n none) ds []with|some z=>.ok .fr (.dct z)|none=>.stuck)
 |_=>.stuck
theorem SJ{gk:Rho->Res}(V:∀j∈dW t,aD.length<=j){Q:VK}(q:tG (C.at X) (λY=>oJ (gi Y) Y aD tgN.length (aL t) gk ge) σ H Q):vN aD tgN.length (Dr (C.at X) gi) (lg X.K t) (λ_ H Q=>Q true H) (tG (C.nox.at X) gk) (tG (C.nox.at X) λY=>aG (ge Y)) σ H Q:=by
 rw[aV]at q;exists Y,F,RS,w,q;unfold vN;refine#[Y,F,RS,?_];cases er:gi Y with
 |stuck|exc c=>rw[er]at w;exact w|ok m d =>
  rw[er]at w;cases d with
  |lst ds =>
   unfold oJ at w;rw[Res.thn_ok]at w;dsimp only at w;intro J F1 H1 s1 hJ Da hDa;cases et:og (aL t) gk ge (bU aD Y++List.replicate tgN.length none) ds []with
   |none=>rw[et]at w;exact w.elim|some T =>
    rw[et]at w;have A:H Da=none:=s1.same.free hDa;have E:F1 Da=none:=s1.sub.free hDa;have R0:=Fi aD tgN.length RS;refine#[λi m ys H'=>m=ds.length-i/\i<=ds.length/\H' Da=some (.dK ys)/\∃F' zs,aJ F H F' H'/\aE F1 F'/\F' Da=none/\aR X.K F' zs ys /\
     og (aL t) gk ge (bU aD Y++List.replicate tgN.length none) (ds.drop i) zs=some T,
     #[ds.length,by simp,gy _,aY,F1,[],s1.upd A E,aE.refl _,E,by simp only[aR],by simpa using et],?_]
    rintro i m ys H' ⟨rfl,hile,hD,F',zs,st,sF,hFD,rz,ec⟩;refine#[hD,?_];by_cases f:i<ds.length
    . have hd:∃d,ds.drop i=d::ds.drop (i+1)/\ds[i]? = some d:=#[ds[i],Ba f,gg f];exists d0,hd,ae,hd;rw[hd]at ec;unfold og at ec;cases eg:aL t d0 (bU aD Y++List.replicate tgN.length none)with
      |none=>rw[eg]at ec;cases ec|some O =>
      rw[eg]at ec;dsimp only at ec;split at ec;rotate_left
      . cases ec
      rename_i mk kd my y ek ev;cases eq:hU kd with
      |none=>rw[eq]at ec;cases ec|some k =>
      rw[eq]at ec;dsimp only at ec;by_cases Z:zs.length<sizeLine
      . rw[al Z]at ec;refine .inr #[hJ.go i H' (sF.trans st.sub) f,by rw[rz.len];exact Z,λv H2 yl=>?_]
        exists F2,d,ed,S,rd,hJ.yld i F' H' v H2 sF st.sub f yl;rw[ae]at ed;cases ed;have r:H2 Da=some (.dK ys):=S.same _ _ hD;have af:F2 Da=none:=S.new _ hFD (by rw[hD];exact λz=>nomatch z)
        have R2:=(R0.step st).step S;refine l6 t R2 rd eg λN R1 L o=>?_;refine#[#[L.symm,λj u G=>?_],?_]
        . by_cases hj:j∈dW t;{have:=V j hj;rw[p8 (by simpa[dB]using this),p9]at G;split at G <;> cases G};rw[o j hj];exact G
        show tG (C.nox.at X) gk N H2 _;rw[aV];refine#[_,F2,R1,?_];dsimp only;rw[ek];intro kv F3 H3 s3 rk _;have aa:kv=kV k:=nY eq rk;refine#[k,aa,?_];rw[aV];refine#[_,F3,R1.step s3,?_];rw[ev];intro u F4 H4 B ru _;have W:my=.fz:=by cases h:ge O with|ok m' d'=>rw[h]at ev;cases m' <;> cases ev <;> rfl|exc c|stuck=>rw[h]at ev;cases ev
        subst W;have ag:H4 Da=some (.dK ys):=B.same _ _ (s3.same _ _ r);have D:F4 Da=none:=B.new _ (s3.new _ af (by rw[r];exact λz=>nomatch z)) (by rw[s3.same _ _ r];exact λz=>nomatch z)
        exact#[ag,ds.length-(i+1),by lia,rfl,f,aY,F4,oD zs k y,(((st.trans S).trans s3).trans B).upd A D,((sF.trans S.fsame).trans s3.fsame).trans B.fsame,D,
         aR.put (rz.mono ((S.fsame.trans s3.fsame).trans B.fsame) _ _) ru,ec]
      . rw[a0 Z]at ec;cases ec
    . (have ei:i=ds.length:=by lia);subst ei;rw[uj]at ec;cases ec;exact .inl #[hJ.stop _ H' (sF.trans st.sub) (dg _),w (.ref Da) F' H' st #[Da,rfl,hFD,ys,hD,rz] λ_ a ea=>by cases ea;exact A]
  |_=>exact w.elim
def SK{f V:Expr}{gk:Rho->Res}(r:X.calm=true)(hi:jz C X tg iter gi)(L:∀y∈scope.names,y.2 ≠ .cell)(J:scope.kind=.function)(D:∀y∈scope.names,y.2=.local->scope.names.lookup y.1=some .local)(F:∀y∈scope.names,y.2=.free->X.env.kindOf y.1=some .cell\/X.env.kindOf y.1=some .free)(G:aM.map some=aD.map λi=>X.N[i]?)(E:∀y∈aM,(y,NameKind.free)∈scope.names)(B:∀y∈aM,(relabel scope X.env).names.lookup y=some .cell\/(relabel scope X.env).names.lookup y=some .free)(d:∀j∈dW t,aD.length<=j)(m:∀cl A fp S a,ln (a8 X scope (aM++tgN) cl A fp S a) tg t)(hk:∀cl A fp S a,PV C.nox (a8 X scope (aM++tgN) cl A fp S a) f gk)(o:∀cl A fp S a,PV C.nox (a8 X scope (aM++tgN) cl A fp S a) V ge)(hs:∀x,foldedSetIterable iter X.env x=pure x):PV C X (.DictComp f V [#[tg,iter,[],0]] scope pos) (λY=>oJ (gi Y) Y aD tgN.length (aL t) gk ge) :=
 PE.imp (SI (aM:=aM) (tgN:=tgN) (gt:=lg X.K t) (tk:=tG (C.nox.at X) gk) (tv:=tG (C.nox.at X) λY=>aG (ge Y)) r hi L J D F G E B m (λcl A fp S a=>Fd) (λcl A fp S a=>hk cl A fp S a) (λcl A fp S a=>eH (o cl A fp S a)) hs) λσ H Q q=>SJ d q
def DR(K:Fg)(n:Nat)(Ψ:D->List D->Option D)(vs:List V)(H:Hp)(Q:VK):Prop:=∃F d ds d' a us,vs=.ref a::us/\vs.length=n/\aE F H/\F a=none/\Top K F H a d/\aC K F ds us/\Ψ d ds=some d' /\
 ∀F' H',aJ F (mN H a) F' H'->F' a=none->Top K F' H' a d'->Q .non H'
def oK(K:Fg)(n:Nat)(Ψ:D->List D->Option D):Sp:=λvs H Q _=>DR K n Ψ vs H Q
structure yd(P:e7)(w:cw)(K:Fg)(mg:fg)(base:Heap)(CX:CXT)(k:Nat)(x:Str)(n:Nat)(Ψ:D->List D->Option D):Prop where
 ex:∃f fd ps,bT P w K mg base CX k f fd ps (oK K n Ψ)/\mg x=some (.ref f)/\W.keepIn K (.ref f)=true/\cV K fd ps []
def jO(Ψ:D->List D->Option D)(i:Nat)(Y:Rho)(n:Nat)(rs:bH):aI:=match Y[i]?,rs with
 |some (some (true,d)),.ok U=>(match dA U with|some ds=>(if ds.length+1=n then(match Ψ d ds with|some a=>.nx (Y.set i (some (true,a)))|none=>.stuck)else .stuck)|none=>.stuck)
 |_,_=>.stuck
def aS.callU{K:Fg}{F:Hp}{d d':D}{a:Addr}(R:aS K F0 H0 F H σ Y)(e:Y[i]? = some (some (true,d)))(ev:σ[i]? = some (some (.ref a)))(st:aJ F (mN H a) F' H')(fa:F' a=none)(t:Top K F' H' a d'):aS K F0 H0 F' H' σ (Y.set i (some (true,d'))):=by
 exists v,B,rp,hn,R.slot i true d e;rw[ev]at B;cases B;have h0:H0 a=none:=hn rfl a rfl;have Z:i<Y.length:=(lA.mp e).1;refine#[#[λc u q=>?_,R.st.fsame.trans st.fsame,st.sub,λc h1 J=>?_],λj m N E=>?_,λj l O N b L e1 E q1 W=>?_,by rw[mf];exact R.len]
 . (have:c≠a:=λz=>by rw[z,h0]at q;cases q);exact st.same c u (by rw[oI this];exact R.st.same c u q)
 . have hc:=R.st.new c h1 J;have:c≠a:=λz=>J (iR (by rw[z];exact h0));refine st.new c hc ?_;rw[oI this];cases e:H0 c with|none=>exact absurd (iR e) J|some o=>rw[R.st.same c o e,<- e];exact J
 . by_cases A:j=i;{subst A;rw[nq Z]at E;cases E;exact#[_,ev,#[a,rfl,fa,t],λ_ b eb=>by cases eb;exact h0]};rw[h5 (Ne.symm A)]at E;exists v,T,r,e4,R.slot j m N E;refine#[v,T,?_,e4];cases m with|false=>exact aB.mono st.fsame _ _ r|true=>(exists b,rfl,fb,tb,r;have V:b≠a:=λz=>by subst z;exact R.apart j i _ _ b A E e T ev);have keep:∀o,H b=some o->H' b=some o:=λo q=>st.same b o (by rw[oI V];exact q);have f:¬ j6 (H b)->F' b=none:=λh=>st.new b fb (by rw[oI V];exact h);cases N with|lst ds|dct ds=>exists U,q,r,tb;exact#[b,rfl,f (by rw[q];exact λz=>nomatch z),U,keep _ q,r.mono st.fsame _ _]|ins c fs=>exists C,dx,gs,n,q,r,tb;exact#[b,rfl,f (by rw[q];exact λz=>nomatch z),C,dx,gs,n,keep _ q,r.mono st.fsame _ _]|set ks=>exists S,q,r,tb;exact#[b,rfl,f (by rw[q];exact λz=>nomatch z),S,keep _ q,r]|dtn ds=>exists U,q,r,tb;exact#[b,rfl,f (by rw[q];exact λz=>nomatch z),U,keep _ q,r.mono st.fsame _ _]|_=>exact tb.elim
 . have G:∀{j:Nat}{O:D},(Y.set i (some (true,d')))[j]? = some (some (true,O))->∃d0,Y[j]? = some (some (true,d0)):=λ{j O} h=>by
     by_cases A:j=i
     . subst A;exact#[_,e]
     . rw[h5 (Ne.symm A)]at h;exact#[_,h]
   exists _,a1,G e1;exists _,a2,G E;exact R.apart j l _ _ b L a1 a2 q1 W
section
variable{f:Str}{q:Pos}{es:List Expr}{Ψ:D->List D->Option D}
def SL(F:yd X.prog X.w X.K X.mg X.base CX k f n Ψ)(W:bF k X.A)(hx:nk CX (C.at X) X)(hg:Gl X f)(B:(f==("__debug__":Str))=false)(i:Nat)(V:PE X (.Name x p) (fZ i))(ha:jm C X es gs)(L:starEach (.Name x p::es) X.env=(false,eval (.Name x p) X.env)::starEach es X.env)(o:(backTo cp (starEach es X.env)).any (·.1)=false):ja C X (.Expr (.Call (.Name f q) (.Name x p::es) [] cp) pos) (λY=>jO Ψ i Y n (gs Y)):=by(exists fa,fd,ps,FF,Z,hk,hb,F.ex;have h1:PE X (.Call (.Name f q) (.Name x p::es) [] cp) (vm (DR X.K n Ψ) (iM (fZ i) (Dq (C.at X) gs))):=by intro aA s σ H Q I h;refine qa (nJ I hg Z ?_ B);exact Bb (h₀:=X.base) I.ok.mod.kin hk (thn (nP V ha L cp aA s σ H (λvs H1=>DR X.K n Ψ vs H1 Q) I h) λus N ⟨vs,H1,D,r,q⟩=>#[D.kIn,x0 FF W hb (λe s' hc=>hx aA σ H1 N e s' D hc) D r q]) L o);refine PS.imp (pE h1 rfl) λE σ H O=>?_;exists Y,F0,R,w,O;dsimp only at w;unfold jO at w;split at w;{rename_i d U e0 eg;split at w;{rename_i ds ef;split at w;{rename_i hn;split at w;{rename_i d' ep;exists v,ev,G,hh,R.slot i true d e0;exists a,rfl,aa,t0,id G;refine#[.ref a,ev,Y,F0,R,?_];rw[eg];intro us F1 H1 st rl;have m:=Rp.step st G;exists a',ea,f1,T,m;cases ea;have J:=rl.fz ef;refine#[F1,d,ds,d',a,us,rfl,by rw[gh,J.length];exact hn,st.sub,f1,T,J,ep,λF2 H2 S f2 t2=>?_];exact w σ F2 H2 (st.fsame.trans S.fsame) ((R.step st).callU e0 ev S f2 t2)};exact w.elim};exact w.elim};exact w.elim};exact w.elim
def tS(C:Cw)(g:Rho->aI):TS:=λE σ H=>∃Y F,aS C.K C.F0 C.H0 F H σ Y/\match g Y with|.nx ρ'=>∀F' H',aE F F'->aS C.K C.F0 C.H0 F' H' σ ρ'->E.nx σ H'|_=>False
def qr(C:Cw)(X:Cx)(st:List Stmt)(g:Rho->aI):Prop:=ie X st (tS (C.at X) g)
def SM{gk:Rho->Res}(i:Nat)(Z:X.A.units+64<cLine)(W:PE X (.Name x p) (fZ i))(hk:PV C X ke gk)(he:PV C X e g)(L:swapsWith e (some (.Subscript (.Name x p) ke sp)) pos.line X.env=pure false):qr C X [.Assign [.Subscript (.Name x p) ke sp] e pos] (λY=>fA Y i (gk Y) (g Y)):=by refine ie.imp (tP (Gj Z W hk (eH he) L)) λE σ H q=>?_;exists Y,F,R,w,q;dsimp only at w;unfold u4;unfold fA at w;split at w;rotate_left;{exact w.elim};rename_i ρ' o;split at o;rotate_left;{cases o};rename_i kvs V;exists v0,B,J,aa,R.slot i true _ V;exists a,ea,ae,U,hh,rk,J;subst ea;rw[aV];refine#[Y,F,R,?_];cases T:aG (g Y)with|stuck|exc c=>rw[T]at o;cases o|ok m d=>rw[T]at o;cases m with|fr|bo=>cases o|fz=>(have o:((gk Y).thS Y λ_ K=>(match cK K with|some k=>if kvs.length<sizeLine then aI.nx (Y.set i (some (true,.dtn (eD kvs k d))))else .stuck|none=>.stuck))=.nx ρ':=o);intro v F1 H1 s1 rp _;refine#[.ref a,B,?_];show tG (C.at X) gk σ H1 _;rw[aV];refine#[Y,F1,R.step s1,?_];cases D:gk Y with|stuck|exc c=>rw[D]at o;cases o|ok m2 K=>(rw[D]at o;have o:(match cK K with|some k=>if kvs.length<sizeLine then aI.nx (Y.set i (some (true,.dtn (eD kvs k d))))else .stuck|none=>.stuck)=.nx ρ':=o);intro u F2 H2 S G _;cases O:cK K with|none=>rw[O]at o;cases o|some k=>rw[O]at o;dsimp only at o;split at o;{rename_i hl;cases o;have N:H2 a=some (.dN U):=S.same _ _ (s1.same _ _ hh);exists b,rfl,hn,hd,qQ O G;have r:=rk.mono (s1.fsame.trans S.fsame) _ _;refine#[a,_,rfl,#[U,k,b,N,r.keys.mono S.sub,rfl,#[df.mono S.sub _ _ hn,hd],by rw[rk.len];exact hl,rfl],?_];exact w F2 _ (s1.fsame.trans S.fsame) (((R.step s1).step S).mut V B #[_,aY,aT.put #[hn,hd] (aB.mono S.fsame _ _ rp) r])};cases o
def SN{s1 S:List Stmt}{o a:Rho->aI}(B:jq C X c gc)(ha:qr C X s1 o)(D:qr C X S a):qr C X [.If c s1 S pos] (λY=>n7 (gc Y) Y (o Y) (a Y)):=by refine ie.imp (tP (yT B ha D)) λE σ H q=>?_;exists Y,F,R,w,q;dsimp only at w;refine#[Y,F,R,?_];cases r:gc Y with|stuck=>rw[r]at w;exact w|exc c=>rw[r]at w;exact w.elim|ok m d=>rw[r]at w;cases d with|bl k=>((intro F' H' s;have key:∀g:Rho->aI,(match g Y with|.nx ρ'=>∀F' H',aE F F'->aS X.K C.F0 C.H0 F' H' σ ρ'->E.nx σ H'|_=>False)->tS (C.at X) g E σ H':=λg w=>by refine#[Y,F',R.step s,?_];cases A:g Y with|nx ρ'=>rw[A]at w;exact λJ G S R2=>w J G (s.fsame.trans S) R2|_=>rw[A]at w;exact w.elim);cases k with|true=>(rw[al rfl];exact key o (show(match o Y with|.nx ρ'=>∀F' H',aE F F'->aS X.K C.F0 C.H0 F' H' σ ρ'->E.nx σ H'|_=>False)from w))|false=>rw[a0 fq];exact key a (show(match a Y with|.nx ρ'=>∀F' H',aE F F'->aS X.K C.F0 C.H0 F' H' σ ρ'->E.nx σ H'|_=>False)from w))|_=>exact w.elim
end
def mP(N:Nat)(d:D)(ds:List D):Rho:=some (true,d)::eY (N-1) ds
def jP(n N:Nat)(g:Rho->aI)(d:D)(ds:List D):Option D:=if ds.length+1=n then(match g (mP N d ds)with
 |.nx ρ'=>(match ρ'[0]? with|some (some (true,a))=>some a|_=>none)
 |_=>none)else none
theorem SO{K:Fg}{f:Addr}{N:List Str}{g:Rho->aI}(F:nA K x qual st f fd)(S:j4 N ps (dR st))(h1:0<N.length)(o:∀(C:Cw) (cdv:ba),W.codeIn K cdv qual=true->∀(A:di) (outer:List Env) (s:bz) (H:Hp) (E:XK),C.EE=iA mg E->bF k (A.deeper (envOfC qual (dR st) s.heap.objs.size f cdv))->qr C (cO (eS P w) P w K mg base N qual (dR st) f cdv A outer s H E) (gZ st) g):bT P w K mg base (eS P w) (k+1) f fd ps (oK K ps.length (jP ps.length N.length g)):=by
 exists oc,od,kV,af,pm,an,cdv,ct,ae,rfl,lk,G,F.ex;refine zG lk G S (λvs H Q E h=>?_) λA outer s H vs Q E hr h=>?_
 . exists _,_,_,_,_,_,_,h,_,h;exact h
 exists F0,d,ds,d',a,us,rfl,hn,sF,fa,t,O,e,w,h
 let C:Cw:=#[K,F0,mN H a,iA mg E]
 refine#[_,o C cdv G A outer s H E rfl hr,?_];unfold jP at e;split at e;rotate_left
 . cases e
 split at e;rotate_left
 . cases e
 rename_i ρ' eg;split at e;rotate_left
 . cases e
 rename_i d2 Z;cases e;obtain⟨m,hm⟩:∃m,N.length=m+1:=#[N.length-1,by lia]
 have es:L2.start N (.ref a::us)=some (.ref a)::(us.map some++List.replicate (N.length-1-us.length) none):=by unfold L2.start;rw[cu,ou,gh];congr 3;lia
 have L:∀(i:Nat) (m:Bool) (d:D),(eY (N.length-1) ds)[i]? = some (some (m,d))->m=false/\∃v,(us.map some++List.replicate (N.length-1-us.length) none)[i]? = some (some v)/\aB K F0 d v:=λi m d e=>by unfold eY at e;by_cases B:i<ds.length;{rw[nu (by simpa using B),gz,gg B]at e;cases e;exists v,ev,rv,O.get' (gg B);exact#[rfl,v,by rw[nu (by simpa[O.length]using B),gz,ev];rfl,rv]};rw[p8 (by simpa using B),p9]at e;split at e <;> cases e
 refine#[mP N.length d ds,F0,#[#[λc u q=>?_,aE.refl _,sF,λc h1 _=>h1],λj m d' ej=>?_,λi j J d2 b T e1 Z _ _=>?_,by rw[es];simp[mP,eY,O.length]],?_]
 . by_cases hc:c=a;{subst hc;rw[show C.H0 c=none from Ha]at q;cases q};exact(oI hc).symm.trans q
 . rw[es];cases j with|zero=>cases ej;exact#[_,rfl,#[a,rfl,fa,t],λ_ b eb=>by cases eb;exact Ha]|succ j=>exists rfl,v,e1,r,L j m d' ej;exact#[v,e1,r,by nofun]
 . have z:∀{i:Nat}{J:D},(mP N.length d ds)[i]? = some (some (true,J))->i=0:=λ{i J} h=>by
     cases i with|zero=>rfl|succ i=>have:=(L i true J h).1;cases this
   exact T ((z e1).trans (z Z).symm)
 . rw[eg];intro F' H' aa R';exists v,ev,rp,hh,R'.slot 0 true d' Z;rw[es]at ev;cases ev;exists a',ea,V,t',rp;cases ea;exact w F' H' R'.st V t'
def pb:Md->D->Md->D->Option (Md×D):=λ_ x _ y=>match x,y with|.dcf K,.dct kb=>(f9 kb K).map λr=>(.fz,.bl (K.length==kb.length&&r))|_,_=>none
def SQ:j3 pb:=λm x n y k d e=>by unfold pb at e;split at e;{rename_i K kb;cases E:f9 kb K with|none=>rw[E]at e;cases e|some r=>rw[E]at e;cases e;exact#[_,rfl,rfl]};cases e
theorem Hf(Z:X.A.units+64<cLine):ez C X (compareOp .Eq) pb:=by refine#[λx y H Q=>∃F n f kb r a o U,aE F H/\x=.ref a/\F a=some (.frz o (.dK U))/\aR X.K F f U/\Rp X.K F H n (.dct kb) y/\f9 kb f=some r/\Q (.bl (f.length==kb.length&&r)) H,?_,?_];{intro aA s σ H x y v u Q I B ry h;exists F,n,f,kb,r,a,o,U,sF,rfl,hf,L,he,G,hQ,h;exists b,ys,rfl,hb,J,he.dict sF;cases B;cases ry;exists _,sa,N,E,da,lK I.hok (.inr #[o,sF _ _ hf]);exists _,S,V,D,db,uB I.hok hb;(have T:N.length=f.length:=by rw[<- L.len];exact(pq E).symm);(have O:V.length=kb.length:=by rw[<- J.len];exact(pq D).symm);refine W.keq_eq sa S da db (by lia) (λ_=>FX Z I sF J D L E G) #[.bl _,H,I,rfl,?_];rw[T,O];exact hQ};intro F H m x n y v u k d Q s B ry e w;unfold pb at e;split at e;{rename_i f kb;cases G:f9 kb f with|none=>rw[G]at e;cases e|some r=>rw[G]at e;cases e;cases m with|fz=>have B:aB X.K F (.dcf f) v:=B;simp only[aB]at B;exists a,o,U,rfl,hf,rk,B;exact#[F,n,f,kb,r,a,o,U,s,rfl,hf,rk,ry,G,w _ F H (.refl s) (cJ _) (by nofun)]|fr|bo=>exists a,_,_,q,B;exact q.elim};cases e
def yd.no{K:Fg}(F:qk P w K mg base CX k x n Φ):yd P w K mg base CX k x n (λ_ _=>none):=by exists f,fd,ps,_,h,F.ex;exact#[f,fd,ps,#[λvs H Q E h=>(by exists _,_,_,_,_,_,_,_,_,_,_,_,e,_,h;cases e),λA outer s H args us vs Q E _ _ _ _ h=>(by exists _,_,_,_,_,_,_,_,_,_,_,_,e,_,h;cases e)],h]
def vO{K:Fg}{f:Addr}:bT P w K mg base CX k f fd ps (oK K n λ_ _=>none) :=
 #[λvs H Q E h=>(by exists _,_,_,_,_,_,_,_,_,_,_,_,e,_,h;cases e),λA outer s H args us vs Q E _ _ _ _ h=>(by exists _,_,_,_,_,_,_,_,_,_,_,_,e,_,h;cases e)]
open PySem.W
section
variable{A:di}{E:dc}
def SR{a:Array ba}{r:Bool}(K:s.heap.IsList l items)(L:s.heap.IsList b a)(hi:ki (A.in1) s items.toList a.toList r)(J:A.units<cLine)(h:Q (.bool r) s):wpAny (model prog w) A (compareOp .Lt (.ref l) (.ref b)) Q E s:=by
 obtain⟨⟨cls,N,data,G⟩,ho,o,n,hd⟩:=id K;obtain⟨⟨B,D,data2,S⟩,d,m,n2,f⟩:=id L;simp only at o hd m f;subst o hd m f;exact richCompare_meets_room (op:=.Lt) #[_,ho,rfl] #[_,d,rfl] CS PySem.F.entry_list_lt (PySem.F.args_list_lt_2 _ _) (GK l b items a n n2 N D G S r)
  #[ho,d,hi,show Value.bool r≠Value.notImplemented/\Q (.bool r) s from#[(λx=>nomatch x),h]] J
end
def oh:Md->D->Md->D->Option (Md×D):=λ_ x _ y=>match x,y with
 |.lst U,.lst ys=>(match cH U,cH ys with|some a,some b=>if(decide (N.dpL a<=40)&&cM a b)=true then some (.fz,.bl (bC a b))else none|_,_=>none)
 |_,_=>none
theorem SU(hu:X.A.units+64<cLine):ez C X (compareOp .Lt) oh:=by
 refine#[λx y H Q=>∃l b U ys ks J,x=.ref l/\y=.ref b/\dz X.K H l U/\dz X.K H b ys/\bG X.K H ks U/\bG X.K H J ys/\N.dpL ks<=40/\cM ks J=true/\Q (.bl (bC ks J)) H,?_,?_]
 . intro aA s σ H x y v u Q I rx ry h;exists l,b,U,ys,ks,J,rfl,rfl,G,hb,W,T,hd,ok,q,h;cases rx;cases ry;exists its,f,pl,_,I.list G;exists O,r,B,_,I.list hb
   exact SR pl.isList B.isList (qY (A:=X.A.in1) (λx hx y u v p1 p2 ok prog w' E Q q=>qZ x (by have:=N.dp_mem hx;show X.A.units+1+_+1<_;lia) p1 p2 ok q) (by show X.A.units+1+_<_;lia)
    (by simpa using bG.is (λx _ v u a b=>df.is I x v u a b) W f) (by simpa using bG.is (λx _ v u a b=>df.is I x v u a b) T r) ok) (by lia) #[.bl (bC ks J),H,I,rfl,q]
 . intro F H m x n y v u k d Q s rx ry e w;unfold oh at e;split at e;{split at e;{rename_i U ys a b ea eb;split at e;{rename_i L;rw[cc,fe]at L;cases e;exists l,vs,rfl,G,S,rx.seqL s;exists Z,V,rfl,D,o,ry.seqL s;exact#[l,Z,vs,V,a,b,rfl,rfl,G,D,(kL ea S).map λx _ v y=>df.mono s x v y,(kL eb o).map λx _ v y=>df.mono s x v y,L.1,L.2,w _ F H (.refl s) (cJ _) (by nofun)]};cases e};cases e};cases e
open Builtin Builtin.Str
abbrev SV:=List (List D)
inductive SW where|nx (Y:Rho) (z:SV)|exc (c:Str)|stuck
end D3
set_option genSizeOfSpec false
set_option genInjectivity false
namespace D3
inductive KC where|s (y:Str)|i (n:Int)|t (tb:List (Str×Str))
 deriving DecidableEq
def KC.d:KC->D|.s y=>.str y|.i n=>.int n|.t _=>.non
inductive GV where|con (c:KC)|fn (n:Nat)|no|cls
 deriving DecidableEq
inductive Bn where|len|isinstance
 deriving DecidableEq
noncomputable def Bn.name:Bn->Str|.len=>"len" |.isinstance=>"isinstance"
def Bn.f:Bn->List (Md×D)->Option (Md×D)|.len=>eI|.isinstance=>i9
def Bn.id:Bn->String|.len=>"len" |.isinstance=>"isinstance"
inductive Ty where|int|bool|str|tuple|list|dict
 deriving DecidableEq
def Ty.f:Ty->List (Md×D)->Option (Md×D)|.tuple=>kD|.list=>l5|_=>λ_=>none
def Ty.id:Ty->String|.int=>"int" |.bool=>"bool" |.str=>"str" |.tuple=>"tuple" |.list=>"list" |.dict=>"dict"
structure WD where
 Φ:Str->List D->Res
 Ψ:Str->List D->Res
 I:Str->Option (List D->Res)
 cl:List CI
 xt:List ((Str×Str)×Bool)
 xi:List ((Str×Str)×Bool)
 dp:Bool
 Ms:Str->D->KD->Option KD
 Cl:Str->Str->List (Str×D)->D->Res
 Wy:Str->Option fO
 Mu:Str->D->List D->Option D
noncomputable def WD.pred(W:WD):WD:=#[W.Ψ,λ_ _=>.stuck,λ_=>none,[],W.xt,W.xi,false,λ_ _ _=>none,λ_ _ _ _=>.stuck,λ_=>none,λ_ _ _=>none]
def WD.xf(W:WD):Str->Str->Option Bool:=λc x=>W.xt.lookup (c,x)
def WD.xg(W:WD):Str->Str->Option Bool:=λc x=>W.xi.lookup (c,x)
inductive E where
 |var (i:Nat)|non|bl (b:Bool)|int (i:Int)|str (x:Str)
 |glob (x:Str) (c:KC)|ty (t:Ty)
 |bin (op:Operator) (a b:E)|cmp (op:CmpOp) (a b:E)
 |andL (es:List E)|orL (es:List E)|not (a:E)|neg (a:E)|tru (a:E)|frz (a:E)
 |ix (a b:E)|slice (a:E) (lo hi:Option E)
 |tup (es:List E)|lst (es:List E)|dct1 (k v:E)
 |call (f:Str) (n:Nat) (es:List E)|bcall (b:Bn) (es:List E)
 |items (a:E)|rng1 (a:E)|enum1 (a:E)
 |comp (elt it:E) (ts:List E) (aD:List Nat) (t:Tg) (n:Nat)
 |tcall (t:Ty) (es:List E)
 |deed (x:Str) (tb:DG) (a:E)|callv (i:Nat) (fs:Q3) (n:Nat) (es:List E)
 |dix (a b:E)|din (neg:Bool) (a b:E)|tidx (a b:E)
 |meth (o:E) (m:Str) (es:List E)|mk0 (c:Str)
 |rng3 (a b c:E)|never
 |nnew|nix (a b:E)|nin (neg:Bool) (a b:E)|nget (a k d:E)|nkeys (a:E)|srtw (a:E)|ltn (a b:E)|srtf (f:Str) (a:E)|srtl (a b:E)|kkeys (a:E)
 |deqC (a b:E)|dcomp (kx vx it:E) (aD:List Nat) (t:Tg) (n:Nat)
def BG:Md->D->Md->D->Option (Md×D):=λ_ _ _ _=>none
def aZ:Operator->Md->D->Md->D->Option (Md×D)|.Add=>gu wn pZ|.Sub=>Dt|.Mult=>gu wo qm|.Mod=>Du|.FloorDiv=>Dv|.Pow=>Dw|_=>BG
def bB:CmpOp->Md->D->Md->D->Option (Md×D)|.Lt=>gu PM qm|.LtE=>PN|.Gt=>PP|.GtE=>PQ|.Eq=>Fq|.NotEq=>Fs|.In=>gu PR (l4 false)|.NotIn=>gu PU (l4 true)|.Is=>o3 false|.IsNot=>o3 true
mutual
def aK(W:WD):E->Rho->Res|.var i,Y=>cP Y i|.non,_=>.ok .fz .non|.bl b,_=>.ok .fz (.bl b)|.int i,_=>.ok .fz (.int i)|.str x,_=>.ok .fz (.str x)|.glob _ c,_=>.ok .fz c.d|.ty t,_=>.ok .fz (.ty t.id)|.bin O a b,Y=>bv (aZ O) (aK W a Y) (aK W b Y)|.cmp O a b,Y=>bv (bB O) (aK W a Y) (aK W b Y)|.andL es,Y=>jp W es Y|.orL es,Y=>eE W es Y|.not a,Y=>f8 (aK W a Y)|.neg a,Y=>pS (aK W a Y)|.tru a,Y=>eW (aK W a Y)|.frz a,Y=>aG (aK W a Y)|.ix a b,Y=>bv c6 (aK W a Y) (aK W b Y)|.slice a lo r,Y=>js (aK W a Y) (hH W lo) (hH W r) Y|.tup es,Y=>dU (bY W es Y)|.lst es,Y=>fK (bY W es Y)|.dct1 k v,Y=>nX (aK W k Y) (aK W v Y)|.call f n es,Y=>aN n (W.Φ f) (bY W es Y)|.bcall b es,Y=>fL b.f (bY W es Y)|.items a,Y=>eX (aG (aK W a Y))|.rng1 a,Y=>fM (aF (aK W a Y) (.ok []))|.rng3 a b c,Y=>kJ (aF (aK W a Y) (aF (aK W b Y) (aF (aK W c Y) (.ok []))))|.enum1 a,Y=>qI (aF (aG (aK W a Y)) (.ok []))|.comp elt it ts aD t n,Y=>bI (aK W it Y) Y aD n (aL t) (λY=>d7 W ts Y) (λY=>aK W elt Y)|.tcall t es,Y=>fL t.f (bY W es Y)|.deed _ tb a,Y=>kH tb (aK W a Y)|.callv i fs n es,Y=>qK W.Φ fs n (cP Y i) (bY W es Y)|.dix a b,Y=>bv qo (aK W a Y) (aK W b Y)|.deqC a b,Y=>bv pb (aK W a Y) (aK W b Y)|.dcomp K V it aD t n,Y=>oJ (aK W it Y) Y aD n (aL t) (λY=>aK W K Y) (λY=>aK W V Y)|.tidx a b,Y=>oE (aK W a Y) (aK W b Y)|.din neg a b,Y=>bv (nl neg) (aK W a Y) (aK W b Y)|.meth o m es,Y=>iT W.cl W.Φ m (aK W o Y) (bY W es Y)|.mk0 c,_=>.ok .fr (.ins c [])|.never,_=>.stuck|.nnew,_=>.ok .fr (.dtn [])|.nix a b,Y=>bv eL (aK W a Y) (aK W b Y)|.nin neg a b,Y=>bv (e9 neg) (aK W a Y) (aK W b Y)|.nget a k d,Y=>mD (aK W a Y) (aK W k Y) (aK W d Y)|.nkeys a,Y=>rB (aK W a Y)|.srtw a,Y=>fL gC (aF (aK W a Y) (.ok []))|.kkeys a,Y=>mO (aK W a Y)|.ltn a b,Y=>bv (gu lh oh) (aK W a Y) (aK W b Y)|.srtf f a,Y=>if W.dp=true then cX (λd=>W.Ψ f [d]) (aK W a Y)else .stuck|.srtl a b,Y=>if W.dp=true then cX (λd=>aK W.pred b [some (false,d)]) (aK W a Y)else .stuck
def bY(W:WD):List E->Rho->bH|[],_=>.ok []|e::es,Y=>aF (aK W e Y) (bY W es Y)
def jp(W:WD):List E->Rho->Res|[],_=>.stuck|[e],Y=>aK W e Y|e::es,Y=>fH (aK W e Y) (jp W es Y)
def eE(W:WD):List E->Rho->Res|[],_=>.stuck|[e],Y=>aK W e Y|e::es,Y=>nB (aK W e Y) (eE W es Y)
def d7(W:WD):List E->Rho->Res|[],_=>.ok .fz (.bl true)|e::es,Y=>fH (aK W e Y) (d7 W es Y)
def tA(W:WD):List E->List (Rho->Res)|[]=>[]|e::es=>aK W e::tA W es
def hH(W:WD):Option E->Option (Rho->Res)|none=>none|some e=>some (aK W e)
end
structure MG where
 G:List (Str×GV)
 mk0:List Str
 mki:List (Str×Str×Nat)
 iso:List Str
 xcs:List Str
 xns:List Str
 sn:List Str
 cl:List (Str×Str×Str×Str)
structure MC where
 N:List Str
 sc:Scope
 g:MG
 fn:Bool
 calm:Bool
 rz:Bool
 q:Str
noncomputable def MC.kind(m:MC)(x:Str):Option NameKind:=m.sc.names.lookup x
end D3
variable{m:D3.MC}
namespace D3
def MC.vis(m:MC)(x:Str):Bool:=(m.kind x==some .local||m.kind x==some .cell||m.kind x==some .free)&&x != "__debug__" && x != "__classdict__"
def MC.glob(m:MC)(x:Str)(v:GV):Bool:=m.kind x==some .globalImplicit&&m.g.G.lookup x==some v&&x != "__debug__" && x != "__name__"
def MC.gk(m:MC)(x:Str):Bool:=m.kind x==some .globalImplicit&&x != "__debug__"
def yf(x:Str):Bool:=decide (x.length<=sizeLine)&&PyData.strOk x
def mQ:Expr->Bool|.Slice ..=>false|_=>true
def SY:Expr->Bool|.Tuple ..=>true|_=>false
def eF:Expr->Bool|.Set ..=>false|_=>true
def Hg:Expr->Bool|.UnaryOp .Not _ _=>false|.BoolOp ..=>false|.IfExp ..=>false|.Compare ..=>false|_=>true
def MC.sub(m:MC)(scope:Scope)(aM tgN:List Str):MC:={ m with N:=aM++tgN,sc:={scope with names:=lX scope m.sc},fn:=false,rz:=false,q:="" }
def MC.lam(m:MC)(x:Str)(scope:Scope):MC:=#[[x],scope,{m.g with mk0:=[],mki:=[],iso:=[],xcs:=[],xns:=[],sn:=[],cl:=[]},true,true,false,""]
def MC.loc(m:MC)(i:Nat)(x:Str):Bool:=m.N[i]?==some x&&(m.kind x==some .local||(m.fn&&m.kind x==some .cell))
mutual
def mG(m:MC):Tg->Expr->Bool
 |.nm i,e=>match e with|.Name x _=>m.loc i x|_=>false
 |.tp ts,e=>match e with|.Tuple es _ _=>m.calm&&es.all jC&&yg m ts es|_=>false
def yg(m:MC):List Tg->List Expr->Bool|[],es=>es.isEmpty|t::ts,l=>match l with|e::es=>mG m t e&&yg m ts es|_=>false
end
def dC:Nat->Expr->List Str|_,.Name x _=>[x]|n+1,.Tuple es _ _=>es.flatMap (dC n)|_,_=>[]
def kT(scope sc:Scope)(N:List Str)(aD:List Nat)(aM tgN:List Str):Bool :=
 scope.names.all (λy=>y.2 != .cell)&&scope.kind == .function&&scope.names.all (λy=>y.2 != .local||scope.names.lookup y.1==some .local) &&
 scope.names.all (λy=>y.2 != .free||sc.names.lookup y.1==some .cell||sc.names.lookup y.1==some .free)&&(aM.map some==aD.map λi=>N[i]?)&&aM.all (λy=>scope.names.contains (y,.free)) &&
 aM.all (λy=>(lX scope sc).lookup y==some .cell||(lX scope sc).lookup y==some .free)&&decide (aM++tgN).Nodup
def yh:KC->Bool|.s y=>yf y|.i _=>true|.t _=>false
structure SX(k:Nat)(W:WD)(m:MC)(C:Cw)(X:Cx):Prop where
 hN:X.N=m.N
 hs:X.env.scope=m.sc
 cm:m.calm=true->X.calm=true
 rm:m.calm=true->bF k X.A
 un:X.A.units+64<cLine
 xo:m.calm=true->nk (eS X.prog X.w) (C.at X) X
 xt:uQ X.K X.mg W.xf
 xi:uR X.K X.mg W.xg
 xc:∀c,c∈m.g.xcs->∃Cc,X.mg c=some (.ref Cc)/\FL X.K Cc
 xn:∀n,n∈m.g.xns->∃cv,qJ X.mg n cv
 con:∀x c,m.g.G.lookup x=some (.con c)->match c with|.s y=>∃t,X.mg x=some (.str y t)|.i n=>∃t,X.mg x=some (.int n t)|.t tb=>jD X.w X.K X.mg x tb
 no:∀x,m.g.G.lookup x=some .no->X.mg x=none
 mk0:∀c,c∈m.g.mk0->uK X.K X.mg c
 mki:∀c key n,(c,key,n)∈m.g.mki->∀Φ,W.I key=some Φ->∃j,j+1<=k/\Dz X.prog X.w X.K X.mg X.base (eS X.prog X.w) j c n Φ
 iso:∀c,c∈m.g.iso->Fw X.K X.mg W.cl c
 fl:∀i f,i∈W.cl->f∈i.flds->P7 X.K i.name f
 mt:∀c m key n,CI.meth W.cl c m=some (key,n)->Fv X.prog X.w X.K X.mg X.base (eS X.prog X.w) k c m n (W.Φ key)
 fn:∀x n,m.g.G.lookup x=some (.fn n)->qk X.prog X.w X.K X.mg X.base (eS X.prog X.w) k x n (W.Φ x)
 fnn:m.fn=true->∀x,X.fn x=true
 fp:W.dp=true->∃j,j+1=k/\∀x n,m.g.G.lookup x=some (.fn n)->qk X.prog X.w X.K X.mg X.base (eS X.prog X.w) j x n (W.Ψ x)
 sm:∀x,x∈m.g.sn->Sz X.prog X.w X.K X.mg X.base (eS X.prog X.w) k x (W.Ms x)
 sc:W.dp=true->∀f a b g,(f,a,b,g)∈m.g.cl->SC X.prog X.w X.K X.mg X.base (eS X.prog X.w) k f a b/\DO X.K f a b g
 cv:∀f n,rL X.prog X.w X.K X.mg X.base k f n (W.Cl f n)
 sw:W.dp=true->∀f I,W.Wy f=some I->DQ X.prog X.w X.K X.mg X.base (eS X.prog X.w) k f I
 su:∀x n,m.g.G.lookup x=some (.fn n)->yd X.prog X.w X.K X.mg X.base (eS X.prog X.w) k x n (W.Mu x)
 cd:m.q="" \/ (PySem.W.codeIn X.K X.env.code m.q=true/\X.env.qual=m.q++".<locals>.")
section
variable{W:WD}{x y:Expr}
def SX.gl(S:SX k W m C X){v:GV}(h:m.glob z v=true):Gl X z/\m.g.G.lookup z=some v/\(z==("__debug__":Str))=false/\z ≠ "__name__":=by unfold MC.glob MC.kind at h;simp only[cc,ck,o0]at h;obtain⟨⟨⟨o,f⟩,d⟩,a⟩:=h;refine#[?_,f,by simpa using d,a];show X.env.scope.names.lookup z=_;rw[S.hs];exact o
theorem SX.vis(S:SX k W m C X)(h:m.vis z=true):Bz X.env.scope z/\(z==("__debug__":Str))=false/\(z==("__classdict__":Str))=false:=by unfold MC.vis MC.kind at h;simp only[cc,jx,ck,o0]at h;obtain⟨⟨a,f⟩,d⟩:=h;refine#[?_,by simpa using f,by simpa using d];unfold Bz;rw[S.hs];rcases a with(a|a)|a;{exact .inl a};{exact .inr (.inl a)};exact .inr (.inr a)
def SZ(b:Bn):bootBuiltins b.name=some (.builtin b.id):=by cases b;{exact PX};exact PY
def S0(b:Bn){c:Bool}(a:c=true->X.calm=true)(h:(c||b == .len||b == .isinstance)=true):hW X (.builtin b.id) b.f:=by(have a:(b == .len||b == .isinstance)=false->X.calm=true:=λz=>a (by cases c with|true=>rfl|false=>rw[Bool.false_or]at h;rw[h]at z;cases z));cases b;{exact O8};exact Pa
def rM{f:ba}:hW X f (λ_=>none):=#[λ_ _ _=>False,λ_ _ _ _ _ _ _ _ _ h=>h.elim,λ_ _ _ _ _ _ _ _ _ e _=>by cases e]
def S2(t:Ty):hW X (.type t.id) t.f:=by cases t;{exact rM};{exact rM};{exact rM};{exact Qi};{exact Qj};exact rM
def Hh(t:Ty):bootBuiltins (t.id:Str)=some (.type t.id):=by cases t;{exact PZ};{exact P1};{exact P2};{exact P3};{exact P4};exact P5
def S3(op:Operator):(∃a,aZ op=a/\ez C X (binaryOp op) a)\/aZ op=BG:=by
 cases op
 case Add=>exact .inl #[_,rfl,wq.or Qh]
 case Sub=>exact .inl #[_,rfl,OD]
 case Mult=>exact .inl #[_,rfl,wr.or oA]
 case Mod=>exact .inl #[_,rfl,OG]
 case FloorDiv=>exact .inl #[_,rfl,OI]
 case Pow=>exact .inl #[_,rfl,OJ]
 all_goals exact .inr rfl
def Hi:j3 (nl neg):=λm x n y k d e=>by unfold nl at e;split at e;{cases e;exact#[_,rfl,rfl]};cases e
def Hj:j3 (e9 neg):=λm x n y k d e=>by unfold e9 at e;split at e;{cases e;exact#[_,rfl,rfl]};cases e
def vP:j3 qm:=λ_ _ _ _ _ _ z=>by cases z
def S4(op:CmpOp)(a:X.A.units+64<cLine):(ez C X (compareOp op) (bB op)/\j3 (bB op))\/bB op=BG:=by
 cases op
 case Lt=>exact .inl #[OK.or oA,n9 pY vP]
 case LtE=>exact .inl #[OL,pY]
 case Gt=>exact .inl #[OM,pY]
 case GtE=>exact .inl #[ON,pY]
 case Eq=>exact .inl #[Dx a,n9 Fu vP]
 case NotEq=>exact .inl #[Dy a,n9 Fu vP]
 case In=>exact .inl #[OQ.or (FA N3),n9 Ft FB]
 case NotIn=>exact .inl #[OR.or (FA N4),n9 Ft FB]
 case Is=>exact .inl #[Qd,Fy]
 case IsNot=>exact .inl #[Qe,Fy]
def Hk{f:ba->ba->Sem ba}:ez C X f BG:=#[λ_ _ _ _=>False,λ_ _ _ _ _ _ _ _ _ _ _ _ h=>h.elim,λ_ _ _ _ _ _ _ _ _ _ _ _ _ _ e _=>by cases e]
def S6(op:Operator):ez C X (binaryOp op) (aZ op):=by rcases S3 (C:=C) (X:=X) op with⟨a,e,h⟩|e;{rw[e];exact h};rw[e];exact Hk
def vQ(op:CmpOp)(a:X.A.units+64<cLine):ez C X (compareOp op) (bB op)/\j3 (bB op):=by rcases S4 (C:=C) op a with h|e;{exact h};rw[e];exact#[Hk,λ_ _ _ _ _ _ z=>by cases z]
def gQ(op:CmpOp)(h:eF e=true):behindInMarks op e=false:=by cases e <;> first|rfl|cases h
def oM(h:eF e=true):∀v,foldedSetIterable e env v=pure v:=by intro v;cases e <;> first|rfl|cases h
def vR(h:mQ e=true):nQ e:=by intro o i;cases e <;> first|rfl|cases h
def DS(h:mQ e=true):uD e:=by intro o i;cases e <;> first|rfl|cases h
def S7(h:Hg e=true):∀dO,isTrue e env dO=(do let v <- dO;standAt e.pos;holding [v] (truthy v)):=by intro dO;cases e;(case UnaryOp op _ _=>cases op <;> first|rfl|cases h);all_goals first|rfl|cases h
theorem SX.sub(S:SX k W m C X)(cl:List (Str×Addr))(A:Addr)(fp:List Addr)(s3:bz)(a:Hp):SX k W (m.sub scope aM tgN) C.nox (a8 X scope (aM++tgN) cl A fp s3 a):=by refine#[rfl,?_,S.cm,S.rm,S.un,λ_ aA σ H s e s' I h=>?_,S.xt,S.xi,S.xc,S.xn,S.con,S.no,S.mk0,S.mki,S.iso,S.fl,S.mt,S.fn,(λz=>by cases z),S.fp,S.sm,S.sc,S.cv,S.sw,S.su,.inl rfl];rotate_left;{exists _,_,_,_,_,_,_,_,_,_,_,_,z,h;exact z.elim};show(compEnvC scope cl A X.env).scope=_;unfold MC.sub;rw[<- S.hs];rfl
theorem SX.loc(S:SX k W m C X)(h:m.loc i z=true):X.N[i]? = some z/\L2.Loc X.env.scope z/\(X.fn z=true\/X.env.scope.names.lookup z=some .local):=by unfold MC.loc MC.kind at h;simp only[cc,jx,ck]at h;refine#[by rw[S.hN];exact h.1,?_,?_];{unfold L2.Loc;rw[S.hs];rcases h.2 with q|q;{exact .inl q};exact .inr q.2};rw[S.hs];rcases h.2 with q|q;{exact .inr q};exact .inl (S.fnn q.1 z)
theorem SX.lam(S:SX k W m C X)(hd:W.dp=true){x:Str}{f:Addr}{A:di}{F:Hp}{E:XK}(o:j+1=k)(a:bF j (A.deeper (envOfC qual scope s.heap.objs.size f cdv))):SX j W.pred (m.lam x scope) #[X.K,F,H,iA X.mg E] (cO (eS X.prog X.w) X.prog X.w X.K X.mg X.base [x] qual scope f cdv A outer s H E):=by(exists J,d,fp,S.fp hd;obtain rfl:J=j:=by lia);exact#[rfl,rfl,λ_=>rfl,λ_=>a,a.units,λ_=>uP rfl,S.xt,S.xi,(λc h=>by cases h),(λc h=>by cases h),S.con,S.no,(λc h=>by cases h),(λc key n h=>by cases h),(λc h=>by cases h),(λi r h=>by cases h),(λc m' key n e=>by cases e),fp,λ_ _=>rfl,(λz=>by cases z),(λx h=>by cases h),(λ_ _ _ _ _ h=>by cases h),(λ_ _=>vM),(λz=>by cases z),(λy n l=>yd.no (fp y n l)),.inl rfl]
def S8{body:Expr}{a cv ct:ba}:bindArgs (PySem.W.kla_fn "<lambda>" qual #[[],[#[z,none,ap]],none,[],[],none,[]] body scope [] a cv ct) #[[u],[]]=pure [(z,u)]:=
 GU (ps:=[z]) rfl rfl rfl rfl rfl rfl (ik.mpr #[mz,ml]) [u] rfl
def Hl:PV C X e (λ_=>.stuck):=λaA s σ H Q I h=>by rw[aV]at h;exists _,_,_,w,h;exact w.elim
theorem S9(S:SX k W m C X)(hc:m.calm=true)(hd:W.dp=true)(D:m.q ≠ "")(hg:Gl X "sorted")(hm:X.mg "sorted"=none){body:Expr}{a b:E}{lp kp:Pos}(Z:pD (m.q++".<locals>.") lp.line="<lambda>")(he:PV C X e (aK W a))(hs:bQ e=true)(sc:j4 [z] [z] scope)(rb:∀{k:Nat}{W:WD}{C:Cw}{X:Cx},SX k W (m.lam z scope) C X->PV C X body (aK W b)):PV C X (.Call (.Name "sorted" p) [e] [#[some "key",.Lambda #[[],[#[z,none,ap]],none,[],[],none,[]] body scope lp,kp]] pos) (λY=>cX (λd=>aK W.pred b [some (false,d)]) (aK W a Y)):=by
 exists ae,V,S.cd.resolve_left D;exists j,hj,_,id (S.fp hd);have B:bF (j+1) X.A:=by rw[hj];exact S.rm hc
 refine GW (λf H=>∃c J ct,H c=some (.crec (X.env.qual++"<lambda>"))/\H f=some (g9 f (PySem.W.kla_obj "<lambda>" (X.env.qual++"<lambda>") #[[],[#[z,none,ap]],none,[],[],none,[]] body scope [] J c ct))) (S.cm hc) S.un hg hm he hs ?_ ?_
 . intro aA s σ H Q I h;exact Ov I ae V Z sc.nofree λf c J ct s' H' I' sm f0 af aa=>#[.ref f,H',I',rfl,h f H' sm #[c,J,ct,af,aa]]
 . rintro f pins' σ H F H' F' s' v u d kd ⟨c,J,ct,hcr,hf⟩ I st rd ru er;have T:bF j (X.A.in1.in1.deeper (envOfC (X.env.qual++"<lambda>") scope s'.heap.objs.size f (.ref c))):=
     #[B.hd,by have:=B.dp;show X.A.depth+1+3 * j+5<_;lia,by have:=B.un;show X.A.units+1+1+3+16 * j+200<_;lia]
   have body:=rb (S.lam hd hj (F:=F') (H:=H') (outer:=X.stack) (E:=λ_ _ _=>False) (x:=z) T);have o:tG ((#[X.K,F',H',iA X.mg (λ_ _ _=>False)]:Cw).at (cO (eS X.prog X.w) X.prog X.w X.K X.mg X.base [z] (X.env.qual++"<lambda>") scope f (.ref c) X.A.in1.in1 X.stack s' H' (λ_ _ _=>False))) (aK W.pred b) (L2.start [z] [v]) H' (λkv ag=>∃G,aJ F' H' G ag/\aB X.K G kd kv):=by rw[aV];refine#[[some (false,d)],F',Fo (N:=[z]) (ds:=[d]) st.sub (aC.cons rd aC.nil),?_];cases ep:aK W.pred b [some (false,d)]with|stuck|exc c=>rw[ep]at er;cases er|ok m' d'=>rw[ep]at er;exact λv F2 H2 st rp fr=>GY er st rp fr
   refine ul (qe (R7 sc S8 B.hd (by have:=B.dp;show X.A.depth<_;lia) I.env0.in1.in1 (st.same _ _ hf) (st.same _ _ hcr) ru body o) λr s2 D=>?_)
   cases r with|error e=>exists _,_,_,_,_,_,_,_,_,_,z,D;exact z.elim|ok fl=>cases fl with|ret w=>exists kv,H2,I2,rk,F2,L,O,I.after D;exact#[kv,F2,H2,I2,rk,L,O]|next|brk|cont=>exact False.elim D
mutual
theorem sG(S:SX k W m C X)(hN:m.N.Nodup):∀(t:Tg) {e:Expr},mG m t e=true->ln X e t|.nm i,e,h=>by simp only[mG]at h;split at h;{exists a,b,c,S.loc h;exact Qq (by rw[S.hN];exact hN) a b c};cases h|.tp ts,e,h=>by simp only[mG]at h;split at h;{rw[cc,cc,fi]at h;exists p,l,Hm S hN ts h.2 h.1.2;exact Qu (S.cm h.1.1) p h.1.2 l};cases h
theorem Hm(S:SX k W m C X)(hN:m.N.Nodup):∀(ts:List Tg) {es:List Expr},yg m ts es=true->(∀e∈es,jC e=true)->kE X es ts/\es.length=ts.length|[],[],h,_=>#[Qr,rfl]|[],_::_,h,_|t::ts,[],h,_=>by simp[yg]at h|t::ts,e::es,h,hs=>by simp only[yg,cc]at h;exists p,l,Hm S hN ts h.2 λx hx=>hs x (cs hx);exact#[Qs (sG S hN t h.1) p (hs e cj),by rw[gh,gh,l]]
end
end
def Ta:PV C X e (λ_=>.stuck):=λaA s σ H Q I q=>by rw[aV]at q;exists Y,F,R,w,q;exact w.elim
def Tc{W:WD}(S:SX k W m C X)(ho:kT scope m.sc m.N aD aM tgN=true):(∀y∈scope.names,y.2 ≠ .cell)/\scope.kind=.function/\(∀y∈scope.names,y.2=.local->scope.names.lookup y.1=some .local)/\(∀y∈scope.names,y.2=.free->X.env.kindOf y.1=some .cell\/X.env.kindOf y.1=some .free)/\(aM.map some=aD.map λi=>X.N[i]?)/\(∀y∈aM,(y,NameKind.free)∈scope.names)/\(∀y∈aM,(relabel scope X.env).names.lookup y=some .cell\/(relabel scope X.env).names.lookup y=some .free)/\(aM++tgN).Nodup:=by(unfold kT at ho;simp only[cc,fi,jx,o0,ck,fe,sq]at ho;obtain⟨⟨⟨⟨⟨⟨⟨D,B⟩,A⟩,r⟩,o⟩,f⟩,d⟩,G⟩:=ho;have E:(relabel scope X.env).names=lX scope m.sc:=by rw[<- S.hs];rfl);refine#[D,B,λy a e=>(A y a).resolve_left λz=>z e,λy a e=>?_,by rw[S.hN];exact o,f,λy a=>by rw[E];exact d y a,G];have:=r y a;show X.env.scope.names.lookup y.1=_\/X.env.scope.names.lookup y.1=_;rw[S.hs];rcases this with(z|z)|z;{exact absurd e z};{exact .inl z};exact .inr z
abbrev PE(m:MC)(f:E)(e:Expr):Prop:=∀{k:Nat}{W:WD}{C:Cw}{X:Cx},SX k W m C X->PV C X e (aK W f)
abbrev Hn(m:MC)(f:E)(e:Expr):Prop:=∀{k:Nat}{W:WD}{C:Cw}{X:Cx},SX k W m C X->jq C X e (aK W f)
abbrev u3(m:MC)(tg:Expr)(f:E)(e:Expr):Prop:=∀{k:Nat}{W:WD}{C:Cw}{X:Cx},SX k W m C X->jz C X tg e (aK W f)
inductive fC(m:MC):List E->List Expr->Prop
 |nil:fC m [] []
 |cons {f fs x U:_}:bQ x=true->PE m f x->fC m fs U->fC m (f::fs) (x::U)
inductive gG(m:MC):List E->List Expr->Prop
 |nil:gG m [] []
 |cons {f fs x U:_}:Hn m f x->gG m fs U->gG m (f::fs) (x::U)
abbrev cq(m:MC)(f:E)(e:Expr):Type:=Option (PLift (PE m f e))
abbrev mo(m:MC)(f:E)(e:Expr):Type:=Option (PLift (Hn m f e))
abbrev oi(m:MC)(tg:Expr)(f:E)(e:Expr):Type:=Option (PLift (u3 m tg f e))
abbrev fP(m:MC)(f:List E)(e:List Expr):Type:=Option (PLift (fC m f e))
abbrev qt(m:MC)(f:List E)(e:List Expr):Type:=Option (PLift (gG m f e))
abbrev BH(m:MC)(f:Option E)(e:Option Expr):Type:=Option (PLift (∀{k:Nat}{W:WD}{C:Cw}{X:Cx},SX k W m C X->BD C X e (hH W f)))
def got{P:Prop}:∀{o:Option (PLift P)},o.isSome=true->P|some p,_=>p.down|none,h=>nomatch h
section
variable{W:WD}
theorem fC.star:∀{fs:List E}{es:List Expr},fC m fs es->∀x∈es,bQ x=true|_,_,.nil=>λx hx=>by cases hx|_,_,.cons s _ q=>λx hx=>by rcases cy.mp hx with rfl|hx;{exact s};exact q.star x hx
theorem fC.es(S:SX k W m C X):∀{fs:List E}{es:List Expr},fC m fs es->jm C X es (bY W fs)|_,_,.nil=>by simp only[bY];exact nW|_,_,.cons s p q=>by simp only[bY];exact kA (p S) (q.es S) (bW s)
theorem fC.a{pos:Pos}(S:SX k W m C X):∀{fs:List E}{es:List Expr},fC m fs es->PV C X (.BoolOp .And es pos) (jp W fs)|_,_,.nil=>λaA s σ H Q I q=>by rw[aV]at q;exists Y,F,R,w,q;exact w.elim|_,_,.cons s p .nil=>by simp only[jp];exact E6 (p S)|_,_,.cons s p (.cons s' d q)=>by simp only[jp];exact OX (p S) (fC.a S (.cons s' d q))
theorem fC.o{pos:Pos}(S:SX k W m C X):∀{fs:List E}{es:List Expr},fC m fs es->PV C X (.BoolOp .Or es pos) (eE W fs)|_,_,.nil=>λaA s σ H Q I q=>by rw[aV]at q;exists Y,F,R,w,q;exact w.elim|_,_,.cons s p .nil=>by simp only[eE];exact E6 (p S)|_,_,.cons s p (.cons s' a q)=>by simp only[eE];exact OY (p S) (fC.o S (.cons s' a q))
theorem gG.a{pos:Pos}(S:SX k W m C X):∀{fs:List E}{es:List Expr},gG m fs es->nj C X (.BoolOp .And es pos) (jp W fs)|_,_,.nil=>λdO aA s σ H Q I q=>by exists Y,F,R,w,q;exact w.elim|_,_,.cons p .nil=>by simp only[jp];exact E4 (p S)|_,_,.cons p (.cons d q)=>by simp only[jp];exact OV (p S) (gG.a S (.cons d q))
theorem gG.o{pos:Pos}(S:SX k W m C X):∀{fs:List E}{es:List Expr},gG m fs es->nj C X (.BoolOp .Or es pos) (eE W fs)|_,_,.nil=>λdO aA s σ H Q I q=>by exists Y,F,R,w,q;exact w.elim|_,_,.cons p .nil=>by simp only[eE];exact E4 (p S)|_,_,.cons p (.cons a q)=>by simp only[eE];exact OW (p S) (gG.o S (.cons a q))
theorem gG.f(S:SX k W m C X):∀{fs:List E}{es:List Expr},gG m fs es->eB X es (tT (C.at X) (d7 W fs))|_,_,.nil=>by(have:d7 W []=λ_=>.ok .fz (.bl true):=by funext Y;simp only[d7]);rw[this];exact PD|f::fs,_,.cons p q=>by(have:d7 W (f::fs)=λY=>fH (aK W f Y) (d7 W fs Y):=by funext Y;simp only[d7]);rw[this];exact PF (p S) (q.f S)
section
variable{fs:List E}{es:List Expr}{r:fP m fs es}{t:qt m fs es}
def ua(h:r.isSome=true):∀x∈es,bQ x=true:=(got h).star
def pd(h:r.isSome=true)(S:SX k W m C X):jm C X es (bY W fs):=(got h).es S
def gA(h:r.isSome=true)(S:SX k W m C X):PV C X (.BoolOp .And es pos) (jp W fs):=(got h).a S
def Td(h:r.isSome=true)(S:SX k W m C X):PV C X (.BoolOp .Or es pos) (eE W fs):=(got h).o S
def Te(h:t.isSome=true)(S:SX k W m C X):nj C X (.BoolOp .And es pos) (jp W fs):=(got h).a S
def Tf(h:t.isSome=true)(S:SX k W m C X):nj C X (.BoolOp .Or es pos) (eE W fs):=(got h).o S
def gF(h:t.isSome=true)(S:SX k W m C X):eB X es (tT (C.at X) (d7 W fs)):=(got h).f S
end
end
def Th:jq C X e (λ_=>.stuck):=by intro aA s σ H Q I q;exists Y,F,R,w,q;exact w.elim
def Ti:jz C X tg e (λ_=>.stuck):=by intro aA s σ H R I q;exists Y,F,r,w,q;exact w.elim
noncomputable def Tj{a e:_}(r:cq m a e):cq m (.frz a) e:=if h:r.isSome=true then some #[λS=>eH (got h S)]else none
noncomputable def Tk{a e:_}(r:cq m a e):mo m (.tru a) e:=if h:(Hg e&&r.isSome)=true then some #[λS=>by
 simp only[cc]at h;exact OT (got h.2 S) (S7 h.1)]else none
noncomputable def Tl{tg a e:_}(r:cq m a e):oi m tg (.items a) e:=if h:r.isSome=true then some #[λS=>Pq (got h S)]else none
noncomputable def Tn{tg a e:_}(r:cq m a e):oi m tg (.nkeys a) e:=if h:r.isSome=true then some #[λS=>RV (got h S)]else none
noncomputable def To{tg a e:_}(r:cq m a e):oi m tg (.kkeys a) e:=if h:r.isSome=true then some #[λS=>SF (got h S)]else none
noncomputable def Tq{i:_}{x:_}{p1:_}:cq m (.var i) (.Name x p1):=if h:(m.N[i]?==some x&&m.vis x)=true then some #[λS=>by
 simp only[cc,ck]at h;exists f,d,a,S.vis h.2
 exact Oy i (iL (by rw[S.hN];exact h.1) f d a)]else none
noncomputable def Ts{y:_}{c:_}{x:_}{p1:_}:cq m (.glob y c) (.Name x p1):=if h:(x==y&&m.glob x (.con c)&&yh c)=true then some #[λS=>by
 simp only[cc,ck]at h;obtain⟨⟨rfl,f⟩,d⟩:=h;exists g,l,hd,hn,S.gl f;have:=S.con _ _ l;cases c with|s y=>exists t,a,this;exact Pb g a d hd|i n=>exists t,a,this;exact Pc g a hd|t tb=>cases d]else none
noncomputable def yi{t:_}{x:_}{p1:_}:cq m (.ty t) (.Name x p1):=if h:(x==(t.id:Str)&&m.glob x .no)=true then some #[λS=>by
 simp only[cc,ck]at h;exists rfl,a,h;exists g,l,hd,hn,S.gl a;exact wj g (S.no _ l) (Hh t) hn hd]else none
noncomputable def Tt{p0}{p1:_}:cq m (.non) (.Constant .none p0 p1):=if h:(true)=true then some #[λS=>by
 exact OA]else none
noncomputable def yj{c:_}{b:_}{p1:_}{p2:_}:cq m (.bl c) (.Constant (.bool b) p1 p2):=if h:(b==c)=true then some #[λS=>by
 simp only[ck]at h;subst h;exact wd]else none
noncomputable def Tu{c:_}{b:_}{p1:_}{p2:_}:cq m (.int c) (.Constant (.int b) p1 p2):=if h:(b==c)=true then some #[λS=>by
 simp only[ck]at h;subst h;exact Oz]else none
noncomputable def Tv{c:_}{b:_}{p1:_}{p2:_}:cq m (.str c) (.Constant (.str b) p1 p2):=if h:(b==c&&yf b)=true then some #[λS=>by
 simp only[cc,ck]at h;exists rfl,h,h;exact OB h]else none
noncomputable def Tw{op}{a}{b:_}{x:_}{o}{y:_}{p3}(d:cq m a x)(r:cq m b y):cq m (.bin op a b) (.BinOp x o y p3):=if h:(o==op&&(d.isSome&&r.isSome))=true then some #[λS=>by
 simp only[cc,ck]at h;exists rfl,A,f,h;exact we (S6 _) (got A S) (got f S)]else none
noncomputable def Tx{op}{a}{b:_}{x:_}{o}{y:_}{p3}(d:cq m a x)(r:cq m b y):cq m (.cmp op a b) (.Compare x [o] [y] p3):=if h:(o==op&&eF y&&(d.isSome&&r.isSome))=true then some #[λS=>by
 simp only[cc,ck]at h;obtain⟨⟨rfl,hs⟩,A,f⟩:=h;exact j8 (vQ _ S.un).1 (got A S) (got f S) (gQ _ hs)]else none
noncomputable def Tz{es}{U:_}{p1:_}(r:fP m es U):cq m (.andL es) (.BoolOp .And U p1):=if h:(r.isSome)=true then some #[λS=>by
 exact gA h S]else none
noncomputable def TD{es}{U:_}{p1:_}(r:fP m es U):cq m (.orL es) (.BoolOp .Or U p1):=if h:(r.isSome)=true then some #[λS=>by
 exact Td h S]else none
noncomputable def TF{a}{x:_}{p1:_}(r:cq m a x):cq m (.not a) (.UnaryOp .Not x p1):=if h:(r.isSome)=true then some #[λS=>by
 exact OZ (got h S)]else none
noncomputable def TH{a}{x:_}{p1:_}(r:cq m a x):cq m (.neg a) (.UnaryOp .USub x p1):=if h:(r.isSome)=true then some #[λS=>by
 exact O0 (got h S)]else none
noncomputable def TJ{a}{l:_}{u:_}{x:_}{lo}{hi}{p3}{p4}(f:cq m a x)(d:BH m l lo)(r:BH m u hi):cq m (.slice a l u) (.Subscript x (.Slice lo hi none p3) p4):=if h:(f.isSome&&(d.isSome&&r.isSome))=true then some #[λS=>by
 simp only[cc]at h;exists h0,A,o,h;exact QU (got h0 S) (got A S) (got o S)]else none
noncomputable def yk{a}{b:_}{x:_}{y:_}{p2:_}(d:cq m a x)(r:cq m b y):cq m (.ix a b) (.Subscript x y p2):=if h:(mQ y&&(d.isSome&&r.isSome))=true then some #[λS=>by
 simp only[cc]at h;exists h0,o,f,h;exact wh (got o S) (got f S) (vR h0)]else none
noncomputable def TK{es}{es0}{p1:_}{p2:_}(r:fP m es es0):cq m (.tup es) (.Tuple es0 p1 p2):=if h:(r.isSome)=true then some #[λS=>by
 exact O5 (pd h S)]else none
noncomputable def TL{es}{es0}{p1:_}(r:fP m es es0):cq m (.lst es) (.List es0 p1):=if h:(r.isSome)=true then some #[λS=>by
 exact O6 (pd h S)]else none
noncomputable def TM{a}{b:_}{k:_}{v:_}{p2:_}(d:cq m a k)(r:cq m b v):cq m (.dct1 a b) (.Dict [some k] [v] p2):=if h:(d.isSome&&r.isSome)=true then some #[λS=>by
 simp only[cc]at h;exact O7 (got h.1 S) (got h.2 S)]else none
noncomputable def TN{g:_}{n:_}{es}{f}{p:_}{x:_}{U:_}{cp:_}(r:fP m es (x::U)):cq m (.call g n es) (.Call (.Name f p) (x::U) [] cp):=if h:(m.calm&&f==g&&m.glob f (.fn n)&&r.isSome)=true then some #[λS=>by
 simp only[cc,ck]at h;obtain⟨⟨⟨a,rfl⟩,A⟩,d⟩:=h;exists gl,l,hd,hn,S.gl A;have st:=ua d;exact PL (S.fn _ _ l) (S.rm a) (S.xo a) gl (pd d S) hd (bW (st x cj)) (jA _ _ λy o=>st y (cs o))]else none
noncomputable def TQ{b:_}{es}{f}{p:_}{x:_}{U:_}{cp:_}(r:fP m es (x::U)):cq m (.bcall b es) (.Call (.Name f p) (x::U) [] cp):=if h:((m.calm||b == .len||b == .isinstance)&&f==b.name&&m.glob f .no&&r.isSome)=true then some #[λS=>by
 rw[cc,cc,cc]at h;obtain⟨⟨⟨A,d⟩,B⟩,a⟩:=h;cases(ck.mp d);exists gl,l,hd,hn,S.gl B;have st:=ua a;exact Fa (S0 b S.cm A) gl (S.no _ l) (SZ b) (pd a S) hn hd (bW (st x cj)) (jA _ _ λy o=>st y (cs o))]else none
noncomputable def TU{t:_}{es}{f}{p1:_}{x:_}{U:_}{p4}(r:fP m es (x::U)):cq m (.tcall t es) (.Call (.Name f p1) (x::U) [] p4):=if h:(f==(t.id:Str)&&m.glob f .no&&r.isSome)=true then some #[λS=>by
 simp only[cc,ck]at h;obtain⟨⟨rfl,d⟩,a⟩:=h;exists gl,l,hd,hn,S.gl d;exact Qk (S2 t) gl (S.no _ l) (Hh t) (pd a S) hn hd (ua a)]else none
noncomputable def TV{a}{f}{es}{o}{g:_}{ap:_}{U:_}{cp:_}(B:cq m a o)(A:fP m es U):cq m (.meth a f es) (.Call (.Attribute o g ap) U [] cp):=if h:(m.calm&&g==f&&ap.endLine==cp.line&&decide (U.length<30)&&lY o&&(B.isSome&&A.isSome))=true then some #[λS=>by
 simp only[cc,ck,fe]at h;obtain⟨⟨⟨⟨⟨r,rfl⟩,G⟩,F⟩,E⟩,D,d⟩:=h;exact P8 S.mt (S.rm r) (S.xo r) (got D S) (pd d S) E (ua d) F G λJ=>by
  subst J;cases es with|nil=>funext Y;simp only[bY]|cons _ _=>cases got d]else none
noncomputable def TW{c:_}{f}{p1:_}{p2:_}:cq m (.mk0 c) (.Call (.Name f p1) [] [] p2):=if h:(f==c&&m.glob f .cls&&m.g.mk0.contains f)=true then some #[λS=>by
 simp only[cc,ck,sq]at h;obtain⟨⟨rfl,d⟩,a⟩:=h;exists gl,l,hd,hn,S.gl d;exact Qb (S.mk0 _ a) gl hd]else none
noncomputable def TY{y:_}{tb}{a}{x:_}{p1:_}{b:_}{p3}(r:cq m a b):cq m (.deed y tb a) (.Subscript (.Name x p1) b p3):=if h:(x==y&&m.glob x (.con (.t tb))&&mQ b&&r.isSome)=true then some #[λS=>by
 simp only[cc,ck]at h;obtain⟨⟨⟨rfl,o⟩,f⟩,d⟩:=h;exists gl,l,hd,hn,S.gl o;exact Q4 (S.con _ _ l) gl (got d S) (DS f) hd]else none
noncomputable def TZ{i:_}{fs}{n:_}{es}{f}{p:_}{x:_}{U:_}{cp:_}(r:fP m es (x::U)):cq m (.callv i fs n es) (.Call (.Name f p) (x::U) [] cp):=if h:(m.calm&&m.N[i]?==some f&&m.vis f&&fs.all (λg=>m.g.G.lookup g==some (.fn n))&&r.isSome)=true then some #[λS=>by
 simp only[cc,ck,fi]at h;obtain⟨⟨⟨⟨a,E⟩,D⟩,B⟩,d⟩:=h;exists v1,v2,v3,S.vis D;have st:=ua d
 exact Q5 (λg A=>S.fn g n (B g (sq.mp A))) (S.rm a) (S.xo a) (iL (by rw[S.hN];exact E) v1 v2 v3) (pd d S) (bW (st x cj)) (jA _ _ λy o=>st y (cs o))]else none
noncomputable def T3{a}{b:_}{x:_}{o}{y:_}{p3}(d:cq m a x)(r:cq m b y):cq m (.deqC a b) (.Compare x [o] [y] p3):=if h:(o == .Eq&&eF y&&(d.isSome&&r.isSome))=true then some #[λS=>by
 simp only[cc,ck]at h;obtain⟨⟨rfl,hs⟩,A,f⟩:=h;exact j8 (Hf S.un) (got A S) (got f S) (gQ _ hs)]else none
noncomputable def T4{F f it:_}{aD:_}{t:_}{n:_}{kx vx}{tg:_}{iter:_}{scope:_}{cp:_}(B:oi m tg it iter)(o:cq (m.sub scope (aD.filterMap λi=>m.N[i]?) (dC 4 tg)) F kx)(r:cq (m.sub scope (aD.filterMap λi=>m.N[i]?) (dC 4 tg)) f vx):cq m (.dcomp F f it aD t n) (.DictComp kx vx [#[tg,iter,[],0]] scope cp):=if h:(m.calm&&kT scope m.sc m.N aD (aD.filterMap λi=>m.N[i]?) (dC 4 tg)&&eF iter&&decide ((dC 4 tg).length=n)&&(dW t).all (λj=>decide (aD.length<=j))&&mG (m.sub scope (aD.filterMap λi=>m.N[i]?) (dC 4 tg)) t tg&&(B.isSome&&(o.isSome&&r.isSome)))=true then some #[λS=>by
 simp only[cc,fe,fi]at h;obtain⟨⟨⟨⟨⟨⟨D,ho⟩,hn⟩,E⟩,hs⟩,J⟩,O,L,K⟩:=h;exists g1,g2,g3,g4,Z,W,V,T,Tc S ho;have:=SK (pos:=cp) (tgN:=dC 4 tg) (t:=t) (S.cm D) (got O S) g1 g2 g3 g4 Z W V (λj G=>hs j G) (λcl A fp a d=>sG (S.sub cl A fp a d) T t J)
  (λcl A fp a d=>got L (S.sub cl A fp a d)) (λcl A fp a d=>got K (S.sub cl A fp a d)) (oM hn)
 rw[E]at this;exact this]else none
noncomputable def T5{a}{b:_}{o}{f}{ap:_}{x:_}{cp:_}(A:cq m a o)(r:cq m b x):cq m (.tidx a b) (.Call (.Attribute o f ap) [x] [] cp):=if h:(f == "index" && ap.endLine==cp.line&&lY o&&bQ x&&(A.isSome&&r.isSome))=true then some #[λS=>by
 simp only[cc,ck]at h;obtain⟨⟨⟨⟨rfl,B⟩,D⟩,hs⟩,F,E⟩:=h;exact Q2 (got F S) (got E S) #[lZ D,by rw[kC _ _ (λy d=>by simp only[cy,mj,h9]at d;subst d;exact hs)];rfl,ck.mpr B,by rw[bW hs];rfl]]else none
noncomputable def T6{a}{b:_}{x:_}{y:_}{p2:_}(d:cq m a x)(r:cq m b y):cq m (.dix a b) (.Subscript x y p2):=if h:(mQ y&&(d.isSome&&r.isSome))=true then some #[λS=>by
 simp only[cc]at h;exists h0,o,f,h
 exact QX (Bs (CV (by decide:1<=64) _) S.un) (got o S) (got f S) (vR h0)]else none
noncomputable def T7{neg:_}{a}{b:_}{x:_}{o}{y:_}{p3}(d:cq m a x)(r:cq m b y):cq m (.din neg a b) (.Compare x [o] [y] p3):=if h:(o==(if neg then .NotIn else .In)&&eF y&&(d.isSome&&r.isSome))=true then some #[λS=>by
 simp only[cc,ck]at h;obtain⟨⟨ho,hs⟩,A,f⟩:=h
 exact QY ho (Bs (CV (by decide:1<=64) _) S.un) (got A S) (got f S) (gQ _ hs)]else none
noncomputable def T8{el}{it:_}{ts}{aD:_}{t:_}{n:_}{elt:_}{tg:_}{iter:_}{ifs:_}{scope:_}{cp:_}(B:oi m tg it iter)(o:cq (m.sub scope (aD.filterMap λi=>m.N[i]?) (dC 4 tg)) el elt)(r:qt (m.sub scope (aD.filterMap λi=>m.N[i]?) (dC 4 tg)) ts ifs):cq m (.comp el it ts aD t n) (.ListComp elt [#[tg,iter,ifs,0]] scope cp):=if h:(m.calm&&kT scope m.sc m.N aD (aD.filterMap λi=>m.N[i]?) (dC 4 tg)&&eF iter&&decide ((dC 4 tg).length=n)&&(dW t).all (λj=>decide (aD.length<=j))&&mG (m.sub scope (aD.filterMap λi=>m.N[i]?) (dC 4 tg)) t tg&&(B.isSome&&(o.isSome&&r.isSome)))=true then some #[λ{k}{W}{C}{X} S=>by
 simp only[cc,fe,fi]at h;obtain⟨⟨⟨⟨⟨⟨D,ho⟩,hn⟩,E⟩,hs⟩,G⟩,L,K,J⟩:=h;unfold kT at ho;simp only[cc,fi,jx,o0,ck,fe,sq]at ho;obtain⟨⟨⟨⟨⟨⟨⟨g1,g2⟩,g3⟩,g4⟩,Z⟩,V⟩,T⟩,O⟩:=ho;have er:(relabel scope X.env).names=lX scope m.sc:=by rw[<- S.hs];rfl
 have := Qy (pos := cp) (tgN := dC 4 tg) (t := t) (S.cm D) (got L S) g1 g2 (fun y d e => (g3 y d).resolve_left fun z => z e) (fun y d e => by
     have:=g4 y d;show X.env.scope.names.lookup y.1=_\/X.env.scope.names.lookup y.1=_;rw[S.hs];rcases this with(z|z)|z
     . exact absurd e z
     . exact .inl z
     . exact .inr z) (by rw[S.hN];exact Z) V (λy d=>by rw[er];exact T y d) (λj F=>hs j F) (λcl A fp a f=>sG (S.sub cl A fp a f) O t G)
     (λcl A fp a f=>gF J (S.sub cl A fp a f)) (λcl A fp a f=>got K (S.sub cl A fp a f)) (oM hn)
 rw[E]at this;exact this]else none
noncomputable def T9{p0}:cq m (.nnew) (.Dict [] [] p0):=if h:(true)=true then some #[λS=>by
 exact Ry]else none
noncomputable def Ua{a}{b:_}{x:_}{y:_}{p2:_}(d:cq m a x)(r:cq m b y):cq m (.nix a b) (.Subscript x y p2):=if h:(mQ y&&(d.isSome&&r.isSome))=true then some #[λS=>by
 simp only[cc]at h;exists h0,o,f,h;exact Rz S.un (got o S) (got f S) (vR h0)]else none
noncomputable def Ub{neg:_}{a}{b:_}{x:_}{o}{y:_}{p3}(d:cq m a x)(r:cq m b y):cq m (.nin neg a b) (.Compare x [o] [y] p3):=if h:(o==(if neg then .NotIn else .In)&&eF y&&(d.isSome&&r.isSome))=true then some #[λS=>by
 simp only[cc,ck]at h;obtain⟨⟨ho,hs⟩,A,f⟩:=h;exact RA ho S.un (got A S) (got f S) (gQ _ hs)]else none
noncomputable def Uc{a}{b:_}{d}{o}{f}{ap:_}{x:_}{y:_}{cp:_}(E:cq m a o)(D:cq m b x)(B:cq m d y):cq m (.nget a b d) (.Call (.Attribute o f ap) [x,y] [] cp):=if h:(f == "get" && ap.endLine==cp.line&&lY o&&bQ x&&bQ y&&(E.isSome&&(D.isSome&&B.isSome)))=true then some #[λS=>by
 simp only[cc,ck]at h;obtain⟨⟨⟨⟨⟨rfl,F⟩,G⟩,hs⟩,r⟩,L,K,J⟩:=h;exact RC S.un (got L S) (got K S) (got J S) #[lZ G,by
  rw[kC _ _ (λz A=>by
   simp only[cy,mj,h9]at A;rcases A with rfl|rfl
   . exact hs
   . exact r)];rfl,ck.mpr F,by rw[bW hs,bW r];rfl]]else none
noncomputable def Ud{a}{f}{p1:_}{x:_}{p3}(r:cq m a x):cq m (.srtw a) (.Call (.Name f p1) [x] [] p3):=if h:(f == "sorted" && m.glob f .no&&bQ x&&r.isSome)=true then some #[λS=>by
 simp only[cc,ck]at h;obtain⟨⟨⟨rfl,o⟩,hs⟩,d⟩:=h;exists gl,l,hd,hn,S.gl o;exact Fa (RR S.un) gl (S.no _ l) F7 (kA (got d S) nW (bW hs)) hn hd (bW hs) rfl]else none
noncomputable def Ue{a}{b:_}{x:_}{o}{y:_}{p3}(d:cq m a x)(r:cq m b y):cq m (.ltn a b) (.Compare x [o] [y] p3):=if h:(o == .Lt&&eF y&&(d.isSome&&r.isSome))=true then some #[λS=>by
 simp only[cc,ck]at h;obtain⟨⟨rfl,hs⟩,A,f⟩:=h;exact j8 ((R6 S.un).or (SU S.un)) (got A S) (got f S) (gQ _ hs)]else none
noncomputable def rN(N ps:List Str)(sc:Scope):Bool:=sc.kind == .function&&!sc.isCoroutine&&!sc.isGenerator&&decide N.Nodup&&(N.take ps.length==ps)&&ps.all (λx=>sc.names.lookup x==some .local||sc.names.lookup x==some .cell)&&sc.names.all (λy=>y.2 != .free)
def vS{N:List Str}(h:rN N ps sc=true):j4 N ps sc:=by unfold rN at h;simp only[cc,fi,jx,o0,ck,fe,Bh]at h;obtain⟨⟨⟨⟨⟨⟨B,A⟩,r⟩,o⟩,f⟩,d⟩,a⟩:=h;exact#[B,A,r,o,f,d,a]
noncomputable def Uf{g:_}{a}{f}{p1:_}{x:_}{kw}{y:_}{q:_}{kp}{p3}(A:cq m a x):cq m (.srtf g a) (.Call (.Name f p1) [x] [#[some kw,.Name y q,kp]] p3):=if h:(m.calm&&f == "sorted" && m.glob f .no&&kw == "key" && bQ x&&y==g&&m.glob g (.fn 1)&&A.isSome)=true then some #[λ{k}{W}{C}{X} S=>by
 simp only[cc,ck]at h;obtain⟨⟨⟨⟨⟨⟨⟨r,rfl⟩,J⟩,rfl⟩,F⟩,rfl⟩,D⟩,E⟩:=h;exists gl,l,_,_,S.gl J;exists G,L,o,_,S.gl D;cases hd:W.dp with
 |false=>rw[show aK W (.srtf y a)=λ_=>.stuck by funext Y;show(if W.dp=true then _ else _)=_;rw[hd];rfl];exact Hl|true =>
  exists j,B,fp,S.fp hd;rw[show aK W (.srtf y a)=λY=>cX (λd=>W.Ψ y [d]) (aK W a Y) by funext Y;show(if W.dp=true then _ else _)=_;rw[hd];rfl]
  exact Sl (S.cm r) S.un gl (S.no _ l) (got E S) F G o (fp y 1 L) (by rw[B];exact S.rm r)]else none
noncomputable def Ug{a}{b:_}{f}{p1:_}{x:_}{kw}{z:_}{ap:_}{body:_}{scope:_}{lp}{kp}{p3}(B:cq m a x)(A:cq (m.lam z scope) b body):cq m (.srtl a b) (.Call (.Name f p1) [x] [#[some kw,.Lambda #[[],[#[z,none,ap]],none,[],[],none,[]] body scope lp,kp]] p3):=if h:(m.calm&&f == "sorted" && m.glob f .no&&kw == "key" && bQ x&&m.q != "" && pD (m.q++".<locals>.") lp.line == "<lambda>" && rN [z] [z] scope&&(B.isSome&&A.isSome))=true then some #[λ{k}{W}{C}{X} S=>by
 simp only[cc,ck,o0]at h;obtain⟨⟨⟨⟨⟨⟨⟨⟨E,rfl⟩,K⟩,rfl⟩,J⟩,D⟩,r⟩,o⟩,G,F⟩:=h;exists gl,l,_,_,S.gl K;cases hd:W.dp with
 |false=>rw[show aK W (.srtl a b)=λ_=>.stuck by funext Y;show(if W.dp=true then _ else _)=_;rw[hd];rfl];exact Hl|true =>
  rw[show aK W (.srtl a b)=λY=>cX (λd=>aK W.pred b [some (false,d)]) (aK W a Y) by funext Y;show(if W.dp=true then _ else _)=_;rw[hd];rfl]
  exact S9 S E hd D gl (S.no _ l) r (got G S) J (vS o) (λL=>got F L)]else none
noncomputable def Uh{a}{b:_}{x:_}{o}{y:_}{p3}(d:cq m a x)(r:cq m b y):mo m (.deqC a b) (.Compare x [o] [y] p3):=if h:(o == .Eq&&eF y&&(d.isSome&&r.isSome))=true then some #[λS=>by
 simp only[cc,ck]at h;obtain⟨⟨rfl,hs⟩,A,f⟩:=h;exact lT (Hf S.un) SQ (got A S) (got f S) (gQ _ hs)]else none
noncomputable def Ui{neg:_}{a}{b:_}{x:_}{o}{y:_}{p3}(D:cq m a x)(B:cq m b y):mo m (.din neg a b) (.Compare x [o] [y] p3):=if h:(o==(if neg then .NotIn else .In)&&eF y&&(D.isSome&&B.isSome))=true then some #[λ{k}{W}{C}{X} S=>by
 simp only[cc,ck]at h;obtain⟨⟨ho,hs⟩,r,f⟩:=h;have d:X.A.units+1<cLine:=Bs (CV (by decide:1<=64) _) S.un
 cases neg with|false=>cases(show _=CmpOp.In from ho);exact lT (FR d) Hi (got r S) (got f S) (gQ _ hs)|true=>cases(show _=CmpOp.NotIn from ho);exact lT (FS d) Hi (got r S) (got f S) (gQ _ hs)]else none
noncomputable def Uj{neg:_}{a}{b:_}{x:_}{o}{y:_}{p3}(A:cq m a x)(r:cq m b y):mo m (.nin neg a b) (.Compare x [o] [y] p3):=if h:(o==(if neg then .NotIn else .In)&&eF y&&(A.isSome&&r.isSome))=true then some #[λS=>by
 simp only[cc,ck]at h;obtain⟨⟨ho,hs⟩,f,d⟩:=h;cases neg with|false=>cases(show _=CmpOp.In from ho);exact lT (Gf S.un) Hj (got f S) (got d S) (gQ _ hs)|true=>cases(show _=CmpOp.NotIn from ho);exact lT (Gg S.un) Hj (got f S) (got d S) (gQ _ hs)]else none
noncomputable def Uk{op}{a}{b:_}{x:_}{o}{y:_}{p3}(d:cq m a x)(r:cq m b y):mo m (.cmp op a b) (.Compare x [o] [y] p3):=if h:(o==op&&eF y&&(d.isSome&&r.isSome))=true then some #[λ{k}{W}{C}{X} S=>by
 simp only[cc,ck]at h;obtain⟨⟨rfl,hs⟩,A,f⟩:=h;exact lT (vQ _ S.un).1 (vQ (C:=C) _ S.un).2 (got A S) (got f S) (gQ _ hs)]else none
noncomputable def Ul{es}{U:_}{p1:_}(r:qt m es U):mo m (.andL es) (.BoolOp .And U p1):=if h:(r.isSome)=true then some #[λS=>by
 exact wg (Te h S)]else none
noncomputable def Um{es}{U:_}{p1:_}(r:qt m es U):mo m (.orL es) (.BoolOp .Or U p1):=if h:(r.isSome)=true then some #[λS=>by
 exact wg (Tf h S)]else none
noncomputable def Uo{a}{x:_}{p1:_}(r:mo m a x):mo m (.not a) (.UnaryOp .Not x p1):=if h:(r.isSome)=true then some #[λS=>by
 exact OU (got h S)]else none
noncomputable def Up{tg0}{a}{f}{p1:_}{x:_}{p3}(r:cq m a x):oi m tg0 (.rng1 a) (.Call (.Name f p1) [x] [] p3):=if h:(f == "range" && m.glob f .no&&bQ x&&r.isSome)=true then some #[λS=>by
 simp only[cc,ck]at h;obtain⟨⟨⟨rfl,A⟩,d⟩,o⟩:=h;exists gl,l,hd,hn,S.gl A;exact Pt gl (S.no _ l) (kA (got o S) nW (bW d)) (bW d)]else none
noncomputable def Uq{tg0}{a}{b:_}{c:_}{f}{p1:_}{x:_}{y:_}{z:_}{p4}(E:cq m a x)(D:cq m b y)(B:cq m c z):oi m tg0 (.rng3 a b c) (.Call (.Name f p1) [x,y,z] [] p4):=if h:(f == "range" && m.glob f .no&&bQ x&&bQ y&&bQ z&&(E.isSome&&(D.isSome&&B.isSome)))=true then some #[λS=>by
 simp only[cc,ck]at h;obtain⟨⟨⟨⟨⟨rfl,K⟩,A⟩,o⟩,d⟩,J,G,F⟩:=h;exists gl,l,hd,hn,S.gl K;exact Rq gl (S.no _ l) (kA (got J S) (kA (got G S) (kA (got F S) nW (bW d)) (bW o)) (bW A)) (bW A) (jA _ _ λw r=>by
  simp only[cy,mj,h9]at r;rcases r with rfl|rfl
  . exact o
  . exact d)]else none
noncomputable def Ur{tg0}{a}{f}{p1:_}{x:_}{p3}(r:cq m a x):oi m tg0 (.enum1 a) (.Call (.Name f p1) [x] [] p3):=if h:(f == "enumerate" && SY tg0&&m.glob f .no&&bQ x&&r.isSome)=true then some #[λS=>by
 simp only[cc,ck]at h;obtain⟨⟨⟨⟨rfl,o⟩,B⟩,d⟩,A⟩:=h;exists gl,l,hd,hn,S.gl B;cases tg0 <;> first
  |(cases o;done)
  |exact QL gl (S.no _ l) (kA (eH (got A S)) nW (bW d)) (bW d)]else none
noncomputable def Us{f fs x U:_}(r:cq m f x)(a:fP m fs U):fP m (f::fs) (x::U):=if h:(bQ x&&r.isSome&&a.isSome)=true then some #[by
 simp only[cc]at h;exact .cons h.1.1 (@got _ r h.1.2) (got h.2)]else none
noncomputable def kO{f x:_}(r:cq m f x):BH m (some f) (some x):=if h:r.isSome=true then some #[λS=>by simp only[hH];exact got h S]else none
noncomputable def kF{f fs x U:_}(r:mo m f x)(a:qt m fs U):qt m (f::fs) (x::U):=if h:(r.isSome&&a.isSome)=true then some #[by
 simp only[cc]at h;exact .cons (@got _ r h.1) (got h.2)]else none
set_option maxHeartbeats 4000000 in
mutual
noncomputable def dm:(m:MC)->(f:E)->(e:Expr)->cq m f e
 |m,.frz a,e=>Tj (dm m a e)|m,.never,e=>some #[λ_=>Ta]|m,.var i,e=>match e with|.Name x p1=>Tq|_=>none
 |m,.glob y c,e=>match e with|.Name x p1=>Ts|_=>none
 |m,.ty t,e=>match e with|.Name x p1=>yi|_=>none
 |m,.non,e=>match e with|.Constant .none D p1=>Tt|_=>none
 |m,.bl c,e=>match e with|.Constant (.bool b) p1 p2=>yj|_=>none
 |m,.int c,e=>match e with|.Constant (.int b) p1 p2=>Tu|_=>none
 |m,.str c,e=>match e with|.Constant (.str b) p1 p2=>Tv|_=>none
 |m,.bin O a b,e=>match e with|.BinOp x o y r=>Tw (dm m a x) (dm m b y)|_=>none
 |m,.cmp O a b,e=>match e with|.Compare x [o] [y] r=>Tx (dm m a x) (dm m b y)|_=>none
 |m,.andL es,e=>match e with|.BoolOp .And U p1=>Tz (gR m es U)|_=>none
 |m,.orL es,e=>match e with|.BoolOp .Or U p1=>TD (gR m es U)|_=>none
 |m,.not a,e=>match e with|.UnaryOp .Not x p1=>TF (dm m a x)|_=>none
 |m,.neg a,e=>match e with|.UnaryOp .USub x p1=>TH (dm m a x)|_=>none
 |m,.slice a l u,e=>match e with|.Subscript x (.Slice lo G none r) B=>TJ (dm m a x) (Ho m l lo) (Ho m u G)|_=>none
 |m,.ix a b,e=>match e with|.Subscript x y p2=>yk (dm m a x) (dm m b y)|_=>none
 |m,.tup es,e=>match e with|.Tuple A p1 p2=>TK (gR m es A)|_=>none
 |m,.lst es,e=>match e with|.List A p1=>TL (gR m es A)|_=>none
 |m,.dct1 a b,e=>match e with|.Dict [some k] [v] p2=>TM (dm m a k) (dm m b v)|_=>none
 |m,.call g n es,e=>match e with|.Call (.Name f p) (x::U) [] cp=>TN (gR m es (x::U))|_=>none
 |m,.bcall b es,e=>match e with|.Call (.Name f p) (x::U) [] cp=>TQ (gR m es (x::U))|_=>none
 |m,.tcall t es,e=>match e with|.Call (.Name f p1) (x::U) [] B=>TU (gR m es (x::U))|_=>none
 |m,.meth a f es,e=>match e with|.Call (.Attribute o g ap) U [] cp=>TV (dm m a o) (gR m es U)|_=>none
 |m,.mk0 c,e=>match e with|.Call (.Name f p1) [] [] p2=>TW|_=>none
 |m,.nnew,e=>match e with|.Dict [] [] D=>T9|_=>none
 |m,.srtw a,e=>match e with|.Call (.Name f p1) [x] [] r=>Ud (dm m a x)|_=>none
 |m,.srtf g a,e=>match e with|.Call (.Name f p1) [x] [⟨some F,.Name y q,kp⟩] r=>Uf (dm m a x)|_=>none
 |m,.srtl a b,e=>match e with|.Call (.Name f p1) [x] [⟨some F,.Lambda ⟨[],[⟨z,none,ap⟩],none,[],[],none,[]⟩ body scope T,kp⟩] r=>Ug (dm m a x) (dm (m.lam z scope) b body)|_=>none
 |m,.deed y tb a,e=>match e with|.Subscript (.Name x p1) b r=>TY (dm m a b)|_=>none
 |m,.callv i fs n es,e=>match e with|.Call (.Name f p) (x::U) [] cp=>TZ (gR m es (x::U))|_=>none
 |m,.tidx a b,e=>match e with|.Call (.Attribute o f ap) [x] [] cp=>T5 (dm m a o) (dm m b x)|_=>none
 |m,.dix a b,e=>match e with|.Subscript x y p2=>T6 (dm m a x) (dm m b y)|_=>none
 |m,.nix a b,e=>match e with|.Subscript x y p2=>Ua (dm m a x) (dm m b y)|_=>none
 |m,.din neg a b,e=>match e with|.Compare x [o] [y] r=>T7 (dm m a x) (dm m b y)|_=>none
 |m,.nin neg a b,e=>match e with|.Compare x [o] [y] r=>Ub (dm m a x) (dm m b y)|_=>none
 |m,.deqC a b,e=>match e with|.Compare x [o] [y] r=>T3 (dm m a x) (dm m b y)|_=>none
 |m,.dcomp L J it aD t n,e=>match e with|.DictComp K V [⟨tg,iter,[],0⟩] scope cp=>T4 (DU m tg it iter) (dm (m.sub scope (aD.filterMap λi=>m.N[i]?) (dC 4 tg)) L K) (dm (m.sub scope (aD.filterMap λi=>m.N[i]?) (dC 4 tg)) J V)|_=>none
 |m,.ltn a b,e=>match e with|.Compare x [o] [y] r=>Ue (dm m a x) (dm m b y)|_=>none
 |m,.comp S it ts aD t n,e=>match e with|.ListComp elt [⟨tg,iter,ifs,0⟩] scope cp=>T8 (DU m tg it iter) (dm (m.sub scope (aD.filterMap λi=>m.N[i]?) (dC 4 tg)) S elt) (ym (m.sub scope (aD.filterMap λi=>m.N[i]?) (dC 4 tg)) ts ifs)|_=>none
 |m,.nget a b d,e=>match e with|.Call (.Attribute o f ap) [x,y] [] cp=>Uc (dm m a o) (dm m b x) (dm m d y)|_=>none
 |_,.tru _,_|_,.items _,_|_,.nkeys _,_|_,.kkeys _,_|_,.rng1 _,_|_,.rng3 _ _ _,_|_,.enum1 _,_=>none
noncomputable def DT:(m:MC)->(f:E)->(e:Expr)->mo m f e
 |m,.tru a,e=>Tk (dm m a e)|m,.never,e=>some #[λ_=>Th]|m,.deqC a b,e=>match e with|.Compare x [o] [y] d=>Uh (dm m a x) (dm m b y)|_=>none
 |m,.din neg a b,e=>match e with|.Compare x [o] [y] d=>Ui (dm m a x) (dm m b y)|_=>none
 |m,.nin neg a b,e=>match e with|.Compare x [o] [y] d=>Uj (dm m a x) (dm m b y)|_=>none
 |m,.cmp O a b,e=>match e with|.Compare x [o] [y] d=>Uk (dm m a x) (dm m b y)|_=>none
 |m,.andL es,e=>match e with|.BoolOp .And U p1=>Ul (ym m es U)|_=>none
 |m,.orL es,e=>match e with|.BoolOp .Or U p1=>Um (ym m es U)|_=>none
 |m,.not a,e=>match e with|.UnaryOp .Not x p1=>Uo (DT m a x)|_=>none
 |_,_,_=>none
noncomputable def DU:(m:MC)->(tg:Expr)->(f:E)->(e:Expr)->oi m tg f e
 |m,tg,.items a,e=>Tl (dm m a e)|m,tg,.nkeys a,e=>Tn (dm m a e)|m,tg,.kkeys a,e=>To (dm m a e)|m,tg,.never,e=>some #[λ_=>Ti]|m,T,.rng1 a,e=>match e with|.Call (.Name f p1) [x] [] d=>Up (dm m a x)|_=>none
 |m,T,.rng3 a b c,e=>match e with|.Call (.Name f p1) [x,y,z] [] o=>Uq (dm m a x) (dm m b y) (dm m c z)|_=>none
 |m,T,.enum1 a,e=>match e with|.Call (.Name f p1) [x] [] d=>Ur (dm m a x)|_=>none
 |_,_,_,_=>none
noncomputable def gR:(m:MC)->(fs:List E)->(es:List Expr)->fP m fs es
 |m,[],es=>match es with|[]=>some #[.nil]|_=>none
 |m,f::fs,l=>match l with|x::U=>Us (dm m f x) (gR m fs U)|_=>none
noncomputable def Ho:(m:MC)->(f:Option E)->(e:Option Expr)->BH m f e
 |m,none,e=>match e with|none=>some #[λ_=>True.intro]|_=>none
 |m,some f,l=>match l with|some x=>kO (dm m f x)|_=>none
noncomputable def ym:(m:MC)->(fs:List E)->(es:List Expr)->qt m fs es
 |m,[],es=>match es with|[]=>some #[.nil]|_=>none
 |m,f::fs,l=>match l with|x::U=>kF (DT m f x) (ym m fs U)|_=>none
end
noncomputable def mE(m:MC)(f:E)(e:Expr):Bool:=(dm m f e).isSome
noncomputable def mT(m:MC)(f:E)(e:Expr):Bool:=(DT m f e).isSome
noncomputable def mI(m:MC)(tg:Expr)(f:E)(e:Expr):Bool:=(DU m tg f e).isSome
noncomputable def Ut(m:MC)(f:List E)(e:List Expr):Bool:=(gR m f e).isSome
noncomputable def mF(m:MC)(f:List E)(e:List Expr):Bool:=(ym m f e).isSome
section
variable{W:WD}
def sE(f:E)(S:SX k W m C X)(h:mE m f e=true):PV C X e (aK W f):=got h S
def sT(f:E)(S:SX k W m C X)(h:mT m f e=true):jq C X e (aK W f):=got h S
def sI(f:E)(S:SX k W m C X)(h:mI m tg f e=true):jz C X tg e (aK W f):=got h S
def sF(fs:List E){es:List Expr}(S:SX k W m C X)(h:mF m fs es=true):eB X es (tT (C.at X) (d7 W fs)):=gF h S
end
inductive G where|app (k v:E)|for (it:E) (t:Tg) (g:G)
inductive S where
 |ret (e:E)|retV (i:Nat)|set (i:Nat) (e:E)|ite (c:E) (a b:List S)|for (it:E) (t:Tg) (body:List S)
 |expr (e:E)|never|asg (t:Tg) (e:E)|whl (n:Nat) (c:E) (body:List S)
 |app (i:Nat) (e:E)|lput (i:Nat) (k e:E)|setC (i:Nat) (fz:Bool) (e:E)|nput (i:Nat) (k e:E)|frzV (i:Nat)|nfrz (i:Nat)|grp (i:Nat) (g:G)|cmu (i:Nat) (f:Str) (n:Nat) (es:List E)|mput (b:List S)
noncomputable def BI(W:WD)(i:Nat):G->GM|.app k v=>jN i (aK W k) (aK W v)|.for it t g=>mL t (aK W it) (BI W i g)
mutual
noncomputable def dq(W:WD):S->Rho->aI|.ret e,Y=>lV (aK W e Y) Y|.retV i,Y=>hX Y i|.set i e,Y=>eA Y i (aK W e Y)|.ite c a b,Y=>n7 (aK W c Y) Y (b0 W a Y) (b0 W b Y)|.for it t body,Y=>lW (aK W it Y) Y (aL t) (b0 W body)|.asg t e,Y=>qF t Y (aK W e Y)|.whl n c body,Y=>dX (aK W c) (b0 W body) n Y|.expr e,Y=>(aK W e Y).thS Y λ_ _=>.nx Y|.app i e,Y=>eZ Y i (aK W e Y)|.lput i k e,Y=>iX Y i (aK W k Y) (aK W e Y)|.frzV i,Y=>l7 Y i|.nfrz i,Y=>oH Y i|.grp i g,Y=>mM i (BI W i g) Y|.cmu i f n es,Y=>jO (W.Mu f) i Y n (bY W es Y)|.mput _,_=>.stuck|.nput i k e,Y=>fA Y i (aK W k Y) (aK W e Y)|.setC i fz e,Y=>eA Y i (if fz=true then aG (aK W e Y)else aK W e Y)|.never,_=>.stuck
noncomputable def b0(W:WD):List S->Rho->aI|[],Y=>.nx Y|s::r,Y=>(dq W s Y).thn (b0 W r)
end
noncomputable def jQ:Expr->Bool|.ListComp ..=>false|.SetComp ..=>false|.DictComp ..=>false|_=>true
noncomputable def mC(m:MC)(elt:Expr)(scope:Scope):E->List Comprehension->Bool
 |.comp a it ts aD t n,gens=>match gens with
  |[⟨tg,iter,ifs,0⟩] =>
   let aM:=aD.filterMap λi=>m.N[i]?
   let tgN:=dC 4 tg
   m.calm&&kT scope m.sc m.N aD aM tgN&&eF iter&&decide (tgN.length=n)&&(dW t).all (λj=>decide (aD.length<=j))&&mG (m.sub scope aM tgN) t tg&&(mI m tg it iter&&(mE (m.sub scope aM tgN) a elt&&mF (m.sub scope aM tgN) ts ifs))
  |_=>false
 |_,_=>false
noncomputable def Hq:Expr->Bool|.Tuple ..=>false|_=>true
def kU{t:Option Expr}(h:jQ e=true):swapsWith e t n env=pure false:=by cases e <;> first|rfl|cases h
def Uu(hs:env.scope=m.sc)(h:(jQ e||m.kind x==some .cell)=true):swapsWith e (some (.Name x p)) n env=pure false:=by rw[jx,ck]at h;rcases h with h|h;{exact kU h};(have hk:env.kindOf x=some .cell:=by show env.scope.names.lookup x=_;rw[hs];exact h);(unfold swapsWith;have K:(NameKind.cell==NameKind.local)=false:=by decide);cases e <;> first|rfl|(simp[hk,K])
def Uv{t:Expr}(h:Hq e=true):swappedStores [t] e env=pure none:=by unfold swappedStores;split;{rename_i q;split at q;{cases h};{cases h};cases q};rfl
def Uw:ja C X st (λ_=>.stuck):=λaA s σ H E I q=>by exists Y,F,R,w,q;exact w.elim
section
variable{W:WD}
structure SB(k:Nat)(W:WD)(m:MC)(C:Cw)(X:Cx):Prop extends SX k W m C X where
 nd:m.N.Nodup
 hp:PassesOwn (model X.prog X.w) X.A X.env X.xe
 ro:m.rz=true->wx (C.at X) X/\wy X/\nk (FP X.prog X.w) (C.at X) X
end
def Ux{W:WD}(S:SB k W m C X)(fz:Bool){r it:E}{ts:List E}{o:Pos}{gens:List Comprehension}(h1:m.N[i]? = some x)(h2:m.kind x=some .local)(h3:m.sc.kind=.function)(Z:o.line=cp.line)(V:(scope.names.any λy=>y.1==x&&(y.2 == .local||y.2 == .cell))=false)(h:mC m elt scope (.comp r it ts aD t n) gens=true):ja C X (.Assign [.Name x o] (.ListComp elt gens scope cp) sp) (λY=>eA Y i (if fz=true then aG (aK W (.comp r it ts aD t n) Y)else aK W (.comp r it ts aD t n) Y)):=by
 have hk:X.env.scope.names.lookup x=some .local:=by rw[S.hs];exact h2
 conv at h=>lhs;whnf
 split at h
 . rename_i tg iter ifs;simp only[cc,fe,fi]at h;obtain⟨⟨⟨⟨⟨⟨J,ho⟩,hn⟩,L⟩,hs⟩,T⟩,B,K,G⟩:=h;unfold kT at ho;simp only[cc,fi,jx,o0,ck,fe,sq]at ho;obtain⟨⟨⟨⟨⟨⟨⟨g1,g2⟩,g3⟩,g4⟩,g5⟩,g6⟩,g7⟩,g8⟩:=ho;have er:(relabel scope X.env).names=lX scope m.sc:=by rw[<- S.hs];rfl
   have bk:X.env.blockKind=.function:=by unfold Env.blockKind;rw[S.hs,h3];rfl
   have D:swapsWith (.ListComp elt [#[tg,iter,ifs,0]] scope cp) (some (.Name x o)) sp.line X.env=pure true:=by(have F:X.env.kindOf x=some .local:=hk;unfold swapsWith;have B:(ScopeKind.function==ScopeKind.function)=true:=by decide);(have K:(some NameKind.local==some NameKind.local)=true:=by decide);simp only[bk,F,Expr.pos,Z,V,B,K,nv];rfl
   have := Qz fz (pos := cp) (pos' := o) (spos := sp) (i := i) (x := x) (tgN := dC 4 tg) (t := t) (S.cm J) (sI it S.toSX B) g1 g2 (fun y d e => (g3 y d).resolve_left fun z => z e) (fun y d e => by
       have:=g4 y d;show X.env.scope.names.lookup y.1=_\/X.env.scope.names.lookup y.1=_;rw[S.hs];rcases this with(z|z)|z
       . exact absurd e z
       . exact .inl z
       . exact .inr z) (by rw[S.hN];exact g5) g6 (λy d=>by rw[er];exact g7 y d) (λj O=>hs j O) (λcl A fp a f=>sG (S.toSX.sub cl A fp a f) g8 t T)
       (λcl A fp a f=>sF ts (S.toSX.sub cl A fp a f) G) (λcl A fp a f=>sE r (S.toSX.sub cl A fp a f) K) (by rw[S.hN];exact S.nd) (by rw[S.hN];exact h1) hk D (oM hn)
   rw[L]at this;exact this
 . cases h
abbrev ju(m:MC)(f:D3.S)(st:Stmt):Type:=Option (PLift (∀{k:Nat}{W:WD}{C:Cw}{X:Cx},SB k W m C X->ja C X st (dq W f)))
abbrev kj(m:MC)(f:List D3.S)(sts:List Stmt):Type:=Option (PLift (∀{k:Nat}{W:WD}{C:Cw}{X:Cx},SB k W m C X->io C X sts (b0 W f)))
noncomputable def Uy{f}{e:_}{p1:_}:ju m (.ret f) (.Return (some e) p1):=if h:(mE m f e)=true then some #[λS=>by
 exact Pj (sE f S.toSX h)]else none
noncomputable def Uz{i:_}{x:_}{p1:_}{p2:_}:ju m (.retV i) (.Return (some (.Name x p1)) p2):=if h:(m.N[i]?==some x&&m.vis x)=true then some #[λS=>by
 simp only[cc,ck]at h;exists f,d,a,S.toSX.vis h.2
 exact Pm i (iL (by rw[S.hN];exact h.1) f d a)]else none
noncomputable def UA{i:_}{f}{x:_}{p1:_}{e:_}{p3}:ju m (.set i f) (.Assign [.Name x p1] e p3):=if h:(m.loc i x&&(jQ e||m.kind x==some .cell)&&mE m f e)=true then some #[λS=>by
 simp only[cc]at h;obtain⟨⟨r,o⟩,a⟩:=h;exists b,c,d,S.toSX.loc r
 exact Po (by rw[S.hN];exact S.nd) b c (sE f S.toSX a) (Uu S.hs o) d]else none
noncomputable def UB{i:_}{f}{g:_}{x:_}{p1:_}{k:_}{p3}{e:_}{p5}:ju m (.nput i f g) (.Assign [.Subscript (.Name x p1) k p3] e p5):=if h:(m.N[i]?==some x&&m.vis x&&jQ e&&mE m f k&&mE m g e)=true then some #[λS=>by
 simp only[cc,ck]at h;obtain⟨⟨⟨⟨A,r⟩,o⟩,d⟩,a⟩:=h;exists v1,v2,v3,S.toSX.vis r
 exact RD i S.un (iL (by rw[S.hN];exact A) v1 v2 v3) (sE f S.toSX d) (sE g S.toSX a) (kU o)]else none
noncomputable def UC{i:_}{fz}{f}{x:_}{px}{elt:_}{gens}{scope:_}{cp:_}{p6}:ju m (.setC i fz f) (.Assign [.Name x px] (.ListComp elt gens scope cp) p6):=if h:(m.N[i]?==some x&&m.kind x==some .local&&m.sc.kind == .function&&px.line==cp.line&&!(scope.names.any λy=>y.1==x&&(y.2 == .local||y.2 == .cell))&&mC m elt scope f gens)=true then some #[λS=>by
 simp only[cc,ck,Bh]at h;obtain⟨⟨⟨⟨⟨B,A⟩,r⟩,o⟩,d⟩,a⟩:=h;cases f with|comp E it ts aD t n=>exact Ux S fz B A r o d a|_=>cases a]else none
noncomputable def UD{f}{a}{b:_}{c:_}{x:_}{y:_}{p3}(d:kj m a x)(r:kj m b y):ju m (.ite f a b) (.If c x y p3):=if h:(mT m f c&&(d.isSome&&r.isSome))=true then some #[λS=>by
 simp only[cc]at h;exists B,A,o,h;exact Pn (sT f S.toSX B) (got A S) (got o S)]else none
noncomputable def UE{f}{t:_}{b:_}{tg:_}{e:_}{body:_}{p3}(r:kj m b body):ju m (.for f t b) (.For tg e body [] p3):=if h:(m.calm&&mG m t tg&&eF e&&(mI m tg f e&&r.isSome))=true then some #[λS=>by
 simp only[cc]at h;obtain⟨⟨⟨a,B⟩,A⟩,o,d⟩:=h;exact Pu S.hp (S.cm a) (sI f S.toSX o) (Qv (sG S.toSX S.nd t B)) (got d S) (oM A)]else none
noncomputable def UF{t:_}{f}{tg:_}{e:_}{p2:_}:ju m (.asg t f) (.Assign [tg] e p2):=if h:(mG m t tg&&jC tg&&jQ e&&Hq e&&mE m f e)=true then some #[λS=>by
 simp only[cc]at h;obtain⟨⟨⟨⟨A,r⟩,o⟩,d⟩,a⟩:=h;exact Qw (sE f S.toSX a) (sG S.toSX S.nd t A) (kU o) (Uv d) r]else none
noncomputable def UG{n:_}{f}{b:_}{c:_}{body:_}{p2:_}(r:kj m b body):ju m (.whl n f b) (.While c body [] p2):=if h:(mT m f c&&r.isSome)=true then some #[λ{k}{W}{C}{X} S=>by
 simp only[cc]at h;have:dq W (.whl n f b)=dX (aK W f) (b0 W b) n:=by funext Y;rfl
 rw[this];exact Qx n S.hp (sT f S.toSX h.1) (got h.2 S)]else none
noncomputable def UH{f}{e:_}{p1:_}:ju m (.expr f) (.Expr e p1):=if h:(jQ e&&mE m f e)=true then some #[λS=>by
 simp only[cc]at h;exact Ph (sE f S.toSX h.2) (kU h.1)]else none
noncomputable def UI{i:_}{f}{x:_}{p1:_}{a}{ap:_}{e:_}{cp:_}{p6}:ju m (.app i f) (.Expr (.Call (.Attribute (.Name x p1) a ap) [e] [] cp) p6):=if h:(m.N[i]?==some x&&m.vis x&&a == "append" && ap.endLine==cp.line&&bQ e&&mE m f e)=true then some #[λS=>by
 simp only[cc,ck]at h;obtain⟨⟨⟨⟨⟨B,A⟩,rfl⟩,r⟩,o⟩,d⟩:=h;exists v1,v2,v3,S.toSX.vis A
 exact QP i (iL (by rw[S.hN];exact B) v1 v2 v3) (sE f S.toSX d) o r]else none
noncomputable def UJ{i f n es x p1 F p2 U cp o:_}:ju m (.cmu i f n es) (.Expr (.Call (.Name F p2) (.Name x p1::U) [] cp) o):=if h:(m.calm&&m.N[i]?==some x&&m.vis x&&F==f&&m.glob f (.fn n)&&Ut m es U)=true then some #[λS=>by
 simp only[cc,ck]at h;obtain⟨⟨⟨⟨⟨a,D⟩,B⟩,rfl⟩,A⟩,d⟩:=h;exists v1,v2,v3,S.toSX.vis B;exists gl,l,hd,_,S.toSX.gl A;have st:=ua d
 exact SL (S.su _ _ l) (S.rm a) (S.xo a) gl hd i (iL (by rw[S.hN];exact D) v1 v2 v3) (pd d S.toSX) (bW rfl) (jA _ _ λy r=>st y r)]else none
noncomputable def UK{i:_}{f}{g:_}{x:_}{p1:_}{k:_}{p3}{e:_}{p5}:ju m (.lput i f g) (.Assign [.Subscript (.Name x p1) k p3] e p5):=if h:(m.N[i]?==some x&&m.vis x&&jQ e&&mE m f k&&mE m g e)=true then some #[λS=>by
 simp only[cc,ck]at h;obtain⟨⟨⟨⟨A,r⟩,o⟩,d⟩,a⟩:=h;exists v1,v2,v3,S.toSX.vis r
 exact Re i (iL (by rw[S.hN];exact A) v1 v2 v3) (sE f S.toSX d) (sE g S.toSX a) (kU o)]else none
def UL{W:WD}(S:SB k W m C X):io C X [] (b0 W []):=by(have:b0 W []=λY=>.nx Y:=by funext Y;simp only[b0]);rw[this];exact Pe
noncomputable def UM{i fs sts:_}(r:kj m fs sts):kj m (.frzV i::fs) sts:=if h:r.isSome=true then some #[λ{k}{W}{C}{X} S=>by
 have:b0 W (.frzV i::fs)=λY=>(l7 Y i).thn (b0 W fs):=by funext Y;rfl
 rw[this];exact Q6 (got h S)]else none
noncomputable def UN{i fs sts:_}(r:kj m fs sts):kj m (.nfrz i::fs) sts:=if h:r.isSome=true then some #[λ{k}{W}{C}{X} S=>by
 have:b0 W (.nfrz i::fs)=λY=>(oH Y i).thn (b0 W fs):=by funext Y;rfl
 rw[this];exact RW (got h S)]else none
abbrev yn(m:MC)(i:Nat)(g:G)(st:Stmt):Type:=Option (PLift (∀{k:Nat}{W:WD}{C:Cw}{X:Cx},SB k W m C X->xz C X st i (BI W i g)))
noncomputable def UO{i:_}{f}{g:_}{x:_}{p:_}{sd}{ap1}{ke:_}{lp}{cp1}{an}{ap2}{ve}{cp2}{pos:_}:yn m i (.app f g) (.Expr (.Call (.Attribute (.Call (.Attribute (.Name x p) sd ap1) [ke,.List [] lp] [] cp1) an ap2) [ve] [] cp2) pos):=if h:(m.N[i]?==some x&&m.vis x&&sd == "setdefault" && an == "append" && ap1.endLine==cp1.line&&ap2.endLine==cp2.line&&bQ ke&&bQ ve&&mE m f ke&&mE m g ve)=true then some #[λS=>by
 simp only[cc,ck]at h;obtain⟨⟨⟨⟨⟨⟨⟨⟨⟨D,B⟩,rfl⟩,rfl⟩,o⟩,L⟩,d⟩,a⟩,A⟩,r⟩:=h;exists v1,v2,v3,S.toSX.vis B
 exact Ss i S.un (iL (by rw[S.hN];exact D) v1 v2 v3) (sE f S.toSX A) (sE g S.toSX r) d a o L]else none
noncomputable def UP{i:_}{f}{t:_}{g:_}{tg:_}{e:_}{st:_}{p3}(r:yn m i g st):yn m i (.for f t g) (.For tg e [st] [] p3):=if h:(m.calm&&mG m t tg&&eF e&&!(dW t).contains i&&(mI m tg f e&&r.isSome))=true then some #[λS=>by
 simp only[cc,Bh]at h;obtain⟨⟨⟨⟨d,D⟩,B⟩,a⟩,A,o⟩:=h;exact Su S.hp (S.cm d) (sI f S.toSX A) (sG S.toSX S.nd t D) (λz=>by rw[sq.mpr z]at a;cases a) (got o S) (oM B)]else none
noncomputable def Hr(m:MC)(i:Nat):(g:G)->(st:Stmt)->yn m i g st
 |.app f g,st=>match st with|.Expr (.Call (.Attribute (.Call (.Attribute (.Name x p) S o) [ke,.List [] L] [] d) an A) [V] [] a) pos=>UO|_=>none
 |.for f t g,st=>match st with|.For tg e [st] [] r=>UP (Hr m i g st)|_=>none
noncomputable def UQ{i g fs x p1 p2 sp st sts:_}(a:yn m i g st)(r:kj m fs sts):kj m (.grp i g::fs) (.Assign [.Name x p1] (.Dict [] [] p2) sp::st::sts):=if h:(m.loc i x&&(a.isSome&&r.isSome))=true then some #[λ{k}{W}{C}{X} S=>by
 simp only[cc]at h;exists A,o,f,h;exists b,c,d,S.toSX.loc A;have:b0 W (.grp i g::fs)=λY=>(mM i (BI W i g) Y).thn (b0 W fs):=by funext Y;rfl
 rw[this];exact Sw (by rw[S.hN];exact S.nd) b c d (got o S) (got f S) (kU rfl)]else none
def UR{g:Rho->aI}(h:∀Y,g Y=.stuck):io C X sts g:=λaA s σ H E I q=>by exists Y,F,R,w,q;rw[h]at w;exact w.elim
noncomputable def ub(W:WD):List D3.S->Rho->aI|[.nput i k e],Y=>fA Y i (aK W k Y) (aK W e Y)|[.ite c [.nput i k e] [.nput a K E]],Y=>n7 (aK W c Y) Y (fA Y i (aK W k Y) (aK W e Y)) (fA Y a (aK W K Y) (aK W E Y))|_,_=>.stuck
abbrev BJ(m:MC)(b:List D3.S)(sts:List Stmt):Type:=Option (PLift (∀{k:Nat}{W:WD}{C:Cw}{X:Cx},SX k W m C X->qr C X sts (ub W b)))
noncomputable def oN(m:MC)(i:Nat)(x:Str)(f g:E)(k e:Expr):Bool:=m.N[i]?==some x&&m.vis x&&jQ e&&mE m f k&&mE m g e
def vT{i f g x p1 k d e a:_}(h:oN m i x f g k e=true){W:WD}(S:SX j W m C X):qr C X [.Assign [.Subscript (.Name x p1) k d] e a] (λY=>fA Y i (aK W f Y) (aK W g Y)):=by unfold oN at h;simp only[cc,ck]at h;obtain⟨⟨⟨⟨D,B⟩,A⟩,r⟩,o⟩:=h;exists v1,v2,v3,S.vis B;exact SM i S.un (iL (by rw[S.hN];exact D) v1 v2 v3) (sE f S r) (sE g S o) (kU A)
noncomputable def US{i f g x p1 k d e a:_}:BJ m [.nput i f g] [.Assign [.Subscript (.Name x p1) k d] e a]:=if h:oN m i x f g k e=true then some #[λS=>vT h S]else none
noncomputable def UT{c i f g a f2 G ce x p1 k B e A x2 q1 K o E d r:_}:BJ m [.ite c [.nput i f g] [.nput a f2 G]] [.If ce [.Assign [.Subscript (.Name x p1) k B] e A] [.Assign [.Subscript (.Name x2 q1) K o] E d] r] :=
 if h:(mT m c ce&&(oN m i x f g k e&&oN m a x2 f2 G K E))=true then some #[λS=>by
  simp only[cc]at h;exact SN (sT c S h.1) (vT h.2.1 S) (vT h.2.2 S)]else none
noncomputable def DV(m:MC):(b:List D3.S)->(sts:List Stmt)->BJ m b sts
 |[.nput i f g],sts=>match sts with|[.Assign [.Subscript (.Name x p1) k d] e a]=>US|_=>none
 |[.ite c [.nput i f g] [.nput D f2 G]],sts=>match sts with|[.If ce [.Assign [.Subscript (.Name x p1) k d] e a] [.Assign [.Subscript (.Name o q1) K A] E r] B]=>UT|_=>none
 |_,_=>none
noncomputable def vU{b sts:_}(r:BJ m b sts):kj m [.mput b] sts:=if h:r.isSome=true then some #[λ{k}{W}{C}{X} S=>UR λY=>rfl]else none
noncomputable def UU{f fs st sts:_}(r:ju m f st)(a:kj m fs sts):kj m (f::fs) (st::sts):=if h:(r.isSome&&a.isSome)=true then some #[λ{k}{W}{C}{X} S=>by
 rw[cc]at h;have:b0 W (f::fs)=λY=>(dq W f Y).thn (b0 W fs):=by funext Y;simp only[b0]
 rw[this];exact Pg (got h.1 S) (got h.2 S)]else none
set_option maxHeartbeats 4000000 in
mutual
noncomputable def UV:(m:MC)->(f:D3.S)->(st:Stmt)->ju m f st
 |m,.never,st=>some #[λ_=>Uw]|_,.frzV _,_|_,.nfrz _,_|_,.grp _ _,_|_,.mput _,_=>none|m,.cmu i f n es,st=>match st with|.Expr (.Call (.Name F p2) (.Name x p1::U) [] cp) o=>UJ|_=>none
 |m,.ret f,st=>match st with|.Return (some e) p1=>Uy|_=>none
 |m,.retV i,st=>match st with|.Return (some (.Name x p1)) p2=>Uz|_=>none
 |m,.set i f,st=>match st with|.Assign [.Name x p1] e d=>UA|_=>none
 |m,.nput i f g,st=>match st with|.Assign [.Subscript (.Name x p1) k d] e r=>UB|_=>none
 |m,.setC i fz f,st=>match st with|.Assign [.Name x A] (.ListComp elt gens scope cp) o=>UC|_=>none
 |m,.ite f a b,st=>match st with|.If c x y d=>UD (oj m a x) (oj m b y)|_=>none
 |m,.for f t b,st=>match st with|.For tg e body [] d=>UE (oj m b body)|_=>none
 |m,.asg t f,st=>match st with|.Assign [tg] e p2=>UF|_=>none
 |m,.whl n f b,st=>match st with|.While c body [] p2=>UG (oj m b body)|_=>none
 |m,.expr f,st=>match st with|.Expr e p1=>UH|_=>none
 |m,.lput i f g,st=>match st with|.Assign [.Subscript (.Name x p1) k d] e r=>UK|_=>none
 |m,.app i f,st=>match st with|.Expr (.Call (.Attribute (.Name x p1) a ap) [e] [] cp) o=>UI|_=>none
noncomputable def oj:(m:MC)->(f:List D3.S)->(sts:List Stmt)->kj m f sts
 |m,[],sts=>match sts with|[]=>some #[λS=>UL S]|_=>none
 |m,.frzV i::fs,sts=>UM (oj m fs sts)|m,.nfrz i::fs,sts=>UN (oj m fs sts)|m,.grp i g::fs,sts=>match sts with|.Assign [.Name x p1] (.Dict [] [] p2) sp::st::sts=>UQ (Hr m i g st) (oj m fs sts)|_=>none
 |m,[.mput b],sts=>vU (DV m b sts)|m,f::fs,sts=>match sts with|st::sts=>UU (UV m f st) (oj m fs sts)|_=>none
end
noncomputable def mB(m:MC)(f:List D3.S)(sts:List Stmt):Bool:=(oj m f sts).isSome
def sB{W:WD}(S:SB k W m C X)(f:List D3.S)(h:mB m f sts=true):io C X sts (b0 W f):=got h S
abbrev IB:=Unit
structure CD where
 aD:List Str
 rn:Str
 ls:List Str
 b:List D3.S
structure FD where
 ps:List Str
 N:List Str
 b:List D3.S
 ins:List (Str×CD)
structure ID where
 c:Str
 ps:List Str
 N:List Str
 ib:IB
structure TB where
 T:List (Str×FD)
 I:List (Str×ID)
 cl:List CI
 xt:List ((Str×Str)×Bool)
 xi:List ((Str×Str)×Bool)
noncomputable def vV(W:WD)(i:ID):List D->Res:=λ_=>.stuck
noncomputable def oO(t:TB)(W:WD)(f:Str):List D->Res:=match t.T.lookup f with|some d=>gm d.ps.length d.N.length (b0 W d.b)|none=>λ_=>.stuck
noncomputable def Hs(t:TB)(W:WD)(x:Str):D->KD->Option KD:=match t.T.lookup x with|some d=>λ_ _=>none|none=>λ_ _=>none
noncomputable def yo(t:TB)(W:WD)(x:Str):D->List D->Option D:=match t.T.lookup x with
 |some d=>(match d.b with|[.mput b]=>jP d.ps.length d.N.length (ub W b)|_=>λ_ _=>none)
 |none=>λ_ _=>none
noncomputable def DW(t:TB)(W:WD)(f n:Str):List (Str×D)->D->Res:=λ_ _=>.stuck
noncomputable def BK(t:TB)(f:Str):Option fO:=none
noncomputable def yp(t:TB):WD:=#[λ_ _=>.stuck,λ_ _=>.stuck,λ_=>none,t.cl,t.xt,t.xi,false,λ_ _ _=>none,λ_ _ _ _=>.stuck,BK t,λ_ _ _=>none]
noncomputable def WT(t:TB):Nat->WD|0=>yp t|1=>#[λf=>oO t (yp t) f,λ_ _=>.stuck,λ_=>none,t.cl,t.xt,t.xi,true,Hs t (yp t),DW t (yp t),BK t,yo t (yp t)]|k+2=>#[λf=>oO t (WT t (k+1)) f,(WT t (k+1)).Φ,λkey=>match t.I.lookup key with|some i=>some (vV (WT t k) i)|none=>none,t.cl,t.xt,t.xi,true,Hs t (WT t (k+1)),DW t (WT t (k+1)),BK t,yo t (WT t (k+1))]
def rP(t:TB):∀k,(WT t k).cl=t.cl|0|1|k+2=>rfl
def Ht(t:TB):∀k,(WT t k).xt=t.xt|0|1|k+2=>rfl
def Hu(t:TB):∀k,(WT t k).xi=t.xi|0|1|k+2=>rfl
def yq(t:TB):∀k,(WT t k).Wy=BK t|0|1|k+2=>rfl
def yr(t:TB):∀k,(WT t (k+1)).Cl=DW t (WT t k)|0|k+1=>rfl
def Hv(t:TB):∀k x,(WT t (k+1)).Mu x=yo t (WT t k) x|0,f|k+1,f=>rfl
def yt(t:TB):∀k f,(WT t (k+1)).Φ f=oO t (WT t k) f|0,f|k+1,f=>rfl
noncomputable def yu(m:MC)(ps:List Str)(b:List D3.S)(st:Stmt):Bool:=mB m b (gZ st)
noncomputable def jR(g:MG)(key:Str)(st:Stmt)(d:FD):Bool:=rN d.N d.ps (dR st)&&(yu #[d.N,dR st,g,true,true,true,key] d.ps d.b st&&d.ins.isEmpty)
noncomputable def yv(g:MG)(st:Stmt)(d:ID):Bool:=false
noncomputable def Hw(K:Fg)(g:MG)(fa:Str->Addr)(key:Str)(d:FD):Prop :=
 ∃name st fd,nA K name key st (fa key) fd/\cV K fd d.ps []/\jR g key st d=true
noncomputable def oP(K:Fg)(g:MG)(fa:Str->Addr):List (Str×FD)->Prop|[]=>True|(x,d)::r=>Hw K g fa x d/\oP K g fa r
theorem oP.at{K:Fg}{g:MG}:∀{T:List (Str×FD)}{x:Str}{d:FD},oP K g fa T->T.lookup x=some d->Hw K g fa x d|[],_,_,_,e=>by cases e|(y,D)::r,x,d,h,e=>by rw[h7]at e;split at e;{rename_i a;cases e;rw[ck]at a;subst a;exact h.1};exact h.2.at e
noncomputable def Hx(K:Fg)(mg:fg)(g:MG)(key:Str)(d:ID):Prop :=
 ∃name st C f fd,W.nsIn K mainGlobals d.c=some (some (.ref C))/\mg d.c=some (.ref C)/\Mk K C f/\nA K name key st f fd/\cV K fd d.ps []/\yv g st d=true
noncomputable def oQ(K:Fg)(mg:fg)(g:MG):List (Str×ID)->Prop|[]=>True|(x,d)::r=>Hx K mg g x d/\oQ K mg g r
theorem oQ.at{K:Fg}{g:MG}:∀{T:List (Str×ID)}{x:Str}{d:ID},oQ K mg g T->T.lookup x=some d->Hx K mg g x d|[],_,_,_,e=>by cases e|(y,D)::r,x,d,h,e=>by rw[h7]at e;split at e;{rename_i a;cases e;rw[ck]at a;subst a;exact h.1};exact h.2.at e
noncomputable def yw(w:cw)(K:Fg)(mg:fg)(fa:Str->Addr)(x:Str):GV->Prop|.con (.s y)=>∃t,mg x=some (.str y t)|.con (.i n)=>∃t,mg x=some (.int n t)|.con (.t tb)=>jD w K mg x tb|.no=>mg x=none|.fn _=>mg x=some (.ref (fa x))|.cls=>True
noncomputable def oR(w:cw)(K:Fg)(mg:fg)(fa:Str->Addr):List (Str×GV)->Prop|[]=>True|(x,v)::r=>yw w K mg fa x v/\oR w K mg fa r
theorem oR.at{K:Fg}:∀{G:List (Str×GV)}{x:Str}{v:GV},oR w K mg fa G->G.lookup x=some v->yw w K mg fa x v|[],_,_,_,e=>by cases e|(y,V)::r,x,v,h,e=>by rw[h7]at e;split at e;{rename_i a;cases e;rw[ck]at a;subst a;exact h.1};exact h.2.at e
noncomputable def BL(G:List (Str×GV))(T:List (Str×FD)):Bool:=G.all λ(x,v)=>match v with|.fn n=>(match T.lookup x with|some d=>d.ps.length==n|none=>false)|_=>true
theorem rQ{T:List (Str×FD)}:∀{G:List (Str×GV)}{x:Str}{n:Nat},BL G T=true->G.lookup x=some (.fn n)->∃d,T.lookup x=some d/\d.ps.length=n|[],_,_,_,e=>by cases e|(y,V)::r,x,n,h,e=>by unfold BL at h;rw[jk,cc]at h;rw[h7]at e;split at e;{rename_i f;cases e;rw[ck]at f;subst f;have a:=h.1;dsimp only at a;cases q:T.lookup x with|none=>rw[q]at a;cases a|some d=>rw[q]at a;exact#[d,rfl,by simpa using a]};exact rQ (G:=r) h.2 e
noncomputable def yx(cl:List CI)(T:List (Str×FD)):Bool:=cl.all λi=>i.meths.all λ(_,key,n)=>match T.lookup key with|some d=>d.ps.length==n|none=>false
noncomputable def Hy(mki:List (Str×Str×Nat))(I:List (Str×ID)):Bool:=mki.all λ(c,key,n)=>match I.lookup key with|some d=>d.c==c&&d.ps.length==n+1|none=>false
noncomputable def mR(K:Fg)(fa:Str->Addr)(C:Addr):List (Str×Str×Nat)->Prop|[]=>True|(m,key,_)::r=>nN K C m (fa key)/\mR K fa C r
noncomputable def mS(K:Fg)(C:Addr):List Str->Prop|[]=>True|f::r=>tY K C f/\mS K C r
noncomputable def oS(K:Fg)(fa:Str->Addr):List CI->Prop|[]=>True|i::r=>(∃C,W.nsIn K mainGlobals i.name=some (some (.ref C))/\nh K C/\mR K fa C i.meths/\mS K C i.flds)/\oS K fa r
theorem oS.at{K:Fg}:∀{cl:List CI}{i:CI},oS K fa cl->i∈cl->∃C,W.nsIn K mainGlobals i.name=some (some (.ref C))/\nh K C/\mR K fa C i.meths/\mS K C i.flds|[],_,_,h=>by cases h|j::r,i,h,a=>by rcases cy.mp a with rfl|a;{exact h.1};exact h.2.at a
theorem mS.at{K:Fg}{C:Addr}:∀{l:List Str}{f:Str},mS K C l->f∈l->tY K C f|[],_,_,h=>by cases h|j::r,i,h,a=>by rcases cy.mp a with rfl|a;{exact h.1};exact h.2.at a
theorem mR.at{K:Fg}{C:Addr}:∀{l:List (Str×Str×Nat)}{m key:Str}{n:Nat},mR K fa C l->l.lookup m=some (key,n)->nN K C m (fa key)|[],_,_,_,_,e=>by cases e|(m',a,N)::r,m,key,n,h,e=>by rw[h7]at e;split at e;{rename_i d;cases e;rw[ck]at d;subst d;exact h.1};exact h.2.at e
noncomputable def vW(g:MG)(T:List (Str×FD)):Bool:=g.sn.isEmpty
def Hz{g:MG}{T:List (Str×FD)}(h:vW g T=true)(hx:x∈g.sn):∃d:FD,T.lookup x=some d/\True/\True/\True/\g.G.lookup x=some (.fn 2):=by rw[sr.mp h]at hx;cases hx
def UW{b:List D3.S}(h:mB m [.mput b] sts=true):(DV m b sts).isSome=true:=by have h:(vU (DV m b sts)).isSome=true:=h;unfold vU at h;split at h;{assumption};cases h
noncomputable def vX(g:MG)(T:List (Str×FD)):Bool:=T.all λx=>x.2.ins.isEmpty||(match g.G.lookup x.1 with|some (.fn _)=>true|_=>false)
def UX{g:MG}{T:List (Str×FD)}(h:vX g T=true){f:Str}{d:FD}(e:T.lookup f=some d)(hd:d.ins.isEmpty=false):∃n,g.G.lookup f=some (.fn n):=by have h:=fi.mp h _ (nr e);dsimp only at h;rw[hd,Bool.false_or]at h;split at h;{rename_i n q;exact#[n,q]};cases h
noncomputable def vY(g:MG)(T:List (Str×FD)):Bool:=g.cl.isEmpty
def UY{g:MG}{T:List (Str×FD)}(h:vY g T=true){f a b:Str}(hx:(f,a,b,q)∈g.cl):∃d:FD,T.lookup f=some d/\True/\True/\True/\True/\g.G.lookup f=some (.fn 2):=by rw[sr.mp h]at hx;cases hx
structure GF(w:cw)(K:Fg)(mg:fg)(g:MG)(t:TB)(fa:Str->Addr):Prop where
 con:oR w K mg fa g.G
 gok:BL g.G t.T=true
 all:oP K g fa t.T
 alli:oQ K mg g t.I
 mk0:∀c,c∈g.mk0->uK K mg c
 mkok:Hy g.mki t.I=true
 iso:∀c,c∈g.iso->Fw K mg t.cl c
 cls:oS K fa t.cl
 mtok:yx t.cl t.T=true
 xtok:uQ K mg (λc x=>t.xt.lookup (c,x))
 xiok:uR K mg (λc x=>t.xi.lookup (c,x))
 xcok:∀c,c∈g.xcs->∃Cc,mg c=some (.ref Cc)/\FL K Cc
 xnok:∀n,n∈g.xns->∃cv,qJ mg n cv
 snok:vW g t.T=true
 clok:vY g t.T=true
 insok:vX g t.T=true
 insns:∀f d,t.T.lookup f=some d->d.ins.isEmpty=false->W.nsIn K mainGlobals f=some (some (.ref (fa f)))
 clns:∀f a b h,(f,a,b,h)∈g.cl->W.nsIn K mainGlobals f=some (some (.ref (fa f)))
def HA{K:Fg}{vs:List V}{Q:VK}{E:XK}(hz:∀ds,Φ ds=.stuck)(h:lf K mg n Φ vs H Q E):False:=by exists _,F,ds,_,_,h,h;rw[hz]at h;exact h
section
variable{K:Fg}{g:MG}{t:TB}
structure gH(P:e7)(w:cw)(K:Fg)(mg:fg)(base:Heap)(g:MG)(t:TB)(fa:Str->Addr)(k:Nat):Prop where
 fn:∀key d,t.T.lookup key=some d->∃fd,bT P w K mg base (eS P w) k (fa key) fd d.ps (lf K mg d.ps.length ((WT t k).Φ key))/\cV K fd d.ps []/\W.keepIn K (.ref (fa key))=true
 fp:(WT t k).dp=true->∃j,j+1=k/\∀key d,t.T.lookup key=some d->∃fd,bT P w K mg base (eS P w) j (fa key) fd d.ps (lf K mg d.ps.length ((WT t k).Ψ key))/\cV K fd d.ps []/\W.keepIn K (.ref (fa key))=true
 ini:∀key d Φ,t.I.lookup key=some d->(WT t k).I key=some Φ->∃j,j+1<=k/\Dz P w K mg base (eS P w) j d.c (d.ps.length-1) Φ
 mu:∀x,x∈g.sn->∃fd ps,bT P w K mg base (eS P w) k (fa x) fd ps (rK K ((WT t k).Ms x))/\cV K fd ps []/\W.keepIn K (.ref (fa x))=true
 cv:∀f n,rL P w K mg base k f n ((WT t k).Cl f n)
 ms:∀key d,t.T.lookup key=some d->∃fd,bT P w K mg base (eS P w) k (fa key) fd d.ps (oK K d.ps.length ((WT t k).Mu key))/\cV K fd d.ps []/\W.keepIn K (.ref (fa key))=true
def UZ(f:GF w K mg g t fa)(A:gH P w K mg base g t fa k){N:List Str}{fb E rb:Bool}(hP:X.prog=P)(hw:X.w=w)(hK:X.K=K)(G:X.mg=mg)(o:X.base=base)(hN:X.N=N)(hs:X.env.scope=sc)(cm:E=true->X.calm=true)(rm:E=true->bF k X.A)(un:X.A.units+64<cLine)(J:fb=true->∀x,X.fn x=true)(cd:q="" \/ (W.codeIn X.K X.env.code q=true/\X.env.qual=q++".<locals>."))(xo:E=true->nk (eS X.prog X.w) (C.at X) X)(sw:(WT t k).dp=true->∀f I,(WT t k).Wy f=some I->DQ P w K mg base (eS P w) k f I):SX k (WT t k) #[N,sc,g,fb,E,rb,q] C X:=by
 subst hP hw hK G o;refine#[hN,hs,cm,rm,un,xo,?_,?_,f.xcok,f.xnok,λy c l=>?_,λy l=>f.con.at l,λc L=>f.mk0 c L,λc key n hm Φ e=>?_,λc L=>by rw[rP];exact f.iso c L,λi f' B hf=>?_,λc m key n e=>?_,λy n l=>?_,J,λhd=>?_,λy Z=>?_,λhd f1 a1 b1 g1 V=>?_,A.cv,sw,(λy n l=>by
  exists d,e,rfl,rQ f.gok l;exists fd,F,o,hk,A.ms y d e;exact#[fa y,fd,d.ps,F,f.con.at l,hk,o]),cd]
 . unfold WD.xf;rw[Ht];exact f.xtok
 . unfold WD.xg;rw[Hu];exact f.xiok
 . have:=f.con.at l;cases c <;> exact this
 . have r:=fi.mp f.mkok (c,key,n) hm;dsimp only at r;cases q:t.I.lookup key with|none=>rw[q]at r;cases r|some d=>rw[q]at r;simp only[cc,ck]at r;exists j,D,M,A.ini key d Φ q e;rw[r.1,r.2]at M;exact#[j,D,M]
 . rw[rP]at B;exists S,r,O,_,h4,f.cls.at B;exact#[S,r,O,h4.at hf]
 . rw[rP]at e;unfold CI.meth at e;split at e;{rename_i i ei;have B:=CU ei;(have hn:i.name=c:=by simpa using List.find?_some ei);exists S,r,O,h3,_,f.cls.at B;have a:=fi.mp (fi.mp f.mtok i B) (m,key,n) (nr e);dsimp only at a;cases q:t.T.lookup key with|none=>rw[q]at a;cases a|some d=>rw[q]at a;rw[ck]at a;exists fd,F,o,_,A.fn key d q;rw[a]at F;exact#[S,fa key,fd,d.ps,by rw[<- hn];exact r,O,h3.at e,F,o]};cases e
 . exists d,e,rfl,rQ f.gok l;exists fd,F,o,hk,A.fn y d e;exact#[fa y,fd,d.ps,F,f.con.at l,hk,o]
 . exists j,D,fp,A.fp hd;refine#[j,D,λy n l=>?_];exists d,e,rfl,rQ f.gok l;exists fd,F,o,hk,fp y d e;exact#[fa y,fd,d.ps,F,f.con.at l,hk,o]
 . exists d,e,_,_,_,l,Hz f.snok Z;exists fd,ps,F,o,hk,A.mu y Z;exact#[fa y,fd,ps,F,f.con.at l,hk,o]
 . exists j,D,_,A.fp hd;rw[sr.mp f.clok]at V;cases V
def DX{f:Addr}:bT P w K mg base (eS P w) k f fd ps (rK K λ_ _=>none) :=
 #[λvs H Q E h=>(by exists _,_,_,_,_,_,_,_,_,_,_,_,_,_,e,_,h;cases e),λA outer s H args us vs Q E _ _ _ _ h=>(by exists _,_,_,_,_,_,_,_,_,_,_,_,_,_,e,_,h;cases e)]
def yy (f : GF w K mg g t fa) : gH P w K mg base g t fa 0 := #[fun key d e => by
      exists name,st,fd,F,a,_,f.all.at e;exact#[fd,#[λvs H Q E h=>(HA (λ_=>rfl) h).elim,λA outer s H args us vs Q E _ _ _ _ h=>(HA (λ_=>rfl) h).elim],a,F.kp],(λz=>by cases z),(λkey d Φ _ e=>by cases e),(λx hx=>by
      exists d,e,_,Hz f.snok hx;exists name,st,fd,F,a,_,f.all.at e;exact#[fd,d.ps,DX,a,F.kp]),(λ_ _=>vM),λkey d e=>by
      exists name,st,fd,F,a,_,f.all.at e;exact#[fd,vO,a,F.kp]]
def U0(f:GF w K mg g t fa)(A:gH P w K mg base g t fa k)(hd:(WT t k).dp=true)(y:Str)(I:fO)(h:(WT t k).Wy y=some I):DQ P w K mg base (eS P w) k y I:=by rw[yq]at h;exact nomatch (show(none:Option fO)=some I from h)
def HB(f:GF w K mg g t fa)(A:gH P w K mg base g t fa k){N:List Str}{F r:Bool}(D:X.prog=P)(o:X.w=w)(E:X.K=K)(a:X.mg=mg)(B:X.base=base)(hN:X.N=N)(hs:X.env.scope=sc)(cm:X.calm=true)(rm:bF k X.A)(d:F=true->∀x,X.fn x=true)(cd:q="" \/ (W.codeIn X.K X.env.code q=true/\X.env.qual=q++".<locals>."))(xo:nk (eS X.prog X.w) (C.at X) X):SX k (WT t k) #[N,sc,g,F,true,r,q] C X:=UZ f A D o E a B hN hs (λ_=>cm) (λ_=>rm) rm.units d cd (λ_=>xo) λhd y I h=>U0 f A hd y I h
def HC(f:GF w K mg g t fa)(A:gH P w K mg base g t fa k)(y n:Str):rL P w K mg base (k+1) y n ((WT t (k+1)).Cl y n):=by rw[yr];exact vM
def vZ(f:GF w K mg g t fa)(A:gH P w K mg base g t fa k){key:Str}{d:FD}{name:Str}{a:Addr}(F:nA K name key st a fd)(e:t.T.lookup key=some d)(ok:jR g key st d=true):bT P w K mg base (eS P w) (k+1) a fd d.ps (lf K mg d.ps.length ((WT t (k+1)).Φ key)):=by
 unfold jR at ok;rw[cc,cc]at ok;have sc:=vS ok.1;have:(WT t (k+1)).Φ key=gm d.ps.length d.N.length (b0 (WT t k) d.b):=by rw[yt];unfold oO;rw[e]
 rw[this];have S:∀{C:Cw}{cdv:ba},W.codeIn K cdv key=true->∀{B:di}{outer:List Env}{s:bz}{H:Hp}{E:XK},C.EE=iA mg E->bF k (B.deeper (envOfC key (dR st) s.heap.objs.size a cdv))->SB k (WT t k) #[d.N,dR st,g,true,true,true,key] C (cO (eS P w) P w K mg base d.N key (dR st) a cdv B outer s H E):=λ{C cdv} o {B outer s H E} r D =>
  #[HB f A rfl rfl rfl rfl rfl rfl rfl rfl D (λ_ _=>rfl) (.inr #[o,rfl]) (uP (K:=K) (H:=H) (outer:=outer) r),sc.nd,PassesOwn.leaving,λ_=>#[QN (K:=K) (H:=H) (outer:=outer) r,DD,QT (K:=K) (H:=H) (outer:=outer) r]]
 have ok2:=ok.2.1;unfold yu at ok2;exact QO (k:=k) F sc λC cdv o B outer s H E r D=>sB (S o r D) d.b ok2
def HD(f:GF w K mg g t fa)(A:gH P w K mg base g t fa k)(hx:x∈g.sn):∃fd ps,bT P w K mg base (eS P w) (k+1) (fa x) fd ps (rK K ((WT t (k+1)).Ms x))/\cV K fd ps []/\W.keepIn K (.ref (fa x))=true:=by rw[sr.mp f.snok]at hx;cases hx
theorem HE(f:GF w K mg g t fa)(A:gH P w K mg base g t fa k){d:FD}(e:t.T.lookup x=some d):∃fd,bT P w K mg base (eS P w) (k+1) (fa x) fd d.ps (oK K d.ps.length ((WT t (k+1)).Mu x))/\cV K fd d.ps []/\PySem.W.keepIn K (.ref (fa x))=true:=by
 exists name,st,fd,F,r,ok,f.all.at e;rw[Hv];unfold yo;rw[e];dsimp only;split
 . rename_i b eb;unfold jR at ok;rw[cc,cc,eb]at ok;have sc:=vS ok.1;have B:=UW ok.2.1;refine#[fd,?_,r,F.kp];by_cases G:0<d.N.length
   . exact SO F sc G λC cdv a L outer s H J E D=>got B (X:=cO (eS P w) P w K mg base d.N x (dR st) (fa x) cdv L outer s H J) (HB f A rfl rfl rfl rfl rfl rfl rfl rfl D (λ_ _=>rfl) (.inr #[a,rfl]) (uP (K:=K) (H:=H) (outer:=outer) E))
   . have:∀{W:WD},jP d.ps.length d.N.length (ub W b)=λ_ _=>none:=λ{W}=>by
       funext O ds;unfold jP;have:d.N=[]:=List.length_eq_zero_iff.mp (by lia)
       split
       . (have hp:d.ps=[]:=by have:=sc.pre;rw[‹d.N=[]›]at this;simpa using this.symm);rename_i o;rw[hp]at o;cases o
       . rfl
     rw[this];exact vO
 . exact#[fd,vO,r,F.kp]
def U3(f:GF w K mg g t fa)(A:gH P w K mg base g t fa k){key:Str}{d:ID}(e:t.I.lookup key=some d):Dz P w K mg base (eS P w) (k+1) d.c (d.ps.length-1) (vV (WT t k) d):=by exists name,st,B,a,fd,ns,o,M,F,r,ok,f.alli.at e;cases ok
theorem HF(f:GF w K mg g t fa):∀k,gH P w K mg base g t fa k/\gH P w K mg base g t fa (k+1)|0=>by have A:gH P w K mg base g t fa 0:=yy f;refine#[A,λkey d e=>?_,λ_=>#[0,rfl,A.fn],(λkey d Φ _ e=>by cases e),(λx hx=>HD f A hx),HC f A,λkey d e=>HE f A e];exists name,st,fd,F,o,ok,f.all.at e;exact#[fd,vZ f A F e ok,o,F.kp]|k+1=>by exists A,a,HF f k;refine#[a,λkey d e=>?_,λ_=>#[k+1,rfl,a.fn],λkey d Φ e E=>?_,(λx hx=>HD f a hx),HC f a,λkey d e=>HE f a e];{exists name,st,fd,F,o,ok,f.all.at e;exact#[fd,vZ f a F e ok,o,F.kp]};(have E:(match t.I.lookup key with|some i=>some (vV (WT t k) i)|none=>none)=some Φ:=E);rw[e]at E;cases E;exact#[k+1,dg _,U3 f A e]
end
noncomputable def wA(K:Fg)(Φ:List D->Res):Sp:=λvs H Q E=>∃a ns,vs=[.ref a]/\dz K H a (ns.map V.int)/\Φ (pX ns)=.ok .fz (.bl true)/\∀H',Q (.bl true) H'
def U4{K:Fg}{f:Addr}(h:bT P w K mg base CX k f fd ps (lf K mg 1 Φ)):bT P w K mg base CX k f fd ps (wA K Φ) :=
 h.imp λvs H Q E ⟨a,ns,e,d,hp,q⟩=>by subst e;refine#[rfl,H,pX ns,aE.refl _,aC.cons ?_ aC.nil,?_];{simp only[aB];exact#[a,_,rfl,d,Fp ns]};rw[hp];exact#[by decide,λv F' H' s r _=>by rw[r.bl];exact q H']
def U5{K:Fg}{g:MG}{t:TB}(f:GF w K mg g t fa)(k:Nat){a:Addr}{d:FD}(F:nA K "law" "law" st a fd)(e:t.T.lookup ("law":Str)=some d)(ok:jR g "law" st d=true)(o:d.ps.length=1):bT P w K mg base (eS P w) (k+1) a fd d.ps (wA K ((WT t (k+1)).Φ ("law":Str))):=by have:=vZ (P:=P) (w:=w) (base:=base) f (HF f k).1 F e ok;rw[o]at this;exact U4 this
section
variable{W:WD}{a b c:E}{es:List E}
@[simp]theorem yz{i:_}:aK W (.var i) Y=cP Y i:=Eq.trans rfl rfl
@[simp]theorem HG:aK W .non Y=.ok .fz .non:=Eq.trans rfl rfl
@[simp]theorem U6{b:_}:aK W (.bl b) Y=.ok .fz (.bl b):=Eq.trans rfl rfl
@[simp]theorem HH{i:_}:aK W (.int i) Y=.ok .fz (.int i):=Eq.trans rfl rfl
@[simp]theorem HI{x:_}:aK W (.str x) Y=.ok .fz (.str x):=Eq.trans rfl rfl
@[simp]theorem BM{x y:_}:aK W (.glob x (.s y)) Y=.ok .fz (.str y):=Eq.trans rfl rfl
@[simp]theorem BN{x y:_}:aK W (.glob x (.i y)) Y=.ok .fz (.int y):=Eq.trans rfl rfl
@[simp]theorem U7{t:Ty}:aK W (.ty t) Y=.ok .fz (.ty t.id):=Eq.trans rfl rfl
@[simp]theorem yL{op}:aK W (.bin op a b) Y=bv (aZ op) (aK W a Y) (aK W b Y):=Eq.trans rfl rfl
@[simp]theorem HJ{op}:aK W (.cmp op a b) Y=bv (bB op) (aK W a Y) (aK W b Y):=Eq.trans rfl rfl
@[simp]theorem HL:aK W (.andL es) Y=jp W es Y:=Eq.trans rfl rfl
@[simp]theorem y1:aK W (.orL es) Y=eE W es Y:=Eq.trans rfl rfl
@[simp]theorem HN:aK W (.not a) Y=f8 (aK W a Y):=Eq.trans rfl rfl
@[simp]theorem HP:aK W (.neg a) Y=pS (aK W a Y):=Eq.trans rfl rfl
@[simp]theorem HQ:aK W (.tru a) Y=eW (aK W a Y):=Eq.trans rfl rfl
@[simp]theorem HR:aK W (.frz a) Y=aG (aK W a Y):=Eq.trans rfl rfl
@[simp]theorem U8:aK W (.ix a b) Y=bv c6 (aK W a Y) (aK W b Y):=Eq.trans rfl rfl
@[simp]theorem U9{l h:_}:aK W (.slice a l h) Y=js (aK W a Y) (hH W l) (hH W h) Y:=Eq.trans rfl rfl
@[simp]theorem HS:aK W (.tup es) Y=dU (bY W es Y):=Eq.trans rfl rfl
@[simp]theorem HU:aK W (.lst es) Y=fK (bY W es Y):=Eq.trans rfl rfl
@[simp]theorem DY:aK W (.dct1 a b) Y=nX (aK W a Y) (aK W b Y):=Eq.trans rfl rfl
@[simp]theorem DZ{f n:_}:aK W (.call f n es) Y=aN n (W.Φ f) (bY W es Y):=Eq.trans rfl rfl
@[simp]theorem BO{f:Bn}:aK W (.bcall f es) Y=fL f.f (bY W es Y):=Eq.trans rfl rfl
@[simp]theorem Va:aK W (.items a) Y=eX (aG (aK W a Y)):=Eq.trans rfl rfl
@[simp]theorem D0:aK W (.rng1 a) Y=fM (aF (aK W a Y) (.ok [])):=Eq.trans rfl rfl
@[simp]theorem BP:aK W (.enum1 a) Y=qI (aF (aG (aK W a Y)) (.ok [])):=Eq.trans rfl rfl
@[simp]theorem D1:aK W .nnew Y=.ok .fr (.dtn []):=Eq.trans rfl rfl
@[simp]theorem HV:aK W (.nix a b) Y=bv eL (aK W a Y) (aK W b Y):=Eq.trans rfl rfl
@[simp]theorem HW{neg:_}:aK W (.nin neg a b) Y=bv (e9 neg) (aK W a Y) (aK W b Y):=Eq.trans rfl rfl
@[simp]theorem Vb{k d:E}:aK W (.nget a k d) Y=mD (aK W a Y) (aK W k Y) (aK W d Y):=Eq.trans rfl rfl
@[simp]theorem BQ:aK W (.nkeys a) Y=rB (aK W a Y):=Eq.trans rfl rfl
@[simp]theorem BR:aK W (.kkeys a) Y=mO (aK W a Y):=Eq.trans rfl rfl
@[simp]theorem D2:aK W (.srtw a) Y=fL gC (aF (aK W a Y) (.ok [])):=Eq.trans rfl rfl
@[simp]theorem D4:aK W (.deqC a b) Y=bv pb (aK W a Y) (aK W b Y):=Eq.trans rfl rfl
@[simp]theorem Vc{it aD t n:_}:aK W (.dcomp a b it aD t n) Y=oJ (aK W it Y) Y aD n (aL t) (λY=>aK W a Y) (λY=>aK W b Y):=Eq.trans rfl rfl
@[simp]theorem HY:aK W (.ltn a b) Y=bv (gu lh oh) (aK W a Y) (aK W b Y):=Eq.trans rfl rfl
@[simp]theorem D5{x tb:_}:aK W (.deed x tb a) Y=kH tb (aK W a Y):=Eq.trans rfl rfl
@[simp]theorem BS{i fs n:_}:aK W (.callv i fs n es) Y=qK W.Φ fs n (cP Y i) (bY W es Y):=Eq.trans rfl rfl
@[simp]theorem HZ:aK W (.dix a b) Y=bv qo (aK W a Y) (aK W b Y):=Eq.trans rfl rfl
@[simp]theorem D6:aK W (.tidx a b) Y=oE (aK W a Y) (aK W b Y):=Eq.trans rfl rfl
@[simp]theorem Ia{neg:_}:aK W (.din neg a b) Y=bv (nl neg) (aK W a Y) (aK W b Y):=Eq.trans rfl rfl
@[simp]theorem D7{c:E}:aK W (.rng3 a b c) Y=kJ (aF (aK W a Y) (aF (aK W b Y) (aF (aK W c Y) (.ok [])))):=Eq.trans rfl rfl
@[simp]theorem gI{ts:List E}{aD t n:_}:aK W (.comp a b ts aD t n) Y=bI (aK W b Y) Y aD n (aL t) (λY=>d7 W ts Y) (λY=>aK W a Y):=Eq.trans rfl rfl
@[simp]theorem D8:tA W []=[]:=by simp only[tA]
@[simp]theorem BU:tA W (a::es)=aK W a::tA W es:=by simp only[tA]
@[simp]theorem Ib{d:D}:aL (.nm i) d Y=some (Y.set i (some (false,d))):=by simp only[aL]
@[simp]theorem Ie{ts:List Tg}:aL (.tp ts) (.tup ds) Y=eC ts ds Y:=by simp only[aL]
@[simp]theorem D9{ts:List Tg}:aL (.tp ts) (.lst ds) Y=eC ts ds Y:=by simp only[aL]
@[simp]theorem BV:eC [] [] Y=some Y:=by simp[eC]
@[simp]theorem y2{ts:List Tg}{d:D}:eC (t::ts) (d::ds) Y=(aL t d Y).bind (eC ts ds):=by simp only[eC];cases aL t d Y <;> rfl
@[simp]theorem BW{t:Ty}:aK W (.tcall t es) Y=fL t.f (bY W es Y):=Eq.trans rfl rfl
@[simp]theorem Vd{x:_}:aK W (.meth a x es) Y=iT W.cl W.Φ x (aK W a Y) (bY W es Y):=Eq.trans rfl rfl
@[simp]theorem Ig{x:_}:aK W (.mk0 x) Y=.ok .fr (.ins x []):=Eq.trans rfl rfl
@[simp]theorem Ea:bY W [] Y=.ok []:=by simp only[bY]
@[simp]theorem BX:bY W (a::es) Y=aF (aK W a Y) (bY W es Y):=by simp only[bY]
@[simp]theorem Ih:jp W [a] Y=aK W a Y:=by simp only[jp]
@[simp]theorem wB:jp W (a::b::es) Y=fH (aK W a Y) (jp W (b::es) Y):=by simp only[jp]
@[simp]theorem Ve:eE W [a] Y=aK W a Y:=by simp only[eE]
@[simp]theorem Vf:eE W (a::b::es) Y=nB (aK W a Y) (eE W (b::es) Y):=by simp only[eE]
@[simp]theorem Ii:d7 W [] Y=.ok .fz (.bl true):=by simp only[d7]
@[simp]theorem BY:d7 W (a::es) Y=fH (aK W a Y) (d7 W es Y):=by simp only[d7]
@[simp]theorem BZ:hH W none=none:=by simp only[hH]
@[simp]theorem B0:hH W (some a)=some (aK W a):=by simp only[hH]
@[simp]theorem Ij:dq W (.ret a) Y=lV (aK W a Y) Y:=Eq.trans rfl rfl
@[simp]theorem Eb{i:_}:dq W (.retV i) Y=hX Y i:=Eq.trans rfl rfl
@[simp]theorem Ik{i:_}:dq W (.set i a) Y=eA Y i (aK W a Y):=Eq.trans rfl rfl
@[simp]theorem Il{x y:List S}:dq W (.ite a x y) Y=n7 (aK W a Y) Y (b0 W x Y) (b0 W y Y):=Eq.trans rfl rfl
@[simp]theorem kW{y:List S}:dq W (.for a t y) Y=lW (aK W a Y) Y (aL t) (b0 W y):=Eq.trans rfl rfl
@[simp]theorem Im:dq W (.asg t a) Y=qF t Y (aK W a Y):=Eq.trans rfl rfl
@[simp]theorem y3{n:_}{y:List S}:dq W (.whl n a y) Y=dX (aK W a) (b0 W y) n Y:=Eq.trans rfl rfl
@[simp]theorem rR:dq W (.expr a) Y=(aK W a Y).thS Y λ_ _=>.nx Y:=Eq.trans rfl rfl
@[simp]theorem Ec{i k:_}:dq W (.lput i k a) Y=iX Y i (aK W k Y) (aK W a Y):=Eq.trans rfl rfl
@[simp]theorem Io{i:_}:dq W (.app i a) Y=eZ Y i (aK W a Y):=Eq.trans rfl rfl
@[simp]theorem Ed{i:_}:dq W (.frzV i) Y=l7 Y i:=Eq.trans rfl rfl
@[simp]theorem Ee{i:_}:dq W (.nfrz i) Y=oH Y i:=Eq.trans rfl rfl
@[simp]theorem Vg{i:_}:dq W (.nput i a b) Y=fA Y i (aK W a Y) (aK W b Y):=Eq.trans rfl rfl
@[simp]theorem Vh{i:_}:dq W (.setC i false a) Y=eA Y i (aK W a Y):=Eq.trans rfl rfl
@[simp]theorem wC{i:_}:dq W (.setC i true a) Y=eA Y i (aG (aK W a Y)):=Eq.trans rfl rfl
@[simp]theorem Ip{i f n es:_}:dq W (.cmu i f n es) Y=jO (W.Mu f) i Y n (bY W es Y):=Eq.trans rfl rfl
@[simp]theorem Iq:b0 W [] Y=.nx Y:=by simp only[b0]
@[simp]theorem kX{s:S}{r:List S}:b0 W (s::r) Y=(dq W s Y).thn (b0 W r):=by simp only[b0]
end
section
variable{m n:Md}{i j:Int}{d:D}
@[simp]theorem Ir:bv (aZ .Add) (.ok m (.int i)) (.ok n (.int j))=.ok .fz (.int (i+j)):=rfl
@[simp]theorem Iu:bv (aZ .Sub) (.ok m (.int i)) (.ok n (.int j))=.ok .fz (.int (i-j)):=rfl
@[simp]theorem Vi:bv (bB .Lt) (.ok m (.int i)) (.ok n (.int j))=.ok .fz (.bl (decide (i<j))):=rfl
@[simp]theorem Vj:bv (bB .LtE) (.ok m (.int i)) (.ok n (.int j))=.ok .fz (.bl (decide (i<=j))):=rfl
@[simp]theorem Vk:bv (bB .Gt) (.ok m (.int i)) (.ok n (.int j))=.ok .fz (.bl (decide (j<i))):=rfl
@[simp]theorem Vl:bv (bB .GtE) (.ok m (.int i)) (.ok n (.int j))=.ok .fz (.bl (decide (j<=i))):=rfl
@[simp]theorem jS(h:0<j):bv (aZ .Mod) (.ok m (.int i)) (.ok n (.int j))=.ok .fz (.int (i % j)):=by show Res.of (if decide (0<j)=true then _ else _)=_;rw[al (gS h)];rfl
def y4(h:0<j)(a:bits j=true):bv (aZ .FloorDiv) (.ok m (.int i)) (.ok n (.int j))=.ok .fz (.int (i / j)):=by show Res.of (if(decide (0<j)&&bits j)=true then _ else _)=_;rw[al (by rw[a,gS h];rfl)];rfl
def Vm(h:i.natAbs<10 ^ 2000):bits i=true:=by unfold bits;refine gS ?_;by_cases h0:i.natAbs=0;{rw[h0];decide};refine(Nat.log2_lt h0).mpr (Nat.lt_trans h ?_);decide +kernel
def Vn{N:Nat}(h:i.natAbs<=N)(hN:N<10 ^ 2000:=by decide +kernel):bits i=true:=Vm (Bs h hN)
@[simp]theorem Vo(h:0<j)(a:j.natAbs<=1000000000):bv (aZ .FloorDiv) (.ok m (.int i)) (.ok n (.int j))=.ok .fz (.int (i / j)):=y4 h (Vn a)
def Vp(h:((bits i&&bits j)||(ni i||ni j))=true):bv (aZ .Mult) (.ok m (.int i)) (.ok n (.int j))=.ok .fz (.int (i * j)):=by show Res.of (((if((bits i&&bits j)||(ni i||ni j))=true then _ else _:Option (Md×D)).orElse _).orElse _)=_;rw[al h];rfl
theorem wD(h:i.natAbs<9000000000000000000):bv (aZ .Mult) (.ok m (.int i)) (.ok n (.int j))=.ok .fz (.int (i * j)):=Vp (by
 have:ni i=true:=gS (by lia)
 rw[this];simp)
def bK{a:Md->D->Md->D->Option (Md×D)}{x d:D}{k:Md}(h:a m x n y=some (k,d)):bv a (.ok m x) (.ok n y)=.ok k d:=by show Res.of (a m x n y)=_;rw[h];rfl
@[simp]theorem Iv:bv (bB .Eq) (.ok m (.int i)) (.ok n (.int j))=.ok .fz (.bl (i==j)):=bK rfl
@[simp]theorem Iw:bv (bB .NotEq) (.ok m (.int i)) (.ok n (.int j))=.ok .fz (.bl (i != j)):=bK rfl
@[simp]theorem Ix{a b:Bool}:bv (bB .Eq) (.ok m (.bl a)) (.ok n (.bl b))=.ok .fz (.bl (a==b)):=bK rfl
@[simp]theorem Iy{a b:Bool}:bv (bB .NotEq) (.ok m (.bl a)) (.ok n (.bl b))=.ok .fz (.bl (a != b)):=bK rfl
@[simp]theorem Iz{a b:Str}:bv (bB .Eq) (.ok m (.str a)) (.ok n (.str b))=.ok .fz (.bl (a==b)):=bK (by rfl)
@[simp]theorem IA{a b:Str}:bv (bB .NotEq) (.ok m (.str a)) (.ok n (.str b))=.ok .fz (.bl (a != b)):=bK (by rfl)
@[simp]theorem IC{a b:Str}:bv (bB .In) (.ok m (.str a)) (.ok n (.str b))=.ok .fz (.bl (lQ a b)):=bK rfl
@[simp]theorem y6{a b:Str}:bv (bB .NotIn) (.ok m (.str a)) (.ok n (.str b))=.ok .fz (.bl (!lQ a b)):=bK rfl
@[simp]theorem IE{a b:Str}(h:a.length+b.length<=sizeLine):bv (aZ .Add) (.ok m (.str a)) (.ok n (.str b))=.ok .fz (.str (a++b)) :=
 bK (by
  have:fS (λi j=>decide (i.length+j.length<=sizeLine)) (λi j=>D.str (i++j)) m (.str a) n (.str b)=some (Md.fz,D.str (a++b)):=by show(if decide (a.length+b.length<=sizeLine)=true then some (Md.fz,D.str (a++b))else none)=_;rw[al (gS h)]
  show gu (gu (fI (λ_ _=>true) λi j=>.int (i+j)) (fS (λi j=>decide (i.length+j.length<=sizeLine)) λi j=>.str (i++j))) pZ m (.str a) n (.str b)=_;simp only[gu,this];rfl)
@[simp]theorem IF{d:D}:bv (bB .Is) (.ok m d) (.ok n .non)=.ok .fz (.bl (gO d)):=bK rfl
@[simp]theorem y8{d:D}:bv (bB .IsNot) (.ok m d) (.ok n .non)=.ok .fz (.bl (!gO d)):=bK rfl
@[simp]theorem wE{x y:List D}(h:x.length+y.length<=sizeLine):bv (aZ .Add) (.ok m (.lst x)) (.ok n (.lst y))=.ok .fr (.lst (x++y)):=bK (by
 show(if x.length+y.length<=sizeLine then some (Md.fr,D.lst (x++y))else none)=_;rw[al h])
@[simp]theorem Vq{x y:List D}(h:x.length+y.length<=sizeLine):bv (aZ .Add) (.ok m (.tup x)) (.ok n (.tup y))=.ok .fz (.tup (x++y)):=bK (by
 show(if x.length+y.length<=sizeLine then some (Md.fz,D.tup (x++y))else none)=_;rw[al h])
@[simp]theorem IG:gO .non=true:=rfl
@[simp]theorem IH{i:Int}:gO (.int i)=false:=rfl
@[simp]theorem II{i:Bool}:gO (.bl i)=false:=rfl
@[simp]theorem IJ{i:Str}:gO (.str i)=false:=rfl
@[simp]theorem IK{i:List D}:gO (.tup i)=false:=rfl
@[simp]theorem IL{i:List D}:gO (.lst i)=false:=rfl
@[simp]theorem Ef{y:Res}:fH (.ok m (.bl true)) y=y:=rfl
@[simp]theorem Eg{y:Res}:fH (.ok m (.bl false)) y=.ok .fz (.bl false):=rfl
@[simp]theorem IM{y:Res}:nB (.ok m (.bl true)) y=.ok .fz (.bl true):=rfl
@[simp]theorem IN{y:Res}:nB (.ok m (.bl false)) y=y:=rfl
@[simp]theorem IP{a b:Bool}:fH (.ok m (.bl a)) (.ok .fz (.bl b))=.ok .fz (.bl (a&&b)):=by cases a <;> rfl
@[simp]theorem Vr{a b:Bool}:nB (.ok m (.bl a)) (.ok .fz (.bl b))=.ok .fz (.bl (a||b)):=by cases a <;> rfl
@[simp]theorem IQ{a:Bool}:f8 (.ok m (.bl a))=.ok .fz (.bl (!a)):=rfl
@[simp]theorem IR{a:Bool}:eW (.ok m (.bl a))=.ok .fz (.bl a):=rfl
@[simp]theorem Eh:eW (.ok m (.int i))=.ok .fz (.bl (i != 0)):=rfl
@[simp]theorem IT:pS (.ok m (.int i))=.ok .fz (.int (-i)):=rfl
@[simp]theorem y9{x y:aI}:n7 (.ok m (.bl true)) Y x y=x:=rfl
@[simp]theorem zb{x y:aI}:n7 (.ok m (.bl false)) Y x y=y:=rfl
@[simp]theorem IU:aG (.ok .fz d)=.ok .fz d:=rfl
@[simp]theorem IV:aG (.ok .fr d)=.ok .fz d:=rfl
@[simp]theorem IW:eA Y k (.ok .fz d)=.nx (Y.set k (some (false,d))):=rfl
@[simp]theorem Ei:eA Y k (.ok .fr d)=.nx (Y.set k (some (true,d))):=rfl
@[simp]theorem IX:lV (.ok .fz d) Y=.rt .fz d:=rfl
@[simp]theorem Ej:lV (.ok .fr d) Y=.rt .fr d:=rfl
@[simp]theorem X6{r:Rho}:cP (some (false,d)::r) 0=.ok .fz d:=rfl
@[simp]theorem Vs{r:Rho}:cP (some (true,d)::r) 0=.ok .bo d:=rfl
@[simp]theorem X7{x:Option (Bool×D)}{r:Rho}{i:Nat}:cP (x::r) (i+1)=cP r i:=rfl
@[simp]theorem X8{x:Option (Bool×D)}{r:Rho}:cP (x::r) 1=cP r 0:=rfl
@[simp]theorem Vt{r:Rho}:hX (some (false,d)::r) 0=.rt .fz d:=rfl
@[simp]theorem IY{r:Rho}:hX (some (true,d)::r) 0=.rt .fr d:=rfl
@[simp]theorem Vu{x:Option (Bool×D)}{r:Rho}:hX (x::r) 1=hX r 0:=rfl
@[simp]theorem Vv{x:Option (Bool×D)}{r:Rho}{i:Nat}:hX (x::r) (i+1)=hX r i:=rfl
@[simp]theorem Ek{x y:Option (Bool×D)}{r:Rho}:(x::r).set 0 y=y::r:=rfl
@[simp]theorem B3{f:List (Md×D)->Option (Md×D)}{U:List (Md×D)}:fL f (.ok U)=Res.of (f U):=rfl
@[simp]theorem El:Bn.f .len=eI:=rfl
@[simp]theorem Em:Bn.f .isinstance=i9:=rfl
@[simp]theorem zd:Ty.f .tuple=kD:=rfl
@[simp]theorem B4:Ty.f .list=l5:=rfl
@[simp]theorem IZ{i:List D}:kD [(m,.lst i)]=some (.fz,.tup i):=rfl
@[simp]theorem I0{i:List D}:kD [(.fz,.tup i)]=some (.fz,.tup i):=rfl
@[simp]theorem Ja{i:List D}:l5 [(m,.lst i)]=some (.fr,.lst i):=rfl
@[simp]theorem Jb{i:List D}:l5 [(m,.tup i)]=some (.fr,.lst i):=rfl
@[simp]theorem Jc:eI [(m,.str z)]=some (.fz,.int z.length):=rfl
@[simp]theorem Jd{z:List D}:eI [(m,.lst z)]=some (.fz,.int z.length):=rfl
@[simp]theorem Je{z:List D}:eI [(m,.tup z)]=some (.fz,.int z.length):=rfl
@[simp]theorem Jf{z:List D}:eX (.ok m (.lst z))=.ok .fz (.lst z):=rfl
@[simp]theorem Jg{z:List D}:eX (.ok m (.tup z))=.ok .fz (.lst z):=rfl
end
@[simp]theorem Jh{t:TB}:(WT t k).xf=λc x=>t.xt.lookup (c,x):=by unfold WD.xf;rw[Ht]
@[simp]theorem Ji{t:TB}:(WT t k).xg=λc x=>t.xi.lookup (c,x):=by unfold WD.xg;rw[Hu]
section
variable{c:Str}
@[simp]theorem Jj:aG (.exc c)=.exc c:=rfl
@[simp]theorem Eo:eA Y k (.exc c)=.exc c Y:=rfl
@[simp]theorem Ep:lV (.exc c) Y=.exc c Y:=rfl
end
def bX{N:Nat}{g:Rho->aI}{m:Md}{d:D}(a:ds.length=n)(h:g (eY N ds)=.rt m d):gm n N g ds=.ok m d:=by unfold gm;rw[al a,h];rfl
def rS{U:List (Md×D)}{d:D}(a:ds.length=n)(ha:dA U=some ds)(h:Φ ds=.ok .fz d):aN n Φ (.ok U)=.ok .fz d:=by(show(match dA U with|some ds=>if ds.length=n then(match Φ ds with|.ok .bo _=>Res.stuck|r=>r)else .stuck|none=>.stuck)=_);rw[ha];show(if ds.length=n then _ else _)=_;rw[al a,h]
@[simp]theorem fQ{a d:D}(h:Φ [a]=.ok .fz d):aN 1 Φ (.ok [(.fz,a)])=.ok .fz d:=rS (ds:=[a]) rfl rfl h
@[simp]theorem dL{a b d:D}(h:Φ [a,b]=.ok .fz d):aN 2 Φ (.ok [(.fz,a),(.fz,b)])=.ok .fz d:=rS (ds:=[a,b]) rfl rfl h
@[simp]theorem bM{a b c d:D}(h:Φ [a,b,c]=.ok .fz d):aN 3 Φ (.ok [(.fz,a),(.fz,b),(.fz,c)])=.ok .fz d:=rS (ds:=[a,b,c]) rfl rfl h
@[simp]theorem Er{Φ:Str->List D->Res}{c m key:Str}{fs:List (Str×D)}{as:bH}(h:CI.meth cl c m=some (key,n))(a:fs.lookup m=none):iT cl Φ m (.ok .fz (.ins c fs)) as=aN n (Φ key) (aF (.ok .fz (.ins c fs)) as):=by(show(match CI.meth cl c m with|some (key,n)=>if fs.lookup m=none then aN n (Φ key) (aF (.ok .fz (.ins c fs)) as)else .stuck|none=>.stuck)=_);rw[h];show(if fs.lookup m=none then _ else _)=_;rw[al a]
@[simp]theorem ze{t:TB}:(WT t k).cl=t.cl:=rP t k
def zf{t:TB}{f:Str}{d:FD}{b:List D3.S}(h:t.T.lookup f=some d)(a:d.b=[.mput b]):(WT t (k+1)).Mu f=jP d.ps.length d.N.length (ub (WT t k) b):=by rw[Hv];unfold yo;rw[h];dsimp only;rw[a]
def cZ{t:TB}{f:Str}{d:FD}(h:t.T.lookup f=some d):(WT t (k+1)).Φ f=gm d.ps.length d.N.length (b0 (WT t k) d.b):=by rw[yt];unfold oO;rw[h]
@[simp]theorem Jk{a b c e d:D}(h:Φ [a,b,c,e]=.ok .fz d):aN 4 Φ (.ok [(.fz,a),(.fz,b),(.fz,c),(.fz,e)])=.ok .fz d:=rS (ds:=[a,b,c,e]) rfl rfl h
theorem oU{W:WD}:∀{x y:List D3.S}{Y:Rho},b0 W (x++y) Y=(b0 W x Y).thn (b0 W y)|[],y,Y=>by simp|s::x,y,Y=>by show b0 W (s::(x++y)) Y=_;rw[kX,kX];cases dq W s Y with|nx ρ'=>exact oU|_=>rfl
def mU{W:WD}{s:D3.S}{r:List D3.S}(h:dq W s Y=.nx ρ'):b0 W (s::r) Y=b0 W r ρ':=by rw[kX,h];rfl
end D3
namespace Tp
open PySem.W PySem.Calls
structure S where
 t:BT
 n:Nat
 k:Nat
 nm:ba
 g:List DictEntry
 tb:List ba
def jd(vs:List ba):Obj:=#[.type "tuple",none,.seq vs.toArray 0,#[]]
def g0(c:ba)(vs:List ba):Obj:=#[c,none,.fields vs.toArray,#[]]
def ol(es:List DictEntry)(e:Nat):Obj:=#[.type "dict",none,.dict es.toArray e,#[]]
def en(P:Params)(x:Str)(k:Nat)(v:ba):DictEntry:=#[PyData.keyHash P x,.str x k,v]
def iI:List Str->Nat->List ba|[],_=>[]|x::U,k=>.str x k::iI U (k+1)
def pf:Str:="/claim/cut.py"
noncomputable def km(name qual:Str)(k line A fl:Nat)(isF:Bool)(a:Nat)(ls d T:ba)(j:Nat):Obj :=
 g0 (.type "code") [.str name k,.str qual (k+1),.str pf (k+2),.int line 0,.int A 0,.int 0 0,.int 0 0,.int fl 0,.ref a,.bool isF,.int 181 0,.ref (a+1),.none,ls,d,T,.int j 0,.int line 0,.str pf (j+1)]
noncomputable def zg(code ns:Nat)(nm:ba):Obj:=#[.type "frame",none,.plain,(List.toArray [some (.ref code),some (.ref 3),some (.ref ns),none,some nm,none,some (.ref 0)])]
def B5(name qual:Str)(args:Arguments)(body:List Stmt)(sc:Scope)(gl:Nat)(nm cd:ba):FuncData:=#[name,qual,args,.stmts body,sc,gl,[],.none,.none,.none,nm,none,cd,.none,0]
def jv:List Obj->BT->Nat->BT|[],t,_=>t|o::os,t,n=>jv os (t.ins n o) (n+1)
def zh(name qual:Str)(args:Arguments)(body:List Stmt)(sc:Scope)(line n k:Nat)(nm:ba):List Obj×Nat×Nat :=
 match localNames args sc (.stmts body)with
 |some (ls,d) =>
  let a:=ls.length
  let b:=d.length
  ([jd [],g0 .none [],jd (iI ls (k+3)),jd (iI d (k+3+a)),#[.none,none,.func (B5 name qual args body sc 0 .none .none),#[]],
   km name qual k line args.args.length 3 true n (.ref (n+2)) (.ref (n+3)) (.ref (n+4)) (k+3+a+b),#[.type "function",none,.func (B5 name qual args body sc 3 nm (.ref (n+5))),#[]]],n+5,k+5+a+b)
 |none =>
  ([jd [],g0 .none [],#[.none,none,.func (B5 name qual args body sc 0 .none .none),#[]],
   km name qual k line args.args.length 3 true n .none .none (.ref (n+2)) (k+3),#[.type "function",none,.func (B5 name qual args body sc 3 nm (.ref (n+3))),#[]]],n+3,k+5)
def look(x:Str):List DictEntry->Option ba
 |[]=>none|⟨_,.str y _,v⟩::es=>match decide (x=y)with|true=>some v|false=>look x es
 |_::es=>look x es
structure B where
 t:BT
 n:Nat
 k:Nat
 es:List DictEntry
 tb:List ba
def layB(P:Params)(cn:Str)(nm:ba):List Stmt->B->B
 |.FunctionDef name args body _ _ _ sc _ _ pos::r,⟨t,n,k,es,tb⟩ =>
  match zh name (cn++"."++name) args body sc pos.line n k nm with|(os,c,j)=>layB P cn nm r #[jv os t n,n+os.length,j+1,en P name j (.ref (c+1))::es,.ref c :: .int pos.col 0 :: .int pos.line 0::tb]
 |_::r,b=>layB P cn nm r b|[],b=>b
def mroOf(t:BT)(a:Nat):List ba×ba:=match t.get a with|some ⟨_,_,.cls c,S⟩=>(c.mro,(S.getD 4 none).getD .none)|_=>([],.none)
def zi(a:Nat):Obj->Obj
 |⟨c,d,.cls k,S⟩=>#[c,d,.cls {k with subclasses:=k.subclasses++[.ref a]},S]
 |o=>o
noncomputable def Es(P:Params)(name:Str)(B:List PySem.Expr)(body:List Stmt)(st:List Str)(line:Nat):S->S
 |⟨t,n,k,nm,g,tb⟩ =>
  let bs:List ba:=match B with|.Name b _::_=>((match look b g with|some v=>[v]|none=>[.type "ValueError"]))|_=>[]
  let n2:=n+2
  let T:=jv [jd bs,g0 (.type "builtin_function_or_method") [.builtin "type.__prepare__",.type "type"],ol [] 0,jd [],g0 .none [],km name name (k+2) line 0 0 false (n+3) .none .none .none (k+5),zg (n+5) n2 nm] t n
  match layB P name nm body #[T,n+7,k+12,[en P "__firstlineno__" (k+11) (.int line (k+10)),en P "__qualname__" (k+9) (.str name (k+8)),en P "__module__" (k+7) nm],[]]with
  |⟨t2,m,j,es,ct⟩ =>
   let E:=en P "__static_attributes__" (j+st.length) (.ref m)::es
   let j1:=j+st.length+1
   let t3:=(t2.set n2 λ_=>ol E.reverse E.length).set (n+4) λ_=>g0 .none ct.reverse
   let cl:=m+2
   let cp:=(E.reverse.take 1)++(E.reverse.drop 2)
   let f (mro:List ba) (nw:ba) (o:List ba) (d:Option ba) (U:List DictEntry) (gs:List Obj) (t:BT) (j:Nat):S :=
    let os:=[jd (iI st (m-m+(j1-1-st.length))),ol (cp++U++[en P "__doc__" j .none]) (2+U.length),#[.type "type",none,.cls #[name,o,.ref cl::mro,m+1,name,true,[],[],false,none,false],(List.toArray [d,none,some (.str name k),some (.str name (k+8)),some nw,some (.bool true)])]]
     ++ gs++[g0 (.type "super") [.ref cl,.ref cl,.ref cl],g0 (.type "builtin_function_or_method") [.builtin "object.__init_subclass__",.ref cl]]
    #[jv os t m,m+os.length,j+3,nm,en P name (j+2) (.ref cl)::g,.ref (n+5) :: .int 0 0 :: .int line 0::tb]
   let G (j a:Nat):=g0 (.type "getset_descriptor") [.str "__weakref__" j,.ref cl,.builtin "ExceptionGroup.__weakref__",.none]
   match bs with
   | []=>f [.type "object"] (.builtin "object.__new__") [.type "object"] none [en P "__dict__" (j1 + 1) (.ref (m + 3)),en P "__weakref__" (j1 + 3) (.ref (m + 4))]
       [g0 (.type "getset_descriptor") [.str "__dict__" j1,.ref cl,.builtin "function.__dict__",.builtin "function.__dict__#set"],G (j1+2) 0] t3 (j1+4)
   |.ref a::_=>(match mroOf t3 a with|(mro,nw)=>f mro nw bs (some (.ref n)) [] [] (t3.set a (zi cl)) j1)|_=>f [.type "ValueError",.type "Exception",.type "BaseException",.type "object"] (.builtin "ValueError.__new__") bs (some (.ref n)) [en P "__weakref__" (j1+1) (.ref (m+3))] [G j1 0] t3 (j1+2)
def ph(P:Params)(g:List DictEntry):List (Option PySem.Expr)->List PySem.Expr->Nat->List DictEntry|some (.Constant (.str x) _ _)::ks,.Name y _::vs,k=>en P x k ((look y g).getD .none)::ph P g ks vs (k+1)|_,_,_=>[]
def put(P:Params)(x:Str)(v:ba)(t:BT)(n k:Nat)(nm:ba)(g:List DictEntry)(tb:List ba):S:=match decide (x="__name__")with|true=>#[t,n,k+1,v,g,tb]|false=>#[t,n,k+1,nm,en P x k v::g,tb]
def Et(P:Params):Stmt->S->S
 |.FunctionDef name args body _ _ _ sc _ _ pos,⟨t,n,k,nm,g,tb⟩=>match zh name name args body sc pos.line n k nm with|(os,c,j)=>#[jv os t n,n+os.length,j+1,nm,en P name j (.ref (c+1))::g,.ref c :: .int pos.col 0 :: .int pos.line 0::tb]
 |.ClassDef name B _ body _ _ _ _ _ st pos,s=>Es P name B body st pos.line s|.Assign [.Name x _] (.Constant (.str v) _ _) _,⟨t,n,k,nm,g,tb⟩=>put P x (.str v k) t n (k+1) nm g tb|.Assign [.Name x _] (.Constant (.int v) _ _) _,⟨t,n,k,nm,g,tb⟩=>put P x (.int v k) t n (k+1) nm g tb|.Assign [.Name x _] (.Dict ks vs _) _,⟨t,n,k,nm,g,tb⟩=>put P x (.ref n) (t.ins n (ol (ph P g ks vs k) vs.length)) (n+1) (k+2 * vs.length) nm g tb|_,s=>s
def lay(P:Params):List Stmt->S->S|[],s=>s|st::r,s=>lay P r (Et P st s)
noncomputable def s0(os:List Obj):S :=
 #[jv [jd [],g0 .none [],km "<module>" "<module>" 182 1 0 0 false 11 .none .none .none 185,zg 13 3 (.str "__main__" 164)] (jv os .nil 0) 11,15,187,.str "__main__" 164,[],[]]
def qu(nm:ba):List DictEntry->List DictEntry
 |e::es=>{e with val:=nm}::es
 |[]=>[]
def qv(nm:ba)(g:List DictEntry):Obj->Obj|⟨c,d,.dict es e,S⟩=>#[c,d,.dict (qu nm es.toList++g.reverse).toArray (e+g.length),S]|o=>o
noncomputable def S.bt(s:S):BT:=(s.t.set 3 (qv s.nm s.g)).set 12 λ_=>g0 .none s.tb.reverse
def z0:Pos:=#[0,0,0,0]
def an:Option ba:=some (.ref 6)
def ev(p:e7):Env:={scope:=p.main.scope,locals:=mainNs,globals:=mainNs,cells:=[],code:=.ref 13,frame:=some 14}
noncomputable def cd(p:e7):Code:=.body (behindTheImports p) (ev p)
noncomputable def go(tb:String->Option Builtin)(p:e7)(w:cw)(F:Nat):List Stmt->SharedT->Code->Pos->Option (SharedT×Code×Pos)|[],s,c,q=>some (s,c,q)|st::l,s,c,q=>match segRunT tb p w 11 an 1 F s (pieceOf st (ev p) c q [topFrame z0])with|some (.next,s',a,q')=>go tb p w F l s' a q'|_=>none
def ns(F N:Nat):List Stmt->Nat|[]=>N|_::l=>F+ns F N l
section
variable{tb:String->Option Builtin}{p:e7}
def one{N:Nat}{r:bz}{rest:List Stmt}{c d:Code}{e:Env}{q:Pos}(h:segRun tb p w 11 an 1 n s (pieceOf st e c q [topFrame z0])=some (.next,s',d,q'))(k:topRun tb p w 11 an N s' (restOf rest e d q' [topFrame z0])=some r):topRun tb p w 11 an (n+N) s (restOf (st::rest) e c q [topFrame z0])=some r:=by
 exists a,ha,hN,seg_top (B:=[topFrame z0]) (res:=id)
  (K':=λf=>match f with|.next=>(execs rest e).wrap doneF (leaveH e) id id|f=>doneF f)
  (H':=leaveH e) rfl n s (pieceOf st e c q [topFrame z0])
  #[(exec st e).wrap (λf=>match f with|.next=>(execs rest e).wrap doneF (leaveH e) id id|f=>doneF f) (leaveH e) id id,c,q,[topFrame z0]] _ _ _ _ #[rfl,rfl,.inl #[rfl,rfl,_,rfl,rfl]] h
 cases ha;unfold restOf;rw[execs_cons_wrap];exact hN N r k
theorem ko{F:Nat}:∀(l:List Stmt) {s s':SharedT}{c a:Code}{q q':Pos},go tb p w F l s c q=some (s',a,q')->∀{N:Nat}{r:bz}{rest:List Stmt},topRun tb p w 11 an N s'.abs (restOf rest (ev p) a q' [topFrame z0])=some r->topRun tb p w 11 an (ns F N l) s.abs (restOf (l++rest) (ev p) c q [topFrame z0])=some r|[],_,_,_,_,_,_,h,_,_,_,k=>by cases h;exact k|st::l,s,s',c,a,q,q',h,N,r,rest,k=>by unfold go at h;split at h;{rename_i x e;exact one (segRun_of e) (ko l h k)};cases h
theorem je{F:Nat}:∀{l r:List Stmt}{s s':SharedT}{c a:Code}{q q':Pos},go tb p w F l s c q=some (s',a,q')->go tb p w F (l++r) s c q=go tb p w F r s' a q'|[],_,_,_,_,_,_,_,h=>by cases h;rfl|st::l,r,s,s',c,a,q,q',h=>by unfold go at h;split at h;{rename_i x e;show go tb p w F (st::(l++r)) s c q=_;(conv=>lhs;unfold go);rw[e];exact je h};cases h
def Eu(s:bz)(c:Code)(q:Pos):topRun tb p w 11 an 2 s (restOf [] (ev p) c q [topFrame z0])=some s:=by exists h,g,d,k,o,s;rfl
noncomputable def sh(P:Params)(S:S)(n k:Nat)(os:OsState):SharedT:=#[S.bt,n,(boot_heap P).life,#[],boot_drawn,k,os]
noncomputable def sA(P:Params):S:=s0 (boot_heap P).objs.toList
noncomputable def pi(P:Params)(l:List Stmt)(os:OsState):SharedT:=sh P (lay P l (sA P)) (lay P l (sA P)).n (lay P l (sA P)).k os
def qw{l:List Stmt}{d:Code}(a:behindTheImports p=l)(pre:∀(w:cw) (os:OsState),topGo treeTable p w 11 an 12 #[boot_heap w.params,#[],boot_drawn,boot_toks,os] (topStub p)=some ((sh w.params (sA w.params) 15 187 os).abs,#[denote treeTable (cd p),cd p,z0,[topFrame z0]]))(blk:∀(w:cw) (s:bz),segRun treeTable p w 11 an 1 1 s (blockOf l (ev p) (cd p) z0 [topFrame z0])=some (.next,s,cd p,z0))(run:∀(w:cw) (os:OsState),go treeTable p w 1000 l (sh w.params (sA w.params) 15 187 os) (cd p) z0=some (sh w.params (lay w.params l (sA w.params)) n k os,d,q')):∀(w:cw) (os:OsState),topRun treeTable p w 11 an (12+(1+ns 1000 2 l)) #[boot_heap w.params,#[],boot_drawn,boot_toks,os] (topStub p)=some (sh w.params (lay w.params l (sA w.params)) n k os).abs:=by intro w os;refine go_top (pre w os) ?_;unfold cd;rw[a];refine piece_block (n:=1) (by have:=blk w (sh w.params (sA w.params) 15 187 os).abs;unfold cd at this;rw[a]at this;exact this) ?_;have:=ko l (run w os) (rest:=[]) (Eu _ _ _);rw[ij]at this;unfold cd at this;rw[a]at this;exact this
end
noncomputable def KK(l:List Stmt)(as:List Addr)(P:Params):Frag:=as.map λa=>(a,((lay P l (sA P)).bt.get a).getD default)
def Ev(l:List Stmt)(as:List Addr)(P:Params):as=(KK l as P).map (·.1):=by unfold KK;rw[fu];exact(List.map_id as).symm
noncomputable def hk(l:List Stmt)(as:List Addr):Hook:=kHook (KK l as) as (Ev l as)
noncomputable def H1(l:List Stmt)(n:Nat)(P:Params):Heap:=absHeap (lay P l (sA P)).bt n (boot_heap P).life
noncomputable def S1(l:List Stmt)(n k:Nat)(P:Params)(os:OsState):bz:=#[H1 l n P,#[],boot_drawn,k,os]
def Vw(n:Str):Stmt->List Str|.FunctionDef x ..=>if x==n then[]else[x]|.ClassDef x ..=>[x]|.Assign [.Name x _] _ _=>if x == "__name__" then[]else[x]|_=>[]
def los(l:List Stmt):List Str:=l.flatMap (Vw "law")
def vw(p:e7):e7:={ p with main:={ p.main with body:=p.main.body.filter λst=>match st with|.FunctionDef x ..=>x == "law" |_=>false } }
def xt(r:OpenRow)(s:bz):Bool:=xlAt (vw r.prog) [] s&&recOk r.toRowW.records s
def zj(w:cw):((boot_heap w.params).isNs mainGlobals&&(#[]:Array GenState).size==0,(boot_heap w.params).objs.size,(boot_heap w.params).nsMap mainGlobals "__annotations__")=(true,11,an):=by kernel_rfl
end Tp
def Tp.twA:Prod.fst (true,(@Tp.go,@Tp.lay,@Tp.sh,@Tp.sA,@Tp.cd,@Tp.ev,@Tp.S.bt,@Tp.KK,@Tp.hk,@Tp.H1,@Tp.S1,@Tp.los,@Tp.vw,@Tp.xt))=true:=by k_qdec
namespace D3
open PySem.Calls
def wF(q:Str):Str:=q++".<locals>."
def Ew:ba->ba->ba->ba->ba->ba->Option Addr|.type "code",.ref T,.str _ _,.int _ _,.bool _,.int _ _=>some T|_,_,_,_,_,_=>none
def jT:Obj->Option (Str×Option Addr)
 |⟨cl,_,.fields vs,_⟩=>match vs.toList with|_ :: .str q _::_=>some (q,Ew cl (vs.getD 11 .none) (vs.getD 18 .none) (vs.getD 7 .none) (vs.getD 9 .none) (vs.getD 10 .none))|_=>none
 |_=>none
def tq(b:Addr):Fg->Option Str|[]=>none|(_,o)::r=>match jT o with|some (q,some T)=>if T=b then some q else tq b r|_=>tq b r
def wG:Option Obj->Bool|some ⟨.none,none,.fields vs,S⟩=>vs.size==0&&S.size==0|_=>false
noncomputable def rT(K Kf:Fg):Bool:=K.all λ(c,o)=>match jT o with|none=>true|some (q,some T)=>tq T K==some q&&(K.lookup T).isNone&&wG (Kf.lookup T)&&c != T|some (_,none)=>false
def Vx{o:Option Obj}(h:wG o=true):o=some #[.none,none,.fields #[],#[]]:=by unfold wG at h;split at h;{rename_i vs S;simp only[cc,ck]at h;obtain rfl:vs = #[]:=CW h.1;obtain rfl:S = #[]:=CW h.2;rfl};cases h
def Jl{o:Obj}{T:Addr}(h:jT o=some (q,some T)){c:Addr}(e:hp.get? c=some o)(ne:c≠T):W.CodeHd hp c T:=by exists cl,L,N,K,o;unfold jT at h;split at h;{rename_i J O vs S f;cases f;split at h;{rename_i a q' t r hv;have A:=jw h;have d:Ew cl (vs.getD 11 .none) (vs.getD 18 .none) (vs.getD 7 .none) (vs.getD 9 .none) (vs.getD 10 .none)=some T:=congrArg Prod.snd A;unfold Ew at d;split at d;{rename_i E G F D B;cases d;refine#[_,vs,_,_,_,_,_,_,_,e,rfl,rfl,?_,E,G,F,D,B,ne];rw[qi]at E;cases q:vs[11]? with|none=>rw[q]at E;cases E|some v=>rw[q]at E;exact congrArg some E};cases d};cases h};cases h
def Vy{K:Fg}{cd:ba}(h:W.codeIn K cd q=true):∃c o,cd=.ref c/\K.lookup c=some o/\∃x,jT o=some (q,x):=by unfold W.codeIn at h;split at h;{rename_i c;split at h;{rename_i e;split at h;{rename_i a n t r hv;refine#[c,_,rfl,e,?_];rw[ck]at h;subst h;unfold jT;dsimp only;rw[hv];exact#[_,rfl]};cases h};cases h};cases h
theorem Jm{c:Addr}{o:Obj}:∀{K:Fg},K.lookup c=some o->(c,o)∈K|[],h=>by cases h|(b,u)::r,h=>by rw[h7]at h;split at h;{rename_i a;cases h;have a:=ck.mp a;subst a;exact cj};exact cs (Jm h)
theorem wH{b:Addr}{q:Str}:∀{K:Fg},tq b K=some q->∃c o,(c,o)∈K/\jT o=some (q,some b)|[],h=>by cases h|(c,o)::r,h=>by unfold tq at h;split at h;{rename_i q' T e;split at h;{rename_i d;cases h;subst d;exact#[c,o,cj,e]};exists a,O,m,x,wH h;exact#[a,O,cs m,x]};exists a,O,m,x,wH h;exact#[a,O,cs m,x]
structure zk(K Kf:Fg):Prop where
 all:∀c o,(c,o)∈K->∀q x,jT o=some (q,x)->∃T,x=some T/\tq T K=some q/\K.lookup T=none/\Kf.lookup T=some #[.none,none,.fields #[],#[]]/\c≠T
def Vz{K Kf:Fg}(h:rT K Kf=true):zk K Kf:=#[λc o m q x e=>by
 have a:=fi.mp h (c,o) m;dsimp only at a;rw[e]at a;cases x with
 |none=>cases a|some T =>
  dsimp only at a;simp only[cc,ck,o0,Option.isNone_iff_eq_none]at a;exact#[T,rfl,a.1.1.1,a.1.1.2,Vx a.1.2,a.2]]
def VA{K Kf:Fg}{mb:fg}{fa a:Addr}{sp:Sp}{S:bz}{ns:List Int}(KX:Kf.In S.heap)(sub:∀b o,K.lookup b=some o->Kf.lookup b=some o)(tb:zk K Kf)(nd:∀b o,(b,o)∈K->K.lookup b=some o)(aa:S.heap.Ns mainGlobals mg)(hb:S.heap.Ns builtinsNs mb)(ak:∀x:Str,x ≠ "__name__"->mb x=bootBuiltins x)(ae:S.heap.NoLimit)(aj:∃bm ob,mg "__builtins__"=some (.ref bm)/\bm≠builtinsNs/\S.heap.get? bm=some ob/\ob.cls=.type "module" /\ ob.dict=some builtinsNs/\ob.data=.plain)(hg:S.gens=#[])(ha:S.heap.get? a=some { cls:=.type "list",data:=.seq vs.toArray })(hi:IntsAre vs ns)(hl:ns.length<=sizeLine)(hr:bF k callerA)(F:∀base:Heap,K.In base->base.Ns mainGlobals mg->bT P w K mg base CX k fa fd [x] sp)(G:∀(s:bz) (u:ba),BindsTo s fd #[[u],[]] [(x,u)])(ai:∀H:Hp,dz K H a (ns.map V.int)->sp [.ref a] H (λv _=>v=.bl true) λ_ _ _=>False)(am:∀H e s',CX [] H S (λ_ _ _=>False) e s'->False):codeAny (model P w) callerA (.call (.ref fa) #[[.ref a],[]]) (λr s'=>r=.ok (.ret (.bool true))/\OldK S.heap s'.heap/\s'.os=S.os/\AllBare s'.gens) S:=by
 have L:K.In S.heap:=λb o e=>KX b o (sub b o e);have rv:=SG hi;have Z:=hi.length
 let sob:Obj:={ cls:=.type "list",data:=.seq vs.toArray }
 let H:Hp:=λb=>match tq b K with|some q=>some (.tbl (List.toArray [.str (wF q) 0]))|none=>if b=a/\K.lookup a=none then some (.frz sob (.lst (ns.map V.int)))else none
 have A:∀{b:Addr}{q:Str},tq b K=some q->K.lookup b=none/\S.heap.get? b=some #[.none,none,.fields #[],#[]]/\isCodeTable S.heap b:=λ{b q} e=>by exists c,o,m,x,wH e;exists T,e1,_,e3,e4,e5,tb.all c o m q _ x;cases e1;exists o',af,_,_,_,_,_,_,_,g1,g2,g3,g4,_,Jl x (L c o (nd c o m)) e5;exact#[e3,KX _ _ e4,c,o',af,g1,g2,g3,g4]
 have O:tq a K=none:=by cases e:tq a K with|none=>rfl|some q=>have:=(A e).2.1;rw[ha]at this;cases this
 have D:∀{b:Addr}{q:Str},tq b K=some q->H b=some (.tbl (List.toArray [.str (wF q) 0])):=λ{b q} e=>by(show(match tq b K with|some q=>_|none=>_)=_);rw[e]
 have B:∀{b:Addr},tq b K=none->H b=if b=a/\K.lookup a=none then some (.frz sob (.lst (ns.map V.int)))else none:=λ{b} e=>by(show(match tq b K with|some q=>_|none=>_)=_);rw[e]
 have HK:∀{b:Addr}{o:Obj},K.lookup b=some o->H b=none:=λ{b o} e=>by cases q:tq b K with|some x=>have:=(A q).1;rw[e]at this;cases this|none=>rw[B q,a0];rintro⟨rfl,z⟩;rw[e]at z;cases z
 have ah:∀{b:Addr}{o:Obj}{es:Array DictEntry}{ep:Nat},S.heap.get? b=some o->o.data=.dict es ep->H b=none:=λ{b o es ep} e d=>by cases q:tq b K with|some x=>have:=(A q).2.1;rw[e]at this;cases this;cases d|none=>rw[B q,a0];rintro⟨rfl,z⟩;rw[ha]at e;cases e;cases d
 have ag:∀{b:Addr}{o:Obj},S.heap.get? b=some o->o.cls=.type "module"->H b=none:=λ{b o} e d=>by cases q:tq b K with|some x=>have:=(A q).2.1;rw[e]at this;cases this;cases d|none=>rw[B q,a0];rintro⟨rfl,z⟩;rw[ha]at e;cases e;injection d with d;exact absurd d (by decide)
 have hok:fj P w H S.heap:=λb u e=>by cases q:tq b K with|some x=>rw[D q]at e;cases e;refine#[wF x,#[],rfl,(A q).2.1,trivial,λz cv f=>?_];cases f|none=>rw[B q]at e;split at e;{rename_i hc;cases e;exists rfl,_,hc;exact#[ha,by rw[du];exact hl,vs,_,rv,ha]};cases e
 have hS:dz K H a (ns.map V.int):=by cases hk:K.lookup a with|some o=>have e:=L a o hk;rw[ha]at e;cases e;exact .inr #[_,vs.toArray,_,hk,rfl,rfl,rfl,by rw[fh,Z];exact hl,by simpa using rv]|none=>exact .inl (.inr #[sob,by rw[B O,al #[rfl,hk]]])
 have N:∀{b:Addr}{m:fg},S.heap.Ns b m->(iK S.heap H).Ns b m:=λ{b m} ⟨o,es,ep,e,d,r⟩=>#[o,es,ep,tL e (ah e d),d,r];have J:K.In (iK S.heap H):=λb o e=>tL (L b o e) (HK e);have hM:Mod K mg (iK S.heap H):=#[J,N aa,#[mb,N hb,ak],let⟨mc,h1,h2⟩:=ae;#[mc,N h1,h2],let⟨bm,ob,b1,b2,b3,b4,b5,b6⟩:=aj;#[bm,ob,b1,b2,tL b3 (ag b3 b4),b4,b5,b6]]
 have hT:lG K (iK S.heap H) H:=λcd q e=>by exists c,o,rfl,lk,y,hy,Vy e;exists T,rfl,e2,_,_,e5,tb.all c o (Jm lk) q y hy;exact#[c,T,_,rfl,Jl hy (J c o lk) e5,D e2,rfl]
 have e0:iN P w K mg (iK S.heap H) callerA [] S H:=#[rfl,hM,λb o e=>MI e,AW (MH _ _),trivial,λb hb=>absurd (show b∈([]:List Addr)from hb) (by simp),hok,.of_eq hg,hT]
 refine qe ((F _ J (N aa)).run callerA [] S H #[[.ref a],[]] [.ref a] [.ref a] _ _ hr e0 (G S (.ref a)) (.cons rfl .nil) (ai H hS)) λr s' h=>?_;cases r with|error e=>exact(am H e s' h).elim|ok fl=>cases fl with|next|brk|cont=>exact False.elim h|ret u=>(exists v,H',os,bare,un,E,r',q,h;have q':v=.bl true:=q;subst q';obtain rfl:u=Value.bool true:=r';have W:∀b o,S.heap.get? b=some o->asItWas S.heap s'.heap b o/\∃o',s'.heap.get? b=some o':=λb o e=>by cases q:tq b K with|some x=>exists more,z,un.tbls b _ (D q);exists _,m,_,g,_,E b _ z;exists _,t2,t3,A q;rw[e]at t2;cases t2;exact#[.inr (.inl #[t3,rfl,#[],m,rfl,by rw[g];simp]),_,g]|none=>have hn:=B q;split at hn;{rename_i hc;exists rfl,_,hc;have z2:=un.frzs _ _ _ hn;exists e2,_,E _ _ z2;rw[ha]at e;cases e;exact#[.inl e2,_,e2]};have:=un.keep b o e hn (by intro z;exact absurd (show b∈([]:List Addr)from z) (by simp)) (by simp);exact#[.inl this,o,this]);exact#[rfl,#[λb o e=>(W b o e).1,λb o e=>(W b o e).2],os,bare]
def VB{l:W.OpenLaw}{q:e7}{d:DefRec}{K Kf:Params->Fg}{CX:cw->CXT}{sp:cw->Sp}(hn:l.most=some n)(J:n<=sizeLine)(N:d.params.defaults=[])(hr:bF k callerA)(hY:∀(w:cw) (h:Heap),YP w h->(Kf w.params).In h)(sub:∀P b o,(K P).lookup b=some o->(Kf P).lookup b=some o)(nd:∀P b o,(b,o)∈K P->(K P).lookup b=some o)(tb:∀P,rT (K P) (Kf P)=true)(F:∀(w:cw) (mg:fg) (fa:Addr) (h:Heap),(K w.params).In h->h.Ns mainGlobals mg->mg d.name=some (.ref fa)->∃fd:FuncData,(∀(s:bz) (u:ba),BindsTo s fd #[[u],[]] [(x,u)])/\∀base:Heap,(K w.params).In base->base.Ns mainGlobals mg->bT l.prog w (K w.params) mg base (CX w) k fa fd [x] (sp w))(E:∀(w:cw) (H:Hp) (a:Addr) (ns:List Int),ns.length<=n->dz (K w.params) H a (ns.map V.int)->sp w [.ref a] H (λv _=>v=.bl true) λ_ _ _=>False)(O:∀(w:cw) (H:Hp) (s:bz) (e:ba) (s':bz),CX w [] H s (λ_ _ _=>False) e s'->False):W.WalkO q loose XP YP l.row.toRowW d [] (λf vs=>PySem.call f vs):=by refine Att.aLA hn N λw s₀ S mg mb fa o pm cd ae a vs ns G r ho hd aa L D B A hg=>?_;have Z:=hY w _ r;exists fd,hb,hF,F w mg fa _ (λb o e=>Z b o (sub _ b o e)) G.T.g L;exact VA Z (sub w.params) (Vz (tb w.params)) (nd w.params) G.T.g G.T.b G.T.builtins G.T.nolimit G.T.bmain hg D B (ir A J) hr hF hb (λH hS=>E w H a ns A hS) λH e s'=>O w H S e s'
noncomputable def kq(K:Fg)(x:Str):Option Addr:=match W.nsIn K mainGlobals x with|some (some (.ref a))=>some a|_=>none
def fR{K:Fg}{a:Addr}(h:kq K x=some a):W.nsIn K mainGlobals x=some (some (.ref a)):=by unfold kq at h;split at h;{rename_i b e;cases h;exact e};cases h
noncomputable def zm(key:Str):Addr×Obj->Bool|(_,⟨.type t,_,.func fd,_⟩)=>t == "function" && fd.qualname==key|_=>false
noncomputable def ip(K:Fg)(key:Str):Addr:=match K.find? (zm key)with|some p=>p.1|none=>0
noncomputable def zn(fd:FuncData)(b:List Stmt):Stmt:=.FunctionDef fd.name fd.params b [] none [] fd.scope none fd.name #[0,0,0,0]
noncomputable def zo(p:Arguments)(ps:List Str):Bool:=p.posonlyargs.isEmpty&&(p.args.map (·.arg)==ps)&&p.vararg.isNone&&p.kwonlyargs.isEmpty&&p.kwarg.isNone&&decide ps.Nodup
noncomputable def Jn(K:Fg)(nm:Option Str)(key:Str)(a:Addr)(ps:List Str)(f:Stmt->Bool)(fd:FuncData)(b:List Stmt):Bool :=
 (nm.getD fd.name==fd.name)&&((fd.qualname==key)&&(fd.globals==mainGlobals&&(fd.closure.isEmpty&&((fd.defaults == .none)&&(fd.builtins==builtinsNs&&(W.codeIn K fd.code key&&(W.keepIn K (.ref a)&&(zo fd.params ps&&f (zn fd b)))))))))
noncomputable def mV(K:Fg)(nm:Option Str)(key:Str)(a:Addr)(ps:List Str)(f:Stmt->Bool):Bool:=match K.lookup a with
 |some ⟨_,_,.func fd,_⟩=>(match fd.body with|.stmts b=>Jn K nm key a ps f fd b|_=>false)
 |_=>false
def wI{K:Fg}{nm:Option Str}{key:Str}{a:Addr}{f:Stmt->Bool}(h:mV K nm key a ps f=true):∃name st fd,nA K name key st a fd/\cV K fd ps []/\f st=true/\nm.getD name=name/\∀us:List ba,us.length=ps.length->bindArgs fd #[us,[]]=pure (ps.zip us):=by unfold mV at h;split at h;{rename_i oc od fd sl el;split at h;{rename_i b eb;unfold Jn at h;simp only[cc]at h;exists h1,Z,V,T,S,O,N,L,o,r,h;exists name,qualname,params,body,scope,globals,closure,defaults,d,D,A,an,code,ct,bl,fd;dsimp only at *;obtain rfl:=eb;obtain rfl:=ck.mp Z;obtain rfl:=ck.mp V;obtain rfl:=sr.mp T;obtain rfl:=ck.mp S;obtain rfl:=ck.mp O;unfold zo at o;simp only[cc,sr,ck,Option.isNone_iff_eq_none,fe]at o;obtain⟨⟨⟨⟨⟨p1,p2⟩,J⟩,G⟩,F⟩,E⟩:=o;have B:=GU (fd:=W.fnOf name qualname params b scope .none d D A an code ct) p1 p2 J G F rfl E;exact#[name,_,_,Oo (st:=zn #[name,qualname,params,.stmts b,scope,mainGlobals,[],.none,d,D,A,an,code,ct,builtinsNs] b) el N L,.all B,r,ck.mp h1,B]};cases h};cases h
noncomputable def Jo(K:Fg)(x:Str):GV->Bool
 |.con (.s y)=>(match W.nsIn K mainGlobals x with|some (some (.str z _))=>z==y|_=>false)
 |.con (.i n)=>(match W.nsIn K mainGlobals x with|some (some (.int z _))=>z==n|_=>false)
 |.con (.t _)=>true|.no=>W.nsIn K mainGlobals x==some none|.fn _=>W.nsIn K mainGlobals x==some (some (.ref (ip K x)))|.cls=>true
noncomputable def rV(K:Fg)(C:Addr):Bool:=W.plainGet K C Str.empty&&(W.hasDictIn K C&&(W.plainOver K C&&W.findIn K (.ref C) "__setattr__" == some (some (.builtin "object.__setattr__"))))
def Jp{K:Fg}{C:Addr}(h:rV K C=true):nh K C:=by unfold rV at h;simp only[cc,ck]at h;exact#[h.1,h.2.1,h.2.2.1,h.2.2.2]
noncomputable def wJ(K:Fg)(C:Addr)(x:Str×Str×Nat):Bool:=W.findIn K (.ref C) x.1==some (some (.ref (ip K x.2.1)))&&(W.isFn K (.ref (ip K x.2.1))&&W.keepIn K (.ref (ip K x.2.1)))
noncomputable def Ex(K:Fg)(i:CI):Bool:=match kq K i.name with|some C=>rV K C&&(i.meths.all (wJ K C)&&i.flds.all λf=>W.findIn K (.ref C) f==some none)|none=>false
noncomputable def zp(K:Fg)(c:Str):Bool:=match kq K c with|some C=>W.makesIn K C&&(W.findIn K (.ref C) "__init__" == some (some (.builtin "object.__init__"))&&W.keepIn K (.ref C))|none=>false
noncomputable def B6(K:Fg)(C:Addr):Bool:=W.findIn K (.ref C) "__class__" == some (some (.builtin "object.__class__"))&&(W.specialIn K (.builtin "object.__class__") "__get__" == some (some (.builtin "getset_descriptor.__get__"))&&(W.takesIn K (.builtin "object.__class__")==some true&&W.mroIn K C (.type "object")==some true))
noncomputable def zq(K:Fg)(cl:List CI)(c:Str):Bool:=match kq K c with
 |some C=>["NoneType","bool","int","str","tuple","list","dict"].all (λt=>W.kitOne K (.type t) (.ref C)==some false)&&cl.all λi=>match kq K i.name with|some a=>rV K a&&(B6 K a&&W.kitOne K (.ref a) (.ref C)==some (i.ups.contains c))|none=>false
 |none=>false
noncomputable def inB(K:Fg)(g:MG)(x:Str×ID):Bool:=match kq K x.2.c with|some C=>W.makesIn K C&&(W.findIn K (.ref C) "__init__" == some (some (.ref (ip K x.1)))&&(W.isFn K (.ref (ip K x.1))&&(W.keepIn K (.ref C)&&mV K none x.1 (ip K x.1) x.2.ps (λst=>yv g st x.2))))|none=>false
noncomputable def Ey(K:Fg)(x:(Str×Str)×Bool):Bool:=match kq K x.1.1,kq K x.1.2 with|some C,some a=>W.mroIn K a (.type "BaseException")==some true&&(W.typeIn K (.ref a)==some (.type "type")&&W.mroIn K C (.ref a)==some x.2)|_,_=>false
noncomputable def Jq(K:Fg)(C:Addr):Bool:=W.findIn K (.ref C) "__getattribute__" == some (some (.builtin "BaseException.__getattribute__"))&&(W.findIn K (.ref C) "__getattr__" == some none&&(W.mroIn K C (.type "BaseException")==some true&&B6 K C))
noncomputable def zr(K:Fg)(n:Str):Option V:=match W.nsIn K mainGlobals n with
 |some (some (.ref C))=>some (.ref C)|some none=>if n == "__name__" then none else(match bootBuiltins n with|some (.type T)=>some (.ty T)|_=>none)
 |_=>none
noncomputable def Ez(K:Fg)(x:(Str×Str)×Bool):Bool:=match kq K x.1.1,zr K x.1.2 with|some C,some cv=>Jq K C&&W.kitOne K (.ref C) (FN cv)==some x.2|_,_=>false
noncomputable def Jr(K:Fg)(c:Str):Bool:=match kq K c with|some C=>W.excIn K C ww "ValueError.__new__"|none=>false
noncomputable def B7(K:Fg)(g:MG)(t:TB):Bool :=
 g.G.all (λx=>Jo K x.1 x.2)&&(BL g.G t.T&&(t.T.all (λx=>mV K (if x.1 == "law" then some "law" else none) x.1 (ip K x.1) x.2.ps (λst=>jR g x.1 st x.2))&&(t.I.all (inB K g)&&(g.mk0.all (zp K)&&(Hy g.mki t.I&&(g.iso.all (zq K t.cl)&&(t.cl.all (Ex K)&&(yx t.cl t.T&&(t.xt.all (Ey K)&&(t.xi.all (Ez K)&&(g.xcs.all (Jr K)&&(g.xns.all (λn=>(zr K n).isSome)&&(vW g t.T&&(vY g t.T&&vX g t.T))))))))))))))
section
variable{K:Fg}(a:K.In h)(G:h.Ns mainGlobals mg)
include a G
theorem Js:∀{l:List (Str×GV)},(∀x tb,(x,GV.con (.t tb))∈l->jD w K mg x tb)->l.all (λx=>Jo K x.1 x.2)=true->oR w K mg (ip K) l|[],_,_=>trivial|(x,v)::l,d,b=>by rw[jk,cc]at b;refine#[?_,Js (λx tb hx=>d x tb (cs hx)) b.2];have b:=b.1;dsimp only at b;cases v with|con c=>(cases c with|s y=>((have b:(match W.nsIn K mainGlobals x with|some (some (.str z _))=>z==y|_=>false)=true:=b);split at b;{rename_i z t e;cases ck.mp b;exact#[t,k0 a G e]};cases b)|i y=>((have b:(match W.nsIn K mainGlobals x with|some (some (.int z _))=>z==y|_=>false)=true:=b);split at b;{rename_i z t e;cases ck.mp b;exact#[t,k0 a G e]};cases b)|t tb=>exact d x tb cj)|fn n=>exact k0 a G (ck.mp b)|no=>exact W.mg_none_of a G (ck.mp b)|cls=>trivial
def Jt{n:Str}{cv:V}(e:zr K n=some cv):qJ mg n cv:=by unfold zr at e;split at e;{rename_i C q;cases e;exact .inl #[C,k0 a G q,rfl]};{rename_i q;split at e;{cases e};rename_i hn;split at e;{rename_i T hb;cases e;exact .inr #[W.mg_none_of a G q,by simpa using hn,T,hb,rfl]};cases e};cases e
end
theorem Ju{K:Fg}{g:MG}:∀{l:List (Str×FD)},l.all (λx=>mV K (if x.1 == "law" then some "law" else none) x.1 (ip K x.1) x.2.ps (λst=>jR g x.1 st x.2))=true->oP K g (ip K) l|[],_=>trivial|(x,d)::l,b=>by rw[jk,cc]at b;exists name,st,fd,F,a,ok,_,_,wI b.1;exact#[#[name,st,fd,F,a,ok],Ju b.2]
theorem Jv{K:Fg}{C:Addr}:∀{l:List (Str×Str×Nat)},l.all (wJ K C)=true->mR K (ip K) C l|[],_=>trivial|(m,key,n)::l,b=>by rw[jk,cc]at b;have B:=b.1;unfold wJ at B;simp only[cc,ck]at B;exact#[#[B.1,B.2.1,B.2.2],Jv b.2]
theorem Jw{K:Fg}{C:Addr}:∀{l:List Str},l.all (λf=>W.findIn K (.ref C) f==some none)=true->mS K C l|[],_=>trivial|f::l,b=>by rw[jk,cc]at b;exact#[ck.mp b.1,Jw b.2]
theorem Jx{K:Fg}:∀{l:List CI},l.all (Ex K)=true->oS K (ip K) l|[],_=>trivial|i::l,b=>by rw[jk,cc]at b;refine#[?_,Jx b.2];have b:=b.1;unfold Ex at b;split at b;{rename_i C e;simp only[cc]at b;exact#[C,fR e,Jp b.1,Jv b.2.1,Jw b.2.2]};cases b
section
variable{K:Fg}(o:K.In h)(G:h.Ns mainGlobals mg)
include o G
theorem Jy{g:MG}:∀{l:List (Str×ID)},l.all (inB K g)=true->oQ K mg g l|[],_=>trivial|(x,d)::l,b=>by rw[jk,cc]at b;refine#[?_,Jy b.2];have b:=b.1;unfold inB at b;split at b;{rename_i C e;simp only[cc,ck]at b;exists D,A,r,f,B,b;exists name,st,fd,F,a,ok,_,_,wI B;exact#[name,st,C,_,fd,fR e,k0 o G (fR e),#[D,A,r,f],F,a,ok]};cases b
omit o G in
theorem wK{c x:Str}{v:Bool}:∀{l:List ((Str×Str)×Bool)},l.lookup (c,x)=some v->((c,x),v)∈l|[],e=>by cases e|(y,b)::l,e=>by rw[h7]at e;split at e;{rename_i a;cases e;rw[<- ck.mp a];exact cj};exact cs (wK e)
def zt{l:List ((Str×Str)×Bool)}(b:l.all (Ey K)=true):uQ K mg (λc x=>l.lookup (c,x)):=λc x v e=>by have b:=fi.mp b ((c,x),v) (wK e);unfold Ey at b;split at b;{rename_i C d E a;simp only[cc,ck]at b;exact#[C,d,fR E,k0 o G (fR E),k0 o G (fR a),b.1,b.2.1,b.2.2]};cases b
def zu{l:List ((Str×Str)×Bool)}(b:l.all (Ez K)=true):uR K mg (λc x=>l.lookup (c,x)):=λc x v e=>by have b:=fi.mp b ((c,x),v) (wK e);unfold Ez at b;split at b;{rename_i C cv e1 e2;unfold Jq B6 at b;simp only[cc,ck]at b;obtain⟨⟨E,D,A,r,f,d,a⟩,B⟩:=b;exact#[C,cv,fR e1,#[E,D,r,A,a,f,d],Jt o G e2,B]};cases b
def zv{g:MG}{t:TB}(b:B7 K g t=true)(ht:∀x tb,(x,GV.con (.t tb))∈g.G->jD w K mg x tb):GF w K mg g t (ip K):=by unfold B7 at b;simp only[cc]at b;exists N,b2,b3,b4,b5,b6,b7,b8,b9,L,J,F,E,D,A,B,b;refine#[Js o G ht N,b2,Ju b3,Jy o G b4,λc r=>?_,b6,λc r=>?_,Jx b8,b9,zt o G L,zu o G J,λc r=>?_,λn hn=>?_,D,A,B,λf d e hd=>?_,λf a b h O=>?_];{have b:=fi.mp b5 c r;unfold zp at b;split at b;{rename_i C e;simp only[cc,ck]at b;exact#[C,fR e,k0 o G (fR e),b.1,b.2.1,b.2.2]};cases b};{have b:=fi.mp b7 c r;unfold zq at b;split at b;{rename_i C e;rw[cc]at b;refine#[C,k0 o G (fR e),λt ht=>ck.mp (fi.mp b.1 t ht),λi S=>?_];have b:=fi.mp b.2 i S;split at b;{rename_i C' T;unfold B6 at b;simp only[cc,ck]at b;obtain⟨c1,⟨c2,c3,c4,Z⟩,V⟩:=b;exact#[C',fR T,Jp c1,c2,c3,c4,Z,V]};cases b};cases b};{have b:=fi.mp F c r;unfold Jr at b;split at b;{rename_i C e;exact#[C,k0 o G (fR e),b]};cases b};{have b:=fi.mp E n hn;cases e:zr K n with|none=>rw[e]at b;cases b|some cv=>exact#[cv,Jt o G e]};{exists n,l,UX B e hd;have b:=fi.mp N _ (nr l);have b:(W.nsIn K mainGlobals f==some (some (.ref (ip K f))))=true:=b;exact ck.mp b};exists d,_,_,_,_,_,l,UY A O;have b:=fi.mp N _ (nr l);have b:(W.nsIn K mainGlobals f==some (some (.ref (ip K f))))=true:=b;exact ck.mp b
end
noncomputable def wL(K:Fg)(g:MG)(t:TB):Bool:=B7 K g t&&W.nsIn K mainGlobals "law" == some (some (.ref (ip K "law")))
theorem Jz{x:Str}{d:FD}:∀{l:List (Str×FD)},l.lookup x=some d->(x,d)∈l|[],e=>by cases e|(y,b)::l,e=>by rw[h7]at e;split at e;{rename_i a;cases e;rw[<- ck.mp a];exact cj};exact cs (Jz e)
def walkG{l:W.OpenLaw}{q:e7}{d:DefRec}{K Kf:Params->Fg}{g:MG}{t:TB}{kk:Nat}{e:FD}(hn:l.most=some 63)(D:d.params.defaults=[])(B:d.name="law")(O:∀(w:World) (h:Heap),YP w h->(Kf w.params).In h)(sub:∀P b o,(K P).lookup b=some o->(Kf P).lookup b=some o)(nd:∀P b o,(b,o)∈K P->(K P).lookup b=some o)(tb:∀P,rT (K P) (Kf P)=true)(b:∀P,wL (K P) g t=true)(ht:∀(w:World) (mg:fg) (h:Heap),(K w.params).In h->h.Ns mainGlobals mg->∀x tb,(x,GV.con (.t tb))∈g.G->jD w (K w.params) mg x tb)(J:t.T.lookup ("law":Str)=some e)(hps:e.ps=[x])(L:bF (kk+1) callerA)(main:∀ns:List Int,ns.length<=63->(WT t (kk+1)).Φ "law" (pX ns)=.ok .fz (.bl true)):W.WalkO q loose XP YP l.row.toRowW d [] (λf vs=>PySem.call f vs):=by
 refine VB (K:=K) (Kf:=Kf) (n:=63) (k:=kk+1) (x:=x) (CX:=λw=>eS l.prog w) (sp:=λw=>wA (K w.params) ((WT t (kk+1)).Φ ("law":Str))) hn (by decide) D L O sub nd tb (λw mg fa h E G A=>?_)
  (λ_ _ a ns N S=>#[a,ns,rfl,S,main ns N,λ_=>rfl]) λ_ _ _ _ _ z=>by exists _,_,_,_,_,_,_,_,_,_,z,z;exact z
 have b:=b w.params;unfold wL at b;rw[cc,ck]at b;have f:=zv (w:=w) E G b.1 (ht w mg h E G);have V:=k0 E G b.2;rw[B,V]at A;cases A;have b3:t.T.all (λx=>mV (K w.params) (if x.1 == "law" then some "law" else none) x.1 (ip (K w.params) x.1) x.2.ps (λst=>jR g x.1 st x.2))=true:=by have:=b.1;unfold B7 at this;simp only[cc]at this;exact this.2.2.1
 exists name,st,fd,F,hb,ok,r,Z,wI (fi.mp b3 (("law":Str),e) (Jz J));have r:name="law":=r.symm;subst r;refine#[fd,λs u=>.of_eq ?_,λbase _ _=>?_]
 . have:=Z [u] (by rw[hps];rfl);rw[hps]at this;exact this
 . have:=U5 (P:=l.prog) (base:=base) f kk F J ok (by rw[hps];rfl);rw[hps]at this;exact this
end D3
namespace Tp
open PySem.W PySem.Calls
theorem il(l:List Stmt)(P:Params)(b:Addr):∀as:List Addr,(KK l as P).lookup b=if b∈as then some (((lay P l (sA P)).bt.get b).getD default)else none|[]=>rfl|a::as=>by show((a,((lay P l (sA P)).bt.get a).getD default)::KK l as P).lookup b=_;rw[h7,il l P b as];by_cases h:b=a;{subst h;simp};have:(b==a)=false:=lz.mpr h;rw[this];simp[h]
def KK_sub(l:List Stmt)(as ts:List Addr)(P:Params)(b:Addr)(o:Obj)(h:(KK l as P).lookup b=some o):(KK l (as++ts) P).lookup b=some o:=by rw[il]at h ⊢;split at h;{rename_i a;rw[al (oq _ a)];exact h};cases h
def KK_nd(l:List Stmt)(as:List Addr)(P:Params)(b:Addr)(o:Obj)(h:(b,o)∈KK l as P):(KK l as P).lookup b=some o:=by rw[il];unfold KK at h;exists a,ha,e,de.mp h;cases e;rw[al ha]
def left{p:e7}{r:OpenRow}{l:List Stmt}{as:List Addr}{f:Code}(a:behindTheImports p=l)(pre:∀(w:cw) (os:OsState),topGo treeTable p w 11 an 12 #[boot_heap w.params,#[],boot_drawn,boot_toks,os] (topStub p)=some ((sh w.params (sA w.params) 15 187 os).abs,#[denote treeTable (cd p),cd p,z0,[topFrame z0]]))(blk:∀(w:cw) (s:bz),segRun treeTable p w 11 an 1 1 s (blockOf l (ev p) (cd p) z0 [topFrame z0])=some (.next,s,cd p,z0))(run:∀(w:cw) (os:OsState),go treeTable p w 1000 l (sh w.params (sA w.params) 15 187 os) (cd p) z0=some (sh w.params (lay w.params l (sA w.params)) n k os,f,q'))(le:Nat.ble (12+(1+ns 1000 2 l)) 1000000=true)(d:opening p=plainProg p.main.scope.names)(E:∀s,fenceModules? p s=some s)(yK:∀w:cw,(λos=>((staticsOk (importedModules p.main.body) (boot_heap w.params) (H1 l n w.params)&&namesBound p (H1 l n w.params)&&gensDone (S1 l n k w.params os)&&laidKept (boot_heap w.params) (H1 l n w.params)),openSeen (vw p) (los l) (importedModules p.main.body) (xt r) true (S1 l n k w.params os),(hk l as).obs (S1 l n k w.params os)))=λ_=>(true,openGood (vw p) (los l),(hk l as).val w)):LeftO p (vw p) (los l) (xt r) (hk l as).obs (hk l as).val 1000000 :=
 LeftO.of_pieces (H₀:=boot_heap) (H₁:=H1 l n) (m₀:=11) (ann:=an) (boot_open d rfl E) zj (qw a pre blk run) le yK
def head{p:OpenLaw}{l:List Stmt}{as:List Addr}{d:DefRec}(left:LeftO p.prog (vw p.prog) (los l) (xt p.row) (hk l as).obs (hk l as).val 1000000)(S:p.row.wellSaid=true)(E:defOf (vw p.prog) p.name=some (d,[]))(D:p.prog.theDef p.name=some (d.params,d.body,d.scope))(B:kwWritten? d.params.kwonlyargs d.params.kw_defaults=some [])(A:(!p.row.writes||p.row.records.isEmpty)=true)(ok:(chainsOk (vw p.prog)&&opensWell p.prog&&(frees p.row.toRowW&&p.row.within.isEmpty))=true)(o:p.prog.bare)(a:p.row.toRowW.promised)(call:WalkO (vw p.prog) (los l) (XL (vw p.prog) []) (hk l as).says p.row.toRowW d [] λf vs=>PySem.call f vs):p.row.Holds :=
 holds_open (r:=p.row) (XP:=XL (vw p.prog) []) (YP:=(hk l as).says) left (hk l as).of (hk l as).keeps (λs e=>xl_of s (Bool.and_eq_true_iff.mp e).1) XL.keeps E D B
  (λs e=>recFacts_of (Bool.and_eq_true_iff.mp e).2) A S ok o a call
end Tp
namespace D3
open PySem.Calls
noncomputable def rW:Obj->List DictEntry|⟨.type t,none,.dict es _,S⟩=>if t="dict" /\ S.size=0 then es.toList else[]|_=>[]
def VC{o:Obj}(h:rW o≠[]):∃es ep,o=#[.type "dict",none,.dict es ep,#[]]/\rW o=es.toList:=by unfold rW at h ⊢;split at h;{rename_i t es ep sl;split at h;{rename_i a;exists rfl,hs,a;obtain rfl:=CW hs;exact#[es,ep,rfl,rfl]};exact absurd rfl h};exact absurd rfl h
noncomputable def fT(K:Fg)(x:Str):List DictEntry:=match kq K x with
 |some a=>(match K.lookup a with|some o=>rW o|none=>[])
 |none=>[]
def VD{K:Fg}(h:fT K x≠[]):∃a es ep,kq K x=some a/\K.lookup a=some #[.type "dict",none,.dict es ep,#[]]/\fT K x=es.toList:=by unfold fT at h ⊢;cases ea:kq K x with|none=>rw[ea]at h;exact absurd rfl h|some a=>rw[ea]at h;dsimp only at h ⊢;cases E:K.lookup a with|none=>rw[E]at h;exact absurd rfl h|some o=>rw[E]at h;dsimp only at h ⊢;exists es,ep,rfl,e,VC h;exact#[a,es,ep,rfl,E,e]
noncomputable def kY(P:Params):List (Str×Str)->List DictEntry->List DictEntry|(z,_)::r,⟨_,.str _ t,.ref a⟩::es=>#[PyData.keyHash P z,.str z t,.ref a]::kY P r es|_,_=>[]
noncomputable def pj(K:Fg):List (Str×Str)->List DictEntry->Bool|[],[]=>true|(_,f)::r,⟨_,.str _ _,.ref a⟩::es=>W.nsIn K mainGlobals f==some (some (.ref a))&&pj K r es|_,_=>false
theorem JA{w:cw}{K:Fg}:∀{tb:List (Str×Str)}{es:List DictEntry},es=kY w.params tb es->pj K tb es=true->kG w K tb es|[],[],_,_=>rfl|[],⟨_,.str _ _,.ref _⟩::es,e,_=>by unfold kY at e;cases e|(z,f)::r,es,e,ok=>by unfold pj at ok;split at ok;{rename_i d o;cases o};{rename_i F B D y t a es' d;cases d;rw[cc,ck]at ok;unfold kY at e;injection e with A E;exact#[t,a,es',congrArg (·::es') A,ok.1,JA E ok.2]};cases ok
def VE{K:Fg}:∀{tb:List (Str×Str)},tb≠[]->pj K tb []=false|[],h=>absurd rfl h|p::r,_=>by unfold pj;rfl
def JB{K:Fg}{tb:List (Str×Str)}(X:K.In h)(G:h.Ns mainGlobals mg)(e:fT K x=kY w.params tb (fT K x))(ok:pj K tb (fT K x)=true)(ne:tb≠[])(nd:(tb.map (·.1)).Nodup):jD w K mg x tb:=by(have B:fT K x≠[]:=λz=>by rw[z,VE ne]at ok;cases ok);have t:=JA e ok;exists a,es,ep,ea,d,E,VD B;rw[E]at t;exact#[#[a,_,es,ep,k0 X G (fR ea),d,#[rfl,rfl,rfl],rfl,t],nd]
def aUT{g:MG}{K:Params->Fg}{y d:Str}{a T:List (Str×Str)}(b:(g.G.all λx=>match x.2 with|.con (.t tb)=>(x.1==y&&tb==a)||(x.1==d&&tb==T)|_=>true)=true)(e:∀P,fT (K P) y=kY P a (fT (K P) y))(ok:∀P,pj (K P) a (fT (K P) y)=true)(e':∀P,fT (K P) d=kY P T (fT (K P) d))(o:∀P,pj (K P) T (fT (K P) d)=true)(ne:a≠[])(nd:(a.map (·.1)).Nodup)(N:T≠[])(f:(T.map (·.1)).Nodup)(w:cw)(mg:fg)(h:Heap)(X:(K w.params).In h)(G:h.Ns mainGlobals mg)(x:Str)(tb:List (Str×Str))(r:(x,GV.con (.t tb))∈g.G):jD w (K w.params) mg x tb:=by have:=fi.mp b _ r;dsimp only at this;rw[jx,cc,cc,ck,ck,ck,ck]at this;rcases this with⟨rfl,rfl⟩|⟨rfl,rfl⟩;{exact JB X G (e w.params) (ok w.params) ne nd};exact JB X G (e' w.params) (o w.params) N f
end D3
namespace K43
open D3
abbrev aQ(ps U:List Str)(b:List D3.S):FD:=#[ps,ps++U,b,[]]
abbrev n1:E:=.int 1
abbrev n0:E:=.int 0
abbrev n2:E:=.int 2
abbrev n3:E:=.int 3
abbrev n5:E:=.int 5
abbrev n8:E:=.int 8
abbrev sf(d:α):Option (Bool×α):=some (false,d)
abbrev si(i:Int):Option (Bool×D):=some (false,.int i)
noncomputable abbrev v0:E:=.var 0
noncomputable abbrev v1:E:=.var 1
noncomputable abbrev v2:E:=.var 2
abbrev v3:E:=.var 3
abbrev v4:E:=.var 4
abbrev v5:E:=.var 5
abbrev v6:E:=.var 6
abbrev v7:E:=.var 7
abbrev v8:E:=.var 8
abbrev v9:E:=.var 9
abbrev qx:E:=.var 10
abbrev zw:E:=.var 11
abbrev JC:E:=.var 12
abbrev VF:E:=.var 13
abbrev B8:E:=.var 14
abbrev B9:E:=.var 15
abbrev zx:E:=.var 16
abbrev VG:E:=.var 17
abbrev VH:E:=.var 18
abbrev X9:E:=.var 19
abbrev Ya:E:=.var 20
def wM:List D3.S:=[.setC 3 false (.comp (.meth v0 "plus" [(.ix v1 v2),(.ix v1 (.bin .Add v2 n1))]) (.rng3 n0 (.bin .Sub (.bcall .len [v2]) n1) n2) [] [0,2] (.nm 2) 1),.ite (.cmp .Eq (.bin .Mod (.bcall .len [v2]) n2) n1) [.app 3 (.ix v2 (.neg n1))] [],.frzV 3,.set 2 v3]
def rX:List D3.S:=[.expr (.call "refuse_missing" 2 [v2,(.ix v1 n0)])]
def JE:List D3.S:=[.expr (.call "refuse_missing" 2 [v3,v1]),.expr (.call "refuse_twice" 2 [v0,v2])]
def rY:List D3.S:=[.expr (.call "refuse_twice" 2 [v2,v3])]
def gJ:List D3.S:=[.ite (.andL [(.cmp .Gt (.bcall .len [v1]) n0),(.cmp .Eq (.ix (.ix v1 (.neg n1)) n0) v2),(.cmp .Eq (.ix (.ix v1 (.neg n1)) n1) v3)]) [.lput 1 (.neg n1) (.tup [v2,v3,(.frz (.bin .Add (.ix (.ix v1 (.neg n1)) n2) v4))])] [.app 1 (.tup [v2,v3,v4])]]
def fU:List D3.S:=[.set 10 (.frz (.bin .Add (.bin .FloorDiv v0 (.bin .Add (.int 7) (.bin .Mult (.int 6) v9))) (.bin .Mult (.int 11) v9))),.ite (.cmp .Eq v9 v5) [.set 10 (.frz (.bin .Add (.bin .FloorDiv v0 (.int 25)) v7))] [],.ite (.cmp .Eq v9 n0) [.set 8 (.frz (.bin .Add v8 (.ix v2 (.bin .Mod qx (.int 26)))))] [.set 8 (.frz (.bin .Add v8 (.ix v3 (.bin .Mod qx (.int 36)))))]]
def rZ:List D3.S:=[.set 8 (.str ""),.for (.rng1 v4) (.nm 9) fU,.app 6 v8]
def r6:List D3.S:=[.set 5 (.tup [(.frz (.tcall .tuple [(.srtw v2)])),v3]),.nput 1 v5 (.bin .Add (.nget v1 v5 n0) v4)]
def i6:List D3.S:=[.ite (.tru (.bcall .isinstance [v2,(.ty .str)])) [.app 1 (.tup [n1,n0,v2])] [.app 1 (.tup [n0,v2,(.str "")])]]
def wN:List D3.S:=[.ite (.not (.tru (.call "_law_alike" 2 [(.ix v0 v2),(.ix v1 v2)]))) [.ret (.bl false)] []]
def oV:List D3.S:=[.cmu 4 "_law_put" 4 [v2,(.frz (.tcall .tuple [(.comp (.ix v0 v1) (.items v1) [] [5] (.nm 1) 1)])),v6]]
def r8:List D3.S:=[.set 7 (.tup [(.ix v3 (.bin .Mod v6 n3)),(.ix v3 (.bin .Mod (.bin .FloorDiv v6 n3) n3)),(.ix v3 (.bin .Mod (.bin .FloorDiv v6 (.int 9)) n3))]),.cmu 5 "_law_put" 4 [v1,v7,(.frz (.call "_law_note" 3 [v1,(.frz (.bin .FloorDiv v6 (.int 27))),v2]))]]
def wO:List D3.S:=[.ret (.andL [(.bcall .isinstance [v0,(.ty .int)]),(.not (.bcall .isinstance [v0,(.ty .bool)]))])]
def VI:List D3.S:=[.ite (.cmp .Eq (.bcall .len [v1]) n0) [.ret (.meth v0 "nought" [])] [],.set 2 (.frz (.tcall .list [v1])),.whl 1000000 (.cmp .Gt (.bcall .len [v2]) n1) wM,.ret (.ix v2 n0)]
def JF:List D3.S:=[.setC 2 true (.comp (.tup [v2,(.frz (.call "poured" 2 [v0,(.nix v1 v2)]))]) (.nkeys v1) [] [0,1] (.nm 2) 1),.ret (.call "without_noughts" 2 [v0,v2])]
def JG:List D3.S:=[.set 2 (.frz (.meth v0 "nought" [])),.ret (.comp (.tup [v1,v2]) (.items v1) [(.cmp .NotEq v2 v0)] [2] (.tp [(.nm 1),(.nm 2)]) 2)]
def VJ:List D3.S:=[.ite (.tru (.call "is_whole" 1 [v0])) [.ret (.tup [n0,v0,(.str "")])] [],.ret (.tup [n1,n0,v0])]
def VL:List D3.S:=[.ret (.comp (.call "rank" 1 [v0]) (.items v0) [] [] (.nm 0) 1)]
def VM:List D3.S:=[.grp 2 (.for (.items v1) (.tp [(.nm 3),(.nm 4)]) (.app v3 v4)),.nfrz 2,.ret (.tcall .tuple [(.srtl (.call "poured_groups" 2 [v0,v2]) (.call "rank_of_row" 1 [(.ix v0 n0)]))])]
def JH:List D3.S:=[.ite (.cmp .In (.ix v0 v1) (.slice v0 none (some v1))) [.never] []]
def wP:List D3.S:=[.ret (.comp (.tidx v0 v1) (.items v0) [] [1] (.nm 1) 1)]
def wQ:List D3.S:=[.ret (.tcall .tuple [(.comp (.ix v0 v1) (.items v0) [] [1] (.nm 1) 1)])]
def iE:List D3.S:=[.set 3 (.ix v0 n0),.ite (.cmp .Eq v3 (.str "not")) [.ret (.not (.call "passes" 3 [(.ix v0 n1),v1,v2]))] [],.ite (.cmp .Eq v3 (.str "both")) [.ret (.andL [(.call "passes" 3 [(.ix v0 n1),v1,v2]),(.call "passes" 3 [(.ix v0 n2),v1,v2])])] [],.ite (.cmp .Eq v3 (.str "either")) [.ret (.orL [(.call "passes" 3 [(.ix v0 n1),v1,v2]),(.call "passes" 3 [(.ix v0 n2),v1,v2])])] [],.set 4 (.frz (.call "value_of" 3 [(.ix v0 n1),v1,v2])),.set 5 (.frz (.call "value_of" 3 [(.ix v0 n2),v1,v2])),.ite (.cmp .Eq v3 (.str "same")) [.ret (.cmp .Eq v4 v5)] [],.ret (.ltn (.call "rank" 1 [v4]) (.call "rank" 1 [v5]))]
def mW:List D3.S:=[.ite (.cmp .Eq (.ix v0 n0) (.str "of")) [.ret (.ix v2 (.tidx v1 (.ix v0 n1)))] [],.ret (.ix v0 n1)]
def jU:List D3.S:=[.set 1 (.ix v0 n0),.ite (.cmp .Eq v1 (.str "not")) [.ret (.call "columns_in" 1 [(.ix v0 n1)])] [],.ite (.cmp .In v1 (.tup [(.str "both"),(.str "either")])) [.ret (.bin .Add (.call "columns_in" 1 [(.ix v0 n1)]) (.call "columns_in" 1 [(.ix v0 n2)]))] [],.ret (.comp (.ix v0 n1) (.items (.slice v0 (some n1) none)) [(.cmp .Eq (.ix v0 n0) (.str "of"))] [] (.nm 0) 1)]
def VN:List D3.S:=[.ite (.cmp .Eq (.ix v0 n0) (.str "table")) [.ret (.tup [])] [],.ite (.cmp .In (.ix v0 n0) (.tup [(.str "join"),(.str "pour"),(.str "leave")])) [.ret (.tup [(.ix v0 n1),(.ix v0 n2)])] [],.ret (.tup [(.ix v0 n1)])]
def JI:List D3.S:=[.ite (.cmp .NotIn v0 v1) [.never] []]
def r9:List D3.S:=[.for (.items (.call "columns_in" 1 [(.ix v0 n2)])) (.nm 2) rX,.ret (.ix v1 n0)]
def JJ:List D3.S:=[.for (.enum1 v0) (.tp [(.nm 2),(.nm 3)]) JE,.retV 0]
def sC:List D3.S:=[.ret (.call "kept" 2 [(.ix v0 n2),(.ix v1 n0)])]
def sD:List D3.S:=[.set 2 (.ix v0 n2),.ite (.cmp .NotEq (.bcall .len [v2]) (.bcall .len [(.ix v1 n0)])) [.never] [],.for (.rng1 (.bcall .len [v2])) (.nm 3) rY,.retV 2]
def VO:List D3.S:=[.ite (.cmp .Eq (.ix v0 n0) (.str "table")) [.ret (.call "columns_of_table" 2 [(.ix v0 n1),v1])] [],.setC 2 true (.comp (.call "columns_of" 2 [v1,v0]) (.items (.call "askings_within" 1 [v0])) [] [1] (.nm 1) 1),.set 3 (.deed "DEEDS_askings" [("pick","columns_of_pick"),("keep","columns_of_keep"),("call","columns_of_call"),("join","columns_of_join"),("pour","columns_of_pour"),("total","columns_of_total"),("leave","columns_of_leave")] (.ix v0 n0)),.ret (.callv 3 ["columns_of_pick","columns_of_keep","columns_of_call","columns_of_join","columns_of_pour","columns_of_total","columns_of_leave"] 2 [v0,v2])]
def VP:List D3.S:=[.ite (.din true v0 v1) [.never] [],.ret (.dix v1 v0)]
def sH:List D3.S:=[.expr (.call "columns_of" 2 [v1,(.frz (.dcomp v1 (.ix (.dix v0 v1) n0) (.kkeys v2) [2] (.nm 1) 1))]),.ret (.call "answered" 3 [v0,v1,v2])]
def sJ:List D3.S:=[.ite (.cmp .Eq (.ix v1 n0) (.str "table")) [.ret (.dix v2 (.ix v1 n1))] [],.ret (.call "answered_by" 3 [v0,v1,(.frz (.comp (.call "answered" 3 [v0,v2,v1]) (.items (.call "askings_within" 1 [v1])) [] [0,2] (.nm 2) 1))])]
def VQ:List D3.S:=[.set 3 (.deed "DEEDS_asking" [("pick","picked"),("keep","kept_rows"),("call","called_rows"),("join","joined"),("pour","poured_rows"),("total","totals"),("leave","left_out")] (.ix v1 n0)),.ret (.callv 3 ["picked","kept_rows","called_rows","joined","poured_rows","totals","left_out"] 3 [v0,v1,v2])]
def sK:List D3.S:=[.asg (.tp [(.nm 3),(.nm 4)]) (.ix v2 n0),.ret (.tup [v3,(.frz (.tcall .tuple [(.comp (.tup [v2,v3]) (.items v4) [(.tru (.call "passes" 3 [(.ix v1 n2),v0,v2]))] [3,1] (.tp [(.nm 2),(.nm 3)]) 2)]))])]
def sL:List D3.S:=[.asg (.tp [(.nm 3),(.nm 4)]) (.ix v2 n0),.set 5 (.frz (.call "places_of" 2 [(.ix v1 n2),v3])),.ret (.tup [(.ix v1 n2),(.frz (.call "gathered" 2 [v0,(.frz (.comp (.tup [(.frz (.call "values_at" 2 [v0,v1])),v2]) (.items v4) [] [5] (.tp [(.nm 1),(.nm 2)]) 2))]))])]
def sM:List D3.S:=[.ret (.tup [(.ix v1 n2),(.ix (.ix v2 n0) n1)])]
def wR:List D3.S:=[.set 1 (.lst []),.for (.items (.srtw v0)) (.tp [(.nm 2),(.nm 3),(.nm 4)]) gJ,.frzV 1,.ret (.tcall .tuple [v1])]
def sN:List D3.S:=[.ite (.cmp .Lt v1 (.bcall .len [v0])) [.ret (.ix v0 v1)] [],.ret n0]
def wS:List D3.S:=[.set 2 (.str "abcdefghijklmnopqrstuvwxyz"),.set 3 (.frz (.bin .Add v2 (.str "0123456789"))),.set 4 (.frz (.bin .Add n1 (.bin .Mod v0 n5))),.set 5 (.frz (.bin .Mod (.bin .FloorDiv v0 n5) v4)),.set 6 (.lst []),.for (.rng1 v1) (.nm 7) rZ,.retV 6]
def VR:List D3.S:=[.set 1 .nnew,.for (.items v0) (.tp [(.nm 2),(.nm 3),(.nm 4)]) r6,.nfrz 1,.ret (.tcall .tuple [(.srtw (.comp (.tup [(.ix v1 n0),(.ix v1 n1),(.nix v0 v1)]) (.nkeys v1) [] [1] (.nm 1) 1))])]
def wT:List D3.S:=[.ite (.cmp .Eq v0 n0) [.ret (.bin .Add v1 v2)] [],.ret (.call "_law_normal" 1 [(.frz (.bin .Add (.tcall .list [v1]) (.tcall .list [v2])))])]
def mX:List D3.S:=[.ite (.cmp .Eq v0 n0) [.ret (.bin .Add n1 (.bin .Mod v1 (.bin .Pow (.int 10) (.int 40))))] [],.set 3 (.tup [(.tup [(.ix v2 (.bin .Mod v1 n8))]),(.tup []),n1]),.ite (.cmp .Eq (.bin .Mod (.bin .FloorDiv v1 n8) (.int 4)) n1) [.ret (.call "_law_normal" 1 [(.frz (.lst [v3,(.tup [(.tup [(.ix v2 (.bin .Mod (.bin .FloorDiv v1 (.int 32)) n8))]),(.tup []),(.frz (.bin .Add n1 (.bin .Mod (.bin .FloorDiv v1 (.int 256)) n3)))])]))])] [],.ret (.tup [v3])]
def VS:List D3.S:=[.mput [.ite (.nin false v2 v0) [.nput 0 v2 (.call "_law_plus" 3 [v1,(.nix v0 v2),v3])] [.nput 0 v2 v3]]]
def mY:List D3.S:=[.set 1 (.lst []),.for (.items v0) (.nm 2) i6,.retV 1]
def JK:List D3.S:=[.ret (.tup [v1,(.frz (.tcall .tuple [(.comp (.tup [v1,(.nix v0 v1)]) (.items (.srtf "_law_rank" v0)) [] [0] (.nm 1) 1)]))])]
def wU:List D3.S:=[.set 2 (.frz (.lst [(.str "x"),(.str ""),(.str "ab"),(.str "X y"),(.str "~0")])),.ret (.lst [(.frz (.bin .Sub (.bin .Mod v0 v1) (.bin .FloorDiv v1 n3))),(.frz (.bin .Mod (.bin .FloorDiv v0 (.int 7)) n3)),(.ix v2 (.bin .Mod v0 n5))])]
def VT:List D3.S:=[.ite (.cmp .Is v1 .non) [.ret (.cmp .Is v0 .non)] [],.ite (.tru (.bcall .isinstance [v1,(.ty .bool)])) [.ret (.andL [(.bcall .isinstance [v0,(.ty .bool)]),(.cmp .Eq v0 v1)])] [],.ite (.tru (.bcall .isinstance [v1,(.ty .int)])) [.ret (.andL [(.bcall .isinstance [v0,(.ty .int)]),(.not (.bcall .isinstance [v0,(.ty .bool)])),(.cmp .Eq v0 v1)])] [],.ite (.tru (.bcall .isinstance [v1,(.ty .str)])) [.ret (.andL [(.bcall .isinstance [v0,(.ty .str)]),(.cmp .Eq v0 v1)])] [],.ite (.tru (.bcall .isinstance [v1,(.ty .tuple)])) [.ite (.orL [(.not (.tru (.bcall .isinstance [v0,(.ty .tuple)]))),(.cmp .NotEq (.bcall .len [v0]) (.bcall .len [v1]))]) [.ret (.bl false)] []] [.ite (.orL [(.not (.tru (.bcall .isinstance [v0,(.ty .list)]))),(.cmp .NotEq (.bcall .len [v0]) (.bcall .len [v1]))]) [.ret (.bl false)] []],.for (.rng1 (.bcall .len [v1])) (.nm 2) wN,.ret (.bl true)]
def mZ:List D3.S:=[.ite (.cmp .Eq (.ix v0 n0) (.str "of")) [.ret (.ix v2 (.tidx v1 (.ix v0 n1)))] [],.ret (.ix v0 n1)]
def iF:List D3.S:=[.set 3 (.ix v0 n0),.ite (.cmp .Eq v3 (.str "not")) [.ret (.not (.call "_law_passes" 3 [(.ix v0 n1),v1,v2]))] [],.ite (.cmp .Eq v3 (.str "both")) [.ret (.andL [(.call "_law_passes" 3 [(.ix v0 n1),v1,v2]),(.call "_law_passes" 3 [(.ix v0 n2),v1,v2])])] [],.ite (.cmp .Eq v3 (.str "either")) [.ret (.orL [(.call "_law_passes" 3 [(.ix v0 n1),v1,v2]),(.call "_law_passes" 3 [(.ix v0 n2),v1,v2])])] [],.set 4 (.frz (.call "_law_rank" 1 [(.frz (.lst [(.frz (.call "_law_value" 3 [(.ix v0 n1),v1,v2]))]))])),.set 5 (.frz (.call "_law_rank" 1 [(.frz (.lst [(.frz (.call "_law_value" 3 [(.ix v0 n2),v1,v2]))]))])),.ite (.cmp .Eq v3 (.str "same")) [.ret (.cmp .Eq v4 v5)] [],.ret (.ltn v4 v5)]
def sO:List D3.S:=[.set 3 (.frz (.bin .Add (.comp (.tup [(.str "of"),v0]) (.items v1) [] [] (.nm 0) 1) (.comp (.tup [(.str "just"),v0]) (.items v2) [] [] (.nm 0) 1))),.set 4 (.bcall .len [v3]),.set 5 (.tup [(.ix (.lst [(.str "same"),(.str "under")]) (.bin .Mod v0 n2)),(.ix v3 (.bin .Mod (.bin .FloorDiv v0 n2) v4)),(.ix v3 (.bin .Mod (.bin .FloorDiv v0 (.int 17)) v4))]),.set 6 (.tup [(.str "under"),(.ix v3 (.bin .Mod (.bin .FloorDiv v0 (.int 131)) v4)),(.ix v3 (.bin .Mod (.bin .FloorDiv v0 (.int 1009)) v4))]),.ret (.ix (.lst [v5,(.tup [(.str "not"),v5]),(.tup [(.str "both"),v5,v6]),(.tup [(.str "either"),v6,v5])]) (.bin .Mod (.bin .FloorDiv v0 n8) (.int 4)))]
def sP:List D3.S:=[.set 4 .nnew,.for (.items (.ix v0 n1)) (.tp [(.nm 5),(.nm 6)]) oV,.nfrz 4,.ret (.call "_law_sorted" 2 [v4,v3])]
def iG:List D3.S:=[.set 1 (.frz (.bin .Mod (.call "_law_cell_at" 2 [v0,n0]) n2)),.set 2 (.frz (.call "_law_names" 2 [(.frz (.call "_law_cell_at" 2 [v0,n1])),n8])),.set 3 (.frz (.call "_law_pool" 2 [(.frz (.call "_law_cell_at" 2 [v0,n2])),(.frz (.bin .Pow (.int 10) (.int 50)))])),.set 4 (.frz (.tcall .tuple [(.slice v2 none (some n3))])),.set 5 .nnew,.for (.items (.slice v0 (some (.int 6)) (some (.int 46)))) (.nm 6) r8,.nfrz 5,.set 8 (.frz (.call "_law_sorted" 2 [v5,v4])),.set 9 (.dct1 (.ix v2 n3) v8),.nfrz 9,.set 10 (.frz (.mk0 "Counts")),.ite (.cmp .Eq v1 n1) [.set 10 (.frz (.mk0 "Reasons"))] [],.set 11 (.tup [(.str "table"),(.ix v2 n3)]),.set 12 (.frz (.call "_law_test" 3 [(.frz (.call "_law_cell_at" 2 [v0,n3])),v4,v3])),.set 13 (.tup [v4,(.frz (.tcall .tuple [(.comp v2 (.items (.ix v8 n1)) [(.tru (.call "_law_passes" 3 [v0,v1,(.ix v2 n0)]))] [12,4] (.nm 2) 1)]))]),.ite (.not (.tru (.call "_law_alike" 2 [(.frz (.call "ask" 3 [qx,(.tup [(.str "pick"),zw,JC]),v9])),VF]))) [.ret (.bl false)] [],.set 6 (.frz (.call "_law_cell_at" 2 [v0,(.int 4)])),.setC 14 true (.comp (.bin .Mod (.bin .Add v0 (.bin .Mult v1 (.bin .Add n1 (.bin .Mod (.bin .FloorDiv v0 n3) n2)))) n3) (.rng1 (.bin .Mod (.bin .FloorDiv v6 (.int 6)) (.int 4))) [] [6] (.nm 1) 1),.set 15 (.frz (.tcall .tuple [(.comp (.ix v0 v1) (.items B8) [] [4] (.nm 1) 1)])),.ite (.not (.tru (.call "_law_alike" 2 [(.frz (.call "ask" 3 [qx,(.tup [(.str "keep"),zw,B9]),v9])),(.frz (.call "_law_kept" 4 [v8,B8,v1,B9]))]))) [.ret (.bl false)] [],.set 16 (.frz (.tcall .tuple [(.comp (.ix v0 (.bin .Mod (.bin .Add (.call "_law_cell_at" 2 [v1,n5]) v2) n8)) (.rng1 n3) [] [2,0] (.nm 2) 1)])),.ite (.not (.tru (.call "_law_alike" 2 [(.frz (.call "ask" 3 [qx,(.tup [(.str "call"),zw,zx]),v9])),(.tup [zx,(.ix v8 n1)])]))) [.ret (.bl false)] [],.set 12 (.frz (.call "_law_test" 3 [(.frz (.bin .FloorDiv (.call "_law_cell_at" 2 [v0,n5]) n8)),zx,v3])),.set 17 (.tup [zx,(.frz (.tcall .tuple [(.comp v2 (.items (.ix v8 n1)) [(.tru (.call "_law_passes" 3 [v0,v1,(.ix v2 n0)]))] [12,16] (.nm 2) 1)]))]),.set 15 (.frz (.tcall .tuple [(.comp (.ix v0 v1) (.items B8) [] [16] (.nm 1) 1)])),.set 18 (.tup [(.str "keep"),(.tup [(.str "pick"),(.tup [(.str "call"),zw,zx]),JC]),B9]),.ite (.not (.tru (.call "_law_alike" 2 [(.frz (.call "ask" 3 [qx,VH,v9])),(.frz (.call "_law_kept" 4 [VG,B8,v1,B9]))]))) [.ret (.bl false)] [],.ret (.andL [(.deqC v9 (.dct1 (.ix v2 n3) v8)),(.call "_law_alike" 2 [(.frz (.call "ask" 3 [qx,zw,v9])),v8])])]
def VU:List D3.S:=[.ret n0]
def VW:List D3.S:=[.ret (.bin .Add v1 v2)]
def VX:List D3.S:=[.ret (.bin .Mult v1 v2)]
def VY:List D3.S:=[.ret (.tup [])]
def JL:List D3.S:=[.ret (.call "reason_of" 1 [(.frz (.bin .Add v1 v2))])]
def VZ:List D3.S:=[.ite (.cmp .Eq v1 n0) [.ret (.tup [])] [],.ret (.tcall .tuple [(.comp (.tup [v1,v2,(.frz (.bin .Mult v0 v3))]) (.items v2) [] [1] (.tp [(.nm 1),(.nm 2),(.nm 3)]) 3)])]
def JM:FD:=aQ ["thing"] [] wO
def JN:FD:=aQ ["kind","notes"] ["sums","halves"] VI
def JO:FD:=aQ ["kind","groups"] ["sums"] JF
def JP:FD:=aQ ["kind","pairs"] ["nought"] JG
def JQ:FD:=aQ ["value"] [] VJ
def JR:FD:=aQ ["row"] [] VL
def JS:FD:=aQ ["kind","pairs"] ["groups","row","note"] VM
def JT:FD:=aQ ["columns","at"] [] JH
def JU:FD:=aQ ["wanted","columns"] [] wP
def JV:FD:=aQ ["places","row"] [] wQ
def JW:FD:=aQ ["test","columns","row"] ["word","one","other"] iE
def JX:FD:=aQ ["part","columns","row"] [] mW
def JY:FD:=aQ ["test"] ["word"] jU
def JZ:FD:=aQ ["asking"] [] VN
def J0:FD:=aQ ["column","columns"] [] JI
def J1:FD:=aQ ["asking","within"] ["column"] r9
def J2:FD:=aQ ["columns","within"] ["at","column"] JJ
def J3:FD:=aQ ["asking","within"] [] sC
def J4:FD:=aQ ["asking","within"] ["columns","at"] sD
def wV:FD:=aQ ["asking","shapes"] ["within","deed"] VO
def J5:FD:=aQ ["name","shapes"] [] VP
def J6:FD:=aQ ["kind","asking","store"] [] sH
def wW:FD:=aQ ["kind","asking","store"] [] sJ
def J7:FD:=aQ ["kind","asking","within"] ["deed"] VQ
def J8:FD:=aQ ["kind","asking","within"] ["columns","pairs"] sK
def J9:FD:=aQ ["kind","asking","within"] ["columns","pairs","places"] sL
def Ka:FD:=aQ ["kind","asking","within"] [] sM
def Kb:FD:=aQ ["terms"] ["found","facts","bars","times"] wR
def Kc:FD:=aQ ["_law_script","_law_k"] [] sN
def Kg:FD:=aQ ["_law_cell","_law_many"] ["_law_letters","_law_signs","_law_size","_law_at","_law_names_here","_law_k","_law_name","_law_j","_law_drift"] wS
def Kh:FD:=aQ ["_law_terms"] ["_law_known","_law_facts","_law_bars","_law_times","_law_stem"] VR
def wX:FD:=aQ ["_law_way","_law_a","_law_b"] [] wT
def sQ:FD:=aQ ["_law_way","_law_cell","_law_names_here"] ["_law_one"] mX
def Ki:FD:=aQ ["_law_known","_law_way","_law_row","_law_note_here"] [] VS
def wY:FD:=aQ ["_law_row"] ["_law_ranks","_law_value_here"] mY
def Kj:FD:=aQ ["_law_known","_law_columns"] [] JK
def Kk:FD:=aQ ["_law_cell","_law_big"] ["_law_words"] wU
def sR:FD:=aQ ["_law_found","_law_due"] ["_law_k"] VT
def Kl:FD:=aQ ["_law_part","_law_columns","_law_row"] [] mZ
def Km:FD:=aQ ["_law_test_here","_law_columns","_law_row"] ["_law_word","_law_one","_law_other"] iF
def Kn:FD:=aQ ["_law_cell","_law_columns","_law_pool_here"] ["_law_parts","_law_many","_law_one","_law_two"] sO
def Ko:FD:=aQ ["_law_some","_law_places","_law_way","_law_columns"] ["_law_known","_law_row","_law_note_here"] sP
def wZ:FD:=aQ ["_law_script"] ["_law_way","_law_names_here","_law_pool_here","_law_columns","_law_known","_law_cell","_law_row","_law_some","_law_store","_law_kind","_law_asking","_law_test_here","_law_due","_law_places","_law_chosen","_law_others","_law_rows","_law_deep"] iG
def Kp:FD:=aQ ["self"] [] VU
def Kq:FD:=aQ ["self","a","b"] [] VW
def V0:FD:=aQ ["self","n","a"] [] VX
def Kr:FD:=aQ ["self"] [] VY
def Ks:FD:=aQ ["self","a","b"] [] JL
def V1:FD:=aQ ["self","n","a"] [] VZ
def V2:CI:=#["Kind",["Kind"],[],[("lack","Kind.lack",2)]]
def V3:CI:=#["Counts",["Counts","Kind"],[],[("nought","Counts.nought",1),("one","Counts.one",1),("plus","Counts.plus",3),("times","Counts.times",3),("many","Counts.many",3),("lack","Kind.lack",2)]]
def V4:CI:=#["Reasons",["Reasons","Kind"],[],[("nought","Reasons.nought",1),("one","Reasons.one",1),("plus","Reasons.plus",3),("times","Reasons.times",3),("lack","Reasons.lack",2),("many","Reasons.many",3)]]
abbrev Yb(s:Str)(d:FD):Str×FD:=(s,d)
abbrev Yc(s:Str)(d:GV):Str×GV:=(s,d)
def T:List (Str×FD):=(List.append [("is_whole",JM),("is_name",aQ ["thing"] [] [.never,.never,.never]),("is_name_sign",aQ ["sign"] [] [.never]),("is_rising",aQ ["things"] [] [.never]),("poured",JN),("poured_groups",JO),("without_noughts",JP),("rank",JQ),("rank_of_row",JR),("gathered",JS),("refuse_twice",JT),("places_of",JU),("values_at",JV),("passes",JW),("value_of",JX),("columns_in",JY),("askings_within",JZ),("refuse_missing",J0),("columns_of_pick",J1),("kept",J2),("columns_of_keep",J3),("totalled",aQ ["column","columns","within"] [] [.never,.never]),("columns_of_total",aQ ["asking","within"] [] [.never]),("columns_of_call",J4),("columns_of_join",aQ ["asking","within"] ["one","other"] [.never,.never]),("columns_of_pour",aQ ["asking","within"] ["one","other"] [.never,.never,.never]),("columns_of_leave",aQ ["asking","within"] ["one","other","column"] [.never,.never,.never]),("columns_of",wV)] (List.append [("columns_of_table",J5),("ask",J6),("answered",wW),("answered_by",J7),("picked",J8),("kept_rows",J9),("called_rows",Ka),("joined",aQ ["kind","asking","within"] ["one","other","columns","shared","beside","places","found","row","note","rest","factor"] [.never,.never,.never,.never,.never,.never,.never,.never]),("rows_by",aQ ["shared","places","some"] ["at","groups","row","note"] [.never,.never,.never,.never]),("poured_rows",aQ ["kind","asking","within"] [] [.never]),("totals",aQ ["kind","asking","within"] ["columns","pairs","at","places","found"] [.never,.never,.never,.never,.never]),("said",aQ ["value"] [] [.never,.never]),("left_out",aQ ["kind","asking","within"] ["columns","pairs","places","notes","found","row","note","other"] [.never,.never,.never,.never,.never,.never]),("reason_of",Kb),("term_of_both",aQ ["one","other"] [] [.never]),("bars_of_both",aQ ["one","other"] ["found","bar"] [.never,.never,.never]),("is_reason",aQ ["thing"] ["term"] [.never,.never,.never]),("is_term",aQ ["thing"] ["facts","bars","times"] [.never,.never,.never,.never]),("is_facts",aQ ["thing"] [] [.never,.never]),("is_bars",aQ ["thing"] ["bar"] [.never,.never,.never]),("shown_reason",aQ ["reason"] ["texts","facts","bars","times","factors","bar"] [.never,.never,.never,.never]),("_law_cell_at",Kc),("_law_names",Kg),("_law_normal",Kh),("_law_plus",wX),("_law_note",sQ),("_law_put",Ki),("_law_rank",wY)] [("_law_sorted",Kj),("_law_pool",Kk),("_law_alike",sR),("_law_value",Kl),("_law_passes",Km),("_law_test",Kn),("_law_kept",Ko),("law",wZ),("Kind.lack",aQ ["self","a"] [] [.never,.never]),("Counts.nought",Kp),("Counts.one",aQ ["self"] [] [.never]),("Counts.plus",Kq),("Counts.times",aQ ["self","a","b"] [] [.never]),("Counts.many",V0),("Reasons.nought",Kr),("Reasons.one",aQ ["self"] [] [.never]),("Reasons.plus",Ks),("Reasons.times",aQ ["self","a","b"] [] [.never]),("Reasons.lack",aQ ["self","a"] [] [.never,.never]),("Reasons.many",V1)]))
def TT:TB:=#[T,[],[V2,V3,V4],[],[]]
abbrev okf(d:D):Res:=.ok .fz d
noncomputable abbrev Wk(k:Nat):WD:=WT TT k
noncomputable def GG:MG:=#[(List.append [("Counts",.cls),("DEEDS_asking",.con (.t [("pick","picked"),("keep","kept_rows"),("call","called_rows"),("join","joined"),("pour","poured_rows"),("total","totals"),("leave","left_out")])),("DEEDS_askings",.con (.t [("pick","columns_of_pick"),("keep","columns_of_keep"),("call","columns_of_call"),("join","columns_of_join"),("pour","columns_of_pour"),("total","columns_of_total"),("leave","columns_of_leave")])),("Reasons",.cls),("_law_alike",.fn 2),("_law_cell_at",.fn 2),("_law_kept",.fn 4),("_law_names",.fn 2),("_law_normal",.fn 1),("_law_note",.fn 3),("_law_passes",.fn 3),("_law_plus",.fn 3),("_law_pool",.fn 2),("_law_put",.fn 4),("_law_rank",.fn 1),("_law_sorted",.fn 2),("_law_test",.fn 3),("_law_value",.fn 3),("answered",.fn 3),("answered_by",.fn 3),("ask",.fn 3),("askings_within",.fn 1),("bool",.no),("called_rows",.fn 3),("columns_in",.fn 1),("columns_of",.fn 2),("columns_of_call",.fn 2),("columns_of_join",.fn 2)] (List.append [("columns_of_keep",.fn 2),("columns_of_leave",.fn 2),("columns_of_pick",.fn 2),("columns_of_pour",.fn 2),("columns_of_table",.fn 2),("columns_of_total",.fn 2),("enumerate",.no),("gathered",.fn 2),("int",.no),("is_whole",.fn 1),("isinstance",.no),("joined",.fn 3),("kept",.fn 2),("kept_rows",.fn 3),("left_out",.fn 3),("len",.no),("list",.no),("passes",.fn 3),("picked",.fn 3),("places_of",.fn 2),("poured",.fn 2),("poured_groups",.fn 2),("poured_rows",.fn 3),("range",.no),("rank",.fn 1),("rank_of_row",.fn 1),("reason_of",.fn 1),("refuse_missing",.fn 2)] [("refuse_twice",.fn 2),("sorted",.no),("str",.no),("totals",.fn 3),("tuple",.no),("value_of",.fn 3),("values_at",.fn 2),("without_noughts",.fn 2)])),["Counts","Reasons"],[],[],[],[],[],[]]
def top(i:Nat):Stmt:=dh.main.body.getD i (.Pass #[0,0,0,0])
abbrev w6:Stmt:=top 85
def V5(k:Nat):(Wk (k+1)).Φ "refuse_twice"=gm 2 2 (b0 (Wk k) JH):=cZ (d:=JT) rfl
def sS(k:Nat):(Wk (k+1)).Φ "passes"=gm 3 6 (b0 (Wk k) iE):=cZ (d:=JW) rfl
def Kt(k:Nat):(Wk (k+1)).Φ "value_of"=gm 3 3 (b0 (Wk k) mW):=cZ (d:=JX) rfl
def w8(k:Nat):(Wk (k+1)).Φ "columns_in"=gm 1 2 (b0 (Wk k) jU):=cZ (d:=JY) rfl
def V6(k:Nat):(Wk (k+1)).Φ "refuse_missing"=gm 2 2 (b0 (Wk k) JI):=cZ (d:=J0) rfl
def V7(k:Nat):(Wk (k+1)).Φ "columns_of_pick"=gm 2 3 (b0 (Wk k) r9):=cZ (d:=J1) rfl
def V8(k:Nat):(Wk (k+1)).Φ "columns_of_keep"=gm 2 2 (b0 (Wk k) sC):=cZ (d:=J3) rfl
def V9(k:Nat):(Wk (k+1)).Φ "columns_of_call"=gm 2 4 (b0 (Wk k) sD):=cZ (d:=J4) rfl
def zy(k:Nat):(Wk (k+1)).Φ "ask"=gm 3 3 (b0 (Wk k) sH):=cZ (d:=J6) rfl
def Wa(k:Nat):(Wk (k+1)).Φ "picked"=gm 3 5 (b0 (Wk k) sK):=cZ (d:=J8) rfl
def Wb(k:Nat):(Wk (k+1)).Φ "kept_rows"=gm 3 6 (b0 (Wk k) sL):=cZ (d:=J9) rfl
def Wc(k:Nat):(Wk (k+1)).Φ "called_rows"=gm 3 3 (b0 (Wk k) sM):=cZ (d:=Ka) rfl
def Wd(k:Nat):(Wk (k+1)).Φ "_law_rank"=gm 1 3 (b0 (Wk k) mY):=cZ (d:=wY) rfl
def Ku(k:Nat):(Wk (k+1)).Φ "_law_value"=gm 3 3 (b0 (Wk k) mZ):=cZ (d:=Kl) rfl
def sU(k:Nat):(Wk (k+1)).Φ "_law_passes"=gm 3 6 (b0 (Wk k) iF):=cZ (d:=Km) rfl
def We(k:Nat):(Wk (k+1)).Φ "_law_test"=gm 3 7 (b0 (Wk k) sO):=cZ (d:=Kn) rfl
def Wf(k:Nat):(Wk (k+1)).Φ "_law_kept"=gm 4 7 (b0 (Wk k) sP):=cZ (d:=Ko) rfl
def zz(k:Nat):(Wk (k+1)).Φ "law"=gm 1 19 (b0 (Wk k) iG):=cZ (d:=wZ) rfl
def Wg(k:Nat):(Wk (k+1)).Φ "Reasons.plus"=gm 3 3 (b0 (Wk k) JL):=cZ (d:=Ks) rfl
def dD{m:Md}{i:Int}{d:D}(h:atI ds i=some d):bv c6 (.ok m (.lst ds)) (.ok m' (.int i))=okf d:=bK (by show(atI ds i).map _=_;rw[h];rfl)
def dM{m:Md}{i:Int}{d:D}(h:atI ds i=some d):bv c6 (.ok m (.tup ds)) (.ok m' (.int i))=okf d:=bK (by show(atI ds i).map _=_;rw[h];rfl)
theorem m5(U:List α)(v:Int)(n:Int)(hn:n=U.length)(h:0<n):∃c,c∈U/\atI U (v % n)=some c:=by have h0:=ss v (show n≠0 by lia);(have f:=Bt v h;exists j,d,sv h0;have a:j<U.length:=by lia);exact#[U[j],mm a,by rw[d];exact cW (gg a)]
inductive Pl:Nat->D->Prop where
 |int {n:_} (i:Int):Pl n (.int i)
 |str {n:_} (s:Str):Pl n (.str s)
 |tup {n:_}{ds:List D} (h:∀d∈ds,Pl n d) (hl:ds.length<=999):Pl (n+1) (.tup ds)
theorem Pl.mono{d:D}(h:Pl n d):∀{N:Nat},n<=N->Pl N d:=by induction h with|int b=>intro _ _;exact .int b|str b=>intro _ _;exact .str b|tup _ f a=>intro N hn;cases N with|zero=>lia|succ N=>exact .tup (λd hd=>a d hd (by lia)) f
def pl2{x:D}(f:Pl n x)(a:Pl n y):Pl (n+1) (.tup [x,y]):=.tup (λd hd=>by
 simp only[cy,mz,h9]at hd;rcases hd with rfl|rfl
 . exact f
 . exact a) (show 2<=999 by decide)
theorem Kv:∀{n:Nat} (ds:List D),(∀d∈ds,∃p,aU d=some p/\p.depth<=n)->∃ps,cG ds=some ps/\PyData.depthAll ps<=n|n,[],_=>#[[],by simp[cG],by simp[PyData.depthAll]]|n,d::ds,h=>by exists p,e,l,h d cj;exists ps,E,L,Kv ds λx hx=>h x (cs hx);exact#[p::ps,by simp[cG,e,E],by simp only[PyData.depthAll];lia]
theorem xA{d:D}(h:Pl n d):∃p,aU d=some p/\p.depth<=n:=by induction h with|int b=>exact#[.int b,by simp[aU],by simp[PyData.depth]]|str b=>exact#[.str b,by simp[aU],by simp[PyData.depth]]| @tup n ds h f a=>exists ps,e,l,Kv ds a;exact#[.tuple ps,by simp[aU,e],by simp only[PyData.depth];lia]
def gw(x y:D):Bool:=match aU x,aU y with|some p,some q=>PyData.eqv p q|_,_=>false
theorem Wh{x:D}{m:Md}(hx:Pl n x)(a:Pl n y)(hn:n<=50):jn neg m x m' y=some (.fz,.bl (if neg then !gw x y else gw x y)):=by exists p,ep,d,xA hx;exists q,eq,L,xA a;unfold jn gw;rw[ep,eq];dsimp only;rw[al (by unfold gN;rw[cc,fe,fe];lia)]
def z6{x:D}{m:Md}(hx:Pl n x)(a:Pl n y)(hn:n<=50):bv (bB .NotEq) (.ok m x) (.ok m' y)=okf (.bl (!gw x y)):=bK (by
 show gu (jn true) _ m x m' y=_;unfold gu;rw[Wh hx a hn];rfl)
def Kw{U:List (Md×D)}{d:D}(a:ds.length=n)(ha:dA U=some ds)(h:Φ ds=.ok .fr d):aN n Φ (.ok U)=.ok .fr d:=by(show(match dA U with|some ds=>if ds.length=n then(match Φ ds with|.ok .bo _=>Res.stuck|r=>r)else .stuck|none=>.stuck)=_);rw[ha];show(if ds.length=n then _ else _)=_;rw[al a,h]
def kZ{a d:D}(h:Φ [a]=.ok .fr d):aN 1 Φ (.ok [(.fz,a)])=.ok .fr d:=Kw (ds:=[a]) rfl rfl h
def oW{a b d:D}(h:Φ [a,b]=.ok .fr d):aN 2 Φ (.ok [(.fz,a),(.fz,b)])=.ok .fr d:=Kw (ds:=[a,b]) rfl rfl h
def z7{m:Md}{x:D}:bv c6 (.ok m (.tup [x,y])) (.ok m' (.int 0))=okf x:=dM rfl
def z8{m:Md}{x:D}:bv c6 (.ok m (.tup [x,y])) (.ok m' (.int 1))=okf y:=dM rfl
def xB{m:Md}{x z:D}:bv c6 (.ok m (.tup [x,y,z])) (.ok m' (.int 0))=okf x:=dM rfl
def xC{m:Md}{x z:D}:bv c6 (.ok m (.tup [x,y,z])) (.ok m' (.int 1))=okf y:=dM rfl
def xD{m:Md}{x z:D}:bv c6 (.ok m (.tup [x,y,z])) (.ok m' (.int 2))=okf z:=dM rfl
def z9:dU (.ok [])=okf (.tup []):=rfl
def Aa{x:D}:dU (.ok [(.fz,x)])=okf (.tup [x]):=rfl
def i7{x z:D}:dU (.ok [(.fz,x),(.fz,y),(.fz,z)])=okf (.tup [x,y,z]):=rfl
def fm{f:Str}{d:FD}{m:Md}{v:D}(h:TT.T.lookup f=some d)(a:ds.length=d.ps.length)(o:b0 (Wk k) d.b (eY d.N.length ds)=.rt m v):(Wk (k+1)).Φ f ds=.ok m v:=by rw[cZ h];exact bX a o
def dO(k:Nat){d:D}{a b:Bool}(o:i9 [(.fz,d),(.fz,.ty "int")]=some (.fz,.bl a))(f:i9 [(.fz,d),(.fz,.ty "bool")]=some (.fz,.bl b)):(Wk (k+1)).Φ "is_whole" [d]=okf (.bl (a&&!b)):=by refine fm (d:=JM) rfl rfl ?_;show b0 _ wO [sf d]=_;simp[wO,o,f,Ty.id]
def Wi(k:Nat)(i:Int):(Wk (k+1)).Φ "is_whole" [.int i]=okf (.bl true):=dO k (d:=.int i) rfl rfl
theorem Kx{α:Type}{enc:α->D}{p:α->Bool}{g:α->D}{k:D->Rho->Option Rho}{t e:Rho->Res}{d:Rho}:∀{U:List α},(∀x∈U,∃a m,k (enc x) d=some a/\t a=.ok m (.bl (p x))/\(p x=true->∃m',aG (e a)=.ok m' (g x)))->eJ k t e d (U.map enc)=some ((U.filter p).map g)|[],_=>rfl|x::U,h=>by exists a,m,A,r,E,h x cj;have f:=Kx λy o=>h y (cs o);rw[cu];unfold eJ;rw[A];dsimp only;rw[r];cases q:p x with|true=>exists m',E,E q;simp[E,f,List.filter_cons,q]|false=>simp[f,List.filter_cons,q]
def oX{enc:α->D}(p:α->Bool)(g:α->D){k:D->Rho->Option Rho}{t e:Rho->Res}{m:Md}{U:List α}(d:U.length<sizeLine)(h:∀x∈U,∃a m,k (enc x) (bU aD Y++List.replicate n none)=some a/\t a=.ok m (.bl (p x))/\(p x=true->∃m',aG (e a)=.ok m' (g x))):bI (.ok m (.lst (U.map enc))) Y aD n k t e=.ok .fr (.lst ((U.filter p).map g)):=by unfold bI;rw[Res.thn_ok];dsimp only;rw[al (by simpa using d),Kx h]
def fV{enc:α->D}(g:α->D){k:D->Rho->Option Rho}{t e:Rho->Res}{m:Md}{U:List α}(d:U.length<sizeLine)(h:∀x∈U,∃a m,k (enc x) (bU aD Y++List.replicate n none)=some a/\t a=.ok m (.bl true)/\∃m',aG (e a)=.ok m' (g x)):bI (.ok m (.lst (U.map enc))) Y aD n k t e=.ok .fr (.lst (U.map g)):=by(have:=oX (enc:=enc) (λ_=>true) g (Y:=Y) (aD:=aD) (n:=n) (k:=k) (t:=t) (e:=e) (m:=m) d λx hx=>by exists a,m,o,f,E,h x hx;exact#[a,m,o,f,λ_=>E]);rw[this,List.filter_eq_self.mpr λ_ _=>rfl]
def Wj{key:Str}{b:List D3.S}{x z d:D}(u:(Wk (k+1)).Φ key=gm 3 3 (b0 (Wk k) b))(h:b0 (Wk k) b [sf x,sf y,sf z]=.rt .fz d):aN 3 ((Wk (k+1)).Φ key) (.ok [(.fz,x),(.fz,y),(.fz,z)])=okf d:=bM (by rw[u];exact bX rfl h)
theorem up{m:Nat}(h:n<m):∃k,m=k+1:=#[m-1,by lia]
def cL{d:D}{as:List (Md×D)}:aF (okf d) (.ok as)=.ok ((.fz,d)::as):=rfl
theorem Wl(h:n<=3):n<sizeLine:=by rw[dj];lia
section
variable{W:WD}{s:D3.S}{r a b:List D3.S}{x:aI}{e c:E}{m:Md}{d:D}{l:List D}
def cg(h:dq W s Y=.nx ρ')(f:b0 W r ρ'=x):b0 W (s::r) Y=x:=by rw[mU h];exact f
def jf(h:dq W s Y=.rt m d):b0 W (s::r) Y=.rt m d:=by rw[kX,h];rfl
def a9(h:aK W e Y=okf d):b0 W [.ret e] Y=.rt .fz d:=by rw[kX,Ij,h];rfl
def k6(h:aK W e Y=.ok .fr d):b0 W [.ret e] Y=.rt .fr d:=by rw[kX,Ij,h];rfl
def bN(h:aK W c Y=.ok m (.bl false))(f:b0 W b Y=x):dq W (.ite c a b) Y=x:=by rw[Il,h,zb,f]
def c7(h:aK W c Y=.ok m (.bl true))(f:b0 W a Y=x):dq W (.ite c a b) Y=x:=by rw[Il,h,y9,f]
def fW(h:aK W e Y=.ok m (.lst l)):aK W (.tcall .tuple [e]) Y=okf (.tup l):=by show fL _ (aF (aK W e Y) (.ok []))=_;rw[h];rfl
end
def Ab{W:WD}{e:E}{m:Md}{d:D}(a:m ≠ .bo)(h:aK W e Y=.ok m d):aK W (.frz e) Y=okf d:=by show aG (aK W e Y)=_;rw[h];cases m with|bo=>exact absurd rfl a|_=>rfl
def bO{W:WD}{e:E}{d:D}(h:aK W e Y=okf d):aK W (.frz e) Y=okf d:=Ab (by decide) h
def i8{W:WD}{e:E}{d:D}(h:aK W e Y=.ok .fr d):aK W (.frz e) Y=okf d:=Ab (by decide) h
def bE{W:WD}{e:E}{d:D}(h:aK W e Y=okf d):dq W (.set i e) Y=.nx (Y.set i (sf d)):=by rw[Ik,h];rfl
def c1{W:WD}{f:Str}{e:E}{x d:D}(h:aK W e Y=okf x)(hf:W.Φ f [x]=okf d):aK W (.call f 1 [e]) Y=okf d:=by show aN 1 (W.Φ f) (aF (aK W e Y) (.ok []))=_;rw[h];exact fQ hf
def EA{W:WD}{a:E}{x:D}(d:aK W a Y=okf x):aK W (.tup [a]) Y=okf (.tup [x]):=by show dU (aF (aK W a Y) (.ok []))=_;rw[d];rfl
def Ac{W:WD}{e:E}{d:D}(h:aK W e Y=okf d):dq W (.expr e) Y=.nx Y:=by rw[rR,h];rfl
def k7{W:WD}{a b:E}{x:D}(f:aK W a Y=okf x)(d:aK W b Y=okf y):aK W (.tup [a,b]) Y=okf (.tup [x,y]):=by show dU (aF (aK W a Y) (aF (aK W b Y) (.ok [])))=_;rw[f,d];rfl
def Ad{W:WD}{f:Str}{a b c:E}{x z:D}{r:Res}(A:aK W a Y=okf x)(o:aK W b Y=okf y)(d:aK W c Y=okf z)(hf:aN 3 (W.Φ f) (.ok [(.fz,x),(.fz,y),(.fz,z)])=r):aK W (.call f 3 [a,b,c]) Y=r:=by show aN 3 (W.Φ f) (aF (aK W a Y) (aF (aK W b Y) (aF (aK W c Y) (.ok []))))=_;rw[A,o,d];exact hf
def lr{W:WD}{f:Str}{a b:E}{x:D}{r:Res}(o:aK W a Y=okf x)(d:aK W b Y=okf y)(hf:aN 2 (W.Φ f) (.ok [(.fz,x),(.fz,y)])=r):aK W (.call f 2 [a,b]) Y=r:=by show aN 2 (W.Φ f) (aF (aK W a Y) (aF (aK W b Y) (.ok [])))=_;rw[o,d];exact hf
def xE{W:WD}{e:E}{m:Md}{d:D}(j:Nat)(h:aK W e Y=.ok m (.lst ds))(hd:ds[j]? = some d):aK W (.ix e (.int (j:Int))) Y=okf d:=by show bv c6 (aK W e Y) (okf (.int j))=_;rw[h];exact dD (cW hd)
def cE{W:WD}{e:E}{m:Md}{y:Str}{b:Bool}(h:aK W e Y=.ok m (.str x))(a:(x==y)=b):aK W (.cmp .Eq e (.str y)) Y=okf (.bl b):=by show bv (bB .Eq) (aK W e Y) (okf (.str y))=_;rw[h];subst a;simp
theorem m7{k:D->Rho->Option Rho}{body:Rho->aI}(I:Nat->Rho->Prop):∀(ds:List D) (i:Nat) {Y:Rho},(∀j d,ds[j]? = some d->∀Y,I (i+j) Y->∃f a,k d Y=some f/\body f=.nx a/\I (i+j+1) a)->I i Y->∃ρ',cA k body ds Y=.nx ρ'/\I (i+ds.length) ρ'
 |[],i,Y,_,h=>#[Y,rfl,h]|d::ds,i,Y,hs,h=>by
  exists f,a,F,B,A,hs 0 d rfl Y h;exists ρ',E,r,m7 (k:=k) (body:=body) I ds (i+1) (λj d hd Y o=>by
   have:=hs (j+1) d (by rw[CY];exact hd) Y (by rw[show i+(j+1)=i+1+j by lia];exact o)
   rw[show i+(j+1)+1=i+1+j+1 by lia]at this
   exact this) A
  refine#[ρ',?_,by rw[show i+(d::ds).length=i+1+ds.length by rw[gh];lia];exact r]
  unfold cA;rw[F];dsimp only;rw[B];exact E
theorem sV{d:D}(h:(cD 0 (n:Int))[j]? = some d):j<n/\d=.int (j:Int):=by simp only[cD,gz]at h;by_cases a:j<n;{refine#[a,?_];rw[ui (by lia)]at h;simp at h;exact h.symm};rw[List.getElem?_eq_none (by simp;lia)]at h;cases h
def Kz(n:Nat):(cD 0 (n:Int)).length=n:=by simp[cD]
def KA{W:WD}{a b:E}{x:Bool}(f:aK W a Y=okf (.bl true))(d:aK W b Y=okf (.bl x)):aK W (.andL [a,b]) Y=okf (.bl x):=by rw[HL,wB,Ih,f,d];rfl
def Ae{W:WD}{a b c:E}{x:Bool}(o:aK W a Y=okf (.bl true))(f:aK W b Y=okf (.bl true))(d:aK W c Y=okf (.bl x)):aK W (.andL [a,b,c]) Y=okf (.bl x):=by rw[HL,wB,wB,Ih,o,f,d];rfl
def Wm{W:WD}{c:E}{b:Bool}(h:aK W c Y=okf (.bl b)):d7 W [c] Y=okf (.bl b):=by show fH (aK W c Y) (okf (.bl true))=_;rw[h];cases b <;> rfl
def Af{t:Rho->Res}{b:Rho->aI}{m:Md}(h:t Y=.ok m (.bl true))(h':b Y=.nx ρ'):dX t b (n+1) Y=dX t b n ρ':=by(show(t Y).thS Y _=_;rw[h];show(match b Y with|.nx ρ'=>dX t b n ρ'|.ct ρ'=>dX t b n ρ'|.bk ρ'=>.nx ρ'|r=>r)=_);rw[h']
def Ag{t:Rho->Res}{b:Rho->aI}{m:Md}(h:t Y=.ok m (.bl false)):dX t b (n+1) Y=.nx Y:=by show(t Y).thS Y _=_;rw[h];rfl
structure KO(Kd No:D)(Ok:D->Prop)(pl:D->D->D):Prop where
 nought:∀k,iT TT.cl (Wk (k+1)).Φ "nought" (okf Kd) (.ok [])=okf No
 plus:∀k a b,Ok a->Ok b->iT TT.cl (Wk (k+3)).Φ "plus" (okf Kd) (.ok [(.fz,a),(.fz,b)])=okf (pl a b)
 okn:Ok No
 okp:∀a b,Ok a->Ok b->Ok (pl a b)
 assoc:∀a b c,Ok a->Ok b->Ok c->pl (pl a b) c=pl a (pl b c)
 left:∀a,Ok a->pl No a=a
 plain:∀a,Ok a->Pl 8 a
section
variable{Ok:D->Prop}
def pr(pl:D->D->D):List D->List D|a::b::l=>pl a b::pr pl l|_=>[]
def kt(pl:D->D->D):List D->List D|a::b::l=>pl a b::kt pl l|l=>l
theorem KO.okf(K:KO Kd No Ok pl):∀(l:List D) (x:D),Ok x->(∀d∈l,Ok d)->Ok (l.foldl pl x)|[],_,h,_=>h|a::l,x,h,f=>K.okf l _ (K.okp _ _ h (f a cj)) λd hd=>f d (cs hd)
theorem KO.fold(K:KO Kd No Ok pl):∀(l:List D) (x:D),Ok x->(∀d∈l,Ok d)->(kt pl l).foldl pl x=l.foldl pl x|[],_,_,_|[a],_,_,_=>rfl|a::b::l,x,h,f=>by have ha:=f a cj;have o:=f b (cs cj);show(kt pl l).foldl pl (pl x (pl a b))=l.foldl pl (pl (pl x a) b);rw[K.assoc x a b h ha o];exact K.fold l _ (K.okp _ _ h (K.okp _ _ ha o)) λd hd=>f d (cs (cs hd))
theorem KO.ok2(K:KO Kd No Ok pl):∀(l:List D),(∀d∈l,Ok d)->∀d∈kt pl l,Ok d|[],h|[a],h=>h|a::b::l,h=>λd hd=>by have hd:d∈pl a b::kt pl l:=hd;rcases cy.mp hd with rfl|hd;{exact K.okp _ _ (h a cj) (h b (cs cj))};exact K.ok2 l (λd hd=>h d (cs (cs hd))) d hd
theorem KB:∀(l:List D),(kt pl l).length=(l.length+1) / 2|[]=>rfl|[a]=>by show 1=(1+1) / 2;rfl|a::b::l=>by show(kt pl l).length+1=(l.length+1+1+1) / 2;rw[KB l];lia
theorem xF:∀(l:List D),pr pl l=(List.range (l.length / 2)).map λk=>pl (l.getD (2 * k) .non) (l.getD (2 * k+1) .non)|[]=>rfl|[a]=>by show([]:List D)=((List.range (1 / 2)).map _);rfl|a::b::l=>by(have:(a::b::l).length / 2=l.length / 2+1:=by show(l.length+1+1) / 2=_;lia);rw[this,List.range_succ_eq_map,cu,fu];show pl a b::pr pl l=_;rw[xF l];refine congrArg (pl a b :: ·) (qj λk _=>?_);show pl _ _=pl ((a::b::l).getD (2 * (k+1)) .non) ((a::b::l).getD (2 * (k+1)+1) .non);rw[show 2 * (k+1)=2 * k+1+1 by lia,show 2 * k+1+1+1=(2 * k+1)+1+1 by lia];simp
theorem KE:∀(l:List D),kt pl l=pr pl l++(if l.length % 2=1 then[l.getD (l.length-1) .non]else[])|[]|[a]=>rfl|a::b::l=>by(show pl a b::kt pl l=pl a b::(pr pl l++_);rw[KE l];have E:(a::b::l).length % 2=l.length % 2:=by show(l.length+1+1) % 2=_;lia);rw[E];split;{rename_i h;(have:(a::b::l).length-1=(l.length-1)+1+1:=by show l.length+1+1-1=_;lia);rw[this];simp};rfl
theorem Ah(d:1<=n)(a:n<=1000):kJ (.ok [(.fz,.int 0),(.fz,.int ((n:Int)-1)),(.fz,.int 2)])=okf (.lst ((List.range (n / 2)).map λ(i:Nat)=>.int ((2 * i:Nat):Int))):=by(have hs:nSt 0 ((n:Int)-1) 2=n / 2:=by unfold nSt Builtin.Range.rangeSize;split <;> lia);show(if(decide ((0:Int)<=0)&&decide ((0:Int)<=1000000)&&decide (0<=(n:Int)-1+1000)&&decide ((n:Int)-1<=1000000)&&decide ((0:Int)<2)&&decide ((2:Int)<=1000000))=true then Res.ok .fz (.lst (jE 0 ((n:Int)-1) 2))else .stuck)=_;rw[al (by simp only[cc,fe];lia)];unfold jE;rw[hs];congr 2;exact qj λi _=>by congr 1;lia
def Ai{l:List D}(h:i<l.length){m:Md}:bv c6 (.ok m (.lst l)) (.ok m' (.int (i:Int)))=okf (l.getD i .non):=by(have e:l.getD i .non=l[i]:=by simp[h]);rw[e];exact dD (cW (gg h))
theorem Wn(K:KO Kd No Ok pl)(k:Nat){l:List D}(o:∀d∈l,Ok d)(r:2<=l.length)(Z:l.length<=1000)(x1:Option (Bool×D))(x3:Option (Bool×D)):b0 (Wk (k+3)) wM [sf Kd,x1,sf (.lst l),x3]=.nx [sf Kd,x1,sf (.lst (kt pl l)),sf (.lst (kt pl l))]:=by
 have W:sizeLine=16777216:=dj;have c1:bI (okf (.lst ((List.range (l.length / 2)).map λ(i:Nat)=>.int ((2 * i:Nat):Int)))) [sf Kd,x1,sf (.lst l),x3] [0,2] 1 (aL (.nm 2)) (λY=>d7 (Wk (k+3)) [] Y) (λY=>aK (Wk (k+3)) (.meth v0 "plus" [(.ix v1 v2),(.ix v1 (.bin .Add v2 (.int 1)))]) Y)=.ok .fr (.lst (pr pl l)):=by rw[xF];refine fV (enc:=λ(i:Nat)=>D.int ((2 * i:Nat):Int)) (λi=>pl (l.getD (2 * i) .non) (l.getD (2 * i+1) .non)) (by simp;lia) λi G=>?_;(have F:i<l.length / 2:=by simpa using G);refine#[[sf Kd,sf (.lst l),sf (.int ((2 * i:Nat):Int))],.fz,rfl,rfl,.fz,?_];have V:bv c6 (okf (.lst l)) (okf (.int ((2 * i:Nat):Int)))=okf (l.getD (2 * i) .non):=Ai (by lia);(have S:bv c6 (okf (.lst l)) (okf (.int (((2 * i:Nat):Int)+1)))=okf (l.getD (2 * i+1) .non):=by(have:(((2 * i:Nat):Int)+1)=((2 * i+1:Nat):Int):=by lia);rw[this];exact Ai (by lia));(have B:Ok (l.getD (2 * i) .non):=by(have:l.getD (2 * i) .non=l[2 * i]:=by simp[show 2 * i<l.length by lia]);rw[this];exact o _ (mm _));(have O:Ok (l.getD (2 * i+1) .non):=by(have:l.getD (2 * i+1) .non=l[2 * i+1]:=by simp[show 2 * i+1<l.length by lia]);rw[this];exact o _ (mm _));have:=K.plus k _ _ B O;show aG (iT TT.cl (Wk (k+3)).Φ "plus" (okf Kd) (aF (bv c6 (okf (.lst l)) (okf (.int ((2 * i:Nat):Int)))) (aF (bv c6 (okf (.lst l)) (okf (.int (((2 * i:Nat):Int)+1)))) (.ok []))))=_;rw[V,S];exact congrArg aG this
 have J:kJ (.ok [(.fz,.int 0),(.fz,.int ((l.length:Int)-1)),(.fz,.int 2)])=okf (.lst ((List.range (l.length / 2)).map λ(i:Nat)=>.int ((2 * i:Nat):Int))):=Ah (by lia) (by lia)
 have E:((l.length:Int) % 2)=((l.length % 2:Nat):Int):=by lia
 have pl2:=KE (pl:=pl) l;refine cg (ρ':=[sf Kd,x1,sf (.lst l),some (true,.lst (pr pl l))]) (by
  rw[Vh,gI];show eA _ 3 (bI (kJ (.ok [(.fz,.int 0),(.fz,.int ((l.length:Int)-1)),(.fz,.int 2)])) _ [0,2] 1 (aL (.nm 2)) (λY=>d7 (Wk (k+3)) [] Y) (λY=>aK (Wk (k+3)) (.meth v0 "plus" [(.ix v1 v2),(.ix v1 (.bin .Add v2 (.int 1)))]) Y))=_;rw[J,c1];rfl) ?_
 have T:aK (Wk (k+3)) (.cmp .Eq (.bin .Mod (.bcall .len [v2]) (.int 2)) (.int 1)) [sf Kd,x1,sf (.lst l),some (true,.lst (pr pl l))]=okf (.bl (decide (l.length % 2=1))):=by(have hx:bv (bB .Eq) (okf (.int ((l.length:Int) % 2))) (okf (.int 1))=okf (.bl (decide (l.length % 2=1))):=by rw[Iv];congr 2;by_cases h:l.length % 2=1;{rw[gS h,E,h];rfl};rw[ig h];(have:l.length % 2=0:=by lia);rw[E,this];rfl);show bv (bB .Eq) (bv (aZ .Mod) (okf (.int (l.length:Int))) (okf (.int 2))) (okf (.int 1))=_;rw[jS (by decide)];exact hx
 by_cases a:l.length % 2=1
 . rw[gS a]at T;rw[al a]at pl2;have ap:dq (Wk (k+3)) (.app 3 (.ix v2 (.neg (.int 1)))) [sf Kd,x1,sf (.lst l),some (true,.lst (pr pl l))]=.nx [sf Kd,x1,sf (.lst l),some (true,.lst (kt pl l))]:=by
     have N:bv c6 (okf (.lst l)) (okf (.int (-1)))=okf (l.getD (l.length-1) .non):=by(have f:l≠[]:=λz=>by rw[z]at r;exact absurd r (by decide));(obtain⟨L,v,rfl⟩:∃L v,l=L++[v]:=#[l.dropLast,l.getLast f,(List.dropLast_concat_getLast f).symm];have:(L++[v]).getD ((L++[v]).length-1) .non=v:=by simp);rw[this];exact dD (NQ L v)
     have A:(pr pl l).length<sizeLine:=by rw[xF,du,oz];lia
     rw[Io,pl2];show eZ _ 3 (bv c6 (okf (.lst l)) (okf (.int (-1))))=_;rw[N];simp[eZ,aG,A]
   exact cg (c7 T (cg ap rfl)) rfl
 . rw[ig a]at T;rw[a0 a,ij]at pl2;rw[pl2];exact cg (bN T rfl) rfl
end
section
variable{Ok:D->Prop}
theorem KF(K:KO Kd No Ok pl)(k:Nat)(x1:Option (Bool×D)):∀(n m:Nat) (l:List D) (x3:Option (Bool×D)),(∀d∈l,Ok d)->1<=l.length->l.length<=n->n<=1000->n+1<=m->∃o,dX (aK (Wk (k+3)) (.cmp .Gt (.bcall .len [v2]) (.int 1))) (b0 (Wk (k+3)) wM) m [sf Kd,x1,sf (.lst l),x3]=.nx [sf Kd,x1,sf (.lst [l.foldl pl No]),o]|n,0,l,x3,_,_,_,_,B=>by lia|n,m+1,l,x3,f,E,hn,A,B=>by have t:aK (Wk (k+3)) (.cmp .Gt (.bcall .len [v2]) (.int 1)) [sf Kd,x1,sf (.lst l),x3]=okf (.bl (decide ((1:Int)<(l.length:Int)))):=rfl;by_cases r:2<=l.length;{rw[gS (by lia)]at t;have b:=Wn K k f r (by lia) x1 x3;rw[Af t b];have L:=KB (pl:=pl) l;exists o,e,KF K k x1 (n-1) m (kt pl l) (sf (.lst (kt pl l))) (K.ok2 l f) (by lia) (by lia) (by lia) (by lia);rw[K.fold l No K.okn f]at e;exact#[o,e]};rw[ig (by lia)]at t;rw[Ag t];match l,E,r with|[a],_,_=>refine#[x3,?_];show aI.nx [sf Kd,x1,sf (.lst [a]),x3]=.nx [sf Kd,x1,sf (.lst [pl No a]),x3];rw[K.left a (f a cj)]|[],z,_=>exact absurd z (by decide)|_::_::_,_,z=>exact absurd (by simp) z
theorem Wo(K:KO Kd No Ok pl)(k:Nat){l:List D}(f:∀d∈l,Ok d)(r:1<=l.length)(o:l.length<=1000):(Wk (k+4)).Φ "poured" [Kd,.lst l]=okf (l.foldl pl No):=by(have t:bv (bB .Eq) (okf (.int (l.length:Int))) (okf (.int 0))=okf (.bl false):=by rw[Iv];congr 2;exact lz.mpr (by lia));exists a,w,KF K k (sf (.lst l)) l.length 1000000 l none f r (dg _) o (by lia);exact fm (d:=JN) rfl rfl (cg (bN (m:=.fz) t rfl) (cg (ρ':=[sf Kd,sf (.lst l),sf (.lst l),none]) rfl (cg (ρ':=[sf Kd,sf (.lst l),sf (.lst [l.foldl pl No]),a]) (by rw[y3];exact w) (a9 (xE 0 (m:=.fz) rfl rfl)))))
abbrev enc(e:N×D):D:=.tup [nD e.1,e.2]
theorem Wp(K:KO Kd No Ok pl)(k:Nat){es:List (N×D)}(o:es.length<=1000)(h:∀e∈es,Ok e.2):(Wk (k+2)).Φ "without_noughts" [Kd,.lst (es.map enc)]=.ok .fr (.lst ((es.filter λe=>!gw e.2 No).map enc)):=by(have f:sizeLine=16777216:=dj;refine fm (d:=JP) rfl rfl ?_;show b0 _ JG [sf Kd,sf (.lst (es.map enc)),none]=_;have n1:=K.nought k;have c1:bI (okf (.lst (es.map enc))) [sf Kd,sf (.lst (es.map enc)),sf No] [2] 2 (aL (.tp [.nm 1,.nm 2])) (λY=>d7 (Wk (k+1)) [(.cmp .NotEq v2 v0)] Y) (λY=>aK (Wk (k+1)) (.tup [v1,v2]) Y)=.ok .fr (.lst ((es.filter λe=>!gw e.2 No).map enc)):=by refine oX (enc:=enc) (λe=>!gw e.2 No) enc (by lia) λe a=>?_;have ne:bv (bB .NotEq) (okf e.2) (okf No)=okf (.bl (!gw e.2 No)):=z6 (K.plain _ (h e a)) (K.plain _ K.okn) (by decide);refine#[[sf No,sf (nD e.1),sf e.2],.fz,rfl,?_,λ_=>#[.fz,rfl]];exact Wm ne);exact cg (bE (bO (by rw[Vd,ze];exact n1))) (k6 (by rw[gI];exact c1))
theorem Wq(K:KO Kd No Ok pl)(k:Nat){gs:GD}(G:gs.length<=1000)(hk:∀kv∈gs,cK (nD kv.1)=some kv.1)(nd:(gs.map (·.1)).Nodup)(h:∀kv∈gs,(∀d∈kv.2,Ok d)/\1<=kv.2.length/\kv.2.length<=1000):(Wk (k+5)).Φ "poured_groups" [Kd,.dtf (gs.map λkv=>(kv.1,.lst kv.2))]=.ok .fr (.lst (((gs.map λkv=>(kv.1,kv.2.foldl pl No)).filter λe=>!gw e.2 No).map enc)):=by
 have S:sizeLine=16777216:=dj;refine fm (d:=JO) rfl rfl ?_;generalize r:(gs.map λkv=>((kv.1,.lst kv.2):N×D))=gd;show b0 _ JF [sf Kd,sf (.dtf gd),none]=_;have F:∀kv∈gs,bJ gd kv.1=some (.lst kv.2):=by(subst r;have key:∀{gs:GD},(gs.map (·.1)).Nodup->∀kv∈gs,bJ (gs.map λkv=>((kv.1,.lst kv.2):N×D)) kv.1=some (.lst kv.2):=by intro gs;induction gs with|nil=>intro _ kv h;cases h|cons g gs E=>intro nd kv f;rw[cu,ik]at nd;rcases cy.mp f with rfl|f;{rw[cu,qR (p:=(kv.1,D.lst kv.2)) rfl]};rw[cu,qS (p:=(g.1,D.lst g.2)) (λz=>nd.1 (de.mpr #[kv,f,z.symm]))];exact E nd.2 kv f);exact key nd
 have c1:bI (okf (.lst (gs.map λkv=>nD kv.1))) [sf Kd,sf (.dtf gd),none] [0,1] 1 (aL (.nm 2)) (λY=>d7 (Wk (k+4)) [] Y) (λY=>aK (Wk (k+4)) (.tup [v2,(.frz (.call "poured" 2 [v0,(.nix v1 v2)]))]) Y)=.ok .fr (.lst (gs.map λkv=>enc (kv.1,kv.2.foldl pl No))):=by
  refine fV (enc:=λ(kv:N×List D)=>nD kv.1) (λkv=>enc (kv.1,kv.2.foldl pl No)) (by lia) λkv f=>?_
  refine#[[sf Kd,sf (.dtf gd),sf (nD kv.1)],.fz,rfl,rfl,.fz,?_];exists B,A,O,h kv f;have p:=Wo K k B A O;have p2:aN 2 ((Wk (k+4)).Φ "poured") (.ok [(.fz,Kd),(.fz,.lst kv.2)])=okf (kv.2.foldl pl No):=dL p;have L:bv eL (okf (.dtf gd)) (okf (nD kv.1))=okf (.lst kv.2):=bK (by
   show eL .fz (.dtf gd) .fz (nD kv.1)=_;unfold eL;rw[hk kv f];show(bJ gd kv.1).map _=_;rw[F kv f];rfl)
  exact congrArg aG (k7 (W:=Wk (k+4)) (Y:=[sf Kd,sf (.dtf gd),sf (nD kv.1)]) (a:=.var 2) (b:=.frz (.call "poured" 2 [v0,(.nix v1 v2)])) rfl (bO (lr rfl L p2)))
 have o:=Wp K (k+2) (es:=gs.map λkv=>(kv.1,kv.2.foldl pl No)) (by simpa using G) (λe J=>by
  exists kv,f,rfl,de.mp J;exact K.okf _ _ K.okn (h kv f).1)
 rw[fu]at o;have it:aK (Wk (k+4)) (.nkeys v1) [sf Kd,sf (.dtf gd),none]=okf (.lst (gs.map λkv=>nD kv.1)):=by show Res.ok .fz (.lst (gd.map λkv=>nD kv.1))=_;rw[<- r,fu];rfl
 exact cg (ρ':=[sf Kd,sf (.dtf gd),sf (.lst (gs.map λkv=>enc (kv.1,kv.2.foldl pl No)))]) (by rw[wC,gI,it,c1];rfl) (k6 (lr (y:=.lst (gs.map λ(kv:N×List D)=>enc (kv.1,kv.2.foldl pl No))) rfl rfl (oW o)))
end
def sW{k:D->Rho->Option Rho}{body:Rho->aI}{d:D}{f a:Rho}(r:k d Y=some f)(o:body f=.nx a):cA k body (d::ds) Y=cA k body ds a:=by(conv=>lhs;unfold cA);rw[r];dsimp only;rw[o]
inductive bD:N->Prop
 |i (n:Int):bD (.i n)
 |s (x:Str):bD (.s x)
def rk:N->N|.i n=>.t [.i 0,.i n,.s ""]|.s x=>.t [.i 1,.i 0,.s x]|.t ks=>.t ks
def lw:N->N|.t vs=>.t (vs.map rk)|k=>k
def xG(k:Nat){v:N}(h:bD v):(Wk (k+2)).Φ "rank" [nD v]=okf (nD (rk v)):=by refine fm (d:=JQ) rfl rfl ?_;cases h with|i n=>exact jf (c7 (m:=.fz) (congrArg eW (fQ (Wi k n))) (a9 rfl))|s x=>exact cg (bN (m:=.fz) (congrArg eW (fQ (dO k (d:=.str x) (a:=false) (b:=false) rfl rfl))) rfl) (a9 rfl)
theorem Wr(k:Nat){vs:List N}(h:∀v∈vs,bD v)(o:vs.length<=10):(Wk (k+3)).Φ "rank_of_row" [nD (.t vs)]=.ok .fr (.lst (vs.map λv=>nD (rk v))):=by have f:sizeLine=16777216:=dj;refine fm (d:=JR) rfl rfl (k6 ?_);rw[gI];show bI (okf (.lst (nDL vs))) _ [] 1 _ _ _=_;rw[eO];exact fV (enc:=nD) (λv=>nD (rk v)) (by lia) λv a=>#[[sf (nD v)],.fz,rfl,rfl,.fz,congrArg aG (fQ (xG k (h v a)))]
theorem xH(W:WD){A:Option (Bool×D)}:∀(vs a:List N) (x:Option (Bool×D)),(∀v∈vs,bD v)->a.length+vs.length<=10->∃y,cA (aL (.nm 2)) (b0 W i6) (vs.map nD) [A,some (true,.lst (a.map nD)),x]=.nx [A,some (true,.lst ((a++vs.map rk).map nD)),y]|[],a,x,_,_=>#[x,by simp[cA]]|v::vs,a,x,h,d=>by(have r:sizeLine=16777216:=dj;have d:a.length+(vs.length+1)<=10:=d;have L:a.length<sizeLine:=by lia);(have B:b0 W i6 [A,some (true,.lst (a.map nD)),sf (nD v)]=.nx [A,some (true,.lst ((a++[rk v]).map nD)),sf (nD v)]:=by(have e:(a++[rk v]).map nD=a.map nD++[nD (rk v)]:=by simp);rw[e];cases h v cj with|i n=>have i1:i9 [(.fz,.int n),(.fz,.ty Ty.str.id)]=some (.fz,.bl false):=rfl;show b0 W i6 [A,some (true,.lst (a.map nD)),sf (.int n)]=.nx [A,some (true,.lst (a.map nD++[.tup [.int 0,.int n,.str ""]])),sf (.int n)];unfold i6;simp[Bn.f,i1,cL,i7,eZ,aG,L]|s y=>have i1:i9 [(.fz,.str y),(.fz,.ty Ty.str.id)]=some (.fz,.bl true):=rfl;show b0 W i6 [A,some (true,.lst (a.map nD)),sf (.str y)]=.nx [A,some (true,.lst (a.map nD++[.tup [.int 1,.int 0,.str y]])),sf (.str y)];unfold i6;simp[Bn.f,i1,cL,i7,eZ,aG,L]);rw[cu,sW (show aL (.nm 2) (nD v) [A,some (true,.lst (a.map nD)),x]=some [A,some (true,.lst (a.map nD)),sf (nD v)]from rfl) B];exists y,e,xH W vs (a++[rk v]) (sf (nD v)) (λu o=>h u (cs o)) (by simp;lia);exact#[y,by rw[e];simp]
def Ws(k:Nat){vs:List N}(h:∀v∈vs,bD v)(f:vs.length<=10):(Wk (k+1)).Φ "_law_rank" [nD (.t vs)]=.ok .fr (.lst (vs.map λv=>nD (rk v))):=by(refine fm (d:=wY) rfl rfl ?_;show b0 _ mY [sf (nD (.t vs)),none,none]=_;have it:aK (Wk k) (.items v0) [sf (nD (.t vs)),some (true,.lst []),none]=okf (.lst (vs.map nD)):=by show Res.ok .fz (.lst (nDL vs))=_;rw[eO]);exists y,e,xH (Wk k) (A:=sf (nD (.t vs))) vs [] none h (by simpa using f);(unfold mY;have a:dq (Wk k) (.set 1 (.lst [])) [sf (nD (.t vs)),none,none]=.nx [sf (nD (.t vs)),some (true,.lst []),none]:=rfl;have S:dq (Wk k) (.for (.items v0) (.nm 2) i6) [sf (nD (.t vs)),some (true,.lst []),none]=.nx [sf (nD (.t vs)),some (true,.lst ((vs.map rk).map nD)),y]:=by rw[kW,it];exact e);rw[mU a,mU S,fu];rfl
mutual
theorem oY:∀(k:N),bA (nD k)=some k|.i n|.s x=>by simp[nD,bA]|.t ks=>by rw[nD,bA,jV ks];rfl
theorem jV:∀(ks:List N),cH (nDL ks)=some ks|[]=>by rw[nDL,cH]|k::ks=>by rw[nDL,cH,oY k,jV ks]
end
theorem KG:∀{vs:List N},(∀v∈vs,bD v)->N.dpL vs=0|[],_=>by rw[N.dpL]|v::vs,h=>by rw[N.dpL,KG λu a=>h u (cs a)];cases h v cj <;> simp[N.dp]
structure Row(k:N):Prop where
 ex:∃vs,k=.t vs/\(∀v∈vs,bD v)/\vs.length<=10
theorem Row.key{k:N}(h:Row k):cK (nD k)=some k:=by(exists vs,rfl,a,_,h.ex;rw[nD];show(match cH (nDL vs)with|some ks=>if(N.t ks).dp<=8 then some (N.t ks)else none|none=>none)=_);rw[jV];dsimp only;rw[N.dp,KG a,al (by lia)]
section
variable{Ok:D->Prop}
structure Gi(Ok:D->Prop)(kvs:GD)(n:Nat):Prop where
 len:kvs.length<=n
 nd:(kvs.map (·.1)).Nodup
 each:∀kv∈kvs,Row kv.1/\(∀d∈kv.2,Ok d)/\1<=kv.2.length/\kv.2.length<=n
theorem xI:∀{kvs:GD}{k:N}{ds:List D},a7 kvs k=some ds->(k,ds)∈kvs|[],k,ds,h=>by cases h|kv::kvs,k,ds,h=>by unfold a7 at h;rw[ft]at h;by_cases e:kv.1=k;{rw[gS e]at h;(have:kv.2=ds:=by simpa using h);rw[<- e,<- this];exact cj};rw[ig e]at h;exact cs (xI h)
def Wt:∀{kvs:GD}{k:N},a7 kvs k=none->∀kv∈kvs,kv.1≠k:=by intro kvs k h kv hkv e;unfold a7 at h;rw[Option.map_eq_none_iff,List.find?_eq_none]at h;exact h kv hkv (by simpa using e)
theorem Gi.add{kvs:GD}(g:Gi Ok kvs n){k:N}{d:D}(hk:Row k)(hd:Ok d):Gi Ok (dY kvs k d) (n+1):=by
 unfold dY;cases e:a7 kvs k with
 |some ds=>(have m:=xI e;exists _,E,J,B,g.each _ m;have fs:(λkv:N×List D=>((if kv.1=k then(kv.1,ds++[d])else kv:N×List D)).1)=λkv=>kv.1:=by funext kv;split <;> rfl);refine#[by show(kvs.map _).length<=_;rw[du];have:=g.len;lia,by show((kvs.map _).map _).Nodup;rw[fu];show(kvs.map λkv=>((if kv.1=k then(kv.1,ds++[d])else kv:N×List D)).1).Nodup;rw[fs];exact g.nd,λkv a=>?_];exists K,f,rfl,de.mp a;exists A,r,o,G,g.each _ f;split;{refine#[A,λx hx=>?_,by simp,by simp;exact B];rcases ii.mp hx with hx|hx;{exact E x hx};rw[gV.mp hx];exact hd};exact#[A,r,o,by lia]
 |none=>have nn:=Wt e;refine#[by rw[im];have:=g.len;simp;lia,?_,λkv a=>?_];{rw[hL,sk];refine#[g.nd,by simp,λx hx y F z=>?_];(exists kv,f,rfl,de.mp hx;have:y=k:=by simpa using F);exact nn kv f (z.trans this)};rcases ii.mp a with a|a;{exists A,r,o,G,g.each _ a;exact#[A,r,o,by lia]};rw[gV.mp a];exact#[hk,λx hx=>by rw[gV.mp hx];exact hd,by simp,by simp]
def val(pl:D->D->D)(No:D)(kvs:GD):List (N×D):=kvs.map λkv=>(kv.1,kv.2.foldl pl No)
def Wu(kvs:GD)(k:N):bJ (val pl No kvs) k=(a7 kvs k).map λds=>ds.foldl pl No:=by unfold bJ a7 val;induction kvs with|nil=>rfl|cons kv kvs a=>rw[cu,ft,ft];by_cases e:kv.1=k;{simp[e]};simp only[e,decide_false];exact a
def Wv(kvs:GD)(k:N)(d:D):val pl No (dY kvs k d)=eD (val pl No kvs) k (pl ((bJ (val pl No kvs) k).getD No) d):=by unfold eD;rw[Wu];unfold dY;cases e:a7 kvs k with|some ds=>rw[r4,al (show(some (ds.foldl pl No)).isSome=true from rfl)];unfold val i5;rw[fu,fu];refine qj λkv _=>?_;show(_,_)=_;by_cases z:kv.1=k;{simp[z,List.foldl_append]};simp[z]|none=>rw[Option.map_none,a0 (by simp)];unfold val;simp
def ff(prs:List (N×D))(kvs:GD):GD:=prs.foldl (λkvs e=>dY kvs e.1 e.2) kvs
theorem KH(W:WD){P:D}:∀(prs:List (N×D)) (kvs:GD) (n:Nat) (x3 x4:Option (Bool×D)),(∀e∈prs,Row e.1/\Ok e.2)->Gi Ok kvs n->n+prs.length<=1000->jM [x3,x4]=true->∃d a,kR (.tp [.nm 3,.nm 4]) (jN 2 (aK W v3) (aK W v4)) (prs.map enc) [sf Kd,sf P,none,x3,x4] kvs=some ([sf Kd,sf P,none,d,a],ff prs kvs)/\Gi Ok (ff prs kvs) (n+prs.length)
 |[],kvs,n,x3,x4,_,g,_,_=>#[x3,x4,rfl,g]|e::prs,kvs,n,x3,x4,h,g,A,ho=>by
  have J:sizeLine=16777216:=dj;exists r,o,h e cj;have A:n+(prs.length+1)<=1000:=A;exists d,a,G,E,KH W (P:=P) prs (dY kvs e.1 e.2) (n+1) (sf (nD e.1)) (sf e.2) (λu B=>h u (cs B)) (g.add r o) (by lia) rfl
  refine#[d,a,?_,by
   show Gi Ok (ff prs (dY kvs e.1 e.2)) (n+(prs.length+1));rw[show n+(prs.length+1)=n+1+prs.length by lia];exact E]
  rw[cu];unfold kR;have S:aL (.tp [.nm 3,.nm 4]) (enc e) [sf Kd,sf P,none,x3,x4]=some [sf Kd,sf P,none,sf (nD e.1),sf e.2]:=rfl;rw[S];dsimp only;rw[al (show jM [sf Kd,sf P,none,sf (nD e.1),sf e.2]=true from rfl)]
  have ga:jN 2 (aK W v3) (aK W v4) [sf Kd,sf P,none,sf (nD e.1),sf e.2] kvs=some ([sf Kd,sf P,none,sf (nD e.1),sf e.2],dY kvs e.1 e.2):=by have f3:aG (aK W v3 [sf Kd,sf P,none,sf (nD e.1),sf e.2])=okf (nD e.1):=rfl;have F:aG (aK W v4 [sf Kd,sf P,none,sf (nD e.1),sf e.2])=okf e.2:=rfl;unfold jN;rw[f3];dsimp only;rw[r.key];dsimp only;rw[F];dsimp only;rw[al];rw[cc];refine#[gS (by have:=g.len;lia),fi.mpr λkv f=>gS (by have:=(g.each kv f).2.2.2;lia)]
  rw[ga];exact G
end
def iY(κ:α->N)(x:α):List α->List α|[]=>[x]|y::l=>if ltN (κ y) (κ x)=true then y::iY κ x l else x::y::l
def c8(κ:α->N)(l:List α):List α:=l.foldr (iY κ) []
theorem KI(κ:α->N)(f:α->D)(x:α):∀(l:List α),iZ (κ x,f x) (l.map λe=>(κ e,f e))=(iY κ x l).map λe=>(κ e,f e)|[]=>rfl|y::l=>by rw[cu];unfold iZ iY;dsimp only;split;{rw[KI κ f x l];rfl};rfl
theorem sX(κ:α->N)(f:α->D):∀(l:List α),gE (l.map λe=>(κ e,f e))=(c8 κ l).map λe=>(κ e,f e)|[]=>rfl|x::l=>by show iZ (κ x,f x) (gE (l.map λe=>(κ e,f e)))=(iY κ x (c8 κ l)).map _;rw[sX κ f l,KI]
theorem KJ(κ:α->N)(x:α):∀(l:List α),(iY κ x l).Perm (x::l)|[]=>jy _|y::l=>by unfold iY;split;{exact((KJ κ x l).cons y).trans (List.Perm.swap x y l)};exact jy _
theorem m8(κ:α->N):∀(l:List α),(c8 κ l).Perm l|[]=>jy _|x::l=>(KJ κ x (c8 κ l)).trans ((m8 κ l).cons x)
theorem KL{f:α->D}{κ:α->N}{kd:α->D}{Φ:D->Res}:∀{es:List α},(∀e∈es,aG (Φ (f e))=okf (kd e))->i4 Φ (es.map f)=some (es.map kd)|[],_=>rfl|e::es,h=>by rw[cu];unfold i4;rw[h e cj,KL (f:=f) (κ:=κ) (kd:=kd) λu a=>h u (cs a)];rfl
theorem KP{κ:α->N}{kd:α->D}:∀{es:List α},(∀e∈es,eP (kd e)=sf (κ e))->gD false (es.map kd)=some (es.map κ)|[],_=>rfl|e::es,h=>by rw[cu];unfold gD;rw[h e cj,KP (κ:=κ) λu a=>h u (cs a)];rfl
def Ww{κ:α->N}{kd:α->D}{e:α}{es:List α}(h:eP (kd e)=sf (κ e)):gD true ((e::es).map kd)=none:=by rw[cu];unfold gD;rw[h];cases gD true (es.map kd) <;> rfl
def Wx{m:Md}:jL m (.lst ds)=some ds:=by cases m <;> rfl
def KQ{f:α->D}{κ:α->N}{kd:α->D}{Φ:D->Res}{m:Md}{d:D}{es:List α}(hd:jL m d=some (es.map f))(A:∀e∈es,aG (Φ (f e))=okf (kd e))(a:∀e∈es,eP (kd e)=sf (κ e))(ok:np (es.map κ)=true)(r:es.length<eM):cX Φ (.ok m d)=.ok .fr (.lst ((c8 κ es).map f)):=by(have o:jK (es.map kd)=some (es.map κ):=by unfold jK;cases es with|nil=>rfl|cons e es=>rw[Ww (κ:=κ) (a e cj)];exact KP a);(unfold cX;show(match jL m d with|some ds=>((match i4 Φ ds with|some K=>((match jK K with|some ks=>if(np ks&&decide (ds.length<eM))=true then Res.ok .fr (.lst ((gE (ks.zip ds)).map λp:N×D=>p.2))else .stuck|none=>.stuck))|none=>.stuck))|none=>.stuck)=_);rw[hd];dsimp only;rw[KL (κ:=κ) A];dsimp only;rw[o];dsimp only;rw[ok,al (by rw[du];simpa using r),List.zip_map',sX,fu];rfl
def Wz{f:α->D}{κ:α->N}{kd:α->D}{Φ:D->Res}{m:Md}{es:List α}(o:∀e∈es,aG (Φ (f e))=okf (kd e))(d:∀e∈es,eP (kd e)=sf (κ e))(ok:np (es.map κ)=true)(a:es.length<eM):cX Φ (.ok m (.lst (es.map f)))=.ok .fr (.lst ((c8 κ es).map f)):=KQ Wx o d ok a
def xJ{v:N}(h:bD v):(rk v).dp<=1:=by cases h <;> simp[rk,N.dp,N.dpL]
def KR{u v:N}(d:bD u)(a:bD v)(e:rk u=rk v):u=v:=by cases d <;> cases a <;> simp_all[rk]
def KS{u v:N}(d:bD u)(a:bD v):fx (rk u) (rk v)=true:=by
 cases d with
 |i n=>cases a with|i m=>simp only[rk,fx,cM];split;{split;{rfl};rfl};rfl|s y=>simp[rk,fx,cM]
 |s x=>cases a with|i m=>simp[rk,fx,cM]|s y=>simp only[rk,fx,cM];repeat (first|rfl|split)
theorem xK:∀{us vs:List N},(∀u∈us,bD u)->(∀v∈vs,bD v)->cM (us.map rk) (vs.map rk)=true|[],_,_,_=>by rw[ll,cM]|_::_,[],_,_=>by rw[ll,cu,cM]|u::us,v::vs,d,a=>by rw[cu,cu,cM];split;{exact xK (λx hx=>d x (cs hx)) λx hx=>a x (cs hx)};exact KS (d u cj) (a v cj)
theorem KU:∀{vs:List N},(∀v∈vs,bD v)->N.dpL (vs.map rk)<=1|[],_=>by rw[ll,N.dpL];lia|v::vs,h=>by rw[cu,N.dpL];have:=KU λu a=>h u (cs a);have:=xJ (h v cj);lia
theorem xL:∀{us vs:List N},(∀u∈us,bD u)->(∀v∈vs,bD v)->us.map rk=vs.map rk->us=vs|[],[],_,_,_=>rfl|[],_::_,_,_,e|_::_,[],_,_,e=>by cases e|u::us,v::vs,d,a,e=>by rw[cu,cu]at e;exists f,E,List.cons.inj e;rw[KR (d u cj) (a v cj) f,xL (λx hx=>d x (cs hx)) (λx hx=>a x (cs hx)) E]
theorem KW(h:∀k∈ks,Row k)(nd:ks.Nodup):np (ks.map lw)=true:=by unfold np;rw[cc,cc];refine#[#[fi.mpr λk hk=>?_,fi.mpr λk hk=>fi.mpr λK B=>?_],gS ?_];{exists r,A,rfl,de.mp hk;exists vs,rfl,d,_,(h r A).ex;refine gS ?_;show(N.t (vs.map rk)).dp<=8;rw[N.dp];have:=KU d;lia};{exists r,A,rfl,de.mp hk;exists vs,rfl,d,_,(h r A).ex;exists D,o,rfl,de.mp B;exists us,rfl,f,_,(h D o).ex;show fx (.t (vs.map rk)) (.t (us.map rk))=true;rw[fx];exact xK d f};refine kS.mpr (ut ?_ nd);intro a b ha hb hab e;exists vs,rfl,d,_,(h a ha).ex;exists us,rfl,f,_,(h b hb).ex;have e:N.t (vs.map rk)=N.t (us.map rk):=e;injection e with e;exact hab (by rw[xL d f e])
def KY{k:N}(h:Row k):∃vs,k=.t vs/\eP (.lst (vs.map λv=>nD (rk v)))=sf (lw k):=by(exists vs,rfl,a,_,h.ex;refine#[vs,rfl,?_];have e:(vs.map λv=>nD (rk v))=nDL (vs.map rk):=by rw[eO,fu];rfl);rw[e];show(cH (nDL (vs.map rk))).map _=_;rw[jV];rfl
section
variable{Ok:D->Prop}
def WA{W:WD}{a b:E}(h:W.dp=true):aK W (.srtl a b) Y=cX (λd=>aK W.pred b [sf d]) (aK W a Y):=by show(if W.dp=true then _ else _)=_;rw[al h]
def WB{W:WD}{f:Str}{a:E}(h:W.dp=true):aK W (.srtf f a) Y=cX (λd=>W.Ψ f [d]) (aK W a Y):=by show(if W.dp=true then _ else _)=_;rw[al h]
def fX(pl:D->D->D)(No:D)(prs:List (N×D)):List (N×D):=(val pl No (ff prs [])).filter λe=>!gw e.2 No
theorem WC(K:KO Kd No Ok pl)(k:Nat){P:D}{prs:List (N×D)}(O:∀m,eX (.ok m P)=okf (.lst (prs.map enc)))(h:∀e∈prs,Row e.1/\Ok e.2)(hl:prs.length<=60):(Wk (k+6)).Φ "gathered" [Kd,P]=okf (.tup ((c8 (λe=>lw e.1) (fX pl No prs)).map enc)):=by
 have hz:sizeLine=16777216:=dj;have Z:Gi Ok ([]:GD) 0:=#[dg _,ml,λkv a=>nomatch a];exists F,B,e1,g,KH (Wk (k+5)) (Kd:=Kd) (P:=P) prs [] 0 none none h Z (by lia) rfl
 rw[mh]at g;have J:dq (Wk (k+5)) (.grp 2 (.for (.items v1) (.tp [(.nm 3),(.nm 4)]) (.app v3 v4))) [sf Kd,sf P,none,none,none]=.nx [sf Kd,sf P,some (true,.dtn ((ff prs []).map λkv=>(kv.1,.lst kv.2))),F,B]:=by show mM 2 (mL (.tp [(.nm 3),(.nm 4)]) (aK (Wk (k+5)) (.items v1)) (jN 2 (aK (Wk (k+5)) v3) (aK (Wk (k+5)) v4))) _=_;unfold mM;rw[al (show(decide (2<[sf Kd,sf P,none,none,none].length)&&jM ([sf Kd,sf P,none,none,none].set 2 none))=true from rfl)];(have gf:mL (.tp [(.nm 3),(.nm 4)]) (aK (Wk (k+5)) (.items v1)) (jN 2 (aK (Wk (k+5)) v3) (aK (Wk (k+5)) v4)) ([sf Kd,sf P,none,none,none].set 2 none) []=some ([sf Kd,sf P,none,F,B],ff prs []):=by unfold mL;have it:aK (Wk (k+5)) (.items v1) ([sf Kd,sf P,none,none,none].set 2 none)=okf (.lst (prs.map enc)):=O _;rw[it];exact e1);rw[gf];rfl
 generalize T:ff prs []=G at *;have pg:=Wq K k (gs:=G) (by have:=g.len;lia) (λkv a=>(g.each kv a).1.key) g.nd (λkv a=>#[(g.each kv a).2.1,(g.each kv a).2.2.1,by have:=(g.each kv a).2.2.2;lia])
 have A:((G.map λkv=>(kv.1,kv.2.foldl pl No)).filter λe=>!gw e.2 No)=fX pl No prs:=by unfold fX;rw[T];rfl
 rw[A]at pg;have fr:∀e∈fX pl No prs,Row e.1:=λe f=>by rw[<- A]at f;exists kv,a,rfl,de.mp (mq.mp f).1;exact(g.each kv a).1
 have fn:((fX pl No prs).map λe=>e.1).Nodup:=by rw[<- A];have:List.Sublist (((G.map λkv=>(kv.1,kv.2.foldl pl No)).filter λe=>!gw e.2 No).map λe=>e.1) ((G.map λkv=>(kv.1,kv.2.foldl pl No)).map λe=>e.1):=List.Sublist.map _ (List.filter_sublist);refine this.nodup ?_;rw[fu];exact g.nd
 have fl:(fX pl No prs).length<=60:=by rw[<- A];have:=List.length_filter_le (λe=>!gw e.2 No) (G.map λkv=>(kv.1,kv.2.foldl pl No));rw[du]at this;have:=g.len;lia
 generalize fX pl No prs=es at *;have S:cX (λd=>aK (Wk (k+5)).pred (.call "rank_of_row" 1 [(.ix v0 (.int 0))]) [sf d]) (.ok .fr (.lst (es.map enc)))=.ok .fr (.lst ((c8 (λe=>lw e.1) es).map enc)):=by
  have o:∀e:N×D,∃kd:D,e∈es->aG (aK (Wk (k+5)).pred (.call "rank_of_row" 1 [(.ix v0 (.int 0))]) [sf (enc e)])=okf kd/\eP kd=sf (lw e.1):=λe=>by by_cases f:e∈es;{exists vs,ev,e2,KY (fr e f);exists V,E,L,hn,(fr e f).ex;(have:V=vs:=by rw[ev]at E;injection E with z;exact z.symm);(subst this;refine#[_,λ_=>#[?_,e2]];have r:=Wr (k+1) L hn;have c:aN 1 ((Wk (k+4)).Φ "rank_of_row") (.ok [(.fz,nD e.1)])=.ok .fr (.lst (V.map λv=>nD (rk v))):=by rw[ev];exact kZ r);have x:aK (Wk (k+5)).pred (.call "rank_of_row" 1 [(.ix v0 (.int 0))]) [sf (enc e)]=aN 1 ((Wk (k+4)).Φ "rank_of_row") (.ok [(.fz,nD e.1)]):=rfl;rw[x,c];rfl};exact#[.non,λz=>absurd z f]
  exact Wz (κ:=λe:N×D=>lw e.1) (kd:=λe=>(o e).choose) (λe f=>((o e).choose_spec f).1) (λe f=>((o e).choose_spec f).2) (by
   have:=KW (ks:=es.map λe=>e.1) (λk hk=>by exists e,f,rfl,de.mp hk;exact fr e f) fn
   rw[fu]at this
   exact this) (gq (by lia:es.length<64) u7)
 exact fm (d:=JS) rfl rfl (cg J (cg rfl (a9 (fW (m:=.fr) (by rw[WA rfl];erw [lr (W:=Wk (k+5)) rfl rfl (oW pg)];exact S)))))
end
def ce(ns:List Int)(i:Int):Int:=if 0<=i then(ns[i.toNat]?).getD 0 else 0
theorem cell(k:Nat)(ns:List Int){i:Int}(h0:0<=i):(Wk (k+1)).Φ "_law_cell_at" [.lst (ns.map .int),.int i]=okf (.int (ce ns i)):=by refine fm (d:=Kc) rfl rfl ?_;show b0 _ sN [sf (.lst (ns.map .int)),sf (.int i)]=_;exists j,rfl,sv h0;unfold ce;rw[al h0];by_cases h:j<ns.length;{have hx:bv c6 (okf (.lst (ns.map .int))) (okf (.int j))=okf (.int ns[j]):=dD (cW (by rw[gz,gg h];rfl));(have h':((j:Int)<(ns.length:Int)):=by lia);simp[sN,h',hx,h]};(have h':¬ ((j:Int)<(ns.length:Int)):=by lia);simp[sN,h',List.getElem?_eq_none (Nat.le_of_not_lt h)]
def m9(k:Nat)(ns:List Int){i:Int}(h0:0<=i):aN 2 ((Wk (k+1)).Φ "_law_cell_at") (.ok [(.fz,.lst (ns.map .int)),(.fz,.int i)])=okf (.int (ce ns i)):=dL (cell k ns h0)
theorem sY{n:Int}(h0:0<=n)(a:n<=1000){m:Md}:fM (.ok [(m,.int n)])=okf (.lst (cD 0 n)):=by unfold fM;rw[bH.thn_ok];dsimp only;rw[al];simp only[cc,fe];lia
theorem mem_range{d:D}{n:Int}(h:d∈cD 0 n):∃i:Nat,(i:Int)<n/\d=.int i:=by simp only[cD,de,oo]at h;exists i,a,rfl,h;exact#[i,by lia,by simp]
def WE(k:Nat)(i:Int):(Wk (k+1)).Φ "_law_alike" [.int i,.int i]=okf (.bl true):=
 fm (d:=sR) rfl rfl (cg (bN (m:=.fz) rfl rfl) (cg (bN (m:=.fz) rfl rfl) (jf (c7 (m:=.fz) rfl (a9 (Ae rfl rfl (by simp:bv (bB .Eq) (okf (.int i)) (okf (.int i))=okf (.bl true))))))))
def WF(k:Nat)(z:Str):(Wk (k+1)).Φ "_law_alike" [.str z,.str z]=okf (.bl true):=
 fm (d:=sR) rfl rfl (cg (bN (m:=.fz) rfl rfl) (cg (bN (m:=.fz) rfl rfl) (cg (bN (m:=.fz) rfl rfl) (jf (c7 (m:=.fz) rfl (a9 (KA rfl (by simp:bv (bB .Eq) (okf (.str z)) (okf (.str z))=okf (.bl true)))))))))
theorem WG(k:Nat)(E:ds.length<=999)(hp:∀d∈ds,(Wk k).Φ "_law_alike" [d,d]=okf (.bl true)):(Wk (k+1)).Φ "_law_alike" [.tup ds,.tup ds]=okf (.bl true):=by
 exists ρ',e,x,rfl,m7 (k:=aL (.nm 2)) (body:=b0 (Wk k) wN) (λ_ Y=>∃x,Y=[sf (.tup ds),sf (.tup ds),x]) (cD 0 (ds.length:Int)) 0 (Y:=[sf (.tup ds),sf (.tup ds),none]) (λj d hd Y o=>by
  exists x,rfl,o;exists A,rfl,sV hd;have ix:bv c6 (okf (.tup ds)) (okf (.int (j:Int)))=okf ds[j]:=dM (cW (gg A));exact#[_,_,rfl,cg (bN (m:=.fz) (congrArg (λr=>f8 (eW r)) (lr (W:=Wk k) (Y:=[sf (.tup ds),sf (.tup ds),sf (.int (j:Int))]) (f:="_law_alike") (a:=.ix v0 v2) (b:=.ix v1 v2) ix ix (dL (hp ds[j] (mm A))))) rfl) rfl,_,rfl]) #[_,rfl]
 have ne:bv (bB .NotEq) (okf (.int (ds.length:Int))) (okf (.int (ds.length:Int)))=okf (.bl false):=by simp
 have D:=sY (m:=.fz) (n:=(ds.length:Int)) (by lia) (by lia)
 have S:dq (Wk k) (.for (.rng1 (.bcall .len [v1])) (.nm 2) wN) [sf (.tup ds),sf (.tup ds),none]=.nx [sf (.tup ds),sf (.tup ds),x]:=by rw[kW];show lW (fM (.ok [(.fz,.int (ds.length:Int))])) _ _ _=_;rw[D];exact e
 have B:dq (Wk k) (.ite (.tru (.bcall .isinstance [v1,(.ty .tuple)])) [.ite (.orL [(.not (.tru (.bcall .isinstance [v0,(.ty .tuple)]))),(.cmp .NotEq (.bcall .len [v0]) (.bcall .len [v1]))]) [.ret (.bl false)] []] [.ite (.orL [(.not (.tru (.bcall .isinstance [v0,(.ty .list)]))),(.cmp .NotEq (.bcall .len [v0]) (.bcall .len [v1]))]) [.ret (.bl false)] []]) [sf (.tup ds),sf (.tup ds),none]=.nx [sf (.tup ds),sf (.tup ds),none]:=by refine c7 (m:=.fz) rfl (cg (bN (m:=.fz) ?_ rfl) rfl);rw[y1,Vf,Ve];show nB (okf (.bl false)) (bv (bB .NotEq) (okf (.int (ds.length:Int))) (okf (.int (ds.length:Int))))=_;rw[ne];rfl
 exact fm (d:=sR) rfl rfl (cg (bN (m:=.fz) rfl rfl) (cg (bN (m:=.fz) rfl rfl) (cg (bN (m:=.fz) rfl rfl) (cg (bN (m:=.fz) rfl rfl) (cg B (cg S rfl))))))
theorem Aj:∀(n:Nat) {d:D},Pl n d->∀K,n<K->(Wk K).Φ "_law_alike" [d,d]=okf (.bl true):=by intro n d h;induction h with|int i=>intro K hk;exists K,rfl,up hk;exact WE K i|str z=>intro K hk;exists K,rfl,up hk;exact WF K z|tup h f a=>intro K hk;exists K,rfl,up hk;exact WG K f λd hd=>a d hd K (by lia)
def l0:fK (.ok [])=.ok .fr (.lst []):=by rfl
def tx(l:List Nat):Str:=#[l.toArray]
def Ak{l:List Nat}:(tx l).cps.toList=l:=by simp[tx]
def WH{a b:List Nat}(h:tx a=tx b):a=b:=by have:=congrArg (λz:Str=>z.cps.toList) h;simpa[Ak]using this
def WI{a b:List Nat}:tx a++tx b=tx (a++b):=by show(#[a.toArray++b.toArray]:Str)=_;simp[tx]
def xM{l:List Nat}:(tx l).length=l.length:=by simp[tx,Str.length]
def cQ:Str:="abcdefghijklmnopqrstuvwxyz"
def dP:Str:=cQ++("0123456789":Str)
def uc(j:Nat)(v:Int):Nat:=if j=0 then cQ.cps.toList.getD (v % 26).toNat 0 else dP.cps.toList.getD (v % 36).toNat 0
theorem KZ{n:Int}(hn:n=z.cps.toList.length)(h:0<n)(v:Int){m:Md}:bv c6 (.ok m (.str z)) (.ok m' (.int (v % n)))=okf (.str (tx [z.cps.toList.getD (v % n).toNat 0])):=by have h0:=ss v (show n≠0 by lia);(have d:=Bt v h;exists i,a,sv h0;have hx:i<z.cps.toList.length:=by lia);rw[a];refine bK ?_;show(atI z.cps.toList (i:Int)).map _=_;rw[cW (gg hx)];rw[show((i:Int)).toNat=i from rfl,List.getD_eq_getElem?_getD,gg hx];rfl
def WJ:(26:Int)=cQ.cps.toList.length:=by decide +kernel
def WK:(36:Int)=dP.cps.toList.length:=by decide +kernel
def dr(c:Int)(a k j:Nat):Int:=if j=a then c / 25+k else c / (7+6 * (j:Int))+11 * (j:Int)
def nm(c:Int)(a k s:Nat):List Nat:=(List.range s).map λj=>uc j (dr c a k j)
def WL(c:Int)(a k s:Nat):tx (nm c a k (s+1))=tx (nm c a k s)++tx [uc s (dr c a k s)]:=by rw[WI];unfold nm;rw[CT,hL];rfl
section
variable{W:WD}{c:Int}{a s:Nat}{x1 x4 x6 x9 x10:Option (Bool×D)}
abbrev NS(c:Int)(a k:Nat)(x1 x4 x6:Option (Bool×D))(z:Str)(x9 x10:Option (Bool×D)):Rho:=[sf (.int c),x1,sf (.str cQ),sf (.str dP),x4,sf (.int (a:Int)),x6,sf (.int (k:Int)),sf (.str z),x9,x10]
theorem WM(A:j<=4):b0 W fU (NS c a k x1 x4 x6 (tx (nm c a k j)) (sf (.int (j:Int))) x10)=.nx (NS c a k x1 x4 x6 (tx (nm c a k (j+1))) (sf (.int (j:Int))) (sf (.int (dr c a k j)))):=by have o:bv (aZ .Mult) (okf (.int 6)) (okf (.int (j:Int)))=okf (.int (6 * (j:Int))):=wD (by decide);have f:bv (aZ .Mult) (okf (.int 11)) (okf (.int (j:Int)))=okf (.int (11 * (j:Int))):=wD (by decide);have D:bv (aZ .FloorDiv) (okf (.int c)) (okf (.int (7+6 * (j:Int))))=okf (.int (c / (7+6 * (j:Int)))):=Vo (by lia) (by lia);(have fst:b0 W (fU.take 2) (NS c a k x1 x4 x6 (tx (nm c a k j)) (sf (.int (j:Int))) x10)=.nx (NS c a k x1 x4 x6 (tx (nm c a k j)) (sf (.int (j:Int))) (sf (.int (dr c a k j)))):=by unfold dr NS;generalize tx (nm c a k j)=z;generalize cQ=LL at *;generalize dP=SS at *;by_cases w:j=a;{(have d:((j:Int)==(a:Int))=true:=by rw[w];exact nv _);rw[al w];simp[fU,o,f,D,d]};have d:((j:Int)==(a:Int))=false:=lz.mpr (by lia);rw[a0 w];simp[fU,o,f,D,d]);have r:=KZ WJ (by decide) (dr c a k j) (m:=.fz) (m':=.fz);have E:=KZ WK (by decide) (dr c a k j) (m:=.fz) (m':=.fz);(have Z:(tx (nm c a k j)).length=j:=by rw[xM];unfold nm;simp);have ad:∀g,bv (aZ .Add) (okf (.str (tx (nm c a k j)))) (okf (.str (tx [g])))=okf (.str (tx (nm c a k j)++tx [g])):=λg=>IE (by rw[dj,Z,xM];simp;lia);(have snd:b0 W [fU.getD 2 .never] (NS c a k x1 x4 x6 (tx (nm c a k j)) (sf (.int (j:Int))) (sf (.int (dr c a k j))))=.nx (NS c a k x1 x4 x6 (tx (nm c a k (j+1))) (sf (.int (j:Int))) (sf (.int (dr c a k j)))):=by rw[WL];unfold uc NS;clear fst;generalize dr c a k j=v at *;generalize tx (nm c a k j)=z at *;by_cases w:j=0;{rw[al w];have ad:=ad (cQ.cps.toList.getD (v % 26).toNat 0);generalize tx [cQ.cps.toList.getD (v % 26).toNat 0]=y at *;generalize cQ=LL at *;generalize dP=SS at *;subst w;simp[fU,r,ad]};have d:((j:Int)==0)=false:=lz.mpr (by lia);rw[a0 w];have ad:=ad (dP.cps.toList.getD (v % 36).toNat 0);generalize tx [dP.cps.toList.getD (v % 36).toNat 0]=y at *;generalize cQ=LL at *;generalize dP=SS at *;simp[fU,d,E,ad]);have split:fU=fU.take 2++[fU.getD 2 .never]:=rfl;rw[split,oU,fst,aI.thn_nx];exact snd
theorem xN(h:n<=1000){m:Md}:fM (.ok [(m,.int (n:Int))])=okf (.lst (cD 0 (n:Int))):=sY (by lia) (by lia)
theorem WN(hs:s<=5):∃o f,cA (aL (.nm 9)) (b0 W fU) (cD 0 (s:Int)) (NS c a k x1 x4 x6 (Str.ofString "") x9 x10)=.nx (NS c a k x1 x4 x6 (tx (nm c a k s)) o f):=by
 exists ρ',e,o,f,rfl,m7 (k:=aL (.nm 9)) (body:=b0 W fU) (λj Y=>∃o f,Y=NS c a k x1 x4 x6 (tx (nm c a k j)) o f) (cD 0 (s:Int)) 0 (Y:=NS c a k x1 x4 x6 (Str.ofString "") x9 x10)
  (λj d hd Y r=>by
   exists o,f,rfl,r;exists A,rfl,sV hd;rw[mh]
   exact#[_,_,rfl,WM (by lia),_,_,rfl]) #[_,_,rfl]
 exact#[o,f,by rw[e,mh,Kz]]
theorem WO(hs:s<=5)(r:ds.length<100){x8:Option (Bool×D)}:∃o f d,b0 W rZ [sf (.int c),x1,sf (.str cQ),sf (.str dP),sf (.int (s:Int)),sf (.int (a:Int)),some (true,.lst ds),sf (.int (k:Int)),x8,x9,x10]=.nx [sf (.int c),x1,sf (.str cQ),sf (.str dP),sf (.int (s:Int)),sf (.int (a:Int)),some (true,.lst (ds++[.str (tx (nm c a k s))])),sf (.int (k:Int)),o,f,d]:=by exists f,d,e,WN (W:=W) (c:=c) (a:=a) (k:=k) (x1:=x1) (x4:=sf (.int (s:Int))) (x6:=some (true,.lst ds)) (x9:=x9) (x10:=x10) hs;refine#[sf (.str (tx (nm c a k s))),f,d,?_];have E:aK W (.rng1 v4) (NS c a k x1 (sf (.int (s:Int))) (some (true,.lst ds)) (Str.ofString "") x9 x10)=okf (.lst (cD 0 (s:Int))):=xN (by lia);refine cg (ρ':=NS c a k x1 (sf (.int (s:Int))) (some (true,.lst ds)) (Str.ofString "") x9 x10) rfl (cg (ρ':=NS c a k x1 (sf (.int (s:Int))) (some (true,.lst ds)) (tx (nm c a k s)) f d) ?_ ?_);{rw[kW,E];exact e};rw[kX,Io];show((if ds.length<sizeLine then _ else _:aI)).thn _=_;rw[al (by rw[dj];lia)];rfl
end
def om(c:Int)(a s n:Nat):List Str:=(List.range n).map λk=>tx (nm c a k s)
def WP{W:WD}{B:List D3.S}{R L:List D}{f x2 x3 x4 d x6 E A o a:Option (Bool×D)}(F:fM (.ok [(.fz,.int 8)])=okf (.lst R))(e:cA (aL (.nm 7)) (b0 W B) R [f,sf (.int 8),x2,x3,x4,d,x6,none,none,none,none]=.nx [f,sf (.int 8),x2,x3,x4,d,some (true,.lst L),E,A,o,a]):b0 W [.for (.rng1 v1) (.nm 7) B,.retV 6] [f,sf (.int 8),x2,x3,x4,d,x6,none,none,none,none]=.rt .fr (.lst L):=by refine cg (ρ':=[f,sf (.int 8),x2,x3,x4,d,some (true,.lst L),E,A,o,a]) ?_ rfl;rw[kW];exact(congrArg (λr=>lW r [f,sf (.int 8),x2,x3,x4,d,x6,none,none,none,none] (aL (.nm 7)) (b0 W B)) F).trans e
theorem WQ(j:Nat)(v:Int):uc j v<0x110000:=by(have n1:∀i<26,cQ.cps.toList.getD i 0<0x110000:=by decide +kernel);(have n2:∀i<36,dP.cps.toList.getD i 0<0x110000:=by decide +kernel);unfold uc;split;{exact n1 _ (by lia)};exact n2 _ (by lia)
theorem Al(c:Int)(a:Nat){s:Nat}(f:s<=5):∀z∈om c a s 8,iV (.inr z)=true:=λz d=>by exists k,_,rfl,de.mp d;have Z:sizeLine=16777216:=dj;show(decide ((tx (nm c a k s)).length<=sizeLine)&&PyData.strOk (tx (nm c a k s)))=true;rw[cc,fe];refine#[by rw[xM];simp[nm];lia,?_];unfold PyData.strOk;rw[<- Array.all_toList,Ak,fi];intro x hx;exists j,_,rfl,de.mp hx;exact gS (WQ _ _)
theorem names(K:Nat)(c:Int):∃zs:List Str,zs.length=8/\zs.Nodup/\(∀z∈zs,iV (.inr z)=true)/\(Wk (K+1)).Φ "_law_names" [.int c,.int 8]=.ok .fr (.lst (zs.map .str)):=by
 exists s',O,sv (show 0<=c % 5 by lia)
 obtain⟨s,hs,h1,F⟩:∃s:Nat,(1+c % 5)=(s:Int)/\1<=s/\s<=5:=#[1+s',by lia,by lia,by lia]
 have V:=ss (c / 5) (show(s:Int)≠0 by lia)
 have a1:=Bt (c / 5) (show(0:Int)<(s:Int) by lia)
 exists a,ha,sv V;have ha:c / 5 % (s:Int)=(a:Int):=ha;have N:a<s:=by lia
 refine#[om c a s 8,by simp[om],?_,Al c a F,?_]
 . refine kS.mpr (ut (R:=λi j=>i<j) ?_ CZ);intro i j hi E hij e;rw[oo]at hi E;have e:=congrArg (λl:List Nat=>l[a]?) (WH e);simp only[nm,gz,ui N,r4,CA]at e;have d:∀k:Nat,dr c a k a=c / 25+k:=λk=>al rfl;rw[d,d]at e;(have n1:∀i<26,∀j<26,cQ.cps.toList.getD i 0=cQ.cps.toList.getD j 0->i=j:=by decide +kernel);(have n2:∀i<36,∀j<36,dP.cps.toList.getD i 0=dP.cps.toList.getD j 0->i=j:=by decide +kernel);unfold uc at e;split at e;{have:=n1 _ (by lia) _ (by lia) e;lia};have:=n2 _ (by lia) _ (by lia) e;lia
 refine fm (d:=Kg) rfl rfl ?_;show b0 _ wS [sf (.int c),sf (.int 8),none,none,none,none,none,none,none,none,none]=_;exists ρ',e,A,r,o,f,rfl,m7 (k:=aL (.nm 7)) (body:=b0 (Wk K) rZ)
  (λj Y=>∃A r o f,Y=[sf (.int c),sf (.int 8),sf (.str cQ),sf (.str dP),sf (.int (s:Int)),sf (.int (a:Int)),some (true,.lst ((om c a s j).map .str)),A,r,o,f])
  (cD 0 ((8:Nat):Int)) 0 (Y:=[sf (.int c),sf (.int 8),sf (.str cQ),sf (.str dP),sf (.int (s:Int)),sf (.int (a:Int)),some (true,.lst []),none,none,none,none])
  (λj d hd Y B=>by
   exists A,r,o,f,rfl,B;exists E,rfl,sV hd;rw[mh];exists J,G,Z,e,WO (W:=Wk K) (c:=c) (a:=a) (k:=j) (s:=s) (x1:=sf (.int 8)) (x9:=o) (x10:=f) (x8:=r) F (ds:=(om c a s j).map .str) (by simp[om];lia)
   refine#[_,_,rfl,e,sf (.int (j:Int)),J,G,Z,?_];have:(om c a s (j+1)).map D.str=(om c a s j).map D.str++[.str (tx (nm c a j s))]:=by unfold om;rw[CT,hL,hL];rfl
   rw[this]) #[_,_,_,_,rfl]
 have ad:bv (aZ .Add) (okf (.str cQ)) (okf (.str "0123456789"))=okf (.str dP):=IE (by decide +kernel)
 have L:bv (aZ .Mod) (okf (.int (c / 5))) (okf (.int (s:Int)))=okf (.int (a:Int)):=by rw[jS (by lia),ha]
 rw[mh,Kz]at e;have T:wS=[.set 2 (.str cQ),.set 3 (.frz (.bin .Add v2 (.str "0123456789"))),.set 4 (.frz (.bin .Add (.int 1) (.bin .Mod v0 (.int 5)))),.set 5 (.frz (.bin .Mod (.bin .FloorDiv v0 (.int 5)) v4)),.set 6 (.lst [])]++[.for (.rng1 v1) (.nm 7) rZ,.retV 6]:=rfl;have p1:b0 (Wk K) [.set 2 (.str cQ),.set 3 (.frz (.bin .Add v2 (.str "0123456789"))),.set 4 (.frz (.bin .Add (.int 1) (.bin .Mod v0 (.int 5)))),.set 5 (.frz (.bin .Mod (.bin .FloorDiv v0 (.int 5)) v4)),.set 6 (.lst [])] [sf (.int c),sf (.int 8),none,none,none,none,none,none,none,none,none]=.nx [sf (.int c),sf (.int 8),sf (.str cQ),sf (.str dP),sf (.int (s:Int)),sf (.int (a:Int)),some (true,.lst []),none,none,none,none]:=by clear e;generalize cQ=LL at *;generalize dP=SS at *;simp[ad,hs,L,l0]
 have S:((8:Nat):Int)=8:=rfl;rw[S]at e;rw[T,oU,p1,aI.thn_nx];exact WP (sY (by decide) (by decide)) e
def i0{a b:D}{m:Md}:bv c6 (.ok m (.tup [a,b])) (.ok m' (.int 0))=okf a:=dM (cW (j:=0) rfl)
def i1{a b:D}{m:Md}:bv c6 (.ok m (.tup [a,b])) (.ok m' (.int 1))=okf b:=dM (cW (j:=1) rfl)
def j0{a b c:D}{m:Md}:bv c6 (.ok m (.tup [a,b,c])) (.ok m' (.int 0))=okf a:=dM (cW (j:=0) rfl)
def j1{a b c:D}{m:Md}:bv c6 (.ok m (.tup [a,b,c])) (.ok m' (.int 1))=okf b:=dM (cW (j:=1) rfl)
def j2{a b c:D}{m:Md}:bv c6 (.ok m (.tup [a,b,c])) (.ok m' (.int 2))=okf c:=dM (cW (j:=2) rfl)
def t2{a b:D}:dU (.ok [(.fz,a),(.fz,b)])=okf (.tup [a,b]):=by rfl
def t3{a b c:D}:dU (.ok [(.fz,a),(.fz,b),(.fz,c)])=okf (.tup [a,b,c]):=by rfl
def h0{a:D}{m:Md}:bv c6 (.ok m (.lst [a])) (.ok m' (.int 0))=okf a:=dD (cW (j:=0) rfl)
def f0{a b c d:D}{m:Md}:bv c6 (.ok m (.tup [a,b,c,d])) (.ok m' (.int 0))=okf a:=dM (cW (j:=0) rfl)
def f1{a b c d:D}{m:Md}:bv c6 (.ok m (.tup [a,b,c,d])) (.ok m' (.int 1))=okf b:=dM (cW (j:=1) rfl)
def f2{a b c d:D}{m:Md}:bv c6 (.ok m (.tup [a,b,c,d])) (.ok m' (.int 2))=okf c:=dM (cW (j:=2) rfl)
def f3{a b c d:D}{m:Md}:bv c6 (.ok m (.tup [a,b,c,d])) (.ok m' (.int 3))=okf d:=dM (cW (j:=3) rfl)
abbrev Tp(C:List Str):D:=.tup (C.map .str)
def K0{N:Nat}{g:Rho->aI}(a:ds.length=n)(h:g (eY N ds)=.nx Y):gm n N g ds=okf .non:=by unfold gm;rw[al a,h];rfl
def xO{C:List Str}:(C.map D.str).all cF=true:=by rw[List.all_map];exact fi.mpr λ_ _=>rfl
def K1{C:List Str}:((C.map D.str).any λy=>jr y (.str z))=decide (z∈C):=by rw[Bool.eq_iff_iff,List.any_map,List.any_eq_true,fe];constructor;{rintro⟨y,a,e⟩;have e:(y==z)=true:=e;rw[ck]at e;subst e;exact a};exact λh=>#[z,h,by show(z==z)=true;exact nv z]
def xP{m:Md}{C:List Str}:bv (bB .In) (.ok m (.str z)) (.ok m' (Tp C))=okf (.bl (decide (z∈C))):=by refine bK ?_;show(if(cF (.str z)&&(C.map D.str).all cF)=true then some (Md.fz,D.bl (if false=true then _ else((C.map D.str).any λy=>jr y (.str z))))else none)=_;rw[xO,K1];rfl
def WR{m:Md}{C:List Str}:bv (bB .NotIn) (.ok m (.str z)) (.ok m' (Tp C))=okf (.bl (!decide (z∈C))):=by refine bK ?_;show(if(cF (.str z)&&(C.map D.str).all cF)=true then some (Md.fz,D.bl (if true=true then !((C.map D.str).any λy=>jr y (.str z))else _))else none)=_;rw[xO,K1];rfl
section
variable{W:WD}{e:E}{m:Md}
theorem K2:eK ds none (some (i:Int))=ds.take i:=by unfold eK;rw[HT.zH,HT.pJ,Bc,Nat.sub_zero];by_cases h:i<=ds.length;{rw[Nat.min_eq_left h]};rw[Nat.min_eq_right (by lia),CC,Bd (by lia)]
theorem WS:eK ds (some (i:Int)) none=ds.drop i:=by unfold eK;rw[HT.zH,HT.pJ];by_cases h:i<=ds.length;{rw[Nat.min_eq_left h];exact Bd (by rw[Co];lia)};rw[Nat.min_eq_right (by lia),uj,List.drop_of_length_le (by lia)];simp
def Am(h:aK W e Y=.ok m (.int (i:Int))):js (okf (.tup ds)) (hH W none) (hH W (some e)) Y=okf (.tup (ds.take i)):=by simp only[hH,js,Res.thn_ok,fJ,h];rw[a0 (by simp),K2]
def An(h:aK W e Y=.ok m (.int (i:Int))):js (okf (.tup ds)) (hH W (some e)) (hH W none) Y=okf (.tup (ds.drop i)):=by simp only[hH,js,Res.thn_ok,fJ,h];rw[a0 (by simp),WS]
def WU(h:aK W e Y=.ok m (.int (i:Int))):js (.ok m' (.lst ds)) (hH W none) (hH W (some e)) Y=.ok .fr (.lst (ds.take i)):=by simp only[hH,js,Res.thn_ok,fJ,h];rw[K2]
end
def WV{W:WD}{e e':E}{m:Md}(h:aK W e Y=.ok m (.int (i:Int)))(h':aK W e' Y=.ok m' (.int (j:Int))){m0:Md}:js (.ok m0 (.lst ds)) (hH W (some e)) (hH W (some e')) Y=.ok .fr (.lst (eK ds (some (i:Int)) (some (j:Int)))):=by simp only[hH,js,Res.thn_ok,fJ,h,h']
def K3(k:Nat){C:List Str}(h:z∈C):(Wk (k+1)).Φ "refuse_missing" [.str z,Tp C]=okf .non:=by rw[V6];refine K0 (Y:=[sf (.str z),sf (Tp C)]) rfl ?_;have e:=WR (m:=.fz) (m':=.fz) (z:=z) (C:=C);rw[gS h]at e;exact cg (bN (m:=.fz) e rfl) rfl
def Ao{C:List Str}(hi:i<C.length){m:Md}:bv c6 (.ok m (Tp C)) (.ok m' (.int (i:Int)))=okf (.str C[i]):=dM (cW (by rw[gz,gg hi];rfl))
theorem K4(k:Nat){C:List Str}(hn:C.Nodup)(hi:i<C.length):(Wk (k+1)).Φ "refuse_twice" [Tp C,.int (i:Int)]=okf .non:=by
 rw[V5];refine K0 (Y:=[sf (Tp C),sf (.int (i:Int))]) rfl ?_;have nm:¬ C[i]∈C.take i:=λh=>by exists j,a,e,List.mem_iff_getElem.mp h;rw[List.getElem_take]at e;rw[re]at a;have:=(AS hn).mp e;lia
 have f:=Ao hi (m:=.fz) (m':=.fz);have d:js (okf (Tp C)) (hH (Wk k) none) (hH (Wk k) (some v1)) [sf (Tp C),sf (.int (i:Int))]=okf (Tp (C.take i)):=by rw[Am (m:=.fz) (i:=i) rfl,<- List.map_take]
 have E:=xP (m:=.fz) (m':=.fz) (z:=C[i]) (C:=C.take i);rw[ig nm]at E;refine cg (bN (m:=.fz) ?_ rfl) rfl;show bv (bB .In) (bv c6 (okf (Tp C)) (okf (.int (i:Int)))) (js (okf (Tp C)) _ _ [sf (Tp C),sf (.int (i:Int))])=_;rw[f,d];exact E
theorem K5:∀{ds:List D}{i j:Nat}{d:D},(fN i ds)[j]? = some d->∃x,ds[j]? = some x/\d=.tup [.int ((i+j:Nat):Int),x]|[],i,j,d,h=>by simp[fN]at h|x::ds,i,0,d,h=>by simp[fN]at h;exact#[x,rfl,h.symm]|x::ds,i,j+1,d,h=>by simp only[fN,CY]at h;exists y,a,e,K5 h;exact#[y,by rw[CY];exact a,by rw[e,show i+1+j=i+(j+1) by lia]]
theorem kept(k:Nat){K C:List Str}(hn:K.Nodup)(hs:∀z∈K,z∈C):(Wk (k+2)).Φ "kept" [Tp K,Tp C]=okf (Tp K):=by
 refine fm (d:=J2) rfl rfl ?_;show b0 (Wk (k+1)) JJ [sf (Tp K),sf (Tp C),none,none]=_;exists ρ',e,I,m7 (k:=aL (.tp [.nm 2,.nm 3])) (body:=b0 (Wk (k+1)) JE) (λ_ Y=>∃x y,Y=[sf (Tp K),sf (Tp C),x,y])
  (fN 0 (K.map .str)) 0 (Y:=[sf (Tp K),sf (Tp C),none,none])
  (λj d hd Y a=>by
   exists x,y,rfl,a;exists v,f,rfl,K5 hd;rw[gz]at f;exists z,r,rfl,uf.mp f;exists o,E,lA.mp r;have c1:aN 2 ((Wk (k+1)).Φ "refuse_missing") (.ok [(.fz,.str z),(.fz,Tp C)])=okf .non:=dL (K3 k (hs z (by rw[<- E];exact mm o)))
   have A:aN 2 ((Wk (k+1)).Φ "refuse_twice") (.ok [(.fz,Tp K),(.fz,.int (j:Int))])=okf .non:=dL (K4 k hn o);rw[mh];exact#[_,[sf (Tp K),sf (Tp C),sf (.int (j:Int)),sf (.str z)],rfl,cg (Ac (lr rfl rfl c1)) (cg (Ac (lr rfl rfl A)) rfl),_,_,rfl])
  #[none,none,rfl]
 exists x,y,rfl,I;exact cg e rfl
def Cb:List Str:=[Str.ofString "join",Str.ofString "pour",Str.ofString "leave"]
def WW{m:Md}:bv (bB .In) (.ok m (.str z)) (.ok m' (.tup [.str (Str.ofString "join"),.str (Str.ofString "pour"),.str (Str.ofString "leave")]))=okf (.bl (decide (z∈Cb))):=xP (C:=Cb)
def nE(k:Nat){A x:D}{w:Str}(a:bv c6 (okf A) (okf (.int 0))=okf (.str w))(r:bv c6 (okf A) (okf (.int 1))=okf x)(f:(w==Str.ofString "table")=false)(o:decide (w∈Cb)=false):(Wk (k+1)).Φ "askings_within" [A]=okf (.tup [x]):=by have E:=WW (m:=.fz) (m':=.fz) (z:=w);rw[o]at E;refine fm (d:=JZ) rfl rfl (cg (bN (m:=.fz) (cE (m:=.fz) a f) rfl) (cg (bN (m:=.fz) ?_ rfl) (a9 (EA r))));show bv (bB .In) (bv c6 (okf A) (okf (.int 0))) (okf (.tup (Cb.map .str)))=_;rw[a];exact E
def WX{w:Str}{d:D}(h:cB M (.inr w)=some d){m:Md}:bv qo (.ok m (.dct M)) (.ok m' (.str w))=okf d:=bK (by
 show(cB M (.inr w)).map _=_;rw[h];rfl)
def WY{w:Str}{d:D}(h:cB M (.inr w)=some d){m:Md}:bv (nl true) (.ok m (.str w)) (.ok m' (.dct M))=okf (.bl false):=bK (by
 show some (Md.fz,D.bl (if true=true then !(cB M (.inr w)).isSome else _))=_;rw[h];rfl)
def oZ(k:Nat){w:Str}{d:D}(h:cB M (.inr w)=some d):(Wk (k+2)).Φ "columns_of" [.tup [.str "table",.str w],.dct M]=okf d:=
 fm (d:=wV) rfl rfl (jf (c7 (m:=.fz) (cE (m:=.fz) rfl (by decide)) (a9 (lr rfl rfl (dL (fm (d:=J5) rfl rfl (cg (bN (m:=.fz) (WY h) rfl) (a9 (WX h)))))))))
def xQ:List (Str×Str):=[("pick","columns_of_pick"),("keep","columns_of_keep"),("call","columns_of_call"),("join","columns_of_join"),("pour","columns_of_pour"),("total","columns_of_total"),("leave","columns_of_leave")]
def K6:List Str:=["columns_of_pick","columns_of_keep","columns_of_call","columns_of_join","columns_of_pour","columns_of_total","columns_of_leave"]
theorem K7{W:WD}{M:D}:∀(U ys:List D),U.length=ys.length->(∀(i:Nat) (h:i<U.length) (h':i<ys.length),W.Φ "columns_of" [U[i],M]=okf ys[i])->eJ (aL (.nm 1)) (λY=>d7 W [] Y) (λY=>aK W (.call "columns_of" 2 [v1,v0]) Y) [sf M,none] U=some ys|[],[],_,_=>rfl|[],_::_,h,_|_::_,[],h,_=>by simp at h|x::U,y::ys,h,q=>by have d:=K7 (W:=W) (M:=M) U ys (by simpa using h) λi o f=>q (i+1) (by simpa using o) (by simpa using f);have k:aL (.nm 1) x [sf M,none]=some [sf M,sf x]:=rfl;have a:W.Φ "columns_of" [x,M]=okf y:=q 0 (by simp) (by simp);have e:aK W (.call "columns_of" 2 [v1,v0]) [sf M,sf x]=okf y:=lr rfl rfl (dL a);rw[eJ,k];dsimp only;rw[Ii];dsimp only;rw[e,d];rfl
def xR(k:Nat){A M r:D}{w f:Str}{U ys:List D}(o:bv c6 (okf A) (okf (.int 0))=okf (.str w))(B:(w==Str.ofString "table")=false)(hf:xQ.lookup w=some f)(a:K6.contains f=true)(hx:(Wk k).Φ "askings_within" [A]=okf (.tup U))(G:U.length=ys.length)(hs:U.length<sizeLine)(F:∀(i:Nat) (h:i<U.length) (h':i<ys.length),(Wk k).Φ "columns_of" [U[i],M]=okf ys[i])(E:(Wk k).Φ f [A,.lst ys]=okf r):(Wk (k+1)).Φ "columns_of" [A,M]=okf r:=by(have K:aN 1 ((Wk k).Φ "askings_within") (.ok [(.fz,A)])=okf (.tup U):=fQ hx;have cr:aN 2 ((Wk k).Φ f) (.ok [(.fz,A),(.fz,.lst ys)])=okf r:=dL E;have cl:=K7 (W:=Wk k) (M:=M) U ys G F;refine fm (d:=wV) rfl rfl ?_;generalize Wk k=W at *;have J:bI (okf (.lst U)) [sf A,sf M,none,none] [1] 1 (aL (.nm 1)) (λY=>d7 W [] Y) (λY=>aK W (.call "columns_of" 2 [v1,v0]) Y)=.ok .fr (.lst ys):=by(show(if U.length<sizeLine then(match eJ (aL (.nm 1)) (λY=>d7 W [] Y) (λY=>aK W (.call "columns_of" 2 [v1,v0]) Y) [sf M,none] U with|some ys=>Res.ok .fr (.lst ys)|none=>.stuck)else .stuck)=_);rw[al hs,cl]);(refine cg (bN (m:=.fz) (cE (m:=.fz) o B) rfl) (cg (ρ':=[sf A,sf M,sf (.lst ys),none]) ?_ (cg (bE (Eq.trans (congrArg (kH xQ) o) (show(match xQ.lookup w with|some f=>Res.ok .fz (.fn f)|none=>.stuck)=_ by rw[hf]))) (a9 ?_))));{rw[wC,gI];show eA _ 2 (aG (bI (eX (aG (aN 1 (W.Φ "askings_within") (.ok [(.fz,A)])))) _ [1] 1 (aL (.nm 1)) (λY=>d7 W [] Y) (λY=>aK W (.call "columns_of" 2 [v1,v0]) Y)))=_;rw[K];exact congrArg (λr=>eA _ 2 (aG r)) J};show(if K6.contains f=true then aN 2 (W.Φ f) (.ok [(.fz,A),(.fz,.lst ys)])else .stuck)=_;rw[al a,cr]
abbrev Ky:=N×N
abbrev Tr:=Ky×Int
def hE(k:Ky):N:=.t [k.1,k.2]
end K43
variable{J A:List K43.Tr}
namespace K43
open D3
def dw(t:Tr):N:=.t [t.1.1,t.1.2,.i t.2]
def kl(a b:Ky):Bool:=ltN (hE a) (hE b)
def xS{a b:Ky}(h:hE a=hE b):a=b:=by unfold hE at h;simp only[N.t.injEq,uh,and_true]at h;exact rq h.1 h.2
def xT{a b:Tr}(h:dw a=dw b):a=b:=by unfold dw at h;simp only[N.t.injEq,uh,and_true,N.i.injEq]at h;exact rq (rq h.1 h.2.1) h.2.2
def xU(a:Ky):kl a a=false:=jH _
def WZ{a b:Ky}(f:kl a b=false)(d:kl b a=false):a=b:=xS (qX _ _ f d)
def K8{a b:Tr}(h:a.1≠b.1):ltN (dw a) (dw b)=kl a.1 b.1:=by unfold kl hE dw;simp only[ltN,bC];by_cases E:a.1.1=b.1.1;{rw[al E,al E];by_cases d:a.1.2=b.1.2;{exact absurd (rq E d) h};rw[a0 d,a0 d]};rw[a0 E,a0 E]
def bL(p:List Tr)(k:Ky):Int:=match p with|[]=>0|t::r=>(if t.1=k then t.2 else 0)+bL r k
def hG(p:List Tr)(k:Ky):Prop:=∃t∈p,t.1=k
theorem nF:∀(p:List Tr) (t:Tr) (k:Ky),bL (p++[t]) k=bL p k+if t.1=k then t.2 else 0|[],t,k=>by simp[bL]|a::p,t,k=>by show(if a.1=k then a.2 else 0)+bL (p++[t]) k=(if a.1=k then a.2 else 0)+bL p k+_;rw[nF p t k,Int.add_assoc]
theorem W0{p q:List Tr}(h:p.Perm q)(k:Ky):bL p k=bL q k:=by induction h with|nil=>rfl|cons x _ f=>show _+bL _ k=_+bL _ k;rw[f]|swap x y l=>show _+(_+bL l k)=_+(_+bL l k);lia|trans _ _ d a=>rw[d,a]
def K9{p q:List Tr}(h:p.Perm q)(k:Ky):hG p k↔hG q k:=#[λ⟨t,m,e⟩=>#[t,h.mem_iff.mp m,e],λ⟨t,m,e⟩=>#[t,h.mem_iff.mpr m,e]]
theorem k8:∀{p:List Tr}{k:Ky},¬ hG p k->bL p k=0|[],k,_=>rfl|t::p,k,h=>by have d:¬ t.1=k:=λe=>h #[t,cj,e];have a:¬ hG p k:=λ⟨u,m,e⟩=>h #[u,cs m,e];show(if t.1=k then t.2 else 0)+bL p k=0;rw[a0 d,k8 a];rfl
def o4{p:List Tr}{t:Tr}{k:Ky}:hG (p++[t]) k↔hG p k\/t.1=k:=by constructor;{rintro⟨u,m,e⟩;rcases ii.mp m with m|m;{exact .inl #[u,m,e]};cases gV.mp m;exact .inr e};rintro(⟨u,m,e⟩|e);{exact#[u,oq _ m,e]};exact#[t,iu _ (gV.mpr rfl),e]
def gK(p L:List Tr):Prop:=∀k n,(k,n)∈L↔hG p k/\n=bL p k
def dE(J:List Tr)(t:Tr):List Tr:=if(J.any λa=>decide (a.1=t.1))=true then J.map (λa=>if a.1=t.1 then(a.1,a.2+t.2)else a)else J++[t]
def nG{k:Ky}:(J.any λa=>decide (a.1=k))=true↔hG J k:=by rw[List.any_eq_true];constructor;{rintro⟨a,m,e⟩;exact#[a,m,kz e]};rintro⟨a,m,e⟩;exact#[a,m,gS e]
def xV{p L:List Tr}(h:gK p L)(k:Ky):hG L k↔hG p k:=by constructor;{rintro⟨⟨K,n⟩,m,rfl⟩;exact((h K n).mp m).1};intro q;exact#[(k,bL p k),(h k _).mpr #[q,rfl],rfl]
def La(J:List Tr)(t:Tr):(dE J t).map (·.1)=if(J.any λa=>decide (a.1=t.1))=true then J.map (·.1)else J.map (·.1)++[t.1]:=by unfold dE;split;{rw[fu];refine qj λa _=>?_;show(if a.1=t.1 then(a.1,a.2+t.2)else a).1=a.1;split <;> rfl};rw[hL];rfl
theorem W1{p:List Tr}(t:Tr)(h:gK p J)(nd:(J.map (·.1)).Nodup):gK (p++[t]) (dE J t)/\((dE J t).map (·.1)).Nodup:=by
 refine#[λk n=>?_,?_]
 . unfold dE;by_cases q:(J.any λa=>decide (a.1=t.1))=true
   . rw[al q];have hp:hG p t.1:=(xV h _).mp (nG.mp q);rw[o4,nF];constructor
     . intro m;obtain⟨⟨K,N⟩,m',e⟩:=de.mp m;have d:=(h K N).mp m';dsimp only at e;split at e;{rename_i E;cases e;rw[al E.symm];exact#[.inl d.1,by rw[d.2]]};rename_i E;cases e;rw[a0 (λz=>E z.symm)];exact#[.inl d.1,by rw[d.2];lia]
     . rintro⟨m,rfl⟩;have hk:hG p k:=by
         rcases m with m|m
         . exact m
         . rw[<- m];exact hp
       have m':=(h k _).mpr #[hk,rfl];refine de.mpr #[(k,bL p k),m',?_];dsimp only;by_cases E:k=t.1
       . rw[al E,al E.symm]
       . rw[a0 E,a0 (λz=>E z.symm),sy]
   . rw[a0 q];have hp:¬ hG p t.1:=λz=>q (nG.mpr ((xV h _).mpr z));rw[o4,nF,ii,gV,h k n];by_cases E:t.1=k;{subst E;rw[al rfl,k8 hp,tc];constructor;{rintro(z|z);{exact absurd z.1 hp};exact#[.inr rfl,by rw[<- z]]};rintro⟨_,rfl⟩;exact .inr rfl};rw[a0 E,sy];constructor;{rintro(z|z);{exact#[.inl z.1,z.2]};exact absurd (by rw[<- z]) E};rintro⟨z|z,e⟩;{exact .inl #[z,e]};exact absurd z E
 . rw[La];split;{exact nd};rename_i q;refine sk.mpr #[nd,ox _ _,λa ha b f e=>?_];cases gV.mp f;exists u,mu,rfl,de.mp ha;exact q (nG.mpr #[u,mu,e])
theorem Lb:∀(r p J:List Tr),gK p J->(J.map (·.1)).Nodup->gK (p++r) (r.foldl dE J)/\((r.foldl dE J).map (·.1)).Nodup|[],p,J,h,nd=>by rw[ij];exact#[h,nd]|t::r,p,J,h,nd=>by exists a,n1,W1 t h nd;have:=Lb r (p++[t]) _ a n1;rw[tf]at this;exact this
def bR(ts:List Tr):List Tr:=ts.foldl dE []
def Lc:gK [] []:=λk n=>Iff.intro (λh=>by cases h) (λh=>by obtain⟨⟨t,m,_⟩,_⟩:=h;cases m)
def k9(ts:List Tr):gK ts (bR ts)/\((bR ts).map (·.1)).Nodup:=by have:=Lb ts [] [] Lc ml;rw[ow]at this;exact this
def dF(a:List Tr)(t:Tr):List Tr:=match a with|[]=>[t]|l::r=>if l.1=t.1 then(t.1,l.2+t.2)::r else t::l::r
def sZ(r:List Tr):Prop:=r.Pairwise λa b=>kl b.1 a.1=true
def W2{p f:List Tr}(t:Tr)(h:gK p f)(d:sZ f)(le:∀x∈p,ltN (dw t) (dw x)=false):gK (p++[t]) (dF f t)/\sZ (dF f t):=by
 cases f with
 |nil=>have hp:∀k,¬ hG p k:=λk z=>nomatch (h k _).mpr #[z,rfl];refine#[λk n=>?_,ox _ _];rw[o4,nF,k8 (hp k),tc];show(k,n)∈[t]↔_;rw[gV];constructor;{intro e;rw[<- e];exact#[.inr rfl,by rw[al rfl]]};rintro⟨z|z,e⟩;{exact absurd z (hp k)};rw[al z]at e;rw[e,<- z]
 |cons l r =>
  have o:(l.1,l.2)∈l::r:=cj;have o:=(h l.1 l.2).mp o;have dl:=(gr.mp d).1;have N:∀n,(l.1,n)∉r:=λn m=>by have:=dl _ m;rw[xU]at this;cases this
  unfold dF;dsimp only;by_cases e:l.1=t.1
  . rw[al e];refine#[λk n=>?_,gr.mpr #[λa ha=>by rw[<- e];exact dl a ha,(gr.mp d).2]];rw[o4,nF,cy];by_cases E:t.1=k;{subst E;rw[al rfl];constructor;{rintro(z|z);{rw[Prod.mk.injEq]at z;exact#[.inr rfl,by rw[z.2,o.2,e]]};exact absurd z (by rw[<- e];exact N n)};rintro⟨_,z⟩;left;rw[z,o.2,e]};rw[a0 E,sy];constructor;{rintro(z|z);{exact absurd (Prod.mk.injEq .. ▸ z).1.symm E};have:=(h k n).mp (cs z);exact#[.inl this.1,this.2]};rintro⟨z|z,B⟩;{have:=(h k n).mpr #[z,B];rcases cy.mp this with m|m;{exact absurd (by rw[<- m]at e;exact e.symm) E};exact .inr m};exact absurd z E
  . rw[a0 e];exists x,F,ex,o.1;have D:kl t.1 l.1=false:=by
      have:=le x F;rw[K8 (by rw[ex];exact λz=>e z.symm),ex]at this
      exact this
    have K:kl l.1 t.1=true:=by cases q:kl l.1 t.1 with|true=>rfl|false=>exact absurd (WZ q D) e
    have hp:¬ hG p t.1:=λz=>by have:=(h t.1 _).mpr #[z,rfl];rcases cy.mp this with m|m;{exact e (by rw[<- m])};have:=dl _ m;rw[D]at this;cases this
    refine#[λk n=>?_,gr.mpr #[λa ha=>?_,d]]
    . rw[o4,nF,cy,h k n];by_cases E:t.1=k;{subst E;rw[al rfl,k8 hp,tc];constructor;{rintro(z|z);{exact#[.inr rfl,by rw[<- z]]};exact absurd z.1 hp};rintro⟨_,rfl⟩;exact .inl rfl};rw[a0 E,sy];constructor;{rintro(z|z);{exact absurd (by rw[<- z]) E};exact#[.inl z.1,z.2]};rintro⟨z|z,B⟩;{exact .inr #[z,B]};exact absurd z E
    . rcases cy.mp ha with rfl|ha;{exact K};exact u8 _ _ _ (dl a ha) K
theorem Ld:∀(r p a:List Tr),gK p a->sZ a->gP ((p++r).map dw)->gK (p++r) (r.foldl dF a)/\sZ (r.foldl dF a)|[],p,a,h,d,_=>by rw[ij];exact#[h,d]|t::r,p,a,h,d,S=>by(have le:∀x∈p,ltN (dw t) (dw x)=false:=λx hx=>by rw[hL]at S;exact(List.pairwise_append.mp S).2.2 _ (Bu hx) _ (Bu cj));exists f,D,W2 t h d le;have:=Ld r (p++[t]) _ f D (by rw[tf];exact S);rw[tf]at this;exact this
theorem Le:∀{a b:List Tr},a.map dw=b.map dw->a=b|[],[],_=>rfl|[],_::_,h|_::_,[],h=>by cases h|x::a,y::b,h=>by rw[cu,cu,uh]at h;rw[xT h.1,Le h.2]
def Ap{ts S:List Tr}(hs:S.map dw=dJ (ts.map dw)):(S.foldl dF []).reverse.map dw=dJ ((bR ts).map dw):=by
 have f:S.Perm ts:=by(have h0:(S.map dw).Perm (ts.map dw):=by rw[hs];exact jI _);(exists r,q1,B,vH h0;have:S=r:=by exact Le B);rw[this];exact q1
 exists o,D,Ld S [] [] Lc .nil (by rw[ow,hs];exact mJ _)
 rw[ow]at o;exists F,n2,k9 ts;have d:(S.foldl dF []).Nodup:=D.imp λ{a b} h e=>by subst e;rw[xU]at h;cases h
 have N:(bR ts).Nodup:=by have:=kS.mp n2;exact this.imp λ{a b} h e=>h (by rw[e])
 have E:(S.foldl dF []).Perm (bR ts):=(Bv d N).mpr λ⟨k,n⟩=>by rw[o k n,F k n,K9 f k,W0 f k]
 refine vB ?_ (((List.reverse_perm _).trans E).map dw);unfold gP;rw[kS,List.pairwise_reverse];refine D.imp λ{a b} h=>?_;have ne:a.1≠b.1:=λe=>by rw[e,xU]at h;cases h
 rw[K8 ne];exact oF h
theorem Lf:∀{ks:List N},(∀k∈ks,aU (nD k)=some k.py)->cG (nDL ks)=some (N.pyL ks)|[],_=>by simp[nDL,cG,N.pyL]|k::ks,h=>by simp only[nDL,cG,N.pyL];rw[h k cj,Lf λx hx=>h x (cs hx)]
def nH(k:N):aU (nD k)=some k.py:=by induction k using N.ind with|hi n|hs x=>simp[nD,aU,N.py]|ht U a=>simp only[nD,aU,N.py];rw[Lf a];rfl
theorem Aq{x y:N}{m:Md}(hx:x.dp<=50)(a:y.dp<=50):jn neg m (nD x) m' (nD y)=some (.fz,.bl (if neg then !decide (x=y)else decide (x=y))):=by unfold jn;rw[nH,nH];dsimp only;rw[al (by unfold gN;rw[cc,fe,fe,N.py_depth,N.py_depth];lia),N.py_eqv]
def xW{x y:N}{m:Md}(hx:x.dp<=50)(a:y.dp<=50):bv (bB .Eq) (.ok m (nD x)) (.ok m' (nD y))=okf (.bl (decide (x=y))):=bK (by
 show gu (jn false) _ m (nD x) m' (nD y)=_;unfold gu;rw[Aq hx a];rfl)
def W3(h:(N.t ks).dp<=8):cK (nD (.t ks))=some (.t ks):=by(rw[nD];show(match cH (nDL ks)with|some ks=>if(N.t ks).dp<=8 then some (N.t ks)else none|none=>none)=_);rw[jV];dsimp only;rw[al h]
def W4(h:∀k∈ks,eN k=true)(h0:ks≠[]):pa (nDL ks)=none:=by cases ks with|nil=>exact absurd rfl h0|cons k ks=>have:=h k cj;unfold eN at this;split at this;{simp only[nDL,nD];rfl};cases this
def W5(ks:List N):(dJ ks).length=ks.length:=(jI ks).length_eq
def Lg{m:Md}{d:D}(hd:seqD d=some (nDL ks))(h:∀k∈ks,eN k=true)(ok:tz ks=true):gC [(m,d)]=some (.fr,.lst (nDL (dJ ks))):=by(show(match seqD d with|some ds=>_|none=>none)=_);rw[hd];dsimp only;by_cases h0:ks=[];{subst h0;rfl};rw[W4 h h0,jV];dsimp only;rw[al ok]
def isF(f:N):Prop:=∃U:List Str,f=.t (U.map .s)/\U.length<1000
theorem Lh:∀{U ys:List N},(∀x∈U,∀y∈ys,fx x y=true)->cM U ys=true|[],_,_|_::_,[],_=>by simp[cM]|x::U,y::ys,h=>by rw[cM];split;{exact Lh λa ha b d=>h a (cs ha) b (cs d)};exact h x cj y cj
def EB{f g:N}(hf:isF f)(o:isF g):fx f g=true:=by exists U,rfl,_,hf;exists ys,rfl,_,o;rw[fx];refine Lh λx hx y d=>?_;exists a,_,rfl,de.mp hx;exists b,_,rfl,de.mp d;rw[fx]
def EC{s t:Tr}(d:fx s.1.1 t.1.1=true)(a:fx s.1.2 t.1.2=true):fx (dw s) (dw t)=true:=by unfold dw;simp only[fx,cM];split;{split;{split <;> rfl};exact a};exact d
theorem Li:∀{U:List N}{n:Nat},(∀x∈U,x.dp<=n)->N.dpL U<=n|[],n,_=>by simp[N.dpL]|x::U,n,h=>by rw[N.dpL];have:=h x cj;have:=Li λy a=>h y (cs a);lia
theorem ED{f:N}(h:isF f):f.dp<=1:=by(exists U,rfl,_,h;rw[N.dp];have:N.dpL (U.map N.s)<=0:=Li λx hx=>by exists a,_,rfl,de.mp hx;rw[N.dp];exact dg 0);lia
def W6{t:Tr}(h:isF t.1.1):eN (dw t)=true:=by exists U,e,_,h;unfold dw;rw[e];rfl
def o5(t:Tr):nD (dw t)=.tup [nD t.1.1,nD t.1.2,.int t.2]:=by simp[dw,nD,nDL]
def K_eq(k:Ky):nD (hE k)=.tup [nD k.1,nD k.2]:=by simp[hE,nD,nDL]
abbrev tD(t:Tr):D:=nD (dw t)
def lC(ts:List Tr):nDL (ts.map dw)=ts.map tD:=by rw[eO,fu];rfl
theorem W7(r:List D)(d:D):atI (r++[d]) (-1)=some d:=by unfold atI ixN;rw[a0 (by decide),al (by simp;lia)];(simp;have:(-1+((r.length:Int)+1)).toNat=r.length:=by lia);rw[this];simp
theorem W8(r:List D)(d:D):ixN (r++[d]).length (-1)=some r.length:=by unfold ixN;rw[a0 (by decide),al (by simp;lia)];simp;lia
def W9(r:List D)(d e:D):(r++[d]).set r.length e=r++[e]:=by simp
def iq(k:Ky):Prop:=isF k.1/\k.2=.t []
theorem lD{k:Ky}(h:iq k):k.1.dp<=1/\k.2.dp<=1/\(hE k).dp<=8/\∀n,(dw (k,n)).dp<=8:=by(have d:=ED h.1;have a:k.2.dp<=1:=by rw[h.2];simp[N.dp,N.dpL]);refine#[d,a,?_,λn=>?_];{simp only[hE,N.dp,N.dpL];lia};simp only[dw,N.dp,N.dpL];lia
def EF{s t:Tr}(d:iq s.1)(a:iq t.1):fx (dw s) (dw t)=true:=EC (EB d.1 a.1) (by rw[d.2,a.2];simp[fx,cM])
def Lj{ts:List Tr}(h:∀t∈ts,iq t.1)(o:ts.length<64):tz (ts.map dw)=true/\∀k∈ts.map dw,eN k=true:=by(have d:∀k∈ts.map dw,eN k=true:=λk hk=>by exists t,a,rfl,de.mp hk;exact W6 (h t a).1);refine#[?_,d];unfold tz;simp only[cc,jx,fe,fi];refine#[#[#[λk hk=>?_,.inr d],λx hx y f=>?_],by rw[du];exact gq o u7];{exists t,a,rfl,de.mp hk;exact ir ((lD (h t a)).2.2.2 t.2) (by decide)};exists s,hs,rfl,de.mp hx;exists t,a,rfl,de.mp f;exact EF (h s hs) (h t a)
def EG:fK (.ok [])=.ok .fr (.lst []):=rfl
def o7(t:Tr):tD t=.tup [nD t.1.1,nD t.1.2,.int t.2]:=o5 t
def Ar{W:WD}{A x2 x3 x4:Option (Bool×D)}{t:Tr}:b0 W gJ [A,some (true,.lst []),sf (nD t.1.1),sf (nD t.1.2),sf (.int t.2)]=.nx [A,some (true,.lst [tD t]),sf (nD t.1.1),sf (nD t.1.2),sf (.int t.2)]:=by(have l0:eI [(.bo,.lst [])]=some (.fz,.int 0):=rfl;have a:eZ [A,some (true,.lst []),sf (nD t.1.1),sf (nD t.1.2),sf (.int t.2)] 1 (okf (.tup [nD t.1.1,nD t.1.2,.int t.2]))=.nx [A,some (true,.lst [tD t]),sf (nD t.1.1),sf (nD t.1.2),sf (.int t.2)]:=by rw[tD,o5];rfl);simp[gJ,l0,i7,a]
theorem As{W:WD}{A:Option (Bool×D)}{l t:Tr}{r:List D}(o:iq l.1)(ht:iq t.1)(G:r.length+1<sizeLine):b0 W gJ [A,some (true,.lst (r++[tD l])),sf (nD t.1.1),sf (nD t.1.2),sf (.int t.2)]=.nx [A,some (true,.lst (if l.1=t.1 then r++[tD (t.1,l.2+t.2)]else r++[tD l]++[tD t])),sf (nD t.1.1),sf (nD t.1.2),sf (.int t.2)]:=by(have l0:eI [(.bo,.lst (r++[tD l]))]=some (.fz,.int (r.length+1:Nat)):=by show some (Md.fz,D.int ((r++[tD l]).length:Nat))=_;rw[im];rfl);(have i0:bv c6 (.ok .bo (.lst (r++[tD l]))) (okf (.int (-1)))=okf (.tup [nD l.1.1,nD l.1.2,.int l.2]):=by rw[<- o5];exact dD (W7 r _));have E:=xW (m:=.fz) (m':=.fz) (x:=l.1.1) (y:=t.1.1) (by have:=(lD o).1;lia) (by have:=(lD ht).1;lia);have a:=xW (m:=.fz) (m':=.fz) (x:=l.1.2) (y:=t.1.2) (by have:=(lD o).2.1;lia) (by have:=(lD ht).2.1;lia);(have f:(0:Int)<((r.length+1:Nat):Int):=by lia);(have B:eZ [A,some (true,.lst (r++[tD l])),sf (nD t.1.1),sf (nD t.1.2),sf (.int t.2)] 1 (okf (.tup [nD t.1.1,nD t.1.2,.int t.2]))=.nx [A,some (true,.lst (r++[tD l]++[tD t])),sf (nD t.1.1),sf (nD t.1.2),sf (.int t.2)]:=by rw[tD,tD,o5 t];show(if(r++[nD (dw l)]).length<sizeLine then _ else _)=_;rw[al (by rw[im];exact G)];rfl);(have F:iX [A,some (true,.lst (r++[tD l])),sf (nD t.1.1),sf (nD t.1.2),sf (.int t.2)] 1 (okf (.int (-1))) (okf (.tup [nD t.1.1,nD t.1.2,.int (l.2+t.2)]))=.nx [A,some (true,.lst (r++[tD (t.1,l.2+t.2)])),sf (nD t.1.1),sf (nD t.1.2),sf (.int t.2)]:=by(show(match ixN (r++[tD l]).length (-1)with|some j=>aI.nx (List.set [A,some (true,D.lst (r++[tD l])),sf (nD t.1.1),sf (nD t.1.2),sf (D.int t.2)] 1 (some (true,D.lst ((r++[tD l]).set j _))))|none=>.stuck)=_);rw[W8];dsimp only;rw[W9];have:tD (t.1,l.2+t.2)=.tup [nD t.1.1,nD t.1.2,.int (l.2+t.2)]:=o5 _;rw[this];rfl);by_cases c1:l.1.1=t.1.1;{by_cases d:l.1.2=t.1.2;{have c:l.1=t.1:=rq c1 d;rw[al c];rw[gS c1]at E;rw[gS d]at a;generalize D.lst (r++[tD l])=L at *;simp[gJ,l0,i0,xB,xC,xD,E,a,f,i7,F]};have c:¬ l.1=t.1:=λe=>d (by rw[e]);rw[a0 c];rw[gS c1]at E;rw[ig d]at a;generalize D.lst (r++[tD l])=L at *;simp[gJ,l0,i0,xB,xC,xD,E,a,f,i7,B]};have c:¬ l.1=t.1:=λe=>c1 (by rw[e]);rw[a0 c];rw[ig c1]at E;generalize D.lst (r++[tD l])=L at *;simp[gJ,l0,i0,xB,xC,xD,E,a,f,i7,B]
def Xa(r:List Tr)(t:Tr):(dF r t).length<=r.length+1:=by unfold dF;split;{simp};split <;> simp
def Xb{r:List Tr}{t:Tr}(h:∀x∈r,iq x.1)(ht:iq t.1):∀x∈dF r t,iq x.1:=by unfold dF;split;{intro x hx;cases gV.mp hx;exact ht};split;{intro x hx;rcases cy.mp hx with rfl|hx;{exact ht};exact h x (cs hx)};intro x hx;rcases cy.mp hx with rfl|hx;{exact ht};exact h x hx
theorem Lk{W:WD}{A:Option (Bool×D)}:∀(S a:List Tr) (x2 x3 x4:Option (Bool×D)),(∀t∈S,iq t.1)->(∀t∈a,iq t.1)->a.length+S.length<1000->∃o f d,cA (aL (.tp [.nm 2,.nm 3,.nm 4])) (b0 W gJ) (S.map tD) [A,some (true,.lst (a.reverse.map tD)),x2,x3,x4]=.nx [A,some (true,.lst ((S.foldl dF a).reverse.map tD)),o,f,d]|[],a,x2,x3,x4,_,_,_=>#[x2,x3,x4,rfl]|t::S,a,x2,x3,x4,G,E,F=>by have B:=G t cj;rw[gh]at F;obtain⟨o,f,d,e⟩   := Lk (W:=W) (A:=A) S (dF a t) (sf (nD t.1.1)) (sf (nD t.1.2)) (sf (.int t.2)) (λx hx=>G x (cs hx)) (Xb E B) (by have:=Xa a t;lia);(refine#[o,f,d,?_];have K:b0 W gJ [A,some (true,.lst (a.reverse.map tD)),sf (nD t.1.1),sf (nD t.1.2),sf (.int t.2)]=.nx [A,some (true,.lst ((dF a t).reverse.map tD)),sf (nD t.1.1),sf (nD t.1.2),sf (.int t.2)]:=by cases a with|nil=>exact Ar (x2:=x2) (x3:=x3) (x4:=x4)|cons l r=>rw[Bw,hL];show b0 W gJ [A,some (true,.lst (r.reverse.map tD++[tD l])),_,_,_]=_;rw[As (E l cj) B (by rw[du,List.length_reverse,dj];rw[gh]at F;lia)];unfold dF;dsimp only;split;{rw[Bw,hL];rfl};rw[Bw,Bw,hL,hL];rfl);rw[cu,o7 t];unfold cA;rw[show aL (.tp [.nm 2,.nm 3,.nm 4]) (.tup [nD t.1.1,nD t.1.2,.int t.2]) [A,some (true,.lst (a.reverse.map tD)),x2,x3,x4]=some [A,some (true,.lst (a.reverse.map tD)),sf (nD t.1.1),sf (nD t.1.2),sf (.int t.2)]from by simp];dsimp only;rw[K];exact e
theorem Xc{ts S:List Tr}(hs:S.map dw=dJ (ts.map dw))(h:∀t∈ts,iq t.1)(K:ts.length<60){d:D}(hd:d=.tup (ts.map tD)\/d=.lst (ts.map tD)):(Wk (k+1)).Φ "reason_of" [d]=okf (.tup (nDL (dJ ((bR ts).map dw)))):=by exists ok,O,Lj h (gq K (by decide));(have N:∀t∈S,iq t.1:=λt a=>by(have:dw t∈dJ (ts.map dw):=by rw[<- hs];exact Bu a);exists u,G,e,de.mp ((jI _).mem_iff.mp this);rw[<- xT e];exact h u G);(have lS:S.length<60:=by have:=congrArg List.length hs;rw[du,W5,du]at this;lia);(have Z:gC [(.fz,d)]=some (.fr,.lst (S.map tD)):=by rw[<- lC S,hs];exact Lg (by rw[lC];rcases hd with rfl|rfl <;> rfl) O ok);obtain⟨F,r,o,E⟩  :=Lk (W:=WT TT k) (A:=sf d) S [] none none none N (λt a=>nomatch a) (by simp;lia);(have V:kD [(.fz,.lst ((S.foldl dF []).reverse.map tD))]=some (.fz,.tup (nDL (dJ ((bR ts).map dw)))):=by show some (Md.fz,D.tup ((S.foldl dF []).reverse.map tD))=_;rw[<- lC,Ap hs]);refine fm (d:=Kb) rfl rfl ?_;show b0 _ wR [sf d,none,none,none,none]=_;have E:cA (aL (.tp [.nm 2,.nm 3,.nm 4])) (b0 (Wk k) gJ) (S.map tD) [sf d,some (true,.lst []),none,none,none]=_:=E;have T:∀{L:D},l7 [sf d,some (true,L),F,r,o] 1=.nx [sf d,sf L,F,r,o]:=rfl;unfold wR;generalize gJ=B at *;generalize (S.foldl dF []).reverse.map tD=L at *;generalize nDL (dJ ((bR ts).map dw))=M at *;generalize S.map tD=L0 at *;clear hd;simp[EG,Z,lW,E,T,Ty.f,V]
def F(ys:List Str):N:=.t (ys.map .s)
def tB(ys:List Str):nD (F ys)=.tup (ys.map .str):=by unfold F;rw[nD,eO,fu];congr 1
abbrev Rw:=List Str×N×Int
def gU(r:Rw):D:=.tup [.tup (r.1.map .str),nD r.2.1,.int r.2.2]
def tr(r:Rw):Tr:=((F (fB r.1),r.2.1),r.2.2)
def kv(a:Tr):N×D:=(hE a.1,.int a.2)
theorem Ll:∀(U:List Str),pa (U.map .str)=some U|[]=>rfl|x::U=>by rw[cu];unfold pa;rw[Ll U];rfl
def Xd{U:List Str}{m:Md}{d:D}(hd:seqD d=some (U.map .str))(h:U.length<64):gC [(m,d)]=some (.fr,.lst ((fB U).map .str)):=by(show(match seqD d with|some ds=>_|none=>none)=_);rw[hd];dsimp only;rw[Ll];dsimp only;rw[al h]
theorem tE:∀(J:List Tr) (k:Ky),bJ (J.map kv) (hE k)=(J.find? λa=>decide (a.1=k)).map λa=>.int a.2|[],k=>rfl|a::J,k=>by rw[cu];by_cases e:a.1=k;{rw[qR (p:=kv a) (by show hE a.1=_;rw[e]),List.find?_cons_of_pos (by simpa using e)];rfl};rw[qS (p:=kv a) (λz=>e (xS z)),tE J k,List.find?_cons_of_neg (by simpa using e)]
def xX{k:Ky}{n:Int}(nd:(J.map (·.1)).Nodup)(h:(k,n)∈J):J.find? (λa=>decide (a.1=k))=some (k,n):=by induction J with|nil=>cases h|cons a J d=>rw[cu,ik]at nd;rcases cy.mp h with e|h;{subst e;rw[List.find?_cons_of_pos (by simp)]};have:¬ a.1=k:=λe=>nd.1 (by rw[e];exact de.mpr #[_,h,rfl]);rw[List.find?_cons_of_neg (by simpa using this)];exact d nd.2 h
def Xe{t:Tr}(nd:(J.map (·.1)).Nodup):((dE J t).map (·.1)).Nodup:=by rw[La];split;{exact nd};rename_i q;refine sk.mpr #[nd,ox _ _,λa ha b d e=>?_];cases gV.mp d;exists u,mu,rfl,de.mp ha;exact q (nG.mpr #[u,mu,e])
theorem Lm(J:List Tr)(t:Tr):(dE J t).length<=J.length+1:=by unfold dE;split;{rw[du];lia};rw[im];exact dg _
def iH(J:List Tr)(k:Ky):Int:=((J.find? λa=>decide (a.1=k)).map (·.2)).getD 0
def Xf(J:List Tr)(k:Ky):(bJ (J.map kv) (hE k)).getD (.int 0)=.int (iH J k):=by rw[tE];unfold iH;cases J.find? λa=>decide (a.1=k) <;> rfl
def Xg{t:Tr}(nd:(J.map (·.1)).Nodup):eD (J.map kv) (hE t.1) (.int (iH J t.1+t.2))=(dE J t).map kv:=by unfold eD dE;rw[tE];by_cases q:(J.any λa=>decide (a.1=t.1))=true;{rw[al q];obtain⟨⟨k,n⟩,m,e⟩:=nG.mp q;dsimp only at e;subst e;have hf:=xX nd m;(have d:iH J t.1=n:=by unfold iH;rw[hf];rfl);rw[al (by rw[hf];rfl),d,fu,fu];refine qj λa ha=>?_;show(if hE a.1=hE t.1 then(hE a.1,D.int (n+t.2))else kv a)=kv (if a.1=t.1 then(a.1,a.2+t.2)else a);by_cases e:a.1=t.1;{rw[al e,al (by rw[e])];(have:a=(t.1,n):=by have:=xX nd (k:=t.1) (n:=a.2) (by rw[<- e];exact ha);rw[hf]at this;injection this with this;rw[this,<- e]);rw[this];rfl};rw[a0 e,a0 (λz=>e (xS z))]};rw[a0 q];(have:(J.find? λa=>decide (a.1=t.1))=none:=by rw[List.find?_eq_none];intro a ha z;exact q (nG.mpr #[a,ha,kz z]));(have d:iH J t.1=0:=by unfold iH;rw[this];rfl);rw[a0 (by rw[this];decide),d,tc,hL];rfl
def xY{k:Ky}(h:(hE k).dp<=8):cK (.tup [nD k.1,nD k.2])=some (hE k):=by rw[<- K_eq];exact W3 h
def Ln{W:WD}{a:E}{m:Md}{d d':D}(h:aK W a Y=.ok m d)(hs:gC [(m,d)]=some (m',d')):aK W (.srtw a) Y=.ok m' d':=by show fL gC (aF (aK W a Y) (.ok []))=_;rw[h];show Res.of (gC [(m,d)])=_;rw[hs];rfl
theorem Au{W:WD}{A d:Option (Bool×D)}{r:Rw}(nd:(J.map (·.1)).Nodup)(hx:r.1.length<64)(a:(hE (tr r).1).dp<=8)(K:J.length<1000):b0 W r6 [A,some (true,.dtn (J.map kv)),sf (.tup (r.1.map .str)),sf (nD r.2.1),sf (.int r.2.2),d]=.nx [A,some (true,.dtn ((dE J (tr r)).map kv)),sf (.tup (r.1.map .str)),sf (nD r.2.1),sf (.int r.2.2),sf (.tup [nD (tr r).1.1,nD (tr r).1.2])]:=by
 have B:gC [(.fz,.tup (r.1.map .str))]=some (.fr,.lst ((fB r.1).map .str)):=Xd rfl hx;have G:nD r.2.1=nD (tr r).1.2:=rfl;have f:mD (.ok .bo (.dtn (J.map kv))) (okf (.tup [nD (tr r).1.1,nD (tr r).1.2])) (okf (.int 0))=okf (.int (iH J (tr r).1)):=by(show(match Md.fz,cK (.tup [nD (tr r).1.1,nD (tr r).1.2])with|.fz,some k=>Res.ok .fz ((bJ (J.map kv) k).getD (.int 0))|_,_=>.stuck)=_);rw[xY a];dsimp only;rw[Xf]
 have E : fA [A, some (true, .dtn (J.map kv)), sf (.tup (r.1.map .str)), sf (nD (tr r).1.2), sf (.int r.2.2), sf (.tup [nD (tr r).1.1, nD (tr r).1.2])] 1 (okf (.tup [nD (tr r).1.1, nD (tr r).1.2])) (okf (.int (iH J (tr r).1 + r.2.2))) =
     .nx [A,some (true,.dtn ((dE J (tr r)).map kv)),sf (.tup (r.1.map .str)),sf (nD (tr r).1.2),sf (.int r.2.2),sf (.tup [nD (tr r).1.1,nD (tr r).1.2])]:=by
  show(match cK (.tup [nD (tr r).1.1,nD (tr r).1.2])with|some k=>if(J.map kv).length<sizeLine then aI.nx (List.set [A,some (true,D.dtn (J.map kv)),sf (D.tup (r.1.map .str)),sf (nD (tr r).1.2),sf (.int r.2.2),sf (.tup [nD (tr r).1.1,nD (tr r).1.2])] 1 (some (true,D.dtn (eD (J.map kv) k (.int (iH J (tr r).1+r.2.2))))))else .stuck|none=>.stuck)=_
  rw[xY a];dsimp only;rw[al (by rw[du,dj];lia)]
  have:=Xg (t:=tr r) nd;rw[show(tr r).2=r.2.2 from rfl]at this
  rw[this];rfl
 have o:D.tup ((fB r.1).map D.str)=nD (tr r).1.1:=by rw[show(tr r).1.1=F (fB r.1)from rfl,tB]
 rw[G];refine cg (bE (k7 (bO (Eq.trans (fW (Ln rfl B)) (congrArg (Res.ok .fz) o))) rfl)) (cg ?_ rfl);rw[Vg,yL,Vb];show fA _ 1 (okf (.tup [nD (tr r).1.1,nD (tr r).1.2])) (bv (aZ .Add) (mD (.ok .bo (.dtn (J.map kv))) (okf (.tup [nD (tr r).1.1,nD (tr r).1.2])) (okf (.int 0))) (okf (.int r.2.2)))=_;rw[f];exact E
theorem Lo{W:WD}{A:Option (Bool×D)}:∀(rs:List Rw) (J:List Tr) (x2 x3 x4 a:Option (Bool×D)),(J.map (·.1)).Nodup->(∀r∈rs,r.1.length<64/\(hE (tr r).1).dp<=8)->J.length+rs.length<1000->∃B o f d,cA (aL (.tp [.nm 2,.nm 3,.nm 4])) (b0 W r6) (rs.map gU) [A,some (true,.dtn (J.map kv)),x2,x3,x4,a]=.nx [A,some (true,.dtn (((rs.map tr).foldl dE J).map kv)),B,o,f,d]|[],J,x2,x3,x4,a,_,_,_=>#[x2,x3,x4,a,rfl]|r::rs,J,x2,x3,x4,a,nd,h,E=>by exists G,F,h r cj;rw[gh]at E;exists B,o,f,d,e,Lo (W:=W) (A:=A) rs (dE J (tr r)) (sf (.tup (r.1.map .str))) (sf (nD r.2.1)) (sf (.int r.2.2)) (sf (.tup [nD (tr r).1.1,nD (tr r).1.2])) (Xe nd) (λx hx=>h x (cs hx)) (by have:=Lm J (tr r);lia);refine#[B,o,f,d,?_];rw[cu];unfold cA;rw[show aL (.tp [.nm 2,.nm 3,.nm 4]) (gU r) [A,some (true,.dtn (J.map kv)),x2,x3,x4,a]=some [A,some (true,.dtn (J.map kv)),sf (.tup (r.1.map .str)),sf (nD r.2.1),sf (.int r.2.2),a]from by simp[gU]];dsimp only;rw[Au nd G F (by lia)];exact e
def Xh{ts:List Tr}(h:∀t∈ts,iq t.1):∀t∈bR ts,iq t.1:=λt d=>by exists u,a,e,(((k9 ts).1 t.1 t.2).mp d).1;rw[<- e];exact h u a
theorem Lp:∀(r J:List Tr),(r.foldl dE J).length<=J.length+r.length|[],J=>dg _|t::r,J=>by have d:=Lp r (dE J t);have a:=Lm J t;rw[List.foldl_cons,gh];lia
def Lq(ts:List Tr):(bR ts).length<=ts.length:=by unfold bR;have:=Lp ts [];simpa using this
def nf(ts:List Tr):D:=.tup (nDL (dJ ((bR ts).map dw)))
theorem Xi{rs:List Rw}(h:∀r∈rs,r.1.length<64/\iq (tr r).1)(hl:rs.length<64):(Wk (k+1)).Φ "_law_normal" [.lst (rs.map gU)]=okf (nf (rs.map tr)):=by
 have O:∀t∈rs.map tr,iq t.1:=λt o=>by exists r,f,rfl,de.mp o;exact(h r f).2
 exists tl,nd,k9 (rs.map tr);have N:=Xh O;have Z:(bR (rs.map tr)).length<64:=by have:=Lq (rs.map tr);rw[du]at this;lia
 exists K,G,F,B,E,Lo (W:=Wk k) (A:=sf (.lst (rs.map gU))) rs [] none none none none ml (λr f=>#[(h r f).1,(lD (h r f).2).2.2.1]) (by simp;lia)
 have E:cA (aL (.tp [.nm 2,.nm 3,.nm 4])) (b0 (Wk k) r6) (rs.map gU) [sf (.lst (rs.map gU)),some (true,.dtn []),none,none,none,none]=.nx [sf (.lst (rs.map gU)),some (true,.dtn ((bR (rs.map tr)).map kv)),K,G,F,B]:=E;have V:bI (okf (.lst ((bR (rs.map tr)).map λa=>nD (hE a.1)))) [sf (.lst (rs.map gU)),sf (.dtf ((bR (rs.map tr)).map kv)),K,G,F,B] [1] 1 (aL (.nm 1)) (λY=>d7 (Wk k) [] Y) (λY=>aK (Wk k) (.tup [(.ix v1 (.int 0)),(.ix v1 (.int 1)),(.nix v0 v1)]) Y)=.ok .fr (.lst ((bR (rs.map tr)).map tD)):=by
  refine fV (enc:=λa:Tr=>nD (hE a.1)) tD (by rw[dj];lia) λa ha=>?_
  refine#[[sf (.dtf ((bR (rs.map tr)).map kv)),sf (nD (hE a.1))],.fz,rfl,by simp,.fz,?_]
  have g:bv eL (okf (.dtf ((bR (rs.map tr)).map kv))) (okf (.tup [nD a.1.1,nD a.1.2]))=okf (.int a.2):=bK (by
   show(match some ((bR (rs.map tr)).map kv),cK (.tup [nD a.1.1,nD a.1.2])with|some kvs,some k=>(bJ kvs k).map λd=>(Md.fz,d)|_,_=>none)=_
   rw[xY (lD (N a ha)).2.2.1];dsimp only;rw[tE,xX nd (k:=a.1) (n:=a.2) ha];rfl)
  rw[o7 a,K_eq];generalize D.dtf ((bR (rs.map tr)).map kv)=L at *;simp[z7,z8,g,i7]
 have T:gC [(.fr,.lst ((bR (rs.map tr)).map tD))]=some (.fr,.lst (nDL (dJ ((bR (rs.map tr)).map dw)))):=by exists ok,S,Lj (λt o=>N t o) Z;exact Lg (by rw[lC];rfl) S ok
 refine fm (d:=Kh) rfl rfl (cg rfl (cg E (cg rfl (a9 (fW (m:=.fr) (Ln (Eq.trans (congrArg (λr=>bI r _ [1] 1 _ _ _) ?_) V) T))))));show Res.ok .fz (.lst (((bR (rs.map tr)).map kv).map λkv=>nD kv.1))=_;rw[fu];rfl
def Sm(A B:List Tr):Prop:=∀k,(hG A k↔hG B k)/\bL A k=bL B k
def Sm.refl(A:List Tr):Sm A A:=λk=>#[Iff.rfl,rfl]
theorem Sm.symm{B:List Tr}(h:Sm A B):Sm B A:=λk=>#[(h k).1.symm,(h k).2.symm]
theorem Sm.trans{B C:List Tr}(h:Sm A B)(g:Sm B C):Sm A C:=λk=>#[(h k).1.trans (g k).1,(h k).2.trans (g k).2]
def Av{ts us:List Tr}(p:Sm ts us):nf ts=nf us:=by exists o,n1,k9 ts;exists f,n2,k9 us;have r:(bR ts).Nodup:=(kS.mp n1).imp λ{a b} h e=>h (by rw[e]);have D:(bR us).Nodup:=(kS.mp n2).imp λ{a b} h e=>h (by rw[e]);(have d:(bR ts).Perm (bR us):=(Bv r D).mpr λ⟨k,n⟩=>by rw[o k n,f k n,(p k).1,(p k).2]);unfold nf;rw[vA (mJ _) (mJ _) (((jI _).trans (d.map dw)).trans (jI _).symm)]
theorem xZ:∀(A B:List Tr) (k:Ky),bL (A++B) k=bL A k+bL B k|[],B,k=>by simp[bL]|a::A,B,k=>by show _+bL (A++B) k=_+bL A k+_;rw[xZ A B k,Int.add_assoc]
def Lr{B:List Tr}{k:Ky}:hG (A++B) k↔hG A k\/hG B k:=by constructor;{rintro⟨u,m,e⟩;exact(ii.mp m).elim (λm=>.inl #[u,m,e]) (λm=>.inr #[u,m,e])};rintro(⟨u,m,e⟩|⟨u,m,e⟩);{exact#[u,oq _ m,e]};exact#[u,iu _ m,e]
def Sm.app{d B a:List Tr}(h:Sm A d)(g:Sm B a):Sm (A++B) (d++a):=λk=>by refine#[?_,?_];{rw[Lr,Lr,(h k).1,(g k).1]};rw[xZ,xZ,(h k).2,(g k).2]
def Ls{ts:List Tr}:∃S:List Tr,S.Perm ts/\S.map dw=dJ (ts.map dw):=by exists S,p,e,vH (jI (ts.map dw));exact#[S,p,e.symm]
def pk(A:List Tr):Prop:=(A.map (·.1)).Nodup/\gP (A.map dw)
theorem o8:∀{A:List Tr}{k:Ky}{n:Int},(A.map (·.1)).Nodup->(k,n)∈A->bL A k=n|t::A,k,n,nd,h=>by rw[cu]at nd;exists n1,n2,gr.mp nd;show(if t.1=k then t.2 else 0)+bL A k=n;rcases cy.mp h with rfl|h;{rw[al rfl,k8 λ⟨u,m,e⟩=>n1 u.1 (Bu m) e.symm];exact sy _};rw[a0 (λe=>n1 k (de.mpr #[_,h,rfl]) e),o8 n2 h];exact tc _
def Xj(nd:(A.map (·.1)).Nodup):gK A A:=λk n=>by constructor;{intro h;exact#[#[_,h,rfl],(o8 nd h).symm]};rintro⟨⟨t,m,rfl⟩,e⟩;have:(t.1,t.2)∈A:=m;rw[e,o8 nd this];exact m
def Lu(nd:(A.map (·.1)).Nodup):A.Nodup:=(kS.mp nd).imp λ{a b} h e=>h (by rw[e])
def Xk(nd:(A.map (·.1)).Nodup):(bR A).Perm A:=by exists a,n1,k9 A;exact(Bv (Lu n1) (Lu nd)).mpr λ⟨k,n⟩=>by rw[a k n,Xj nd k n]
def Xl(h:pk A):nf A=.tup (A.map tD):=by unfold nf;rw[<- vB h.2 ((Xk h.1).symm.map dw),lC]
def yA(X:List Tr):∃S:List Tr,nf X=.tup (S.map tD)/\pk S/\Sm S X/\S.length<=X.length:=by exists S,p,e,Ls (ts:=bR X);exists d,n1,k9 X;have nd:(S.map (·.1)).Nodup:=((p.map (·.1)).nodup_iff).mpr n1;have hs:∀k,hG S k↔hG X k:=λk=>(K9 p k).trans (xV d k);refine#[S,by unfold nf;rw[<- e,lC],#[nd,by rw[e];exact mJ _],λk=>#[hs k,?_],by rw[p.length_eq];exact Lq X];by_cases c:hG S k;{exists t,a,rfl,c;have:=((d t.1 t.2).mp (p.mem_iff.mp a)).2;rw[o8 nd (n:=t.2) a,this]};rw[k8 c,k8 λz=>c ((hs k).mpr z)]
structure KM(Kd No:D)(way:Int)(Ok:D->Prop)(pl:D->D->D):Prop extends KO Kd No Ok pl where
 right:∀a,Ok a->pl a No=a
 eqn:∀a,Ok a->(gw a No=true↔a=No)
 nz:∀a b,Ok a->Ok b->a≠No->pl a b≠No
 lplus:∀k a b,Ok a->Ok b->(Wk (k+3)).Φ "_law_plus" [.int way,a,b]=okf (pl a b)
def Lv(d:D):Prop:=∃i:Int,0<=i/\d=.int i
def Xm:D->D->D|.int i,.int j=>.int (i+j)|d,_=>d
theorem Xn:KM (.ins "Counts" []) (.int 0) 0 Lv Xm where
 nought k:=by show aN 1 ((Wk (k+1)).Φ "Counts.nought") (.ok [(.fz,.ins "Counts" [])])=_;exact fQ (fm (d:=Kp) rfl rfl (a9 rfl))
 plus k a b ha hb:=by exists i,f,rfl,ha;exists j,o,rfl,hb;show aN 3 ((Wk (k+3)).Φ "Counts.plus") (.ok [(.fz,.ins "Counts" []),(.fz,.int i),(.fz,.int j)])=_;exact bM (fm (d:=Kq) rfl rfl (a9 rfl))
 okn:=#[0,by decide,rfl]
 okp:=fun|_,_,⟨i,f,rfl⟩,⟨j,o,rfl⟩=>#[i+j,by lia,rfl]
 assoc:=fun|_,_,_,⟨i,f,rfl⟩,⟨j,o,rfl⟩,⟨l,r,rfl⟩=>congrArg D.int (Int.add_assoc i j l)
 left:=fun|_,⟨i,f,rfl⟩=>congrArg D.int (tc i)
 plain:=fun|_,⟨i,f,rfl⟩=>.int i
 right:=fun|_,⟨i,f,rfl⟩=>congrArg D.int (sy i)
 eqn a ha:=by exists i,f,rfl,ha;show PyData.eqv (.int i) (.int 0)=true↔_;rw[D.int.injEq];simp[PyData.eqv]
 nz a b ha hb h e:=by(exists i,f,rfl,ha;exists j,o,rfl,hb;have e:i+j=0:=by injection e);exact h (by rw[show i=0 by lia])
 lplus k a b ha hb:=by exists i,f,rfl,ha;exists j,o,rfl,hb;exact fm (d:=wX) rfl rfl (jf (c7 (m:=.fz) rfl (a9 rfl)))
def Xo{a b:N}(h:nD a=nD b):a=b:=by have:=congrArg bA h;rw[oY,oY]at this;injection this
def Xp{a b:Tr}(h:tD a=tD b):a=b:=xT (Xo h)
theorem Lw:∀{A B:List Tr},A.map tD=B.map tD->A=B|[],[],_=>rfl|[],_::_,h|_::_,[],h=>by cases h|a::A,b::B,h=>by rw[cu,cu,uh]at h;rw[Xp h.1,Lw h.2]
abbrev rD(A:List Tr):D:=.tup (A.map tD)
open Classical in
noncomputable def Cd(d:D):List Tr:=if h:∃S:List Tr,d=rD S then h.choose else[]
def Lx(S:List Tr):Cd (rD S)=S:=by unfold Cd;have h:∃a:List Tr,rD S=rD a:=#[S,rfl];rw[dif_pos h];have:=h.choose_spec;injection this with this;exact(Lw this).symm
noncomputable def ud(a b:D):D:=nf (Cd a++Cd b)
def gW(A B:List Tr):ud (rD A) (rD B)=nf (A++B):=by unfold ud;rw[Lx,Lx]
def jg(z:Str):Ky:=(F [z],.t [])
def Fc(P:List Str)(t:Tr):Prop:=(∃z∈P,t.1=jg z)/\0<t.2
def Aw(P:List Str)(d:D):Prop:=∃S:List Tr,d=rD S/\pk S/\∀t∈S,Fc P t
def Fc.K{P:List Str}{t:Tr}(h:Fc P t):iq t.1:=by obtain⟨⟨z,_,e⟩,_⟩:=h;rw[e];exact#[#[[z],rfl,by simp],rfl]
theorem Ly{α:Type}[BEq α][LawfulBEq α]:∀{l l':List α},l.Nodup->(∀y∈l,y∈l')->l.length<=l'.length|[],_,_,_=>gy _|a::l,l',f,r=>by(rw[ik]at f;have ha:=r a cj;have:=Ly (l':=l'.erase a) f.2 λy o=>by have d:y≠a:=λe=>f.1 (e ▸ o);exact(List.mem_erase_of_ne d).mpr (r y (cs o)));rw[List.length_erase_of_mem ha]at this;have pos:0<l'.length:=List.length_pos_of_mem ha;rw[gh];lia
def yB{P:List Str}{S:List Tr}(N:pk S)(h:∀t∈S,Fc P t):S.length<=P.length:=by(have:=Ly (l:=S.map (·.1)) (l':=P.map jg) N.1 λy d=>by exists t,f,rfl,de.mp d;exists z,a,e,(h t f).1;exact de.mpr #[z,a,e.symm]);simpa using this
theorem Lz:∀{X:List Tr}{k:Ky},(∀t∈X,0<t.2)->0<=bL X k/\(hG X k->0<bL X k)|[],k,_=>#[Int.le_refl _,λ⟨_,m,_⟩=>nomatch m]|t::X,k,h=>by exists i1,a,Lz (X:=X) (k:=k) λu d=>h u (cs d);have h0:=h t cj;show 0<=(if t.1=k then t.2 else 0)+bL X k/\(_->0<(if t.1=k then t.2 else 0)+bL X k);by_cases e:t.1=k;{rw[al e];exact#[by lia,λ_=>by lia]};rw[a0 e];refine#[by lia,λ⟨u,m,q⟩=>?_];rcases cy.mp m with rfl|m;{exact absurd q e};have:=a #[u,m,q];lia
def Xq{X:List Tr}(h:X≠[]):∃k,hG X k:=by exists t,l,rfl,List.exists_cons_of_ne_nil h;exact#[t.1,t,cj,rfl]
def EH{S:List Tr}{P:List Str}(h:∀t∈S,Fc P t)(f:S.length<=999):Pl 8 (rD S):=by refine .tup (n:=7) (λd hd=>?_) (by rw[du];exact f);exists t,a,rfl,de.mp hd;obtain⟨⟨z,_,e⟩,_⟩:=h t a;rw[o7,e];refine .tup (n:=6) (λd hd=>?_) (show 3<=999 by decide);simp only[cy,mz,h9]at hd;rcases hd with rfl|rfl|rfl;{show Pl 6 (nD (F [z]));rw[tB];exact .tup (n:=5) (λd hd=>by rw[gV.mp hd];exact .str z) (show 1<=999 by decide)};{exact .tup (n:=5) (λd hd=>by cases hd) (show 0<=999 by decide)};exact .int _
theorem Ax{B:List Tr}{m:Md}(h:A.length+B.length<=1000):bv (aZ .Add) (.ok m (rD A)) (.ok m' (rD B))=okf (rD (A++B)):=by have:=Vq (m:=m) (n:=m') (x:=A.map tD) (y:=B.map tD) (by rw[du,du,dj];lia);rw[<- hL]at this;exact this
theorem Xr{B:List Tr}{m:Md}(h:A.length+B.length<=1000):bv (aZ .Add) (.ok m (.lst (A.map tD))) (.ok m' (.lst (B.map tD)))=.ok .fr (.lst ((A++B).map tD)):=by have:=wE (m:=m) (n:=m') (x:=A.map tD) (y:=B.map tD) (by rw[du,du,dj];lia);rw[<- hL]at this;exact this
def Ay(P:List Str)(t:Tr):Rw:=(match t.1.1 with|.t [.s z]=>[z]|_=>[],t.1.2,t.2)
def yC{P:List Str}{t:Tr}(h:Fc P t):gU (Ay P t)=tD t/\tr (Ay P t)=t:=by obtain⟨⟨z,_,e⟩,_⟩:=h;exists k,n,t;cases e;refine#[?_,rfl];rw[o7];show D.tup [.tup [.str z],nD (.t []),.int n]=.tup [nD (F [z]),nD (.t []),.int n];rw[tB];rfl
def LA(k:Nat){P:List Str}{X:List Tr}(h:∀t∈X,Fc P t)(f:X.length<64):(Wk (k+1)).Φ "_law_normal" [.lst (X.map tD)]=okf (nf X):=by
 have o:(X.map (Ay P)).map gU=X.map tD:=by rw[fu];exact qj λt a=>(yC (h t a)).1
 have E:(X.map (Ay P)).map tr=X:=by rw[fu];(conv=>rhs;rw[<- List.map_id X]);exact qj λt a=>(yC (h t a)).2
 have:=Xi (k:=k) (rs:=X.map (Ay P)) (λr d=>by
  exists t,a,rfl,de.mp d;refine#[?_,by rw[(yC (h t a)).2];exact(h t a).K]
  obtain⟨⟨z,_,e⟩,_⟩:=h t a;exists kk,n,t;cases e
  exact(by decide:1<64)) (by rw[du];exact f)
 rw[o,E]at this;exact this
def LC{P:List Str}{X:List Tr}(h:∀t∈X,Fc P t):Aw P (nf X)/\(X≠[]->nf X ≠ .tup []):=by exists S,e,N,sm,_,yA X;refine#[#[S,e,N,λt a=>?_],λhx q=>?_];{exists u,d,E,(sm t.1).1.mp #[t,a,rfl];refine#[by rw[<- E];exact(h u d).1,?_];(have:t.2=bL X t.1:=by rw[<- (sm t.1).2];exact(o8 N.1 (n:=t.2) a).symm);rw[this];exact(Lz λu d=>(h u d).2).2 #[u,d,E]};exists k,hk,Xq hx;exists t,a,_,(sm k).1.mpr hk;rw[e]at q;injection q with q;rw[C0]at q;rw[q]at a;cases a
def LD(h:pk A):nf A=rD A:=Xl h
def tF{P:List Str}(a:P.length<=8){B:List Tr}(o:pk A)(N:pk B)(f:∀t∈A,Fc P t)(d:∀t∈B,Fc P t):A.length<=8/\B.length<=8/\∀t∈A++B,Fc P t :=
 #[ir (yB o f) a,ir (yB N d) a,λt r=>(ii.mp r).elim (f t) (d t)]
theorem LF{P:List Str}(G:P.length<=8):KM (.ins "Reasons" []) (.tup []) 1 (Aw P) ud where
 nought k:=by show aN 1 ((Wk (k+1)).Φ "Reasons.nought") (.ok [(.fz,.ins "Reasons" [])])=_;exact fQ (fm (d:=Kr) rfl rfl (a9 rfl))
 plus k a b ha hb:=by exists A,rfl,f,o,ha;exists B,rfl,D,E,hb;exists W,V,F,tF G f D o E;exists S,_,Z,Ls (ts:=A++B);have r:=fQ (Xc (k:=k+1) Z (λt T=>(F t T).K) (by rw[im];lia) (.inl rfl));have ca:=Ax (A:=A) (B:=B) (m:=.fz) (m':=.fz) (by lia);rw[gW];show aN 3 ((Wk (k+3)).Φ "Reasons.plus") (.ok [(.fz,.ins "Reasons" []),(.fz,rD A),(.fz,rD B)])=_;refine Wj (Wg (k+2)) (a9 ?_);show aN 1 ((Wk (k+2)).Φ "reason_of") (aF (aG (bv (aZ .Add) (okf (rD A)) (okf (rD B)))) (.ok []))=_;rw[ca];exact r
 okn:=#[[],rfl,#[ml,List.Pairwise.nil],λt T=>nomatch T]
 okp a b ha hb:=by exists A,rfl,f,o,ha;exists B,rfl,D,E,hb;rw[gW];exact(LC (tF G f D o E).2.2).1
 assoc a b c ha hb hc:=by exists A,rfl,f,o,ha;exists B,rfl,D,E,hb;exists C,rfl,nC,hC,hc;rw[gW,gW];exists S,e,_,sm,_,yA (A++B);exists S',e',_,O,_,yA (B++C);rw[e,e',gW,gW];refine Av ((sm.app (.refl C)).trans ?_);rw[tf];exact Sm.app (.refl A) O.symm
 left a ha:=by exists A,rfl,f,o,ha;show ud (rD []) (rD A)=_;rw[gW];exact LD f
 plain:=fun|_,⟨A,rfl,f,o⟩=>EH o (by have:=yB f o;lia)
 right a ha:=by exists A,rfl,f,o,ha;show ud (rD A) (rD [])=_;rw[gW,ij];exact LD f
 eqn a ha:=by(exists A,rfl,f,o,ha;have L:=nH (.t (A.map dw));rw[nD,lC]at L;have e2:aU (.tup [])=some (N.py (.t [])):=nH (.t []);show(match aU (rD A),aU (.tup [])with|some p,some q=>PyData.eqv p q|_,_=>false)=true↔_);rw[L,e2];dsimp only;rw[N.py_eqv,fe];constructor;{intro h;injection h with h;rw[C0]at h;rw[h];rfl};intro h;injection h with h;rw[C0]at h;rw[h];rfl
 nz a b ha hb h:=by exists A,rfl,f,o,ha;exists B,rfl,D,E,hb;rw[gW];refine(LC (tF G f D o E).2.2).2 λe=>?_;exists L,_,List.append_eq_nil_iff.mp e;exact h (by rw[L];rfl)
 lplus k a b ha hb:=by exists A,rfl,f,o,ha;exists B,rfl,D,E,hb;exists W,V,F,tF G f D o E;have ca:=Xr (A:=A) (B:=B) (m:=.fr) (m':=.fr) (by lia);have r:=fQ (LA (k+1) F (by rw[im];lia));rw[gW];refine fm (d:=wX) rfl rfl ?_;show b0 (Wk (k+2)) wT [sf (.int 1),sf (rD A),sf (rD B)]=_;unfold wT;refine cg (bN (m:=.fz) (by rfl) rfl) (a9 ?_);show aN 1 ((Wk (k+2)).Φ "_law_normal") (aF (aG (bv (aZ .Add) (.ok .fr (.lst (A.map tD))) (.ok .fr (.lst (B.map tD))))) (.ok []))=_;rw[ca];exact r
abbrev κ(e:N×D):N:=lw e.1
def hI(P:List (N×D))(k:N):List D:=(P.filter λe=>decide (e.1=k)).map (·.2)
theorem LG{k j:N}{v:List D}:∀{kvs:GD},(a7 kvs k).isSome=true->a7 (i5 kvs k v) j=if j=k then some v else a7 kvs j
 |[],h=>by simp[a7]at h|kv::kvs,h=>by
  by_cases e:kv.1=k
  . by_cases z:j=k
    . simp[a7,i5,ft,e,z]
    . have Z:¬ k=j:=λq=>z q.symm;have o:¬ kv.1=j:=λq=>z (q.symm.trans e);rw[a0 z];have:∀(l:GD),a7 (i5 l k v) j=a7 l j:=λl=>by
        induction l with|nil=>rfl|cons a l d=>unfold a7 i5 at *;rw[cu,ft,ft];by_cases q:a.1=k;{rw[al q,show decide (a.1=j)=false by simp[q,Z]];simpa using d};rw[a0 q];by_cases f:a.1=j;{rw[show decide (a.1=j)=true by simp[f]]};rw[show decide (a.1=j)=false by simp[f]];exact d
      exact this _
  . (have h':(a7 kvs k).isSome=true:=by simpa[a7,ft,e]using h);have d:=LG (j:=j) (v:=v) h';unfold a7 i5 at *;rw[cu,ft,ft,a0 e];by_cases q:kv.1=j;{have:¬ j=k:=λz=>e (q.trans z);rw[show decide (kv.1=j)=true by simp[q],a0 this]};rw[show decide (kv.1=j)=false by simp[q]];exact d
def Xs(kvs:GD)(k j:N)(d:D):(a7 (dY kvs k d) j).getD []=(a7 kvs j).getD []++if k=j then[d]else[]:=by unfold dY;cases e:a7 kvs k with|some ds=>dsimp only;rw[LG (by rw[e];rfl)];by_cases q:j=k;{rw[al q,al q.symm,q,e];rfl};rw[a0 q,a0 λz=>q z.symm,ij]|none=>(dsimp only;have h:∀j,a7 (kvs++[(k,[d])]) j=(a7 kvs j).or (if k=j then some [d]else none):=λj=>by unfold a7;rw[List.find?_append];cases kvs.find? λkv=>decide (kv.1=j)with|some x=>rfl|none=>by_cases q:k=j;{simp[ft,q]};simp[ft,q]);rw[h];by_cases q:k=j;{rw[al q,al q,<- q,e];rfl};rw[a0 q,a0 q,ij,Option.or_none]
def Xt(e:N×D)(P:List (N×D))(k:N):hI (e::P) k=(if e.1=k then[e.2]else[])++hI P k:=by unfold hI;by_cases q:e.1=k;{rw[C1 (by simp[q]),al q];rfl};rw[C3 (by simp[q]),a0 q];rfl
theorem LH:∀(P:List (N×D)) (kvs:GD) (k:N),(a7 (ff P kvs) k).getD []=(a7 kvs k).getD []++hI P k|[],kvs,k=>by show _=_++[];rw[ij];rfl|e::P,kvs,k=>by show(a7 (ff P (dY kvs e.1 e.2)) k).getD []=_;rw[LH P,Xs,Xt,tf]
theorem LI:∀{kvs:GD}{k:N}{ds:List D},(kvs.map (·.1)).Nodup->(k,ds)∈kvs->a7 kvs k=some ds|kv::kvs,k,ds,nd,h=>by rw[cu,ik]at nd;rcases cy.mp h with e|h;{subst e;simp[a7,ft]};have:¬ kv.1=k:=λz=>nd.1 (z ▸ de.mpr #[_,h,rfl]);have a:=LI nd.2 h;simpa[a7,ft,this]using a
section
variable{Ok:D->Prop}
def Xu:Gi Ok [] 0:=#[dg _,ml,λkv h=>nomatch h]
theorem LJ:∀(P:List (N×D)) (kvs:GD) (n:Nat),(∀e∈P,Row e.1/\Ok e.2)->Gi Ok kvs n->Gi Ok (ff P kvs) (n+P.length)|[],kvs,n,_,g=>g|e::P,kvs,n,h,g=>by exists r,o,h e cj;have:=LJ P (dY kvs e.1 e.2) (n+1) (λu a=>h u (cs a)) (g.add r o);show Gi Ok (ff P (dY kvs e.1 e.2)) (n+(P.length+1));rw[show n+(P.length+1)=n+1+P.length by lia];exact this
def nI{P:List (N×D)}(h:∀e∈P,Row e.1/\Ok e.2):Gi Ok (ff P []) P.length:=by have:=LJ P [] 0 h Xu;rwa [mh]at this
def LK{P:List (N×D)}(h:∀e∈P,Row e.1/\Ok e.2){k:N}:(k,ds)∈ff P []↔ds=hI P k/\ds≠[]:=by have g:=nI h;have q:=LH P [] k;have q:(a7 (ff P []) k).getD []=hI P k:=q;constructor;{intro m;rw[LI g.nd m]at q;have:=(g.each _ m).2.2.1;exact#[q,λz=>by rw[z]at this;simp at this]};rintro⟨rfl,ne⟩;cases e:a7 (ff P []) k with|none=>rw[e]at q;exact absurd q.symm ne|some ds=>rw[e]at q;have q:ds=hI P k:=q;rw[<- q];exact xI e
def o9{P:List (N×D)}{k:N}{d:D}(h:d∈hI P k):(k,d)∈P:=by exists e,a,rfl,de.mp h;exists o,f,mq.mp a;rw[<- kz f];exact o
def pA(K:KM Kd No way Ok pl)(l:List D)(x:D)(hx:Ok x)(h:∀d∈l,Ok d):Ok (l.foldl pl x):=K.toKO.okf l x hx h
theorem LM(K:KM Kd No way Ok pl):∀(l:List D) (x:D),Ok x->(∀d∈l,Ok d)->(l.filter λd=>!gw d No).foldl pl x=l.foldl pl x|[],x,_,_=>rfl|d::l,x,hx,h=>by have hd:=h d cj;have a:=LM K l (pl x d) (K.okp _ _ hx hd) λu f=>h u (cs f);cases q:gw d No with|true=>rw[C3 (by simp[q])];have:d=No:=(K.eqn d hd).mp q;rw[List.foldl_cons,<- a,this,K.right x hx]|false=>rw[C1 (by simp[q])];exact a
theorem LN(K:KM Kd No way Ok pl):∀(l:List D) (x:D),Ok x->x≠No->(∀d∈l,Ok d)->l.foldl pl x≠No|[],x,_,n,_=>n|d::l,x,hx,n,h=>LN K l (pl x d) (K.okp _ _ hx (h d cj)) (K.nz _ _ hx (h d cj) n) λu a=>h u (cs a)
def LO(K:KM Kd No way Ok pl){l:List D}(h:∀d∈l,Ok d/\d≠No)(ne:l≠[]):l.foldl pl No≠No:=by cases l with|nil=>exact absurd rfl ne|cons d l=>exists a,o,h d cj;show l.foldl pl (pl No d)≠No;rw[K.left d a];exact LN K l d a o λu f=>(h u (cs f)).1
def Xv{j k:N}(f:Row j)(hk:Row k)(e:lw j=lw k):j=k:=by exists us,rfl,d,_,f.ex;exists vs,rfl,a,_,hk.ex;have e:N.t (us.map rk)=N.t (vs.map rk):=e;injection e with e;rw[xL d a e]
theorem LP:∀{l:List (N×D)},(∀e∈l,Row e.1)->(l.map (·.1)).Nodup->(l.map κ).Nodup|[],_,_=>ml|e::l,h,nd=>by rw[cu,ik]at nd ⊢;refine#[λq=>?_,LP (λu a=>h u (cs a)) nd.2];exists u,a,E,de.mp q;have:=Xv (h u (cs a)) (h e cj) E;exact nd.1 (this ▸ de.mpr #[u,a,rfl])
def Xw{l l':List (N×D)}(p:l.Perm l')(nd:(l.map κ).Nodup):(c8 κ l).map enc=(c8 κ l').map enc:=by
 have h:gE (l.map λe=>(κ e,enc e))=gE (l'.map λe=>(κ e,enc e)) :=
  (GQ (vK (l.map λe=>(κ e,enc e))) ((rJ _).trans (p.map _)) (by
   rw[fu];exact(p.map κ).nodup_iff.mp nd))
 rw[sX,sX]at h;have:=congrArg (List.map λq:N×D=>q.2) h;simpa[fu,Function.comp_def]using this
def yD{P:List (N×D)}(h:∀e∈P,Row e.1/\Ok e.2):((val pl No (ff P [])).map (·.1)).Nodup:=by unfold val;rw[fu];exact(nI h).nd
def lE{P:List (N×D)}(h:∀e∈P,Row e.1/\Ok e.2){k:N}{d:D}:(k,d)∈val pl No (ff P [])↔hI P k≠[]/\d=(hI P k).foldl pl No:=by unfold val;constructor;{intro m;exists kv,a,e,de.mp m;cases e;exists E,f,(LK h (k:=kv.1) (ds:=kv.2)).mp a;exact#[E ▸ f,by rw[<- E]]};rintro⟨ne,rfl⟩;exact de.mpr #[(k,hI P k),(LK h).mpr #[rfl,ne],rfl]
def tI{P:List (N×D)}{k:N}(ne:hI P k≠[]):∃d,(k,d)∈P:=by cases e:hI P k with|nil=>exact absurd e ne|cons d l=>exact#[d,o9 (by rw[e];exact cj)]
def same(K:KM Kd No way Ok pl){P:List (N×D)}(h:∀e∈P,Row e.1/\Ok e.2):(c8 κ (fX pl No P)).map enc=(c8 κ (val pl No (ff (P.filter λe=>!gw e.2 No) []))).map enc:=by
 have h':∀e∈P.filter (λe=>!gw e.2 No),Row e.1/\Ok e.2:=λe o=>h e (mq.mp o).1;have en:∀k,hI (P.filter λe=>!gw e.2 No) k=(hI P k).filter λd=>!gw d No:=λk=>by unfold hI;rw[List.filter_map,List.filter_filter,List.filter_filter];congr 1;refine List.filter_congr λe _=>?_;show(_&&_)=(_&&_);rw[Bool.and_comm];rfl
 have ok:∀k,∀d∈hI P k,Ok d:=λk d hd=>(h _ (o9 hd)).2;have n1:((fX pl No P).map (·.1)).Nodup:=(List.Sublist.map _ (List.filter_sublist)).nodup (yD h);have n2:=yD (pl:=pl) (No:=No) h';have nd:∀{l:List (N×D)},(l.map (·.1)).Nodup->l.Nodup:=λ{l} q=>by induction l with|nil=>exact ml|cons a l B=>rw[cu,ik]at q;exact ik.mpr #[λz=>q.1 (de.mpr #[a,z,rfl]),B q.2]
 have r:(fX pl No P).Perm (val pl No (ff (P.filter λe=>!gw e.2 No) [])):=(Bv (nd n1) (nd n2)).mpr λ⟨k,d⟩=>by
  rw[lE h',en];unfold fX;rw[mq,lE h];have f:=LM K (hI P k) No K.okn (ok k);constructor
  . rintro⟨⟨ne,rfl⟩,q⟩;refine#[λz=>?_,f.symm];rw[z]at f;have f:No=(hI P k).foldl pl No:=f;have:gw ((hI P k).foldl pl No) No=true:=(K.eqn _ (pA K _ _ K.okn (ok k))).mpr f.symm;dsimp only at q;rw[this]at q;cases q
  . rintro⟨ne,rfl⟩;refine#[#[λz=>ne (by rw[z];rfl),f],?_]
    have:=LO K (l:=(hI P k).filter λd=>!gw d No) (λd hd=>by
     exists a,b,mq.mp hd;exact#[ok k d a,λz=>by rw[(K.eqn d (ok k d a)).mpr z]at b;cases b]) ne
    dsimp only;cases q:gw (((hI P k).filter λd=>!gw d No).foldl pl No) No with|false=>rfl|true=>exact absurd ((K.eqn _ (pA K _ _ K.okn λd hd=>ok k d (mq.mp hd).1)).mp q) this
 exact Xw r (LP (λe o=>by
  exists ne,_,(lE h (k:=e.1) (d:=e.2)).mp (mq.mp o).1;exists d,hd,tI ne;exact(h _ hd).1) n1)
end
abbrev LB(v:N):Prop:=bD v
structure dQ(w:Nat)(k:N):Prop where
 ex:∃vs,k=.t vs/\vs.length=w/\∀v∈vs,LB v
theorem dQ.row{w:Nat}{k:N}(d:w<=10)(h:dQ w k):Row k:=by exists vs,e,f,a,h.ex;exact#[vs,e,λv m=>a v m,by lia]
theorem LQ:∀{V:List (N×D)},(V.map (·.1)).Nodup->∀e∈V,bJ V e.1=some e.2|[],_,e,h=>by cases h|g::V,nd,e,a=>by rw[cu,ik]at nd;rcases cy.mp a with rfl|a;{rw[qR (p:=e) rfl]};rw[qS (p:=g) (λz=>nd.1 (de.mpr #[e,a,z.symm]))];exact LQ nd.2 e a
def Xx{V:List (N×D)}(nd:(V.map (·.1)).Nodup){e:N×D}(d:e∈V)(a:Row e.1):bv eL (okf (.dtf V)) (okf (nD e.1))=okf e.2:=bK (by
 show eL .fz (.dtf V) .fz (nD e.1)=_;unfold eL;rw[a.key];show(bJ V e.1).map _=_;rw[LQ nd e d];rfl)
theorem eO:∀(ks:List N),nDL ks=ks.map nD|[]=>by rw[nDL];rfl|k::ks=>by rw[nDL,eO ks];rfl
theorem Xy{k:N}(h:Row k):Pl 1 (nD k):=by exists vs,rfl,a,o,h.ex;rw[nD];refine .tup (λd hd=>?_) (by rw[eO,du];lia);rw[eO]at hd;exists v,f,rfl,de.mp hd;cases a v f with|i n=>rw[nD];exact .int n|s x=>rw[nD];exact .str x
abbrev Tb(C:List Str)(R:List (N×D)):D:=.tup [Tp C,.tup (R.map enc)]
abbrev dG(pl:D->D->D)(No:D)(P:List (N×D)):List (N×D):=c8 κ (val pl No (ff P []))
structure TR(No:D)(Ok:D->Prop)(w n:Nat)(R:List (N×D)):Prop where
 each:∀e∈R,dQ w e.1/\Ok e.2/\e.2≠No
 len:R.length<=n
section
variable{Ok:D->Prop}{w:Nat}{P:List (N×D)}
def TR.ro(t:TR No Ok w n R)(d:w<=10):∀e∈R,Row e.1/\Ok e.2:=λe a=>#[(t.each e a).1.row d,(t.each e a).2.1]
def TR.sum(K:KM Kd No way Ok pl)(t:TR No Ok w n P)(f:w<=10):TR No Ok w n (dG pl No P):=by have h:=t.ro f;refine#[λe a=>?_,?_];{have a:=(m8 κ _).mem_iff.mp a;exists ne,E,(lE h (k:=e.1) (d:=e.2)).mp a;exists d,hd,tI ne;have q:∀d∈hI P e.1,Ok d/\d≠No:=λd hd=>(t.each _ (o9 hd)).2;refine#[(t.each _ hd).1,?_,?_];{rw[E];exact pA K _ _ K.okn λd hd=>(q d hd).1};rw[E];exact LO K q ne};rw[(m8 κ _).length_eq];unfold val;rw[du];exact ir (nI h).len t.len
def LR{N:Nat}{g:Rho->aI}{d d':D}(a:ds.length+1=n)(h:g (mP N d ds)=.nx ρ')(h0:ρ'[0]? = some (some (true,d'))):jP n N g d ds=some d':=by unfold jP;rw[al a,h];dsimp only;rw[h0]
abbrev bP:List D3.S:=[.ite (.nin false v2 v0) [.nput 0 v2 (.call "_law_plus" 3 [v1,(.nix v0 v2),v3])] [.nput 0 v2 v3]]
theorem EI(K:KM Kd No way Ok pl)(k:Nat){V:List (N×D)}{r:N}{d:D}(G:Row r)(T:∀e∈V,Ok e.2)(hd:Ok d)(hl:V.length<1000):(Wk (k+4)).Mu "_law_put" (.dtn V) [.int way,nD r,d]=some (.dtn (eD V r (pl ((bJ V r).getD No) d))):=by
 have Z:sizeLine=16777216:=dj;have O:V.length<sizeLine:=by lia
 rw[zf (d:=Ki) rfl rfl];have F:bv (e9 false) (okf (nD r)) (.ok .bo (.dtn V))=okf (.bl (bJ V r).isSome):=bK (by
  show e9 false .fz (nD r) .bo (.dtn V)=_;unfold e9;rw[G.key];rfl)
 generalize a:mP 4 (.dtn V) [.int way,nD r,d]=Y;have E:Y=[some (true,.dtn V),sf (.int way),sf (nD r),sf d]:=by rw[<- a];rfl
 have o:aK (Wk (k+3)) v2 Y=okf (nD r):=by rw[E];rfl
 have B:aK (Wk (k+3)) v0 Y=.ok .bo (.dtn V):=by rw[E];rfl
 cases e:bJ V r with
 |none=>(rw[e]at F;have L:fA Y 0 (okf (nD r)) (aK (Wk (k+3)) v3 Y)=.nx (Y.set 0 (some (true,.dtn (eD V r d)))):=by(rw[E];show(match cK (nD r)with|some k=>if V.length<sizeLine then aI.nx _ else .stuck|none=>.stuck)=_);rw[G.key];dsimp only;rw[al O]);(have ev:ub (Wk (k+3)) bP Y=.nx (Y.set 0 (some (true,.dtn (eD V r d)))):=by show n7 (bv (e9 false) (aK (Wk (k+3)) v2 Y) (aK (Wk (k+3)) v0 Y)) Y _ _=_;rw[o,B,F];exact L);rw[A3,K.left d hd];exact LR rfl (by rw[<- a]at ev;exact ev) rfl
 |some x =>
  rw[e]at F;have hx:Ok x:=by unfold bJ at e;cases f:V.find? (λkv=>decide (kv.1=r))with|none=>rw[f]at e;cases e|some y=>rw[f]at e;cases e;exact T _ (CU f)
  have nx:bv eL (.ok .bo (.dtn V)) (okf (nD r))=okf x:=bK (by
   show eL .bo (.dtn V) .fz (nD r)=_;unfold eL;rw[G.key];show(bJ V r).map _=_;rw[e];rfl)
  have S:=K.lplus k x d hx hd;have L:fA Y 0 (okf (nD r)) (aK (Wk (k+3)) (.call "_law_plus" 3 [v1,(.nix v0 v2),v3]) Y)=.nx (Y.set 0 (some (true,.dtn (eD V r (pl x d))))):=by(have W:aK (Wk (k+3)) (.call "_law_plus" 3 [v1,(.nix v0 v2),v3]) Y=okf (pl x d):=by rw[E];exact Ad rfl nx rfl (bM S));(rw[W,E];show(match cK (nD r)with|some k=>if V.length<sizeLine then aI.nx _ else .stuck|none=>.stuck)=_);rw[G.key];dsimp only;rw[al O]
  have ev:ub (Wk (k+3)) bP Y=.nx (Y.set 0 (some (true,.dtn (eD V r (pl x d))))):=by show n7 (bv (e9 false) (aK (Wk (k+3)) v2 Y) (aK (Wk (k+3)) v0 Y)) Y _ _=_;rw[o,B,F];exact L
  exact LR rfl (by rw[<- a]at ev;exact ev) rfl
theorem Az(K:KM Kd No way Ok pl)(k i:Nat){P:List (N×D)}{e:N×D}(h:∀u∈P,Row u.1/\Ok u.2)(a:Row e.1/\Ok e.2)(G:P.length<1000)(hi:Y[i]? = some (some (true,.dtn (val pl No (ff P []))))):jO ((Wk (k+4)).Mu "_law_put") i Y 4 (.ok [(.fz,.int way),(.fz,nD e.1),(.fz,e.2)])=.nx (Y.set i (some (true,.dtn (val pl No (ff (P++[e]) []))))):=by
 have g:=nI h;have ge:ff (P++[e]) []=dY (ff P []) e.1 e.2:=by unfold ff;rw[List.foldl_append];rfl
 have E:val pl No (ff (P++[e]) [])=eD (val pl No (ff P [])) e.1 (pl ((bJ (val pl No (ff P [])) e.1).getD No) e.2):=by rw[ge,Wv]
 have f:=EI K k (V:=val pl No (ff P [])) (r:=e.1) (d:=e.2) a.1 (λu o=>by
  exists _,B,(lE h (k:=u.1) (d:=u.2)).mp o;rw[B];exact pA K _ _ K.okn λd hd=>(h _ (o9 hd)).2) a.2 (by
  unfold val;rw[du];have:=g.len;lia)
 unfold jO;rw[hi];show(match(WT TT (k+4)).Mu "_law_put" (.dtn (val pl No (ff P []))) [.int way,nD e.1,e.2]with|some F=>aI.nx (Y.set i (some (true,F)))|none=>.stuck)=_
 rw[f,E]
theorem Xz(k:Nat){V:List (N×D)}{c:D}(o:∀e∈V,Row e.1)(nd:(V.map (·.1)).Nodup)(O:V.length<=60):(Wk (k+3)).Φ "_law_sorted" [.dtf V,c]=okf (.tup [c,.tup ((c8 κ V).map enc)]):=by
 have Z:sizeLine=16777216:=dj;refine fm (d:=Kj) rfl rfl ?_;show b0 _ JK [sf (.dtf V),sf c]=_;have S:cX (λd=>(Wk (k+1)).Φ "_law_rank" [d]) (okf (.dtf V))=.ok .fr (.lst ((c8 κ V).map λe=>nD e.1)):=by
  have K:∀e:N×D,∃kd:D,e∈V->aG ((Wk (k+1)).Φ "_law_rank" [nD e.1])=okf kd/\eP kd=sf (lw e.1):=λe=>by by_cases a:e∈V;{exists vs,ev,G,KY (o e a);exists r,E,F,hn,(o e a).ex;(have:r=vs:=by rw[ev]at E;injection E with z;exact z.symm);subst this;refine#[_,λ_=>#[?_,G]];rw[ev,Ws k F hn];rfl};exact#[.non,λz=>absurd z a]
  exact KQ (f:=λe:N×D=>nD e.1) (κ:=κ) (kd:=λe=>Classical.choose (K e)) rfl (λe a=>(Classical.choose_spec (K e) a).1) (λe a=>(Classical.choose_spec (K e) a).2) (by
   have:=KW (ks:=V.map λe=>e.1) (λk hk=>by exists e,a,rfl,de.mp hk;exact o e a) nd
   rw[fu]at this
   exact this) (gq (by lia:V.length<64) u7)
 have L:aK (Wk (k+2)) (.items (.srtf "_law_rank" v0)) [sf (.dtf V),sf c]=okf (.lst ((c8 κ V).map λe=>nD e.1)):=by show eX (aG (aK (Wk (k+2)) (.srtf "_law_rank" v0) _))=_;rw[WB rfl];show eX (aG (cX (λd=>(Wk (k+1)).Φ "_law_rank" [d]) (okf (.dtf V))))=_;rw[S];rfl
 have B:=m8 κ V;have c1:bI (okf (.lst ((c8 κ V).map λe=>nD e.1))) [sf (.dtf V),sf c] [0] 1 (aL (.nm 1)) (λY=>d7 (Wk (k+2)) [] Y) (λY=>aK (Wk (k+2)) (.tup [v1,(.nix v0 v1)]) Y)=.ok .fr (.lst ((c8 κ V).map enc)):=by refine fV (enc:=λe:N×D=>nD e.1) enc (by rw[B.length_eq];lia) λe a=>?_;have a:=B.mem_iff.mp a;have nx:=Xx nd a (o e a);refine#[[sf (.dtf V),sf (nD e.1)],.fz,rfl,rfl,.fz,?_];show aG (dU (aF (okf (nD e.1)) (aF (bv eL (okf (.dtf V)) (okf (nD e.1))) (.ok []))))=_;rw[nx];rfl
 exact a9 (k7 rfl (bO (fW (by rw[gI,L];exact c1))))
end
def big:Int:=100000000000000000000000000000000000000000000000000
def pw{m:Md}:bv (aZ .Pow) (.ok m (.int 10)) (.ok m' (.int 50))=okf (.int big):=by rfl
def EJ{m:Md}:bv (aZ .Pow) (.ok m (.int 10)) (.ok m' (.int 40))=okf (.int 10000000000000000000000000000000000000000):=by rfl
def XA{a b c:D}:fK (.ok [(.fz,a),(.fz,b),(.fz,c)])=.ok .fr (.lst [a,b,c]):=rfl
def iI:List Str:=["x","","ab","X y","~0"]
def EK(k:Nat)(c:Int):∃vs:List N,vs.length=3/\(∀v∈vs,LB v)/\(Wk (k+1)).Φ "_law_pool" [.int c,.int big]=.ok .fr (.lst (vs.map nD)):=by(have o:0<big:=by decide);have f:=jS (m:=.fz) (n:=.fz) (i:=c) o;exists d,hd,E,m5 (iI.map D.str) c 5 rfl (by decide);exists t,r,rfl,de.mp hd;have ix:=dD (m:=.fz) (m':=.fz) E;refine#[[.i (c % big-big / 3),.i (c / 7 % 3),.s t],rfl,λv a=>?_,?_];{simp only[cy,mz,h9]at a;rcases a with rfl|rfl|rfl;{exact .i _};{exact .i _};exact .s _};refine fm (d:=Kk) rfl rfl ?_;show b0 (Wk k) wU [sf (.int c),sf (.int big),none]=_;unfold wU;have S:dq (Wk k) (.set 2 (.frz (.lst [(.str "x"),(.str ""),(.str "ab"),(.str "X y"),(.str "~0")]))) [sf (.int c),sf (.int big),none]=.nx [sf (.int c),sf (.int big),sf (.lst (iI.map D.str))]:=rfl;rw[mU S];generalize iI.map D.str=TX at *;generalize big=B at *;simp[ix,f,XA,nD]
theorem AA(k:Nat)(c:Int)(P:D):∃d,Lv d/\d ≠ .int 0/\(Wk (k+2)).Φ "_law_note" [.int 0,.int c,P]=okf d:=by(have p:=EJ (m:=.fz) (m':=.fz);have B:(0:Int)<10000000000000000000000000000000000000000:=by decide);have a:=jS (m:=.fz) (n:=.fz) (i:=c) B;have n1:=Bt c B;have n2:=ss c (show(10000000000000000000000000000000000000000:Int)≠0 by decide);refine#[.int (1+c % 10000000000000000000000000000000000000000),#[_,by lia,rfl],λe=>by injection e with e;lia,?_];refine fm (d:=sQ) rfl rfl ?_;show b0 (Wk (k+1)) mX [sf (.int 0),sf (.int c),sf P,none]=_;unfold mX;refine jf (c7 (m:=.fz) (by rfl) (a9 ?_));show bv (aZ .Add) (okf (.int 1)) (bv (aZ .Mod) (okf (.int c)) (bv (aZ .Pow) (okf (.int 10)) (okf (.int 40))))=_;rw[p,a];simp
def AB(z:Str)(n:Int):tD (jg z,n)=.tup [.tup [.str z],.tup [],.int n]:=by rw[o7];show D.tup [nD (F [z]),nD (.t []),.int n]=_;rw[tB,nD,nDL];rfl
def AC(t:Tr):pk [t]:=#[by simp,ox _ _]
def XB{W:WD}{f:Str}{a:E}{x:D}{r:Res}(d:aK W a Y=okf x)(hf:aN 1 (W.Φ f) (.ok [(.fz,x)])=r):aK W (.call f 1 [a]) Y=r:=by show aN 1 (W.Φ f) (aF (aK W a Y) (.ok []))=_;rw[d];exact hf
def XC{W:WD}{a b:E}{x:D}(f:aK W a Y=okf x)(d:aK W b Y=okf y):aK W (.lst [a,b]) Y=.ok .fr (.lst [x,y]):=by show fK (aF (aK W a Y) (aF (aK W b Y) (.ok [])))=_;rw[f,d];rfl
theorem AD(k:Nat)(c:Int)(V:zs.length=8):∃d,Aw zs d/\d ≠ .tup []/\(Wk (k+2)).Φ "_law_note" [.int 1,.int c,.lst (zs.map .str)]=okf d:=by
 have K:=LF (P:=zs) (by lia)
 have r:∀v:Int,∃z∈zs,atI (zs.map D.str) (v % 8)=some (.str z):=λv=>by exists d,hd,W,m5 (zs.map D.str) v 8 (by rw[du,V];rfl) (by decide);exists z,r,rfl,de.mp hd;exact#[z,r,W]
 exists a,E,e1,r c;exists f,B,e2,r (c / 32);have n3:0<=c / 256 % 3/\c / 256 % 3<3:=by lia
 have f1:Fc zs (jg a,1):=#[#[a,E,rfl],Int.one_pos];have f2:Fc zs (jg f,1+c / 256 % 3):=#[#[f,B,rfl],by show 0<1+c / 256 % 3;lia]
 have O:Aw zs (rD [(jg a,1)]):=#[_,rfl,AC _,λt o=>by rw[gV.mp o];exact f1]
 have F:Aw zs (rD [(jg f,1+c / 256 % 3)]):=#[_,rfl,AC _,λt o=>by rw[gV.mp o];exact f2]
 have N:rD [(jg a,1)] ≠ .tup []:=λz=>by injection z with z;cases z
 have i1:=dD (m:=.fz) (m':=.fz) e1;have L:=dD (m:=.fz) (m':=.fz) e2;have S:dq (Wk (k+1)) (.set 3 (.tup [(.tup [(.ix v2 (.bin .Mod v1 (.int 8)))]),(.tup []),(.int 1)])) [sf (.int 1),sf (.int c),sf (.lst (zs.map .str)),none]=.nx [sf (.int 1),sf (.int c),sf (.lst (zs.map .str)),sf (tD (jg a,1))]:=by rw[AB];generalize zs.map D.str=Z at *;simp[i1,z9,Aa,i7]
 have pre:dq (Wk (k+1)) (.ite (.cmp .Eq v0 (.int 0)) [.ret (.bin .Add (.int 1) (.bin .Mod v1 (.bin .Pow (.int 10) (.int 40))))] []) [sf (.int 1),sf (.int c),sf (.lst (zs.map .str)),none]=.nx [sf (.int 1),sf (.int c),sf (.lst (zs.map .str)),none]:=bN (m:=.fz) (by rfl) rfl
 cases q:(c / 8 % 4==1)with
 |true =>
  refine#[ud (rD [(jg a,1)]) (rD [(jg f,1+c / 256 % 3)]),K.okp _ _ O F,K.nz _ _ O F N,?_];rw[gW];refine fm (d:=sQ) rfl rfl ?_;show b0 (Wk (k+1)) mX [sf (.int 1),sf (.int c),sf (.lst (zs.map .str)),none]=_;have G:=fQ (LA k (P:=zs) (X:=[(jg a,1)]++[(jg f,1+c / 256 % 3)]) (λt o=>by
   rcases ii.mp o with h|h
   . rw[gV.mp h];exact f1
   . rw[gV.mp h];exact f2) (by show 2<64;lia))
  have ev:aK (Wk (k+1)) (.tup [(.tup [(.ix v2 (.bin .Mod (.bin .FloorDiv v1 (.int 32)) (.int 8)))]),(.tup []),(.frz (.bin .Add (.int 1) (.bin .Mod (.bin .FloorDiv v1 (.int 256)) (.int 3))))]) [sf (.int 1),sf (.int c),sf (.lst (zs.map .str)),sf (tD (jg a,1))]=okf (tD (jg f,1+c / 256 % 3)):=by rw[AB f];generalize zs.map D.str=Z at *;generalize tD (jg a,1)=T at *;simp[L,z9,Aa,i7]
  refine cg pre (cg S (jf (c7 (m:=.fz) (by simp[q]) (a9 (XB (i8 (XC rfl ev)) G)))))
 |false=>refine#[rD [(jg a,1)],O,N,?_];refine fm (d:=sQ) rfl rfl ?_;show b0 (Wk (k+1)) mX [sf (.int 1),sf (.int c),sf (.lst (zs.map .str)),none]=_;unfold mX;exact cg pre (cg S (cg (bN (m:=.fz) (by simp[q]) rfl) (a9 rfl)))
def yE(k:Nat)(way:Int)(zs:List Str)(Ok:D->Prop)(No:D):Prop:=∀c:Int,∃d,Ok d/\d≠No/\(Wk k).Φ "_law_note" [.int way,.int c,.lst (zs.map .str)]=okf d
theorem LS:∀{C:List Str}{i:Nat} (hi:i<C.length),C.Nodup->(C.map D.str).findIdx? (λz=>jr z (.str C[i]))=some i|z::C,0,_,_=>by rw[cu,qh];show(if jr (.str z) (.str z)=true then _ else _)=_;rw[al (by show(z==z)=true;exact nv z)]|z::C,i+1,hi,nd=>by(rw[ik]at nd;have a:i<C.length:=by simpa using hi);rw[cu,qh];show(if jr (.str z) (.str C[i])=true then _ else _)=_;have:(z==C[i])=false:=lz.mpr λe=>nd.1 (e ▸ mm a);rw[a0 (by show ¬ (z==C[i])=true;rw[this];decide)];exact congrArg (Option.map λi=>i+1) (LS a nd.2)
def yF{C:List Str}(nd:C.Nodup)(hi:i<C.length){m:Md}:oE (.ok m (Tp C)) (.ok m' (.str C[i]))=okf (.int (i:Int)):=by(show(if(cF (.str C[i])&&(C.map D.str).all cF)=true then(match(C.map D.str).findIdx? (λz=>jr z (.str C[i]))with|some j=>Res.ok .fz (.int (j:Nat))|none=>.stuck)else .stuck)=_);rw[al (by rw[xO];rfl),LS hi nd]
def LU{vs:List N}(hi:i<vs.length){m:Md}:bv c6 (.ok m (nD (.t vs))) (.ok m' (.int (i:Int)))=okf (nD (vs.getD i (.i 0))):=by(rw[nD,eO];have:vs.getD i (.i 0)=vs[i]:=by simp[hi]);rw[this];exact dM (cW (by rw[gz,gg hi];rfl))
structure AE(C:List Str)(p:D)(f:List N->N):Prop where
 leaf:∀vs,vs.length=C.length->(∀v∈vs,bD v)->bD (f vs)
 prog:∀k vs,vs.length=C.length->(Wk (k+1)).Φ "value_of" [p,Tp C,nD (.t vs)]=okf (nD (f vs))
 law:∀k vs,vs.length=C.length->(Wk (k+1)).Φ "_law_value" [p,Tp C,nD (.t vs)]=okf (nD (f vs))
 col:∃(w:Str) (d:D),p=.tup [.str w,d]/\((w==Str.ofString "of")=true->∃z∈C,d=.str z)
theorem EL{C:List Str}(nd:C.Nodup)(hi:i<C.length):AE C (.tup [.str "of",.str C[i]]) (λvs=>vs.getD i (.i 0)) where
 leaf vs hl h:=by(have:vs.getD i (.i 0)=vs[i]:=by simp[show i<vs.length by lia]);rw[this];exact h _ (mm _)
 prog k vs hl:=by rw[Kt];refine bX rfl ?_;have ix:=LU (vs:=vs) (i:=i) (by lia) (m:=.fz) (m':=.fz);have f:=yF nd hi (m:=.fz) (m':=.fz);show b0 _ mW [sf (.tup [.str "of",.str C[i]]),sf (Tp C),sf (nD (.t vs))]=_;generalize nD (.t vs)=r at *;generalize nD (vs.getD i (.i 0))=v at *;simp[mW,i0,i1,f,ix]
 law k vs hl:=by rw[Ku];refine bX rfl ?_;have ix:=LU (vs:=vs) (i:=i) (by lia) (m:=.fz) (m':=.fz);have f:=yF nd hi (m:=.fz) (m':=.fz);show b0 _ mZ [sf (.tup [.str "of",.str C[i]]),sf (Tp C),sf (nD (.t vs))]=_;generalize nD (.t vs)=r at *;generalize nD (vs.getD i (.i 0))=v at *;simp[mZ,i0,i1,f,ix]
 col:=#[_,_,rfl,λ_=>#[_,mm hi,rfl]]
def XD{C:List Str}{v:N}(h:bD v):AE C (.tup [.str "just",nD v]) (λ_=>v) where
 leaf _ _ _:=h
 prog k vs hl:=by(rw[Kt];refine bX rfl ?_;show b0 _ mW [sf (.tup [.str "just",nD v]),sf (Tp C),sf (nD (.t vs))]=_;generalize nD (.t vs)=r at *;generalize nD v=u at *;have q:(Str.ofString "just" == Str.ofString "of")=false:=by decide);simp[mW,i0,i1,q]
 law k vs hl:=by(rw[Ku];refine bX rfl ?_;show b0 _ mZ [sf (.tup [.str "just",nD v]),sf (Tp C),sf (nD (.t vs))]=_;generalize nD (.t vs)=r at *;generalize nD v=u at *;have q:(Str.ofString "just" == Str.ofString "of")=false:=by decide);simp[mZ,i0,i1,q]
 col:=#[_,_,rfl,λh=>absurd h (by decide)]
structure hR(n:Nat)(C:List Str)(t:D)(B:List N->Bool):Prop where
 prog:∀k vs,vs.length=C.length->(∀v∈vs,bD v)->(Wk (k+n)).Φ "passes" [t,Tp C,nD (.t vs)]=okf (.bl (B vs))
 law:∀k vs,vs.length=C.length->(∀v∈vs,bD v)->(Wk (k+n)).Φ "_law_passes" [t,Tp C,nD (.t vs)]=okf (.bl (B vs))
 cols:∀k,∃zs:List Str,(∀z∈zs,z∈C)/\zs.length<=2 ^ n/\(Wk (k+n)).Φ "columns_in" [t]=.ok .fr (.lst (zs.map .str))
def under(x y:N):Bool:=ltN (rk x) (rk y)
def LV{v:N}(h:bD v):v.dp<=50:=by cases h <;> simp[N.dp]
theorem AF{x y:N}(hx:bD x)(a:bD y){m:Md}:bv (gu lh oh) (.ok m (nD (rk x))) (.ok m' (nD (rk y)))=okf (.bl (under x y)):=bK (by
 show(lh m (nD (rk x)) m' (nD (rk y))).orElse _=_;have:lh m (nD (rk x)) m' (nD (rk y))=some (.fz,.bl (ltN (rk x) (rk y))):=by unfold lh;rw[oY,oY];dsimp only;rw[al (by rw[cc,fe];exact#[by have:=xJ hx;lia,KS hx a])]
 rw[this];rfl)
def XF(a b:N):bC [a] [b]=ltN a b:=by rw[bC];by_cases e:a=b;{rw[al e,bC,e,jH]};rw[a0 e]
theorem AG{x y:N}(hx:bD x)(f:bD y){m:Md}:bv (gu lh oh) (.ok m (.lst [nD (rk x)])) (.ok m' (.lst [nD (rk y)]))=okf (.bl (under x y)):=bK (by
 show(lh m (.lst [nD (rk x)]) m' (.lst [nD (rk y)])).orElse _=_;have h0:lh m (.lst [nD (rk x)]) m' (.lst [nD (rk y)])=none:=by unfold lh;rw[show bA (.lst [nD (rk x)])=none by simp[bA]]
 have o:oh m (.lst [nD (rk x)]) m' (.lst [nD (rk y)])=some (.fz,.bl (under x y)):=by
  have d:cH [nD (rk x)]=some [rk x]:=jV [rk x];have K:cH [nD (rk y)]=some [rk y]:=jV [rk y];unfold oh;dsimp only;rw[d,K];dsimp only;rw[al (by
   rw[cc,fe];refine#[by have:=xJ hx;simp only[N.dpL];lia,?_]
   have:=xK (us:=[x]) (vs:=[y]) (λu a=>by rw[gV.mp a];exact hx) (λu a=>by rw[gV.mp a];exact f)
   exact this),XF]
  rfl
 rw[h0,o];rfl)
def EM{x y:N}(hx:bD x)(a:bD y){m:Md}:bv (bB .Eq) (.ok m (.lst [nD (rk x)])) (.ok m' (.lst [nD (rk y)]))=okf (.bl (decide (x=y))):=bK (by
 have tx:aU (.lst [nD (rk x)])=some (.list [(rk x).py]):=by simp only[aU,cG];rw[nH];rfl
 have ty:aU (.lst [nD (rk y)])=some (.list [(rk y).py]):=by simp only[aU,cG];rw[nH];rfl
 have ev:PyData.eqv (.list [(rk x).py]) (.list [(rk y).py])=decide (x=y):=by rw[PyData.eqv,PyData.eqvAll,PyData.eqvAll,Bool.and_true,N.py_eqv];rw[Bool.eq_iff_iff,fe,fe];exact#[λe=>KR hx a e,λe=>by rw[e]]
 have S:∀{z:N},bD z->gN (.list [(rk z).py])=true:=λ{z} d=>by cases d <;> rfl
 show gu (jn false) _ m _ m' _=_;unfold gu jn;rw[tx,ty];dsimp only;rw[S hx,S a,ev];rfl)
theorem LW(k:Nat){v:N}(h:bD v):(Wk (k+1)).Φ "_law_rank" [.lst [nD v]]=.ok .fr (.lst [nD (rk v)]):=by rw[Wd];refine bX rfl ?_;show b0 _ mY [sf (.lst [nD v]),none,none]=_;exists y,e,xH (Wk k) (A:=sf (.lst [nD v])) [v] [] none (λu d=>by rw[gV.mp d];exact h) (by show 0+1<=10;lia);unfold mY;have a:dq (Wk k) (.set 1 (.lst [])) [sf (.lst [nD v]),none,none]=.nx [sf (.lst [nD v]),some (true,.lst []),none]:=rfl;have S:dq (Wk k) (.for (.items v0) (.nm 2) i6) [sf (.lst [nD v]),some (true,.lst []),none]=.nx [sf (.lst [nD v]),some (true,.lst [nD (rk v)]),y]:=e;rw[mU a,mU S];rfl
def fD{W:WD}{y:Str}{a:List D3.S}(h:cP Y 3=okf (.str x))(d:(x==y)=false):dq W (.ite (.cmp .Eq v3 (.str y)) a []) Y=.nx Y:=bN (cE (m:=.fz) h d) rfl
section
variable{C:List Str}{p q:D}{f g:List N->N}
def yG(w:Str)(f g:List N->N)(vs:List N):Bool:=if(w==Str.ofString "same")=true then decide (f vs=g vs)else under (f vs) (g vs)
def AH:D->Bool|.tup [.str w,_]=>w==Str.ofString "of"|_=>false
def AI:D->D|.tup [_,d]=>d|_=>.non
theorem LX:∀(U:List D),(∀x∈U,∃(w:Str) (d:D),x=.tup [.str w,d]/\((w==Str.ofString "of")=true->∃z∈C,d=.str z))->∃zs:List Str,(∀z∈zs,z∈C)/\zs.length<=U.length/\(U.filter AH).map AI=zs.map .str
 |[],_=>#[[],λz h=>(nomatch h),dg _,rfl]|x::U,h=>by
  exists zs,r,F,o,LX U λy a=>h y (cs a);exists w,d,rfl,E,h x cj;cases e:(w==Str.ofString "of")with
  |false=>rw[C3 (by show ¬ (w==Str.ofString "of")=true;rw[e];decide)];exact#[zs,r,by rw[gh];lia,o]|true=>
   exists z,B,rfl,E e;rw[C1 (by show(w==Str.ofString "of")=true;exact e),cu,o]
   exact#[z::zs,λy a=>by
    rcases cy.mp a with rfl|a
    . exact B
    . exact r y a,by rw[gh,gh];lia,rfl]
def be:List Str:=[Str.ofString "both",Str.ofString "either"]
def in2{m:Md}:bv (bB .In) (.ok m (.str z)) (.ok m' (.tup [.str (Str.ofString "both"),.str (Str.ofString "either")]))=okf (.bl (decide (z∈be))):=xP (C:=be)
theorem LY{w:Str}(a:w=Str.ofString "same" \/ w=Str.ofString "under")(hp:AE C p f)(B:AE C q g):hR 5 C (.tup [.str w,p,q]) (yG w f g) where
 prog k vs hl h:=by(have n1:(w==Str.ofString "not")=false:=by rcases a with rfl|rfl <;> decide);(have n2:(w==Str.ofString "both")=false:=by rcases a with rfl|rfl <;> decide);(have n3:(w==Str.ofString "either")=false:=by rcases a with rfl|rfl <;> decide);(have o:=bM (hp.prog (k+3) vs hl);have V:=bM (B.prog (k+3) vs hl);have r:=hp.leaf vs hl h;have L:=B.leaf vs hl h;rw[sS];refine bX rfl ?_;generalize T:nD (.t vs)=R at *;show b0 (Wk (k+4)) iE [sf (.tup [.str w,p,q]),sf (Tp C),sf R,none,none,none]=_;unfold iE;have s0:dq (Wk (k+4)) (.set 3 (.ix v0 (.int 0))) [sf (.tup [.str w,p,q]),sf (Tp C),sf R,none,none,none]=.nx [sf (.tup [.str w,p,q]),sf (Tp C),sf R,sf (.str w),none,none]:=bE j0;have E:dq (Wk (k+4)) (.set 4 (.frz (.call "value_of" 3 [(.ix v0 (.int 1)),v1,v2]))) [sf (.tup [.str w,p,q]),sf (Tp C),sf R,sf (.str w),none,none]=.nx [sf (.tup [.str w,p,q]),sf (Tp C),sf R,sf (.str w),sf (nD (f vs)),none]:=by refine bE (bO ?_);show aN 3 ((Wk (k+4)).Φ "value_of") (aF (bv c6 (okf (.tup [.str w,p,q])) (okf (.int 1))) (aF (okf (Tp C)) (aF (okf R) (.ok []))))=_;rw[j1];exact o);(have S:dq (Wk (k+4)) (.set 5 (.frz (.call "value_of" 3 [(.ix v0 (.int 2)),v1,v2]))) [sf (.tup [.str w,p,q]),sf (Tp C),sf R,sf (.str w),sf (nD (f vs)),none]=.nx [sf (.tup [.str w,p,q]),sf (Tp C),sf R,sf (.str w),sf (nD (f vs)),sf (nD (g vs))]:=by refine bE (bO ?_);show aN 3 ((Wk (k+4)).Φ "value_of") (aF (bv c6 (okf (.tup [.str w,p,q])) (okf (.int 2))) (aF (okf (Tp C)) (aF (okf R) (.ok []))))=_;rw[j2];exact V);refine cg s0 (cg (fD rfl n1) (cg (fD rfl n2) (cg (fD rfl n3) (cg E (cg S ?_)))));unfold yG;cases e:(w==Str.ofString "same")with|true=>rw[al rfl];exact jf (c7 (cE (m:=.fz) rfl e) (a9 (xW (LV r) (LV L))))|false=>rw[a0 (by decide)];refine cg (fD rfl e) (a9 ?_);have G:=fQ (xG (k+2) r);have F:=fQ (xG (k+2) L);show bv (gu lh oh) (aN 1 ((Wk (k+4)).Φ "rank") (.ok [(.fz,nD (f vs))])) (aN 1 ((Wk (k+4)).Φ "rank") (.ok [(.fz,nD (g vs))]))=_;rw[G,F,AF r L]
 law k vs hl h:=by(have n1:(w==Str.ofString "not")=false:=by rcases a with rfl|rfl <;> decide);(have n2:(w==Str.ofString "both")=false:=by rcases a with rfl|rfl <;> decide);(have n3:(w==Str.ofString "either")=false:=by rcases a with rfl|rfl <;> decide);(have o:=bM (hp.law (k+3) vs hl);have V:=bM (B.law (k+3) vs hl);have r:=hp.leaf vs hl h;have L:=B.leaf vs hl h;have G:=kZ (LW (k+3) r);have F:=kZ (LW (k+3) L);rw[sU];refine bX rfl ?_;generalize T:nD (.t vs)=R at *;show b0 (Wk (k+4)) iF [sf (.tup [.str w,p,q]),sf (Tp C),sf R,none,none,none]=_;unfold iF;have s0:dq (Wk (k+4)) (.set 3 (.ix v0 (.int 0))) [sf (.tup [.str w,p,q]),sf (Tp C),sf R,none,none,none]=.nx [sf (.tup [.str w,p,q]),sf (Tp C),sf R,sf (.str w),none,none]:=bE j0;have E:dq (Wk (k+4)) (.set 4 (.frz (.call "_law_rank" 1 [(.frz (.lst [(.frz (.call "_law_value" 3 [(.ix v0 (.int 1)),v1,v2]))]))]))) [sf (.tup [.str w,p,q]),sf (Tp C),sf R,sf (.str w),none,none]=.nx [sf (.tup [.str w,p,q]),sf (Tp C),sf R,sf (.str w),sf (.lst [nD (rk (f vs))]),none]:=by refine bE (i8 ?_);show aN 1 ((Wk (k+4)).Φ "_law_rank") (aF (aG (fK (aF (aG (aN 3 ((Wk (k+4)).Φ "_law_value") (aF (bv c6 (okf (.tup [.str w,p,q])) (okf (.int 1))) (aF (okf (Tp C)) (aF (okf R) (.ok [])))))) (.ok [])))) (.ok []))=_;rw[j1];show aN 1 ((Wk (k+4)).Φ "_law_rank") (aF (aG (fK (aF (aG (aN 3 ((Wk (k+4)).Φ "_law_value") (.ok [(.fz,p),(.fz,Tp C),(.fz,R)]))) (.ok [])))) (.ok []))=_;rw[o];exact G);(have S:dq (Wk (k+4)) (.set 5 (.frz (.call "_law_rank" 1 [(.frz (.lst [(.frz (.call "_law_value" 3 [(.ix v0 (.int 2)),v1,v2]))]))]))) [sf (.tup [.str w,p,q]),sf (Tp C),sf R,sf (.str w),sf (.lst [nD (rk (f vs))]),none]=.nx [sf (.tup [.str w,p,q]),sf (Tp C),sf R,sf (.str w),sf (.lst [nD (rk (f vs))]),sf (.lst [nD (rk (g vs))])]:=by refine bE (i8 ?_);show aN 1 ((Wk (k+4)).Φ "_law_rank") (aF (aG (fK (aF (aG (aN 3 ((Wk (k+4)).Φ "_law_value") (aF (bv c6 (okf (.tup [.str w,p,q])) (okf (.int 2))) (aF (okf (Tp C)) (aF (okf R) (.ok [])))))) (.ok [])))) (.ok []))=_;rw[j2];show aN 1 ((Wk (k+4)).Φ "_law_rank") (aF (aG (fK (aF (aG (aN 3 ((Wk (k+4)).Φ "_law_value") (.ok [(.fz,q),(.fz,Tp C),(.fz,R)]))) (.ok [])))) (.ok []))=_;rw[V];exact F);refine cg s0 (cg (fD rfl n1) (cg (fD rfl n2) (cg (fD rfl n3) (cg E (cg S ?_)))));unfold yG;cases e:(w==Str.ofString "same")with|true=>rw[al rfl];exact jf (c7 (cE (m:=.fz) rfl e) (a9 (EM r L)))|false=>rw[a0 (by decide)];exact cg (fD rfl e) (a9 (AG r L))
 cols k:=by(have n1:(w==Str.ofString "not")=false:=by rcases a with rfl|rfl <;> decide);(have n2:decide (w∈be)=false:=by rcases a with rfl|rfl <;> decide);(have hx:∀x∈[p,q],∃(w:Str) (d:D),x=.tup [.str w,d]/\((w==Str.ofString "of")=true->∃z∈C,d=.str z):=λx hx=>by simp only[cy,mz,h9]at hx;rcases hx with rfl|rfl;{exact hp.col};exact B.col);exists zs,h1,h2,Z,LX [p,q] hx;refine#[zs,h1,ir h2 (by show 2<=32;lia),?_];(rw[w8];refine bX rfl ?_;show b0 (Wk (k+4)) jU [sf (.tup [.str w,p,q]),none]=_;unfold jU;have s0:dq (Wk (k+4)) (.set 1 (.ix v0 (.int 0))) [sf (.tup [.str w,p,q]),none]=.nx [sf (.tup [.str w,p,q]),sf (.str w)]:=bE j0;have K:=in2 (m:=.fz) (m':=.fz) (z:=w);rw[n2]at K;have tt:dU (.ok [(.fz,.str (Str.ofString "both")),(.fz,.str (Str.ofString "either"))])=okf (.tup [.str (Str.ofString "both"),.str (Str.ofString "either")]):=rfl;refine cg s0 (cg (bN (m:=.fz) (cE (m:=.fz) rfl n1) rfl) (cg (bN (m:=.fz) K rfl) (k6 ?_)));have N:=An (W:=Wk (k+4)) (Y:=[sf (.tup [.str w,p,q]),sf (.str w)]) (ds:=[.str w,p,q]) (e:=.int 1) (i:=1) (m:=.fz) rfl;have it:aK (Wk (k+4)) (.items (.slice v0 (some (.int 1)) none)) [sf (.tup [.str w,p,q]),sf (.str w)]=okf (.lst [p,q]):=by rw[Va,U9,yz];show eX (aG (js (okf (.tup [.str w,p,q])) _ _ _))=_;rw[N];rfl);(rw[gI,it,<- Z];have:=oX (enc:=λd:D=>d) AH AI (Y:=[sf (.tup [.str w,p,q]),sf (.str w)]) (aD:=[]) (n:=1) (k:=aL (.nm 0)) (t:=λY=>d7 (Wk (k+4)) [(.cmp .Eq (.ix v0 (.int 0)) (.str "of"))] Y) (e:=λY=>aK (Wk (k+4)) (.ix v0 (.int 1)) Y) (m:=.fz) (U:=[p,q]) (Wl (by show 2<=3;lia)) λx O=>by exists u,d,rfl,_,hx x O;refine#[[sf (.tup [.str u,d])],.fz,rfl,?_,λ_=>#[.fz,?_]];{show d7 (Wk (k+4)) [(.cmp .Eq (.ix v0 (.int 0)) (.str "of"))] [sf (.tup [.str u,d])]=okf (.bl (u==Str.ofString "of"));simp[i0]};show aG (bv c6 (okf (.tup [.str u,d])) (okf (.int 1)))=_;rw[i1];rfl);rw[List.map_id']at this;exact this
end
section
variable{C:List Str}{t t':D}{B a:List N->Bool}
theorem hR.up(h:hR n C t B):hR (n+1) C t B where
 prog k vs hl hv:=by have:=h.prog (k+1) vs hl hv;rwa [show k+1+n=k+(n+1) by lia]at this
 law k vs hl hv:=by have:=h.law (k+1) vs hl hv;rwa [show k+1+n=k+(n+1) by lia]at this
 cols k:=by exists zs,f,o,d,h.cols (k+1);rw[show k+1+n=k+(n+1) by lia]at d;exact#[zs,f,by rw[Nat.pow_succ];lia,d]
theorem AJ(h:hR n C t B):hR (n+1) C (.tup [.str "not",t]) (λvs=>!B vs) where
 prog k vs hl hv:=by have c:=bM (h.prog k vs hl hv);rw[<- lm,sS];refine bX rfl ?_;generalize d:nD (.t vs)=R at *;show b0 (Wk (k+n)) iE [sf (.tup [.str "not",t]),sf (Tp C),sf R,none,none,none]=_;unfold iE;refine cg (ρ':=[sf (.tup [.str "not",t]),sf (Tp C),sf R,sf (.str "not"),none,none]) (bE i0) (jf (c7 (cE (m:=.fz) rfl (by decide)) (a9 ?_)));show f8 (aN 3 ((Wk (k+n)).Φ "passes") (aF (bv c6 (okf (.tup [.str "not",t])) (okf (.int 1))) (aF (okf (Tp C)) (aF (okf R) (.ok [])))))=_;rw[i1];show f8 (aN 3 ((Wk (k+n)).Φ "passes") (.ok [(.fz,t),(.fz,Tp C),(.fz,R)]))=_;rw[c];rfl
 law k vs hl hv:=by have c:=bM (h.law k vs hl hv);rw[<- lm,sU];refine bX rfl ?_;generalize d:nD (.t vs)=R at *;show b0 (Wk (k+n)) iF [sf (.tup [.str "not",t]),sf (Tp C),sf R,none,none,none]=_;unfold iF;refine cg (ρ':=[sf (.tup [.str "not",t]),sf (Tp C),sf R,sf (.str "not"),none,none]) (bE i0) (jf (c7 (cE (m:=.fz) rfl (by decide)) (a9 ?_)));show f8 (aN 3 ((Wk (k+n)).Φ "_law_passes") (aF (bv c6 (okf (.tup [.str "not",t])) (okf (.int 1))) (aF (okf (Tp C)) (aF (okf R) (.ok [])))))=_;rw[i1];show f8 (aN 3 ((Wk (k+n)).Φ "_law_passes") (.ok [(.fz,t),(.fz,Tp C),(.fz,R)]))=_;rw[c];rfl
 cols k:=by exists zs,o,r,f,h.cols k;refine#[zs,o,by rw[Nat.pow_succ];lia,?_];rw[<- lm,w8];refine bX rfl ?_;show b0 (Wk (k+n)) jU [sf (.tup [.str "not",t]),none]=_;unfold jU;refine cg (ρ':=[sf (.tup [.str "not",t]),sf (.str "not")]) (bE i0) (jf (c7 (cE (m:=.fz) rfl (by decide)) (k6 ?_)));show aN 1 ((Wk (k+n)).Φ "columns_in") (aF (bv c6 (okf (.tup [.str "not",t])) (okf (.int 1))) (.ok []))=_;rw[i1];exact kZ f
theorem LZ(k:Nat)(d:n<=10){w:Str}(hn:(w==Str.ofString "not")=false)(r:decide (w∈be)=true)(h:hR n C t B)(h':hR n C t' a):∃zs:List Str,(∀z∈zs,z∈C)/\zs.length<=2 ^ (n+1)/\(Wk (k+(n+1))).Φ "columns_in" [.tup [.str w,t,t']]=.ok .fr (.lst (zs.map .str)):=by have Z:sizeLine=16777216:=dj;exists zs,L,O,K,h.cols k;exists ys,G,N,F,h'.cols k;have hp:2 ^ n<=2 ^ 10:=Nat.pow_le_pow_right (by decide) d;(have hs:(zs.map D.str).length+(ys.map D.str).length<=sizeLine:=by rw[du,du];lia);refine#[zs++ys,λz o=>(ii.mp o).elim (L z) (G z),by rw[im,Nat.pow_succ];lia,?_];have ca:=wE (m:=.fr) (n:=.fr) (x:=zs.map D.str) (y:=ys.map D.str) hs;rw[<- hL]at ca;have c1:=kZ K;have E:=kZ F;rw[<- lm,w8];refine bX rfl ?_;show b0 (Wk (k+n)) jU [sf (.tup [.str w,t,t']),none]=_;unfold jU;have f:=in2 (m:=.fz) (m':=.fz) (z:=w);rw[r]at f;refine cg (ρ':=[sf (.tup [.str w,t,t']),sf (.str w)]) (bE j0) (cg (bN (m:=.fz) (cE (m:=.fz) rfl hn) rfl) (jf (c7 (m:=.fz) f (k6 ?_))));show bv (aZ .Add) (aN 1 ((Wk (k+n)).Φ "columns_in") (aF (bv c6 (okf (.tup [.str w,t,t'])) (okf (.int 1))) (.ok []))) (aN 1 ((Wk (k+n)).Φ "columns_in") (aF (bv c6 (okf (.tup [.str w,t,t'])) (okf (.int 2))) (.ok [])))=_;rw[j1,j2];show bv (aZ .Add) (aN 1 ((Wk (k+n)).Φ "columns_in") (.ok [(.fz,t)])) (aN 1 ((Wk (k+n)).Φ "columns_in") (.ok [(.fz,t')]))=_;rw[c1,E,ca]
def XG(d:n<=10)(h:hR n C t B)(h':hR n C t' a):hR (n+1) C (.tup [.str "both",t,t']) (λvs=>B vs&&a vs) where
 prog k vs hl hv:=by have c1:=bM (h.prog k vs hl hv);have f:=bM (h'.prog k vs hl hv);rw[<- lm,sS];refine bX rfl ?_;generalize o:nD (.t vs)=R at *;show b0 (Wk (k+n)) iE [sf (.tup [.str "both",t,t']),sf (Tp C),sf R,none,none,none]=_;unfold iE;refine cg (ρ':=[sf (.tup [.str "both",t,t']),sf (Tp C),sf R,sf (.str "both"),none,none]) (bE j0) (cg (fD rfl (by decide)) (jf (c7 (cE (m:=.fz) rfl (by decide)) (a9 ?_))));generalize B vs=x at *;generalize a vs=y at *;cases x <;> cases y <;> simp[j1,j2,c1,f]
 law k vs hl hv:=by have c1:=bM (h.law k vs hl hv);have f:=bM (h'.law k vs hl hv);rw[<- lm,sU];refine bX rfl ?_;generalize o:nD (.t vs)=R at *;show b0 (Wk (k+n)) iF [sf (.tup [.str "both",t,t']),sf (Tp C),sf R,none,none,none]=_;unfold iF;refine cg (ρ':=[sf (.tup [.str "both",t,t']),sf (Tp C),sf R,sf (.str "both"),none,none]) (bE j0) (cg (fD rfl (by decide)) (jf (c7 (cE (m:=.fz) rfl (by decide)) (a9 ?_))));generalize B vs=x at *;generalize a vs=y at *;cases x <;> cases y <;> simp[j1,j2,c1,f]
 cols k:=LZ k d (by decide) (by decide) h h'
def XH(d:n<=10)(h:hR n C t B)(h':hR n C t' a):hR (n+1) C (.tup [.str "either",t,t']) (λvs=>B vs||a vs) where
 prog k vs hl hv:=by have c1:=bM (h.prog k vs hl hv);have f:=bM (h'.prog k vs hl hv);rw[<- lm,sS];refine bX rfl ?_;generalize o:nD (.t vs)=R at *;show b0 (Wk (k+n)) iE [sf (.tup [.str "either",t,t']),sf (Tp C),sf R,none,none,none]=_;unfold iE;refine cg (ρ':=[sf (.tup [.str "either",t,t']),sf (Tp C),sf R,sf (.str "either"),none,none]) (bE j0) (cg (fD rfl (by decide)) (cg (fD rfl (by decide)) (jf (c7 (cE (m:=.fz) rfl (by decide)) (a9 ?_)))));generalize B vs=x at *;generalize a vs=y at *;cases x <;> cases y <;> simp[j1,j2,c1,f]
 law k vs hl hv:=by have c1:=bM (h.law k vs hl hv);have f:=bM (h'.law k vs hl hv);rw[<- lm,sU];refine bX rfl ?_;generalize o:nD (.t vs)=R at *;show b0 (Wk (k+n)) iF [sf (.tup [.str "either",t,t']),sf (Tp C),sf R,none,none,none]=_;unfold iF;refine cg (ρ':=[sf (.tup [.str "either",t,t']),sf (Tp C),sf R,sf (.str "either"),none,none]) (bE j0) (cg (fD rfl (by decide)) (cg (fD rfl (by decide)) (jf (c7 (cE (m:=.fz) rfl (by decide)) (a9 ?_)))));generalize B vs=x at *;generalize a vs=y at *;cases x <;> cases y <;> simp[j1,j2,c1,f]
 cols k:=LZ k d (by decide) (by decide) h h'
end
def XI{a b:D}:fK (.ok [(.fz,a),(.fz,b)])=.ok .fr (.lst [a,b]):=rfl
def XJ{a b c d:D}:fK (.ok [(.fz,a),(.fz,b),(.fz,c),(.fz,d)])=.ok .fr (.lst [a,b,c,d]):=rfl
theorem L1(k:Nat)(c:Int){C:List Str}(nd:C.Nodup)(hC:C.length=3){vs:List N}(h3:vs.length=3)(hv:∀v∈vs,bD v):∃t B,hR 6 C t B/\(Wk (k+1)).Φ "_law_test" [.int c,Tp C,.lst (vs.map nD)]=okf t:=by
 have zl:sizeLine=16777216:=dj;generalize a:(C.map (λz=>D.tup [.str "of",.str z])++vs.map λv=>D.tup [.str "just",nD v])=Ps;have L:(6:Int)=Ps.length:=by rw[<- a,im,du,du,hC,h3];rfl
 have part:∀v:Int,∃p f,atI Ps (v % 6)=some p/\AE C p f:=λv=>by exists p,hp,e,m5 Ps v 6 L (by decide);rw[<- a]at hp;rcases ii.mp hp with hp|hp;{exists z,Z,rfl,de.mp hp;exists i,hi,rfl,List.getElem_of_mem Z;exact#[_,_,e,EL nd hi]};exists u,o,rfl,de.mp hp;exact#[_,_,e,XD (hv u o)]
 exists w,d,ew,m5 [D.str (Str.ofString "same"),.str (Str.ofString "under")] c 2 rfl (by decide)
 obtain⟨u,o,rfl⟩:∃u,(u=Str.ofString "same" \/ u=Str.ofString "under")/\w=.str u:=by simp only[cy,mz,h9]at d;rcases d with rfl|rfl;{exact#[_,.inl rfl,rfl]};exact#[_,.inr rfl,rfl]
 exists p1,f1,e1,q1,part (c / 2);exists p2,f2,e2,K,part (c / 17);exists W,f3,e3,G,part (c / 131);exists O,f4,e4,F,part (c / 1009);have T:=LY o q1 K;have tw:=LY (w:=Str.ofString "under") (.inr rfl) G F;exists t,r,et,m5 [D.tup [.str u,p1,p2],.tup [.str (Str.ofString "not"),.tup [.str u,p1,p2]],.tup [.str (Str.ofString "both"),.tup [.str u,p1,p2],.tup [.str (Str.ofString "under"),W,O]],.tup [.str (Str.ofString "either"),.tup [.str (Str.ofString "under"),W,O],.tup [.str u,p1,p2]]] (c / 8) 4 rfl (by decide)
 have tt:∃B,hR 6 C t B:=by simp only[cy,mz,h9]at r;rcases r with rfl|rfl|rfl|rfl;{exact#[_,T.up]};{exact#[_,AJ T]};{exact#[_,XG (by decide) T tw]};exact#[_,XH (by decide) tw T]
 exists B,tt,tt;refine#[t,B,tt,?_];have iw:=dD (m:=.fr) (m':=.fz) ew;have x1:=dD (m:=.fz) (m':=.fz) e1;have x2:=dD (m:=.fz) (m':=.fz) e2;have x3:=dD (m:=.fz) (m':=.fz) e3;have x4:=dD (m:=.fz) (m':=.fz) e4;have xt:=dD (m:=.fr) (m':=.fz) et;rw[We];refine bX rfl ?_;show b0 (Wk k) sO [sf (.int c),sf (Tp C),sf (.lst (vs.map nD)),none,none,none,none]=_;have c1:bI (okf (.lst (C.map D.str))) [sf (.int c),sf (Tp C),sf (.lst (vs.map nD)),none,none,none,none] [] 1 (aL (.nm 0)) (λY=>d7 (Wk k) [] Y) (λY=>aK (Wk k) (.tup [(.str "of"),v0]) Y)=.ok .fr (.lst (C.map λz=>D.tup [.str "of",.str z])):=
  fV (enc:=D.str) (λz=>D.tup [.str "of",.str z]) (by lia) λz Z=>#[[sf (.str z)],.fz,rfl,rfl,.fz,rfl]
 have c2:bI (okf (.lst (vs.map nD))) [sf (.int c),sf (Tp C),sf (.lst (vs.map nD)),none,none,none,none] [] 1 (aL (.nm 0)) (λY=>d7 (Wk k) [] Y) (λY=>aK (Wk k) (.tup [(.str "just"),v0]) Y)=.ok .fr (.lst (vs.map λv=>D.tup [.str "just",nD v])):=
  fV (enc:=nD) (λv=>D.tup [.str "just",nD v]) (by lia) λv hv=>#[[sf (nD v)],.fz,rfl,rfl,.fz,rfl]
 have ca:=wE (m:=.fr) (n:=.fr) (x:=C.map λz=>D.tup [.str "of",.str z]) (y:=vs.map λv=>D.tup [.str "just",nD v]) (by rw[du,du];lia)
 rw[a]at ca;have E:dq (Wk k) (.set 3 (.frz (.bin .Add (.comp (.tup [(.str "of"),v0]) (.items v1) [] [] (.nm 0) 1) (.comp (.tup [(.str "just"),v0]) (.items v2) [] [] (.nm 0) 1)))) [sf (.int c),sf (Tp C),sf (.lst (vs.map nD)),none,none,none,none]=.nx [sf (.int c),sf (Tp C),sf (.lst (vs.map nD)),sf (.lst Ps),none,none,none]:=by refine bE (i8 ?_);show bv (aZ .Add) (bI (okf (.lst (C.map D.str))) _ [] 1 (aL (.nm 0)) (λY=>d7 (Wk k) [] Y) (λY=>aK (Wk k) (.tup [(.str "of"),v0]) Y)) (bI (okf (.lst (vs.map nD))) _ [] 1 (aL (.nm 0)) (λY=>d7 (Wk k) [] Y) (λY=>aK (Wk k) (.tup [(.str "just"),v0]) Y))=_;rw[c1,c2,ca]
 have S:dq (Wk k) (.set 4 (.bcall .len [v3])) [sf (.int c),sf (Tp C),sf (.lst (vs.map nD)),sf (.lst Ps),none,none,none]=.nx [sf (.int c),sf (Tp C),sf (.lst (vs.map nD)),sf (.lst Ps),sf (.int 6),none,none]:=by refine bE ?_;show Res.of (some (Md.fz,D.int (Ps.length:Int)))=_;rw[<- L];rfl
 unfold sO;refine cg E (cg S ?_)
 clear c1 c2 ca E S part tt T tw q1 K G F r a L d
 have m6:∀i:Int,bv (aZ .Mod) (okf (.int i)) (okf (.int 6))=okf (.int (i % 6)):=λi=>jS (by decide)
 generalize Tp C=TC at *;generalize vs.map nD=V at *;simp[iw,x1,x2,x3,x4,xt,XI,XJ,t2,t3,m6]
def eG:N->List N|.t vs=>vs|_=>[]
def sub(ps:List Nat)(k:N):N:=.t (ps.map λi=>(eG k).getD i (.i 0))
theorem dQ.at{w:Nat}{k:N}(h:dQ w k)(hi:i<w):∃v,LB v/\(eG k).getD i (.i 0)=v/\∀m m':Md,bv c6 (.ok m (nD k)) (.ok m' (.int (i:Int)))=okf (nD v):=by(exists vs,rfl,f,d,h.ex;have a:i<vs.length:=by lia);refine#[vs[i],d _ (mm a),by show vs.getD i (.i 0)=_;simp[a],λm m'=>?_];rw[nD,eO];exact dM (cW (by rw[gz,gg a];rfl))
theorem dQ.sub{w:Nat}{k:N}(h:dQ w k){ps:List Nat}(hp:∀i∈ps,i<w):dQ ps.length (sub ps k) :=
 #[_,rfl,du _,λv a=>by
  exists i,f,rfl,de.mp a;exists u,d,e,_,h.at (hp i f);rw[e];exact d]
abbrev dZ(ps:List Nat):List D:=ps.map λ(i:Nat)=>.int (i:Int)
theorem L3{W:WD}{k:N}{w:Nat}(h:dQ w k){ps:List Nat}(hp:∀i∈ps,i<w)(f:ps.length<=10){m:Md}(d:bU aD Y=[sf (nD k)]):bI (.ok m (.lst (dZ ps))) Y aD 1 (aL (.nm 1)) (λY=>d7 W [] Y) (λY=>aK W (.ix v0 v1) Y)=.ok .fr (.lst (nDL ((ps.map λi=>(eG k).getD i (.i 0))))):=by have Z:sizeLine=16777216:=dj;rw[eO,fu];refine fV (enc:=λi:Nat=>D.int (i:Int)) (λi=>nD ((eG k).getD i (.i 0))) (by lia) λi a=>?_;exists v,_,e,ix,h.at (hp i a);refine#[[sf (nD k),sf (.int (i:Int))],.fz,by rw[d];rfl,rfl,.fz,?_];show aG (bv c6 (okf (nD k)) (okf (.int (i:Int))))=_;rw[ix,e];rfl
def jW{C:List Str}(hi:i<C.length):C.getD i ""=C[i]:=by simp[hi]
abbrev gp(C:List Str)(ps:List Nat):List Str:=ps.map λi=>C.getD i ""
theorem XM(k:Nat){C:List Str}(nd:C.Nodup){ps:List Nat}(hp:∀i∈ps,i<C.length)(f:ps.length<=10):(Wk (k+1)).Φ "places_of" [Tp (gp C ps),Tp C]=.ok .fr (.lst (dZ ps)):=by
 have Z:sizeLine=16777216:=dj;refine fm (d:=JU) rfl rfl ?_;show b0 (Wk k) wP [sf (Tp (gp C ps)),sf (Tp C)]=_;unfold wP;refine k6 ?_;have c:bI (okf (.lst (ps.map λi=>D.str (C.getD i "")))) [sf (Tp (gp C ps)),sf (Tp C)] [1] 1 (aL (.nm 1)) (λY=>d7 (Wk k) [] Y) (λY=>aK (Wk k) (.tidx v0 v1) Y)=.ok .fr (.lst (dZ ps)):=by refine fV (enc:=λi:Nat=>D.str (C.getD i "")) (λi=>D.int (i:Int)) (by lia) λi a=>?_;refine#[[sf (Tp C),sf (.str (C.getD i ""))],.fz,rfl,rfl,.fz,?_];show aG (oE (okf (Tp C)) (okf (.str (C.getD i ""))))=_;rw[jW (hp i a),yF nd (hp i a)];rfl
 have e:(gp C ps).map D.str=ps.map λi=>D.str (C.getD i ""):=by unfold gp;rw[fu];rfl
 have it:aK (Wk k) (.items v0) [sf (Tp (gp C ps)),sf (Tp C)]=okf (.lst (ps.map λi=>D.str (C.getD i ""))):=by rw[<- e];rfl
 rw[gI,it];exact c
def XN(k:Nat){r:N}{w:Nat}(h:dQ w r){ps:List Nat}(hp:∀i∈ps,i<w)(a:ps.length<=10):(Wk (k+1)).Φ "values_at" [.lst (dZ ps),nD r]=okf (nD (sub ps r)):=by refine fm (d:=JV) rfl rfl ?_;show b0 (Wk k) wQ [sf (.lst (dZ ps)),sf (nD r)]=_;unfold wQ;rw[sub,nD];exact a9 (fW (m:=.fr) (L3 (m:=.fz) h hp a rfl))
def L4{w:Str}{d:D}(h:cB M (.inr w)=some d){m:Md}:bv qo (.ok m (.dcf M)) (.ok m' (.str w))=okf d:=bK (by
 show(cB M (.inr w)).map _=_;rw[h];rfl)
def pB(k:Nat){w:Str}{d:D}(h:cB M (.inr w)=some d):(Wk (k+1)).Φ "answered" [Kd,.tup [.str "table",.str w],.dcf M]=okf d:=by refine fm (d:=wW) rfl rfl ?_;show b0 (Wk k) sJ [sf Kd,sf (.tup [.str "table",.str w]),sf (.dcf M)]=_;simp[sJ,i0,i1,L4 h]
def tJ:List (Str×Str):=[("pick","picked"),("keep","kept_rows"),("call","called_rows"),("join","joined"),("pour","poured_rows"),("total","totals"),("leave","left_out")]
def EN:List Str:=["picked","kept_rows","called_rows","joined","poured_rows","totals","left_out"]
theorem L5{W:WD}{Kd S:D}:∀(U ys:List D),U.length=ys.length->(∀(i:Nat) (h:i<U.length) (h':i<ys.length),W.Φ "answered" [Kd,U[i],S]=okf ys[i])->eJ (aL (.nm 2)) (λY=>d7 W [] Y) (λY=>aK W (.call "answered" 3 [v0,v2,v1]) Y) [sf Kd,sf S,none] U=some ys|[],[],_,_=>rfl|[],_::_,h,_|_::_,[],h,_=>by simp at h|x::U,y::ys,h,q=>by have d:=L5 (W:=W) (Kd:=Kd) (S:=S) U ys (by simpa using h) λi o f=>q (i+1) (by simpa using o) (by simpa using f);have k:aL (.nm 2) x [sf Kd,sf S,none]=some [sf Kd,sf S,sf x]:=rfl;have a:W.Φ "answered" [Kd,x,S]=okf y:=q 0 (by simp) (by simp);have e:aK W (.call "answered" 3 [v0,v2,v1]) [sf Kd,sf S,sf x]=okf y:=Ad rfl rfl rfl (bM a);rw[eJ,k];dsimp only;rw[Ii];dsimp only;rw[e,d];rfl
def yH(k:Nat){A S r:D}{w f:Str}{U ys:List D}(o:bv c6 (okf A) (okf (.int 0))=okf (.str w))(E:(w==Str.ofString "table")=false)(hf:tJ.lookup w=some f)(a:EN.contains f=true)(hx:(Wk (k+1)).Φ "askings_within" [A]=okf (.tup U))(K:U.length=ys.length)(hs:U.length<sizeLine)(G:∀(i:Nat) (h:i<U.length) (h':i<ys.length),(Wk (k+1)).Φ "answered" [Kd,U[i],S]=okf ys[i])(F:(Wk k).Φ f [Kd,A,.lst ys]=okf r):(Wk (k+2)).Φ "answered" [Kd,A,S]=okf r:=by
 have B:(Wk (k+1)).Φ "answered_by" [Kd,A,.lst ys]=okf r:=by(have cr:aN 3 ((Wk k).Φ f) (.ok [(.fz,Kd),(.fz,A),(.fz,.lst ys)])=okf r:=bM F;refine fm (d:=J7) rfl rfl ?_;show b0 (Wk k) [.set 3 (.deed "DEEDS_asking" tJ (.ix v1 (.int 0))),.ret (.callv 3 EN 3 [v0,v1,v2])] [sf Kd,sf A,sf (.lst ys),none]=_;generalize Wk k=W at *;refine cg (bE (Eq.trans (congrArg (kH tJ) o) (show(match tJ.lookup w with|some f=>Res.ok .fz (.fn f)|none=>.stuck)=_ by rw[hf]))) (a9 ?_));show(if EN.contains f=true then aN 3 (W.Φ f) (.ok [(.fz,Kd),(.fz,A),(.fz,.lst ys)])else .stuck)=_;rw[al a,cr]
 have O:aN 1 ((Wk (k+1)).Φ "askings_within") (.ok [(.fz,A)])=okf (.tup U):=fQ hx;have T:aN 3 ((Wk (k+1)).Φ "answered_by") (.ok [(.fz,Kd),(.fz,A),(.fz,.lst ys)])=okf r:=bM B;have cl:=L5 (W:=Wk (k+1)) (Kd:=Kd) (S:=S) U ys K G;refine fm (d:=wW) rfl rfl ?_;show b0 (Wk (k+1)) sJ [sf Kd,sf A,sf S]=_;generalize Wk (k+1)=W at *;have L:aK W (.items (.call "askings_within" 1 [v1])) [sf Kd,sf A,sf S]=okf (.lst U):=by simp[O]
 have N:bI (okf (.lst U)) [sf Kd,sf A,sf S] [0,2] 1 (aL (.nm 2)) (λY=>d7 W [] Y) (λY=>aK W (.call "answered" 3 [v0,v2,v1]) Y)=.ok .fr (.lst ys):=by(show(if U.length<sizeLine then(match eJ (aL (.nm 2)) (λY=>d7 W [] Y) (λY=>aK W (.call "answered" 3 [v0,v2,v1]) Y) [sf Kd,sf S,none] U with|some ys=>Res.ok .fr (.lst ys)|none=>.stuck)else .stuck)=_);rw[al hs,cl]
 exact cg (bN (m:=.fz) (by simp[o,E]) rfl) (a9 (Ad rfl rfl (i8 (by rw[gI,L];exact N)) T))
theorem L6:∀(ds:List D),(∀d∈ds,∀p,aU d=some p->PyData.eqv p p=true)->∀ps,cG ds=some ps->PyData.eqvAll ps ps=true|[],_,ps,h=>by simp[cG]at h;subst h;simp[PyData.eqvAll]|d::ds,hd,ps,h=>by(have h:(match aU d,cG ds with|some p,some ps=>some (p::ps)|_,_=>none)=some ps:=by rw[cG]at h;exact h);cases e:aU d with|none=>rw[e]at h;cases h|some p=>cases E:cG ds with|none=>rw[e,E]at h;cases h|some a=>rw[e,E]at h;cases h;rw[PyData.eqvAll,hd d cj p e,L6 ds (λx hx=>hd x (cs hx)) a E];rfl
def XO{d:D}(h:Pl n d):∀p,aU d=some p->PyData.eqv p p=true:=by induction h with|int b|str b=>intro p h;simp[aU]at h;subst h;simp[PyData.eqv]| @tup n ds h f a=>intro p hp;cases e:cG ds with|none=>rw[aU,e]at hp;cases hp|some ps=>rw[aU,e]at hp;cases hp;rw[PyData.eqv];exact L6 ds a ps e
def tK{W:WD}{f a:E}{d:D}(r:aK W f Y=okf d)(o:aK W a Y=okf d)(ha:W.Φ "_law_alike" [d,d]=okf (.bl true)):dq W (.ite (.not (.tru (.call "_law_alike" 2 [f,a]))) [.ret (.bl false)] []) Y=.nx Y:=by refine bN (m:=.fz) ?_ rfl;show f8 (eW (aN 2 (W.Φ "_law_alike") (aF (aK W f Y) (aF (aK W a Y) (.ok [])))))=_;rw[r,o];show f8 (eW (aN 2 (W.Φ "_law_alike") (.ok [(.fz,d),(.fz,d)])))=_;rw[dL ha];rfl
def L7(n:Nat):cD 0 (n:Int)=(List.range n).map λ(i:Nat)=>D.int (i:Int):=by unfold cD;simp
def L9{C:List Str}(nd:C.Nodup){ps:List Nat}(hp:∀i∈ps,i<C.length)(N:ps.Nodup):(gp C ps).Nodup/\∀z∈gp C ps,z∈C:=by refine#[kS.mpr (ut ?_ N),λz d=>?_];{intro i j a hj hij e;rw[jW (hp i a),jW (hp j hj)]at e;exact hij ((AS nd).mp e)};exists i,a,rfl,de.mp d;rw[jW (hp i a)];exact mm _
theorem Ma{W:WD}{C:List Str}{ps:List Nat}(hp:∀i∈ps,i<C.length)(f:ps.length<=10)(a:bU aD Y=[sf (Tp C)]):bI (okf (.lst (dZ ps))) Y aD 1 (aL (.nm 1)) (λY=>d7 W [] Y) (λY=>aK W (.ix v0 v1) Y)=.ok .fr (.lst ((gp C ps).map .str)):=by have Z:sizeLine=16777216:=dj;unfold gp;rw[fu];refine fV (enc:=λi:Nat=>D.int (i:Int)) (λi=>D.str (C.getD i "")) (by lia) λi d=>?_;refine#[[sf (Tp C),sf (.int (i:Int))],.fz,by rw[a];rfl,rfl,.fz,?_];show aG (bv c6 (okf (Tp C)) (okf (.int (i:Int))))=_;rw[Ao (hp i d),jW (hp i d)];rfl
section
variable{Ok:D->Prop}
theorem Mb(k:Nat){P:List (N×D)}{c:D}(h:∀e∈P,Row e.1/\Ok e.2)(f:P.length<=60):(Wk (k+3)).Φ "_law_sorted" [.dtf (val pl No (ff P [])),c]=okf (.tup [c,.tup ((dG pl No P).map enc)]):=by
 have g:=nI h;exact Xz k (V:=val pl No (ff P [])) (c:=c) (λe a=>by
  exists ne,_,(lE h (k:=e.1) (d:=e.2)).mp a;exists d,hd,tI ne
  exact(h _ hd).1) (yD h) (by unfold val;rw[du];have:=g.len;lia)
abbrev EO(pl:D->D->D)(No:D)(P:List (N×D)):List (N×D):=c8 (λe=>lw e.1) (fX pl No P)
def Mc(K:KM Kd No way Ok pl){C:List Str}(o:C.length<=999)(h:∀e∈R,Row e.1/\Ok e.2)(f:R.length<=999):Pl 11 (Tb C R):=by refine pl2 ?_ (.tup (λd hd=>?_) (by rw[du];exact f));{refine .tup (λd hd=>?_) (by rw[du];exact o);exists z,_,rfl,de.mp hd;exact .str z};exists e,a,rfl,de.mp hd;exact(pl2 ((Xy (h e a).1).mono (by decide)) (K.plain _ (h e a).2))
def XQ(K:KM Kd No way Ok pl){P:List (N×D)}(h:∀e∈P,Row e.1/\Ok e.2):(∀e∈dG pl No P,Row e.1/\Ok e.2)/\(dG pl No P).length<=P.length:=by refine#[λe a=>?_,?_];{have a:=(m8 κ _).mem_iff.mp a;exists ne,E,(lE h (k:=e.1) (d:=e.2)).mp a;exists d,hd,tI ne;exact#[(h _ hd).1,by rw[E];exact pA K _ _ K.okn λd hd=>(h _ (o9 hd)).2]};rw[(m8 κ _).length_eq];unfold val;rw[du];exact(nI h).len
end
abbrev Pk(x t:D):D:=.tup [.str "pick",x,t]
abbrev Ke(x:D)(H:List Str):D:=.tup [.str "keep",x,Tp H]
abbrev Ca(x:D)(H:List Str):D:=.tup [.str "call",x,Tp H]
def AK{x:D}{m:Md}:bv c6 (.ok m (.lst [x])) (.ok m' (.int 0))=okf x:=h0
theorem Me(W:WD){A:D}{C:List Str}(d:∀z∈C,W.Φ "refuse_missing" [.str z,Tp C]=okf .non):∀(zs:List Str) (x2:Option (Bool×D)),(∀z∈zs,z∈C)->∃a,cA (aL (.nm 2)) (b0 W rX) (zs.map .str) [sf A,sf (.lst [Tp C]),x2]=.nx [sf A,sf (.lst [Tp C]),a]|[],x2,_=>#[x2,rfl]|z::zs,x2,h=>by(exists a,f,Me W (A:=A) d zs (sf (.str z)) λu o=>h u (cs o);refine#[a,?_];have c:=dL (d z (h z cj));have E:b0 W rX [sf A,sf (.lst [Tp C]),sf (.str z)]=.nx [sf A,sf (.lst [Tp C]),sf (.str z)]:=by(have e:aK W (.call "refuse_missing" 2 [v2,(.ix v1 (.int 0))]) [sf A,sf (.lst [Tp C]),sf (.str z)]=okf .non:=by show aN 2 (W.Φ "refuse_missing") (aF (okf (.str z)) (aF (bv c6 (okf (.lst [Tp C])) (okf (.int 0))) (.ok [])))=_;rw[AK];exact c);unfold rX;refine cg (ρ':=[sf A,sf (.lst [Tp C]),sf (.str z)]) ?_ rfl;rw[rR,e];rfl);rw[cu,sW (show aL (.nm 2) (.str z) [sf A,sf (.lst [Tp C]),x2]=some [sf A,sf (.lst [Tp C]),sf (.str z)]from rfl) E];exact f
def XR(k:Nat){x t:D}{C:List Str}{B:List N->Bool}(T:hR 6 C t B):(Wk (k+7)).Φ "columns_of_pick" [Pk x t,.lst [Tp C]]=okf (Tp C):=by(exists zs,o,r,f,T.cols k;exists a,e,Me (Wk (k+6)) (A:=Pk x t) (λz d=>K3 (k+5) d) zs none o;have c:=kZ f;rw[V7];refine bX rfl ?_;show b0 (Wk (k+6)) r9 [sf (Pk x t),sf (.lst [Tp C]),none]=_;unfold r9;refine cg (ρ':=[sf (Pk x t),sf (.lst [Tp C]),a]) ?_ (a9 AK);have it:aK (Wk (k+6)) (.items (.call "columns_in" 1 [(.ix v0 (.int 2))])) [sf (Pk x t),sf (.lst [Tp C]),none]=okf (.lst (zs.map .str)):=by show eX (aG (aN 1 ((Wk (k+6)).Φ "columns_in") (aF (bv c6 (okf (Pk x t)) (okf (.int 2))) (.ok []))))=_;rw[j2];show eX (aG (aN 1 ((Wk (k+6)).Φ "columns_in") (.ok [(.fz,t)])))=_;rw[c];rfl);rw[kW,it];exact e
def XS(k:Nat){x:D}{C H:List Str}(hn:H.Nodup)(hs:∀z∈H,z∈C):(Wk (k+3)).Φ "columns_of_keep" [Ke x H,.lst [Tp C]]=okf (Tp H):=by have c:=dL (kept k hn hs);rw[V8];refine bX rfl ?_;show b0 (Wk (k+2)) sC [sf (Ke x H),sf (.lst [Tp C])]=_;unfold sC;refine a9 ?_;show aN 2 ((Wk (k+2)).Φ "kept") (aF (bv c6 (okf (Ke x H)) (okf (.int 2))) (aF (bv c6 (okf (.lst [Tp C])) (okf (.int 0))) (.ok [])))=_;rw[j2,AK];exact c
theorem XT(k:Nat){x:D}{C H:List Str}(hn:H.Nodup)(E:H.length=C.length)(G:C.length<=100):(Wk (k+2)).Φ "columns_of_call" [Ca x H,.lst [Tp C]]=okf (Tp H):=by
 have Z:sizeLine=16777216:=dj;rw[V9];refine bX rfl ?_;show b0 (Wk (k+1)) sD [sf (Ca x H),sf (.lst [Tp C]),none,none]=_;unfold sD;have f:∀{L:List Str},Res.of (eI [(.fz,Tp L)])=okf (.int (L.length:Int)):=λ{L}=>by show Res.of (some (Md.fz,D.int ((L.map D.str).length:Int)))=_;rw[du];rfl
 have r:dq (Wk (k+1)) (.ite (.cmp .NotEq (.bcall .len [v2]) (.bcall .len [(.ix v1 (.int 0))])) [.never] []) [sf (Ca x H),sf (.lst [Tp C]),sf (Tp H),none]=.nx [sf (Ca x H),sf (.lst [Tp C]),sf (Tp H),none]:=by refine bN (m:=.fz) ?_ rfl;show bv (bB .NotEq) (Res.of (eI [(.fz,Tp H)])) (fL eI (aF (bv c6 (okf (.lst [Tp C])) (okf (.int 0))) (.ok [])))=_;rw[AK];show bv (bB .NotEq) (Res.of (eI [(.fz,Tp H)])) (Res.of (eI [(.fz,Tp C)]))=_;rw[f,f,E];simp
 exists ρ',e,a,rfl,m7 (k:=aL (.nm 3)) (body:=b0 (Wk (k+1)) rY)
  (λj Y=>∃a,Y=[sf (Ca x H),sf (.lst [Tp C]),sf (Tp H),a])
  (cD 0 (H.length:Int)) 0 (Y:=[sf (Ca x H),sf (.lst [Tp C]),sf (Tp H),none])
  (λj d hd Y o=>by
   exists a,rfl,o;exists F,rfl,sV hd;have c:=dL (K4 k hn F);refine#[_,[sf (Ca x H),sf (.lst [Tp C]),sf (Tp H),sf (.int (j:Int))],rfl,?_,_,rfl];unfold rY;refine cg (ρ':=[sf (Ca x H),sf (.lst [Tp C]),sf (Tp H),sf (.int (j:Int))]) ?_ rfl;have e:aK (Wk (k+1)) (.call "refuse_twice" 2 [v2,v3]) [sf (Ca x H),sf (.lst [Tp C]),sf (Tp H),sf (.int (j:Int))]=okf .non:=c;show dq (Wk (k+1)) (.expr (.call "refuse_twice" 2 [v2,v3])) [sf (Ca x H),sf (.lst [Tp C]),sf (Tp H),sf (.int (j:Int))]=_;rw[rR,e];rfl) #[_,rfl]
 have S:dq (Wk (k+1)) (.for (.rng1 (.bcall .len [v2])) (.nm 3) rY) [sf (Ca x H),sf (.lst [Tp C]),sf (Tp H),none]=.nx [sf (Ca x H),sf (.lst [Tp C]),sf (Tp H),a]:=by(have B:aK (Wk (k+1)) (.rng1 (.bcall .len [v2])) [sf (Ca x H),sf (.lst [Tp C]),sf (Tp H),none]=okf (.lst (cD 0 (H.length:Int))):=by show fM (aF (Res.of (eI [(.fz,Tp H)])) (.ok []))=_;rw[f];exact xN (by lia));rw[kW,B];exact e
 refine cg (ρ':=[sf (Ca x H),sf (.lst [Tp C]),sf (Tp H),none]) (bE j2) (cg r (cg S ?_));rfl
def Mf(k:Nat){x t M:D}{C:List Str}{B:List N->Bool}(T:hR 6 C t B)(hx:(Wk (k+7)).Φ "columns_of" [x,M]=okf (Tp C)):(Wk (k+8)).Φ "columns_of" [Pk x t,M]=okf (Tp C):=by have Z:sizeLine=16777216:=dj;refine xR (k+7) (w:="pick") (f:="columns_of_pick") (U:=[x]) (ys:=[Tp C]) j0 (by decide) (by decide) (by decide) (nE (k+6) j0 j1 (by decide) (by decide)) rfl (by simp[Z]) (λi h h'=>?_) (XR k T);match i,h with|0,_=>exact hx
def Mg(k:Nat){x M:D}{C H:List Str}(hn:H.Nodup)(hs:∀z∈H,z∈C)(hx:(Wk (k+3)).Φ "columns_of" [x,M]=okf (Tp C)):(Wk (k+4)).Φ "columns_of" [Ke x H,M]=okf (Tp H):=by have Z:sizeLine=16777216:=dj;refine xR (k+3) (w:="keep") (f:="columns_of_keep") (U:=[x]) (ys:=[Tp C]) j0 (by decide) (by decide) (by decide) (nE (k+2) j0 j1 (by decide) (by decide)) rfl (by simp[Z]) (λi h h'=>?_) (XS k hn hs);match i,h with|0,_=>exact hx
def Mh(k:Nat){x M:D}{C H:List Str}(hn:H.Nodup)(a:H.length=C.length)(d:C.length<=100)(hx:(Wk (k+2)).Φ "columns_of" [x,M]=okf (Tp C)):(Wk (k+3)).Φ "columns_of" [Ca x H,M]=okf (Tp H):=by have Z:sizeLine=16777216:=dj;refine xR (k+2) (w:="call") (f:="columns_of_call") (U:=[x]) (ys:=[Tp C]) j0 (by decide) (by decide) (by decide) (nE (k+1) j0 j1 (by decide) (by decide)) rfl (by simp[Z]) (λi h h'=>?_) (XT k hn a d);match i,h with|0,_=>exact hx
section
variable{Ok:D->Prop}
abbrev jX(B:List N->Bool)(R:List (N×D)):List (N×D):=R.filter λe=>B (eG e.1)
def Mi{k:N}{w:Nat}(h:dQ w k):k=.t (eG k)/\(eG k).length=w/\∀v∈eG k,bD v:=by exists vs,rfl,d,a,h.ex;exact#[rfl,d,a]
theorem XU(k:Nat){x t:D}{C:List Str}{B:List N->Bool}(T:hR 6 C t B)(f:∀e∈R,dQ C.length e.1)(G:R.length<=1000):(Wk (k+7)).Φ "picked" [Kd,Pk x t,.lst [Tb C R]]=okf (Tb C (jX B R)):=by(have Z:sizeLine=16777216:=dj;rw[Wa];refine bX rfl ?_;show b0 (Wk (k+6)) sK [sf Kd,sf (Pk x t),sf (.lst [Tb C R]),none,none]=_;have cm:bI (okf (.lst (R.map enc))) [sf Kd,sf (Pk x t),sf (.lst [Tb C R]),sf (Tp C),sf (.tup (R.map enc))] [3,1] 2 (aL (.tp [(.nm 2),(.nm 3)])) (λY=>d7 (Wk (k+6)) [(.tru (.call "passes" 3 [(.ix v1 (.int 2)),v0,v2]))] Y) (λY=>aK (Wk (k+6)) (.tup [v2,v3]) Y)=.ok .fr (.lst ((jX B R).map enc)):=by refine oX (enc:=enc) (λe=>B (eG e.1)) enc (by lia) λe d=>?_;(exists r,o,ev,Mi (f e d);have c:=bM (T.prog k (eG e.1) o ev);rw[<- r]at c;refine#[[sf (Tp C),sf (Pk x t),sf (nD e.1),sf e.2],.fz,rfl,?_,λ_=>#[.fz,rfl]];have F:aK (Wk (k+6)) (.tru (.call "passes" 3 [(.ix v1 (.int 2)),v0,v2])) [sf (Tp C),sf (Pk x t),sf (nD e.1),sf e.2]=okf (.bl (B (eG e.1))):=by show eW (aN 3 ((Wk (k+6)).Φ "passes") (aF (bv c6 (okf (Pk x t)) (okf (.int 2))) (aF (okf (Tp C)) (aF (okf (nD e.1)) (.ok [])))))=_;rw[j2];show eW (aN 3 ((Wk (k+6)).Φ "passes") (.ok [(.fz,t),(.fz,Tp C),(.fz,nD e.1)]))=_;rw[c];rfl);generalize B (eG e.1)=b at *;generalize (.call "passes" 3 [(.ix v1 (.int 2)),v0,v2]:E)=ce at *;cases b <;> simp[d7,F]);unfold sK;refine cg (ρ':=[sf Kd,sf (Pk x t),sf (.lst [Tb C R]),sf (Tp C),sf (.tup (R.map enc))]) rfl (a9 ?_);have a:=fW (e:=.comp (.tup [v2,v3]) (.items v4) [(.tru (.call "passes" 3 [(.ix v1 (.int 2)),v0,v2]))] [3,1] (.tp [(.nm 2),(.nm 3)]) 2) (W:=Wk (k+6)) (Y:=[sf Kd,sf (Pk x t),sf (.lst [Tb C R]),sf (Tp C),sf (.tup (R.map enc))]) cm;show dU (aF (okf (Tp C)) (aF (aG (aK (Wk (k+6)) (.tcall .tuple [(.comp (.tup [v2,v3]) (.items v4) [(.tru (.call "passes" 3 [(.ix v1 (.int 2)),v0,v2]))] [3,1] (.tp [(.nm 2),(.nm 3)]) 2)]) _)) (.ok [])))=_;rw[a];rfl
def kp(ps:List Nat)(e:N×D):N×D:=(sub ps e.1,e.2)
def yI{w:Nat}{ps:List Nat}(hp:∀i∈ps,i<w)(t:TR No Ok w n R):TR No Ok ps.length n (R.map (kp ps)) :=
 #[λu d=>by
  exists e,f,rfl,de.mp d;exists a,b,t.each e f;exact#[a.sub hp,b],by rw[du];exact t.len]
def yJ{w:Nat}(B:List N->Bool)(t:TR No Ok w n R):TR No Ok w n (jX B R) :=
 #[λe a=>t.each e (mq.mp a).1,ir (List.length_filter_le _ _) t.len]
theorem XW(K:KM Kd No way Ok pl)(k:Nat){x:D}{C:List Str}(nd:C.Nodup){ps:List Nat}(hp:∀i∈ps,i<C.length)(f:ps.length<=10)(t:TR No Ok C.length 60 R):(Wk (k+7)).Φ "kept_rows" [Kd,Ke x (gp C ps),.lst [Tb C R]]=okf (Tb (gp C ps) (dG pl No (R.map (kp ps)))):=by
 have Z:sizeLine=16777216:=dj;have tk:=yI hp t;have ro:=tk.ro f;have sm:=same K (P:=R.map (kp ps)) ro;have fl:(R.map (kp ps)).filter (λe=>!gw e.2 No)=R.map (kp ps):=List.filter_eq_self.mpr λe r=>by exists _,o,n,tk.each e r;cases q:gw e.2 No with|false=>rfl|true=>exact absurd ((K.eqn _ o).mp q) n
 rw[fl]at sm;have ga:=WC K.toKO k (P:=.lst ((R.map (kp ps)).map enc)) (prs:=R.map (kp ps)) (λm=>by cases m <;> rfl) ro tk.len
 have G:D.tup ((c8 (λe=>lw e.1) (fX pl No (R.map (kp ps)))).map enc)=.tup ((dG pl No (R.map (kp ps))).map enc):=congrArg D.tup sm;rw[G]at ga;have ga:=dL ga;have a:=oW (XM (k+5) nd hp f);generalize F:Ke x (gp C ps)=A;have B:bv c6 (okf A) (okf (.int 2))=okf (Tp (gp C ps)):=by rw[<- F];exact j2
 have cm:∀Y:Rho,bU [5] Y=[sf (.lst (dZ ps))]->bI (okf (.lst (R.map enc))) Y [5] 2 (aL (.tp [(.nm 1),(.nm 2)])) (λY=>d7 (Wk (k+6)) [] Y) (λY=>aK (Wk (k+6)) (.tup [(.frz (.call "values_at" 2 [v0,v1])),v2]) Y)=.ok .fr (.lst ((R.map (kp ps)).map enc)):=λY d=>by have:=t.len;rw[fu];refine fV (enc:=enc) (λe=>enc (kp ps e)) (by lia) λe r=>?_;have V:=dL (XN (k+5) (t.each e r).1 hp f);refine#[[sf (.lst (dZ ps)),sf (nD e.1),sf e.2],.fz,by rw[d];rfl,rfl,.fz,?_];show aG (dU (aF (aG (aN 2 ((Wk (k+6)).Φ "values_at") (.ok [(.fz,.lst (dZ ps)),(.fz,nD e.1)]))) (aF (okf e.2) (.ok []))))=_;rw[V];rfl
 rw[Wb];refine bX rfl ?_;show b0 (Wk (k+6)) sL [sf Kd,sf A,sf (.lst [Tb C R]),none,none,none]=_;unfold sL;have E:dq (Wk (k+6)) (.set 5 (.frz (.call "places_of" 2 [(.ix v1 (.int 2)),v3]))) [sf Kd,sf A,sf (.lst [Tb C R]),sf (Tp C),sf (.tup (R.map enc)),none]=.nx [sf Kd,sf A,sf (.lst [Tb C R]),sf (Tp C),sf (.tup (R.map enc)),sf (.lst (dZ ps))]:=by refine bE (i8 ?_);show aN 2 ((Wk (k+6)).Φ "places_of") (aF (bv c6 (okf A) (okf (.int 2))) (aF (okf (Tp C)) (.ok [])))=_;rw[B];exact a
 refine cg (ρ':=[sf Kd,sf A,sf (.lst [Tb C R]),sf (Tp C),sf (.tup (R.map enc)),none]) rfl (cg E (a9 ?_));have L:=cm [sf Kd,sf A,sf (.lst [Tb C R]),sf (Tp C),sf (.tup (R.map enc)),sf (.lst (dZ ps))] rfl;show dU (aF (bv c6 (okf A) (okf (.int 2))) (aF (aG (aN 2 ((Wk (k+6)).Φ "gathered") (aF (okf Kd) (aF (aG (bI (okf (.lst (R.map enc))) _ [5] 2 (aL (.tp [(.nm 1),(.nm 2)])) (λY=>d7 (Wk (k+6)) [] Y) (λY=>aK (Wk (k+6)) (.tup [(.frz (.call "values_at" 2 [v0,v1])),v2]) Y))) (.ok []))))) (.ok [])))=_;rw[B,L];show dU (aF (okf (Tp (gp C ps))) (aF (aG (aN 2 ((Wk (k+6)).Φ "gathered") (.ok [(.fz,Kd),(.fz,.lst ((R.map (kp ps)).map enc))]))) (.ok [])))=_;rw[ga];rfl
def XX(k:Nat){x:D}{C H:List Str}:(Wk (k+1)).Φ "called_rows" [Kd,Ca x H,.lst [Tb C R]]=okf (Tb H R):=by rw[Wc];refine bX rfl ?_;show b0 (Wk k) sM [sf Kd,sf (Ca x H),sf (.lst [Tb C R])]=_;unfold sM;refine a9 ?_;show dU (aF (bv c6 (okf (Ca x H)) (okf (.int 2))) (aF (bv c6 (bv c6 (okf (.lst [Tb C R])) (okf (.int 0))) (okf (.int 1))) (.ok [])))=_;rw[j2,AK,i1];rfl
def Mj(k:Nat){x t S:D}{C:List Str}{B:List N->Bool}(T:hR 6 C t B)(d:∀e∈R,dQ C.length e.1)(a:R.length<=1000)(hx:(Wk (k+8)).Φ "answered" [Kd,x,S]=okf (Tb C R)):(Wk (k+9)).Φ "answered" [Kd,Pk x t,S]=okf (Tb C (jX B R)):=by have Z:sizeLine=16777216:=dj;refine yH (k+7) (w:="pick") (f:="picked") (U:=[x]) (ys:=[Tb C R]) j0 (by decide) (by decide) (by decide) (nE (k+7) j0 j1 (by decide) (by decide)) rfl (by simp[Z]) (λi h h'=>?_) (XU k T d a);match i,h with|0,_=>exact hx
def Ml(K:KM Kd No way Ok pl)(k:Nat){x S:D}{C:List Str}(nd:C.Nodup){ps:List Nat}(hp:∀i∈ps,i<C.length)(a:ps.length<=10)(t:TR No Ok C.length 60 R)(hx:(Wk (k+8)).Φ "answered" [Kd,x,S]=okf (Tb C R)):(Wk (k+9)).Φ "answered" [Kd,Ke x (gp C ps),S]=okf (Tb (gp C ps) (dG pl No (R.map (kp ps)))):=by have Z:sizeLine=16777216:=dj;refine yH (k+7) (w:="keep") (f:="kept_rows") (U:=[x]) (ys:=[Tb C R]) j0 (by decide) (by decide) (by decide) (nE (k+7) j0 j1 (by decide) (by decide)) rfl (by simp[Z]) (λi h h'=>?_) (XW K k nd hp a t);match i,h with|0,_=>exact hx
def Mm(k:Nat){x S:D}{C H:List Str}(hx:(Wk (k+2)).Φ "answered" [Kd,x,S]=okf (Tb C R)):(Wk (k+3)).Φ "answered" [Kd,Ca x H,S]=okf (Tb H R):=by have Z:sizeLine=16777216:=dj;refine yH (k+1) (w:="call") (f:="called_rows") (U:=[x]) (ys:=[Tb C R]) j0 (by decide) (by decide) (by decide) (nE (k+1) j0 j1 (by decide) (by decide)) rfl (by simp[Z]) (λi h h'=>?_) (XX k);match i,h with|0,_=>exact hx
end
abbrev M1(a:Str)(x:D):List (Key×D):=[(.inr a,x)]
def gL{a:Str}{x:D}:cB (M1 a x) (.inr a)=some x:=by simp[cB,ft]
theorem AL{a:Str}{x:D}(hn:n<=40)(hx:Pl n x){m:Md}:bv pb (.ok m (.dcf (M1 a x))) (.ok m' (.dct (M1 a x)))=okf (.bl true):=bK (by
 exists p,ep,L,xA hx;have S:gN p=true:=by unfold gN;rw[fe];lia
 have V:=XO hx p ep;have h:D3.f9 (M1 a x) (M1 a x)=some true:=by rw[D3.f9,gL];dsimp only;rw[ep];dsimp only;rw[S,D3.f9,V];rfl
 show(D3.f9 (M1 a x) (M1 a x)).map _=_;rw[h];rfl)
def pC(k:Nat){A c r:D}{a:Str}(f:iV (.inr a)=true){C:List Str}(B:(Wk k).Φ "columns_of" [A,.dct (M1 a (Tp C))]=okf c)(o:(Wk k).Φ "answered" [Kd,A,.dcf (M1 a (Tb C R))]=okf r):(Wk (k+1)).Φ "ask" [Kd,A,.dcf (M1 a (Tb C R))]=okf r:=by(have Z:sizeLine=16777216:=dj;have G:=dL B;have cr:=bM o;have ga:=L4 (gL (a:=a) (x:=Tb C R)) (m:=.fz) (m':=.fz);rw[zy];refine bX rfl ?_;generalize E:M1 a (Tb C R)=S at *;show b0 (Wk k) sH [sf Kd,sf A,sf (.dcf S)]=_;have kk:aK (Wk k) (.kkeys v2) [sf Kd,sf A,sf (.dcf S)]=okf (.lst [.str a]):=by show mO (okf (.dcf S))=_;rw[<- E];unfold mO;show(if(iV (.inr a)&&true)=true then Res.ok .fz (.lst [.str a])else .stuck)=_;rw[f];rfl);(have ca:aK (Wk k) (.ix (.dix v0 v1) (.int 0)) [sf (.dcf S),sf (.str a)]=okf (Tp C):=by show bv c6 (bv qo (okf (.dcf S)) (okf (.str a))) (okf (.int 0))=_;rw[ga,i0]);(have dl:og (aL (.nm 1)) (λY=>aK (Wk k) v1 Y) (λY=>aK (Wk k) (.ix (.dix v0 v1) (.int 0)) Y) [sf (.dcf S),none] [.str a] []=some (M1 a (Tp C)):=by have d:aL (.nm 1) (.str a) [sf (.dcf S),none]=some [sf (.dcf S),sf (.str a)]:=rfl;have V:∀z:Str,aK (Wk k) v1 [sf (.dcf S),sf (.str z)]=okf (.str z):=λz=>rfl;have K:∀z:Str,hU (.str z)=some (.inr z):=λz=>rfl;have fz:aG (okf (Tp C))=okf (Tp C):=rfl;have p1:oD [] (.inr a) (Tp C)=[(.inr a,Tp C)]:=rfl;rw[og,d];dsimp only;rw[V,ca,fz];dsimp only;rw[K];dsimp only;rw[al (by simp[Z]),p1,og]);(have F:aK (Wk k) (.frz (.dcomp v1 (.ix (.dix v0 v1) (.int 0)) (.kkeys v2) [2] (.nm 1) 1)) [sf Kd,sf A,sf (.dcf S)]=okf (.dct (M1 a (Tp C))):=by(refine i8 ?_;rw[Vc,kk];show(match og (aL (.nm 1)) (λY=>aK (WT TT k) v1 Y) (λY=>aK (WT TT k) (.ix (.dix v0 v1) (.int 0)) Y) [sf (.dcf S),none] [.str a] []with|some z=>Res.ok .fr (.dct z)|none=>.stuck)=_);rw[dl]);unfold sH;refine cg (ρ':=[sf Kd,sf A,sf (.dcf S)]) ?_ (a9 ?_);{(have:aK (Wk k) (.call "columns_of" 2 [v1,(.frz (.dcomp v1 (.ix (.dix v0 v1) (.int 0)) (.kkeys v2) [2] (.nm 1) 1))]) [sf Kd,sf A,sf (.dcf S)]=okf c:=by show aN 2 ((Wk k).Φ "columns_of") (aF (okf A) (aF (aK (Wk k) (.frz (.dcomp v1 (.ix (.dix v0 v1) (.int 0)) (.kkeys v2) [2] (.nm 1) 1)) _) (.ok [])))=_;rw[F];exact G);rw[rR,this];rfl};exact cr
theorem Mn(k:Nat){t:D}{C:List Str}{B:List N->Bool}(T:hR 6 C t B)(f:∀e∈R,dQ C.length e.1)(G:R.length<=1000)(a:bU aD Y=[sf t,sf (Tp C)]):bI (okf (.lst (R.map enc))) Y aD 1 (aL (.nm 2)) (λY=>d7 (Wk (k+6)) [(.tru (.call "_law_passes" 3 [v0,v1,(.ix v2 (.int 0))]))] Y) (λY=>aK (Wk (k+6)) v2 Y)=.ok .fr (.lst ((jX B R).map enc)):=by have Z:sizeLine=16777216:=dj;refine oX (enc:=enc) (λe=>B (eG e.1)) enc (by lia) λe d=>?_;exists r,o,ev,Mi (f e d);have c:=bM (T.law k (eG e.1) o ev);rw[<- r]at c;refine#[[sf t,sf (Tp C),sf (enc e)],.fz,by rw[a];rfl,?_,λ_=>#[.fz,rfl]];(have F:aK (Wk (k+6)) (.tru (.call "_law_passes" 3 [v0,v1,(.ix v2 (.int 0))])) [sf t,sf (Tp C),sf (enc e)]=okf (.bl (B (eG e.1))):=by show eW (aN 3 ((Wk (k+6)).Φ "_law_passes") (aF (okf t) (aF (okf (Tp C)) (aF (bv c6 (okf (enc e)) (okf (.int 0))) (.ok [])))))=_;rw[i0];show eW (aN 3 ((Wk (k+6)).Φ "_law_passes") (.ok [(.fz,t),(.fz,Tp C),(.fz,nD e.1)]))=_;rw[c];rfl);generalize B (eG e.1)=b at *;generalize (.call "_law_passes" 3 [v0,v1,(.ix v2 (.int 0))]:E)=ce at *;cases b <;> simp[d7,F]
section
variable{Ok:D->Prop}
abbrev L8(pl:D->D->D)(No:D)(way:Int)(d x3:Option (Bool×D))(ps:List Nat)(P:List (N×D))(a x6:Option (Bool×D)):Rho :=
 [d,sf (.lst (dZ ps)),sf (.int way),x3,some (true,.dtn (val pl No (ff P []))),a,x6]
theorem Mo(K:KM Kd No way Ok pl)(k:Nat)(a x3:Option (Bool×D)){w:Nat}{ps:List Nat}(hp:∀i∈ps,i<w)(B:ps.length<=10):∀(R P:List (N×D)) (d x6:Option (Bool×D)),(∀e∈R,dQ w e.1/\Ok e.2)->(∀e∈P,Row e.1/\Ok e.2)->P.length+R.length<1000->∃o f,cA (aL (.tp [.nm 5,.nm 6])) (b0 (Wk (k+4)) oV) (R.map enc) (L8 pl No way a x3 ps P d x6)=.nx (L8 pl No way a x3 ps (P++R.map (kp ps)) o f)
 |[],P,d,x6,_,_,_=>#[d,x6,by show cA _ _ [] _=.nx (L8 pl No way a x3 ps (P++[]) d x6);rw[ij];rfl]|e::R,P,d,x6,h,S,L=>by
  have L:P.length+(R.length+1)<1000:=L;exists G,O,h e cj;have F:=(G.sub hp).row B;have cm:=Az K k 4 (P:=P) (e:=kp ps e) S #[F,O] (by lia) (Y:=L8 pl No way a x3 ps P (sf (nD e.1)) (sf e.2)) rfl
  have V:=L3 (W:=Wk (k+4)) G hp B (m:=.fz) (Y:=L8 pl No way a x3 ps P (sf (nD e.1)) (sf e.2)) (aD:=[5]) rfl;exists o,f,T,Mo K k a x3 hp B R (P++[kp ps e]) (sf (nD e.1)) (sf e.2) (λu r=>h u (cs r)) (λu r=>by
   rcases ii.mp r with E|E
   . exact S u E
   . rw[gV.mp E];exact#[F,O]) (by rw[im,A7];lia)
  refine#[o,f,?_];have Z:b0 (Wk (k+4)) oV (L8 pl No way a x3 ps P (sf (nD e.1)) (sf e.2))=.nx (L8 pl No way a x3 ps (P++[kp ps e]) (sf (nD e.1)) (sf e.2)):=by(have a1:aK (Wk (k+4)) (.frz (.tcall .tuple [(.comp (.ix v0 v1) (.items v1) [] [5] (.nm 1) 1)])) (L8 pl No way a x3 ps P (sf (nD e.1)) (sf e.2))=okf (nD (sub ps e.1)):=by rw[sub,nD];exact bO (fW (m:=.fr) V));unfold oV;refine cg (ρ':=L8 pl No way a x3 ps (P++[kp ps e]) (sf (nD e.1)) (sf e.2)) ?_ rfl;rw[Ip];show jO _ 4 _ 4 (aF (okf (.int way)) (aF (aK (Wk (k+4)) (.frz (.tcall .tuple [(.comp (.ix v0 v1) (.items v1) [] [5] (.nm 1) 1)])) _) (aF (okf e.2) (.ok []))))=_;rw[a1];exact cm
  rw[cu,sW (show aL (.tp [.nm 5,.nm 6]) (enc e) (L8 pl No way a x3 ps P d x6)=some (L8 pl No way a x3 ps P (sf (nD e.1)) (sf e.2))from rfl) Z,T,cu,tf];rfl
theorem Mp(K:KM Kd No way Ok pl)(k:Nat){C:List Str}{T:D}{w:Nat}{ps:List Nat}(hp:∀i∈ps,i<w)(f:ps.length<=10)(t:TR No Ok w 60 R)(r:∃H,T=Tb H R):(Wk (k+5)).Φ "_law_kept" [T,.lst (dZ ps),.int way,Tp C]=okf (Tb C (dG pl No (R.map (kp ps)))):=by exists H,rfl,r;have lt:=t.len;exists d,a,E,Mo K k (sf (Tb H R)) (sf (Tp C)) hp f R [] none none (λe o=>#[(t.each e o).1,(t.each e o).2.1]) (λe h=>(nomatch h)) (by show 0+R.length<1000;lia);rw[ow]at E;have tk:=yI hp t;have sn:=Mb (No:=No) (pl:=pl) (k+1) (P:=R.map (kp ps)) (c:=Tp C) (tk.ro f) tk.len;rw[Wf];refine bX rfl ?_;show b0 (Wk (k+4)) sP [sf (Tb H R),sf (.lst (dZ ps)),sf (.int way),sf (Tp C),none,none,none]=_;unfold sP;generalize R.map (kp ps)=Q at *;have E:dq (Wk (k+4)) (.for (.items (.ix v0 (.int 1))) (.tp [(.nm 5),(.nm 6)]) oV) (L8 pl No way (sf (Tb H R)) (sf (Tp C)) ps [] none none)=.nx (L8 pl No way (sf (Tb H R)) (sf (Tp C)) ps Q d a):=E;refine cg (ρ':=L8 pl No way (sf (Tb H R)) (sf (Tp C)) ps [] none none) rfl (cg E (cg (ρ':=(L8 pl No way (sf (Tb H R)) (sf (Tp C)) ps Q d a).set 4 (sf (.dtf (val pl No (ff Q []))))) rfl (a9 ?_)));exact dL sn
abbrev S5(pl:D->D->D)(No:D)(way:Int)(d x4:Option (Bool×D))(zs:List Str)(vs:List N)(P:List (N×D))(x6 a:Option (Bool×D)):Rho :=
 [d,sf (.int way),sf (.lst (zs.map .str)),sf (.lst (vs.map nD)),x4,some (true,.dtn (val pl No (ff P []))),x6,a,none,none,none,none,none,none,none,none,none,none,none]
theorem AM(K:KM Kd No way Ok pl)(k:Nat){vs:List N}(h3:vs.length=3)(E:∀v∈vs,bD v)(hn:yE (k+4) way zs Ok No){P:List (N×D)}(h:TR No Ok 3 P.length P)(hl:P.length<100)(c:Int)(r x4 L:Option (Bool×D)):∃e T,TR No Ok 3 (P++[e]).length (P++[e])/\b0 (Wk (k+4)) r8 (S5 pl No way r x4 zs vs P (sf (.int c)) L)=.nx (S5 pl No way r x4 zs vs (P++[e]) (sf (.int c)) T):=by
 have B:∀v:Int,∃u∈vs,atI (vs.map nD) (v % 3)=some (nD u):=λv=>by exists d,hd,ed,m5 (vs.map nD) v 3 (by rw[du,h3];rfl) (by decide);exists u,hu,rfl,de.mp hd;exact#[u,hu,ed]
 exists o,m1,e1,B c;exists f,m2,e2,B (c / 3);exists a,m3,e3,B (c / 9);exists d,S,nd,en,hn (c / 27);have i1:=dD (m:=.fz) (m':=.fz) e1;have i2:=dD (m:=.fz) (m':=.fz) e2;have i3:=dD (m:=.fz) (m':=.fz) e3;have O:dQ 3 (.t [o,f,a]):=#[_,rfl,rfl,λv m=>by
  simp only[cy,mz,h9]at m;rcases m with rfl|rfl|rfl
  . exact E _ m1
  . exact E _ m2
  . exact E _ m3]
 have tr:TR No Ok 3 (P++[(N.t [o,f,a],d)]).length (P++[(N.t [o,f,a],d)]):=#[λe he=>by
  rcases ii.mp he with F|F
  . exact h.each e F
  . rw[gV.mp F];exact#[O,S,nd],dg _]
 refine#[(.t [o,f,a],d),sf (nD (.t [o,f,a])),tr,?_];have W:dq (Wk (k+4)) (.set 7 (.tup [(.ix v3 (.bin .Mod v6 (.int 3))),(.ix v3 (.bin .Mod (.bin .FloorDiv v6 (.int 3)) (.int 3))),(.ix v3 (.bin .Mod (.bin .FloorDiv v6 (.int 9)) (.int 3)))])) (S5 pl No way r x4 zs vs P (sf (.int c)) L)=.nx (S5 pl No way r x4 zs vs P (sf (.int c)) (sf (nD (.t [o,f,a])))):=by(have er:nD (.t [o,f,a])=.tup [nD o,nD f,nD a]:=by rw[nD,eO];rfl);rw[er];unfold S5;generalize vs.map nD=V at *;generalize zs.map D.str=Z at *;generalize val pl No (ff P [])=G at *;generalize nD o=w1 at *;generalize nD f=w2 at *;generalize nD a=w3 at *;simp[i1,i2,i3,t3]
 have cm:=Az K k 5 (P:=P) (e:=(.t [o,f,a],d)) (h.ro (by decide)) #[O.row (by decide),S] (by lia) (Y:=S5 pl No way r x4 zs vs P (sf (.int c)) (sf (nD (.t [o,f,a])))) rfl
 have fd:aK (Wk (k+4)) (.frz (.bin .FloorDiv v6 (.int 27))) (S5 pl No way r x4 zs vs P (sf (.int c)) (sf (nD (.t [o,f,a]))))=okf (.int (c / 27)):=by unfold S5;simp
 have nt:aK (Wk (k+4)) (.frz (.call "_law_note" 3 [v1,(.frz (.bin .FloorDiv v6 (.int 27))),v2])) (S5 pl No way r x4 zs vs P (sf (.int c)) (sf (nD (.t [o,f,a]))))=okf d:=by refine bO ?_;show aN 3 ((Wk (k+4)).Φ "_law_note") (aF (okf (.int way)) (aF (aK (Wk (k+4)) (.frz (.bin .FloorDiv v6 (.int 27))) _) (aF (okf (.lst (zs.map .str))) (.ok []))))=_;rw[fd];exact bM en
 unfold r8;refine cg W (cg (ρ':=S5 pl No way r x4 zs vs (P++[(N.t [o,f,a],d)]) (sf (.int c)) (sf (nD (.t [o,f,a])))) ?_ rfl);rw[Ip];show jO _ 5 _ 4 (aF (okf (.int way)) (aF (okf (nD (.t [o,f,a]))) (aF (aK (Wk (k+4)) (.frz (.call "_law_note" 3 [v1,(.frz (.bin .FloorDiv v6 (.int 27))),v2])) _) (.ok []))))=_;rw[nt];exact cm
theorem Mq(K:KM Kd No way Ok pl)(k:Nat){zs:List Str}{vs:List N}(F:vs.length=3)(E:∀v∈vs,bD v)(hn:yE (k+4) way zs Ok No)(f x4:Option (Bool×D)):∀(a:List Int) (P:List (N×D)) (x6 d:Option (Bool×D)),TR No Ok 3 P.length P->P.length+a.length<100->∃o L r,TR No Ok 3 (P.length+a.length) o/\cA (aL (.nm 6)) (b0 (Wk (k+4)) r8) (a.map .int) (S5 pl No way f x4 zs vs P x6 d)=.nx (S5 pl No way f x4 zs vs o L r)|[],P,x6,d,h,B=>#[P,x6,d,h,rfl]|c::a,P,x6,d,h,B=>by have B:P.length+(a.length+1)<100:=B;exists e,r,t,O,AM K k F E hn h (by lia) c f x4 d;exists o,G,Z,t',S,Mq K k F E hn f x4 a (P++[e]) (sf (.int c)) r t (by rw[im,A7];lia);refine#[o,G,Z,?_,by rw[cu,sW (show aL (.nm 6) (.int c) (S5 pl No way f x4 zs vs P x6 d)=some (S5 pl No way f x4 zs vs P (sf (.int c)) d)from rfl) O];exact S];(have:(P++[e]).length+a.length=P.length+(c::a).length:=by rw[im,A7,gh];lia);rw[<- this];exact t'
end
end K43
set_option maxHeartbeats 0
namespace K43
open D3
abbrev DG(a:Str):D:=.tup [.str "table",.str a]
def hV(c:Int):List Nat:=(List.range (c / 6 % 4).toNat).map λ(k:Nat)=>((c+(k:Int) * (1+c / 3 % 2)) % 3).toNat
theorem Mr(c:Int):∀i∈hV c,i<3:=λi a=>by exists k,_,rfl,de.mp a;lia
theorem XY(c:Int):(hV c).length<=10:=by unfold hV;rw[du,oz];lia
theorem Mt(c:Int):(hV c).Nodup:=by
 unfold hV;refine kS.mpr (ut (R:=λi j=>i<j) ?_ CZ);intro i j hi hj a e;rw[oo]at hi hj;have hs:c / 3 % 2=0\/c / 3 % 2=1:=by lia
 have hn:(c / 6 % 4).toNat<=3:=by lia
 generalize (c / 6 % 4).toNat=n at hi hj hn;have a:(i=0/\j=1)\/(i=0/\j=2)\/(i=1/\j=2):=by clear e hs;lia
 clear hi hj hn
 rcases hs with hs|hs <;> rw[hs]at e <;> clear hs <;> rcases a with⟨rfl,rfl⟩|⟨rfl,rfl⟩|⟨rfl,rfl⟩ <;> simp at e <;> lia
theorem XZ{W:WD}(c:Int)(a:bU [6] Y=[sf (.int c)]):bI (okf (.lst (cD 0 (c / 6 % 4)))) Y [6] 1 (aL (.nm 1)) (λY=>d7 W [] Y) (λY=>aK W (.bin .Mod (.bin .Add v0 (.bin .Mult v1 (.bin .Add (.int 1) (.bin .Mod (.bin .FloorDiv v0 (.int 3)) (.int 2))))) (.int 3)) Y)=.ok .fr (.lst (dZ (hV c))):=by have Z:sizeLine=16777216:=dj;exists n,hn,sv (show 0<=c / 6 % 4 by lia);have hn:c / 6 % 4=(n:Int):=hn;unfold dZ hV;rw[hn,L7,fu,rj];refine fV (enc:=λi:Nat=>D.int (i:Int)) (λi=>D.int (((c+(i:Int) * (1+c / 3 % 2)) % 3).toNat:Int)) (by rw[oz];lia) λi d=>?_;have d:=oo.mp d;refine#[[sf (.int c),sf (.int (i:Int))],.fz,by rw[a];rfl,rfl,.fz,?_];have mu:bv (aZ .Mult) (okf (.int (i:Int))) (okf (.int (1+c / 3 % 2)))=okf (.int ((i:Int) * (1+c / 3 % 2))):=wD (by lia);have e:(((c+(i:Int) * (1+c / 3 % 2)) % 3).toNat:Int)=(c+(i:Int) * (1+c / 3 % 2)) % 3:=Int.toNat_of_nonneg (ss _ (by decide));rw[e];simp[mu]
def X0{W:WD}{e:E}{l:List D}(h:aK W e Y=.ok .fr (.lst l)):dq W (.setC i true e) Y=.nx (Y.set i (sf (.lst l))):=by rw[wC,h];rfl
def oth(zs:List Str)(c:Int):List Str:=(List.range 3).map λ(k:Nat)=>zs.getD ((c+(k:Int)) % 8).toNat ""
theorem X1(d:zs.length=8)(nd:zs.Nodup)(c:Int):(oth zs c).Nodup/\(oth zs c).length=3:=by
 refine#[kS.mpr (ut (R:=λi j=>i<j) ?_ CZ),by unfold oth;rw[du,oz]]
 intro i j hi hj hij e;rw[oo]at hi hj;have a:((c+(i:Int)) % 8).toNat<zs.length:=by lia
 have L:((c+(j:Int)) % 8).toNat<zs.length:=by lia
 rw[jW a,jW L]at e;have:=(AS nd).mp e;lia
theorem AN{W:WD}(B:zs.length=8){c:Int}{S:D}(f:aN 2 (W.Φ "_law_cell_at") (.ok [(.fz,S),(.fz,.int 5)])=okf (.int c))(a:bU [2,0] Y=[sf (.lst (zs.map .str)),sf S]):bI (fM (.ok [(.fz,.int 3)])) Y [2,0] 1 (aL (.nm 2)) (λY=>d7 W [] Y) (λY=>aK W (.ix v0 (.bin .Mod (.bin .Add (.call "_law_cell_at" 2 [v1,(.int 5)]) v2) (.int 8))) Y)=.ok .fr (.lst ((oth zs c).map .str)):=by(have Z:sizeLine=16777216:=dj;have r:fM (.ok [(.fz,.int 3)])=okf (.lst ((List.range 3).map λ(i:Nat)=>D.int (i:Int))):=by have:=xN (n:=3) (m:=.fz) (by decide);rw[L7]at this;exact this);unfold oth;rw[r,fu];refine fV (enc:=λi:Nat=>D.int (i:Int)) (λ(i:Nat)=>D.str (zs.getD ((c+(i:Int)) % 8).toNat "")) (by rw[oz];lia) λi o=>?_;refine#[[sf (.lst (zs.map .str)),sf S,sf (.int (i:Int))],.fz,by rw[a];rfl,rfl,.fz,?_];(have L:((c+(i:Int)) % 8).toNat<zs.length:=by lia);have e:(((c+(i:Int)) % 8).toNat:Int)=(c+(i:Int)) % 8:=Int.toNat_of_nonneg (ss _ (by decide));(have ad:bv (aZ .Add) (okf (.int c)) (okf (.int (i:Int)))=okf (.int (c+(i:Int))):=by simp);have d:bv (aZ .Mod) (okf (.int (c+(i:Int)))) (okf (.int 8))=okf (.int ((c+(i:Int)) % 8)):=jS (by decide);(have ix:bv c6 (okf (.lst (zs.map .str))) (okf (.int ((((c+(i:Int)) % 8).toNat:Nat):Int)))=okf (.str (zs.getD ((c+(i:Int)) % 8).toNat "")):=by rw[jW L];exact dD (cW (by rw[gz,gg L];rfl)));rw[e]at ix;show aG (bv c6 (okf (.lst (zs.map .str))) (bv (aZ .Mod) (bv (aZ .Add) (aN 2 (W.Φ "_law_cell_at") (.ok [(.fz,S),(.fz,.int 5)])) (okf (.int (i:Int)))) (okf (.int 8))))=_;rw[f,ad,d,ix];rfl
section
variable{Ok:D->Prop}
theorem AO(K:KM Kd No way Ok pl){ns:List Int}(h8:zs.length=8)(S:zs.Nodup){vs:List N}(h3:vs.length=3)(hv:∀v∈vs,bD v){a:Str}(ka:iV (.inr a)=true)(za:(zs.map D.str)[3]? = some (.str a)){C:List Str}(hC:C.length=3)(nd:C.Nodup)(tr:TR No Ok 3 60 R)(x5 x6 x7:Option (Bool×D)):b0 (Wk 39) (iG.drop 12) [sf (.lst (ns.map .int)),sf (.int way),sf (.lst (zs.map .str)),sf (.lst (vs.map nD)),sf (Tp C),x5,x6,x7,sf (Tb C R),sf (.dcf (M1 a (Tb C R))),sf Kd,none,none,none,none,none,none,none,none]=.rt .fz (.bl true):=by
 have zl:sizeLine=16777216:=dj;have k3:=m9 38 ns (i:=3) (by decide)
 have k4:=m9 38 ns (i:=4) (by decide)
 have k5:=m9 38 ns (i:=5) (by decide)
 generalize ce ns 3=c3 at *;generalize ce ns 4=c4 at *;generalize ce ns 5=c5 at *;exists f,lO,X1 h8 S c5;have oc:=λY (h:bU [2,0] Y=_)=>AN (W:=Wk 39) h8 k5 (Y:=Y) h;generalize hO:oth zs c5=O at *;exists t1,B1,T1,G,L1 38 c3 nd hC h3 hv;exists t2,B2,T2,L,L1 38 (c5 / 8) f lO h3 hv;have G:=bM G;have L:=bM L;have lR:=tr.len;have T:TR No Ok C.length 60 R:=by rw[hC];exact tr
 have F:TR No Ok O.length 60 R:=by rw[lO];exact tr
 have rC:∀e∈R,dQ C.length e.1:=λe he=>(T.each e he).1;have rO:∀e∈R,dQ O.length e.1:=λe he=>(F.each e he).1;have hp:∀i∈hV c4,i<C.length:=λi h=>by rw[hC];exact Mr c4 i h
 have o:∀i∈hV c4,i<O.length:=λi h=>by rw[lO];exact Mr c4 i h
 have E:=XY c4;exists af,ah,L9 nd hp (Mt c4);exists ae,ag,L9 f o (Mt c4);have B:=yJ B2 F;have bb:=bM (pC 38 (Kd:=Kd) ka (Mf 30 T1 (oZ 35 (gL (a:=a) (x:=Tp C)))) (Mj 29 T1 rC (by lia) (pB 36 (gL (a:=a) (x:=Tb C R)))))
 have az:=bM (pC 38 ka (Mg 34 af ah (oZ 35 (gL (a:=a) (x:=Tp C)))) (Ml K 29 nd hp E T (pB 36 (gL (a:=a) (x:=Tb C R)))));have ay:=bM (pC 38 (Kd:=Kd) ka (Mh 35 f (by lia) (by lia) (oZ 35 (gL (a:=a) (x:=Tp C)))) (Mm 35 (H:=O) (pB 36 (gL (a:=a) (x:=Tb C R)))))
 have aw:=bM (pC 38 ka (Mg 34 ae ag (Mf 29 T2 (Mh 33 f (by lia) (by lia) (oZ 33 (gL (a:=a) (x:=Tp C)))))) (Ml K 29 f o E B (Mj 28 T2 rO (by lia) (Mm 33 (H:=O) (pB 34 (gL (a:=a) (x:=Tb C R)))))))
 have av:=bM (pC 38 (Kd:=Kd) ka (oZ 36 (gL (a:=a) (x:=Tp C))) (pB 37 (gL (a:=a) (x:=Tb C R))));have am:=Jk (Mp K 34 (C:=gp C (hV c4)) hp E T #[C,rfl]);have ak:=Jk (Mp K 34 (C:=gp O (hV c4)) o E B #[O,rfl]);have ro:=T.ro (by lia)
 have pT:=Mc K (C:=C) (by lia) ro (by lia)
 have r:∀(H:List Str) (Q:List (N×D)),H.length<=999->(∀e∈Q,Row e.1/\Ok e.2)->Q.length<=999->(Wk 39).Φ "_law_alike" [Tb H Q,Tb H Q]=okf (.bl true):=λH Q h1 h2 h3=>Aj 11 (Mc K h1 h2 h3) 39 (by decide)
 have bi:=r C (jX B1 R) (by lia) ((yJ B1 T).ro (by lia)) (by have:=(yJ B1 T).len;lia)
 have bg:=r O R (by lia) ro (by lia)
 have bc:=r C R (by lia) ro (by lia)
 have kr:∀(H:List Str) (Q:List (N×D)),(∀i∈hV c4,i<H.length)->TR No Ok H.length 60 Q->(Wk 39).Φ "_law_alike" [Tb (gp H (hV c4)) (dG pl No (Q.map (kp (hV c4)))),Tb (gp H (hV c4)) (dG pl No (Q.map (kp (hV c4))))]=okf (.bl true):=λH Q h1 h2=>by have tk:=yI h1 h2;exists a1,a2,XQ K (tk.ro E);have:=tk.len;exact r _ _ (by rw[du];lia) a1 (by lia)
 have bh:=kr C R hp T;have bf:=kr O (jX B2 R) o B;have au:=AL (a:=a) (by decide) pT (m:=.fz) (m':=.fr)
 have aj:=λY (h:bU [12,4] Y=_)=>Mn 33 T1 rC (by lia) (Y:=Y) (aD:=[12,4]) h
 have ai:=λY (h:bU [12,16] Y=_)=>Mn 33 T2 rO (by lia) (Y:=Y) (aD:=[12,16]) h
 have pc:=λY (h:bU [6] Y=_)=>XZ (W:=Wk 39) c4 (Y:=Y) h;have ar:=λY (h:bU [4] Y=_)=>Ma (W:=Wk 39) hp E (Y:=Y) (aD:=[4]) h;have aq:=λY (h:bU [16] Y=_)=>Ma (W:=Wk 39) o E (Y:=Y) (aD:=[16]) h
 clear T F rC rO hp o af ah ae ag B ro pT r kr T1 T2 f nd S tr E
 generalize dZ (hV c4)=IS at *;generalize gp C (hV c4)=H1 at *;generalize gp O (hV c4)=H2 at *;generalize dG pl No (R.map (kp (hV c4)))=O1 at *;generalize dG pl No ((jX B2 R).map (kp (hV c4)))=O2 at *;generalize Tb H1 O1=U1 at *;generalize Tb H2 O2=U2 at *;generalize hZ:zs.map D.str=Z at *;generalize vs.map nD=V at *;have i3:∀{Y:Rho},cP Y 2=okf (.lst Z)->aK (Wk 39) (.ix v2 (.int 3)) Y=okf (.str a):=λ{Y} h=>xE 3 (m:=.fz) h za;have x8:∀{Y:Rho},cP Y 8=okf (Tb C R)->aK (Wk 39) (.ix v8 (.int 1)) Y=okf (.tup (R.map enc)):=λ{Y} h=>by show bv c6 (cP Y 8) (okf (.int 1))=_;rw[h,i1]
 have aa:∀{Y:Rho},cP Y 8=okf (Tb C R)->aK (Wk 39) (.items (.ix v8 (.int 1))) Y=okf (.lst (R.map enc)):=λ{Y} h=>by show eX (aG (aK (Wk 39) (.ix v8 (.int 1)) Y))=_;rw[x8 h];rfl
 have rg:∀{Y:Rho},cP Y 6=okf (.int c4)->aK (Wk 39) (.rng1 (.bin .Mod (.bin .FloorDiv v6 (.int 6)) (.int 4))) Y=okf (.lst (cD 0 (c4 / 6 % 4))):=λ{Y} h=>by show fM (aF (bv (aZ .Mod) (bv (aZ .FloorDiv) (cP Y 6) (okf (.int 6))) (okf (.int 4))) (.ok []))=_;rw[h,show bv (aZ .FloorDiv) (okf (.int c4)) (okf (.int 6))=okf (.int (c4 / 6)) by simp,jS (by decide)];exact sY (by lia) (by lia)
 generalize Wk 39=W at *;refine cg (bE (k7 rfl (i3 rfl))) (cg (bE (bO (Ad (bO k3) rfl rfl G))) (cg (bE (k7 rfl (bO (fW (m:=.fr) (by rw[gI,aa rfl];exact aj _ rfl))))) (cg (tK (bO bb) rfl bi) (cg (bE (bO k4)) (cg (X0 (l:=IS) (by rw[gI,rg rfl];exact pc _ rfl)) ?_)))))
 refine cg (bE (bO (fW (m:=.fr) (ar _ rfl)))) (cg (tK (bO az) (bO am) bh) (cg (bE (bO (fW (m:=.fr) (oc _ rfl)))) (cg (tK (bO ay) (k7 rfl (x8 rfl)) bg) (cg (bE (bO (Ad (bO (d:=.int (c5 / 8)) (by
  show bv (aZ .FloorDiv) (aN 2 (W.Φ "_law_cell_at") (.ok [(.fz,.lst (ns.map .int)),(.fz,.int 5)])) (okf (.int 8))=_;rw[k5];simp)) rfl rfl L))) ?_))))
 refine cg (bE (k7 rfl (bO (fW (m:=.fr) (by rw[gI,aa rfl];exact ai _ rfl))))) (cg (bE (bO (fW (m:=.fr) (aq _ rfl)))) (cg (bE (d:=Ke (Pk (Ca (DG a) O) t2) H2) rfl) (cg (tK (bO aw) (bO ak) bf) (a9 (KA ?_ (lr (bO av) rfl (dL bc)))))))
 show bv pb (okf _) (nX (aK W (.ix v2 (.int 3)) _) (okf (Tb C R)))=_;rw[i3 rfl];exact au
end
def kk:Nat:=39
theorem X2{ns:List Int}:∃a:List Int,a.length<=40/\D3.eK (ns.map D.int) (some ((6:Nat):Int)) (some ((46:Nat):Int))=a.map .int:=by refine#[(ns.drop (min 6 ns.length)).take (min 46 ns.length-min 6 ns.length),?_,?_];{rw[re];lia};unfold D3.eK;rw[HT.pJ,HT.pJ,du,List.map_take,List.map_drop]
section
variable{Ok:D->Prop}
abbrev T0(ns:List Int)(way:Int)(zs:List Str)(vs:List N)(d x6 a x8 x9 x10:Option (Bool×D)):Rho :=
 [sf (.lst (ns.map .int)),sf (.int way),sf (.lst (zs.map .str)),sf (.lst (vs.map nD)),sf (Tp (zs.take 3)),d,x6,a,x8,x9,x10,none,none,none,none,none,none,none,none]
theorem Mv(K:KM Kd No way Ok pl){ns:List Int}(h8:zs.length=8)(nd:zs.Nodup)(G:∀z∈zs,iV (.inr z)=true){vs:List N}(E:vs.length=3)(B:∀v∈vs,bD v)(hn:yE 39 way zs Ok No)(hk:∀r x6 o x8 x9:Option (Bool×D),b0 (Wk 39) [.set 10 (.frz (.mk0 "Counts")),.ite (.cmp .Eq v1 (.int 1)) [.set 10 (.frz (.mk0 "Reasons"))] []] (T0 ns way zs vs r x6 o x8 x9 none)=.nx (T0 ns way zs vs r x6 o x8 x9 (sf Kd))):b0 (Wk 39) (iG.drop 4) (T0 ns way zs vs none none none none none none)=.rt .fz (.bl true):=by
 have V:(zs.take 3).length=3:=by rw[re];lia
 have L:3<zs.length:=by lia
 have Z:(zs.map D.str)[3]? = some (.str zs[3]):=by rw[gz,gg L];rfl
 exists f,lc,ec,X2 (ns:=ns);exists P,d,a,t,e,Mq K 35 E B hn (sf (.lst (ns.map .int))) (sf (Tp (zs.take 3))) f [] none none #[λe h=>(nomatch h),dg _] (by show 0+f.length<100;lia)
 have T:TR No Ok 3 60 P:=#[t.each,by have:=t.len;have:P.length<=0+f.length:=this;lia]
 have S:=Mb (No:=No) (pl:=pl) 36 (P:=P) (c:=Tp (zs.take 3)) (T.ro (by decide)) T.len
 have tl:=AO K (ns:=ns) h8 nd E B (G _ (mm L)) Z V ((List.take_sublist 3 zs).nodup nd) (T.sum K (by decide)) (sf (.dtf (val pl No (ff P [])))) d a
 have F:aK (Wk 39) (.items (.slice v0 (some (.int 6)) (some (.int 46)))) (S5 pl No way (sf (.lst (ns.map .int))) (sf (Tp (zs.take 3))) zs vs [] none none)=okf (.lst (f.map .int)):=by have s:=WV (W:=Wk 39) (Y:=S5 pl No way (sf (.lst (ns.map .int))) (sf (Tp (zs.take 3))) zs vs [] none none) (ds:=ns.map .int) (m0:=.fz) (e:=.int 6) (e':=.int 46) (i:=6) (j:=46) (m:=.fz) (m':=.fz) rfl rfl;rw[ec]at s;show eX (aG (js (okf (.lst (ns.map .int))) _ _ _))=_;rw[s];rfl
 refine cg (ρ':=S5 pl No way (sf (.lst (ns.map .int))) (sf (Tp (zs.take 3))) zs vs [] none none) rfl (cg (ρ':=S5 pl No way (sf (.lst (ns.map .int))) (sf (Tp (zs.take 3))) zs vs P d a) (by rw[kW,F];exact e) (cg (ρ':=T0 ns way zs vs (sf (.dtf (val pl No (ff P [])))) d a none none none) rfl (cg (ρ':=T0 ns way zs vs (sf (.dtf (val pl No (ff P [])))) d a (sf (Tb (zs.take 3) (dG pl No P))) none none) (bE (bO (lr rfl rfl (dL S)))) ?_)))
 have O:aK (Wk 39) (.ix v2 (.int 3)) (T0 ns way zs vs (sf (.dtf (val pl No (ff P [])))) d a (sf (Tb (zs.take 3) (dG pl No P))) none none)=okf (.str zs[3]):=xE 3 (m:=.fz) rfl Z;refine cg (ρ':=T0 ns way zs vs (sf (.dtf (val pl No (ff P [])))) d a (sf (Tb (zs.take 3) (dG pl No P))) (some (true,.dct (M1 zs[3] (Tb (zs.take 3) (dG pl No P))))) none) (by
  rw[Ik];show eA _ 9 (nX (aK (Wk 39) (.ix v2 (.int 3)) _) (okf (Tb (zs.take 3) (dG pl No P))))=_;rw[O];rfl) (cg (ρ':=T0 ns way zs vs (sf (.dtf (val pl No (ff P [])))) d a (sf (Tb (zs.take 3) (dG pl No P))) (sf (.dcf (M1 zs[3] (Tb (zs.take 3) (dG pl No P))))) none) rfl ?_)
 show b0 _ ([.set 10 (.frz (.mk0 "Counts")),.ite (.cmp .Eq v1 (.int 1)) [.set 10 (.frz (.mk0 "Reasons"))] []]++iG.drop 12) _=_;rw[oU,hk,aI.thn_nx];exact tl
end
theorem main(ns:List Int)(L:ns.length<=63):(Wk (kk+1)).Φ ("law":Str) (pX ns)=okf (.bl true):=by rw[zz];refine bX rfl ?_;show b0 (Wk 39) iG [sf (.lst (ns.map .int)),none,none,none,none,none,none,none,none,none,none,none,none,none,none,none,none,none,none]=_;have O:=m9 38 ns (i:=0) (by decide);have c1:=m9 38 ns (i:=1) (by decide);have N:=m9 38 ns (i:=2) (by decide);(exists zs,B,nd,K,en,names 38 (ce ns 1);exists vs,E,D,ep,EK 38 (ce ns 2);have en:=oW en;have ep:=oW ep;generalize ce ns 1=n1 at *;generalize ce ns 2=n2 at *;generalize ce ns 0=h at *;have G:h % 2=0\/h % 2=1:=by lia);have F:=jS (m:=.fz) (n:=.fz) (i:=h) (j:=2) (by decide);(generalize h % 2=w at *;have p1:b0 (Wk 39) (iG.take 4) [sf (.lst (ns.map .int)),none,none,none,none,none,none,none,none,none,none,none,none,none,none,none,none,none,none]=.nx (T0 ns w zs vs none none none none none none):=by refine cg (ρ':=[sf (.lst (ns.map .int)),sf (.int w),none,none,none,none,none,none,none,none,none,none,none,none,none,none,none,none,none]) (bE (bO (Eq.trans (congrArg (bv (aZ .Mod) · (okf (.int 2))) O) F))) (cg (bE (i8 (lr (bO c1) rfl en))) (cg (bE (i8 (lr (bO N) (bO pw) ep))) ?_));refine cg (ρ':=T0 ns w zs vs none none none none none none) (bE (bO ?_)) rfl;rw[Tp,List.map_take];exact fW (m:=.fr) (WU (W:=Wk 39) (ds:=zs.map .str) (m':=.fz) (e:=.int 3) (i:=3) (m:=.fz) rfl));have ea:iG=iG.take 4++iG.drop 4:=rfl;rw[ea,oU,p1,aI.thn_nx];rcases G with rfl|rfl;{exact Mv Xn B nd K E D (λc=>AA 37 c _) λr o f d a=>cg (ρ':=T0 ns 0 zs vs r o f d a (sf (.ins "Counts" []))) rfl (cg (bN (m:=.fz) rfl rfl) rfl)};exact Mv (LF (P:=zs) (by lia)) B nd K E D (λc=>AD 37 c B) λr o f d a=>cg (ρ':=T0 ns 1 zs vs r o f d a (sf (.ins "Counts" []))) rfl (cg (ρ':=T0 ns 1 zs vs r o f d a (sf (.ins "Reasons" []))) (c7 (m:=.fz) rfl (cg (ρ':=T0 ns 1 zs vs r o f d a (sf (.ins "Reasons" []))) rfl rfl)) rfl)
end K43
noncomputable def W.Fast.tw4186216220095529257:PySem.Program:=dh
def W.Fast.te4186216220095529257:dh=W.Fast.tw4186216220095529257:=rfl
noncomputable def PySem.W.Fast.tw4186216220095529257:=PySem.Challenge.pw_whencewise_k43_pick_keep_call
theorem PySem.W.Fast.te4186216220095529257:PySem.Challenge.pw_whencewise_k43_pick_keep_call=PySem.W.Fast.tw4186216220095529257:=rfl
namespace K43
open PySem.W Tp
def tw:Prod.fst (true,dh)=true:=by k_qdec
noncomputable def as:List Addr:=[2,3,15,22,23,24,25,28,35,36,37,40,47,48,49,52,59,60,61,64,71,72,73,76,78,79,81,82,83,86,87,88,90,91,93,94,102,104,105,107,108,109,110,111,112,113,116,123,125,126,128,129,130,132,133,135,136,137,139,140,142,143,144,146,147,149,150,151,153,154,156,157,158,160,161,163,164,165,167,168,170,171,172,173,174,177,180,181,182,185,186,187,190,191,192,195,196,197,199,200,202,203,204,207,208,209,211,212,214,215,216,218,219,221,222,223,226,227,228,231,232,233,235,236,238,239,240,242,243,245,246,247,250,251,252,254,255,257,258,259,261,262,264,265,266,268,269,271,272,273,275,276,278,279,280,282,283,285,286,287,289,290,292,293,294,296,297,299,300,301,303,304,306,307,308,311,312,313,315,316,318,319,320,322,323,325,326,327,328,331,332,333,335,336,338,339,340,343,344,345,348,349,350,352,353,355,356,357,360,361,362,365,366,367,369,370,372,373,374,377,378,379,381,382,384,385,386,388,389,391,392,393,396,397,398,400,401,403,404,405,407,408,410,411,412,413,420,422,423,425,426,427,429,430,432,433,434,436,437,439,440,441,444,445,446,448,449,451,452,453,456,457,458,460,461,463,464,465,467,468,470,471,472,473,474,477,479,480,482,483,484,486,487,489,490,491,493,494,496,497,498,501,502,503,505,506,508,509,510,513,514,515,517,518,520,521,522,524,525,527,528,529,531,532,534,535,536,538,539,541,542,543,546,547,548,550,551,553,554,555,557,558,560,561,562,564,565,567,568,569,571,572,574,575,576,579,580,581,583,584,586,587,588,590,591,593,594,595,597,598,600,601,602,604,605,607,608,609,612,613,614,617,618,619,622,623]
noncomputable def ts:List Addr:=[77,84,89,103,124,131,138,145,152,159,166,178,183,188,193,198,205,210,217,224,229,234,241,248,253,260,267,274,281,288,295,302,309,314,321,329,334,341,346,351,358,363,368,375,380,387,394,399,406,421,428,435,442,447,454,459,466,478,485,492,499,504,511,516,523,530,537,544,549,556,563,570,577,582,589,596,603,610,615,620]
def pre(w:cw)(os:OsState):topGo treeTable dh w 11 an 12 #[boot_heap w.params,#[],boot_drawn,boot_toks,os] (topStub dh)=some ((sh w.params (sA w.params) 15 187 os).abs,#[denote treeTable (cd dh),cd dh,z0,[topFrame z0]]):=by rw[dh,Fast.te4186216220095529257,Fast.te203182992438928480,Fast.te13144403056285818395,Fast.te15667345088766844465,Fast.te14364793385576792824,Fast.te11892475500146522536];kernel_rfl
def blk(w:cw)(s:bz):segRun treeTable dh w 11 an 1 1 s (blockOf dh.main.body (ev dh) (cd dh) z0 [topFrame z0])=some (.next,s,cd dh,z0):=by kernel_rfl
def EQ(w:cw)(os:OsState):go treeTable dh w 1000 (dh.main.body.take 43) (sh w.params (sA w.params) 15 187 os) (cd dh) z0=some (pi w.params (dh.main.body.take 43) os,cd dh,#[158,0,163,14]) :=
 byRow2 "special-get-raises" (P:=λw=>∀os:OsState,go treeTable dh w 1000 (dh.main.body.take 43) (sh w.params (sA w.params) 15 187 os) (cd dh) z0=some (pi w.params (dh.main.body.take 43) os,cd dh,#[158,0,163,14]))
  (λw os=>by
   rw[pi,dh,Fast.te4186216220095529257,Fast.te203182992438928480,Fast.te13144403056285818395,Fast.te5678740263434597267,Fast.te14364793385576792824,Fast.te10212481707522018265]
   kernel_rfl)
  (λw os=>by
   rw[pi,dh,Fast.te4186216220095529257,Fast.te203182992438928480,Fast.te13144403056285818395,Fast.te5678740263434597267,Fast.te14364793385576792824,Fast.te10212481707522018265]
   kernel_rfl) w os
def ER(w:cw)(os:OsState):go treeTable dh w 1000 (dh.main.body.drop 43) (pi w.params (dh.main.body.take 43) os) (cd dh) #[158,0,163,14]=some (sh w.params (lay w.params dh.main.body (sA w.params)) 624 1029 os,cd dh,#[421,0,454,123]) :=
 byRow2 "special-get-raises" (P:=λw=>∀os:OsState,go treeTable dh w 1000 (dh.main.body.drop 43) (pi w.params (dh.main.body.take 43) os) (cd dh) #[158,0,163,14]=some (sh w.params (lay w.params dh.main.body (sA w.params)) 624 1029 os,cd dh,#[421,0,454,123]))
  (λw os=>by
   rw[pi,dh,Fast.te4186216220095529257,Fast.te203182992438928480,Fast.te13144403056285818395,Fast.te5678740263434597267,Fast.te14364793385576792824,Fast.te10212481707522018265]
   kernel_rfl)
  (λw os=>by
   rw[pi,dh,Fast.te4186216220095529257,Fast.te203182992438928480,Fast.te13144403056285818395,Fast.te5678740263434597267,Fast.te14364793385576792824,Fast.te10212481707522018265]
   kernel_rfl) w os
def run(w:cw)(os:OsState):go treeTable dh w 1000 dh.main.body (sh w.params (sA w.params) 15 187 os) (cd dh) z0=some (sh w.params (lay w.params dh.main.body (sA w.params)) 624 1029 os,cd dh,#[421,0,454,123]):=by have:=je (r:=(dh.main.body.drop 43)) (EQ w os);rw[List.take_append_drop]at this;rw[this];exact ER w os
def tabs:=@D3.aUT K43.GG (KK dh.main.body as) "DEEDS_asking" "DEEDS_askings" [("pick","picked"),("keep","kept_rows"),("call","called_rows"),("join","joined"),("pour","poured_rows"),("total","totals"),("leave","left_out")] [("pick","columns_of_pick"),("keep","columns_of_keep"),("call","columns_of_call"),("join","columns_of_join"),("pour","columns_of_pour"),("total","columns_of_total"),("leave","columns_of_leave")] (by decide +kernel) (λP=>by kernel_rfl) (λP=>by kernel_rfl) (λP=>by kernel_rfl) (λP=>by kernel_rfl) (by decide) (by decide) (by decide) (by decide)
def yK(w:cw):(λos=>((staticsOk (importedModules dh.main.body) (boot_heap w.params) (H1 dh.main.body 624 w.params)&&namesBound dh (H1 dh.main.body 624 w.params)&&gensDone (S1 dh.main.body 624 1029 w.params os)&&laidKept (boot_heap w.params) (H1 dh.main.body 624 w.params)),openSeen (vw dh) (los dh.main.body) (importedModules dh.main.body) (xt PySem.Challenge.rw_whencewise_k43_pick_keep_call.row) true (S1 dh.main.body 624 1029 w.params os),(hk dh.main.body (as++ts)).obs (S1 dh.main.body 624 1029 w.params os)))=λ_=>(true,openGood (vw dh) (los dh.main.body),(hk dh.main.body (as++ts)).val w):=by rw[dh,Fast.te14387180822208032119,Fast.te4186216220095529257,Fast.te5923862056798008813,Fast.te9407923862454927560,Fast.te15884229538025494872,Fast.te4187177175401517315,Fast.te18076920544200396443,Fast.te9318435048543301240,Fast.te17808466708180730929,Fast.te2368527892694137696];kernel_rfl
def tb(P:Params):D3.rT (KK dh.main.body as P) (KK dh.main.body (as++ts) P)=true:=by kernel_rfl
def gf(P:Params):D3.wL (KK dh.main.body as P) GG TT=true:=by kernel_rfl
abbrev dl:DefRec:=#["law",L2.nS w6,L2.gZ w6,L2.dR w6,#[421,0,454,123]]
end K43
open PySem.W
set_option maxRecDepth 100000 in
set_option maxHeartbeats 0 in
theorem PySem.Challenge.cw_whencewise_k43_pick_keep_call_holds : PySem.Challenge.rw_whencewise_k43_pick_keep_call.Holds := by
 w_on;o_law
 exact Tp.head (p:=PySem.Challenge.rw_whencewise_k43_pick_keep_call) (d:=K43.dl) (Tp.left (by kernel_rfl) K43.pre K43.blk K43.run (by kernel_rfl) (by kernel_rfl) (λ_=>by kernel_rfl) K43.yK) (by assumption) (by kernel_rfl) (by kernel_rfl) rfl rfl (by decide +kernel) #[rfl,rfl,rfl,rfl,rfl,by decide +kernel] (by w_witness2)
  (D3.walkG (K:=Tp.KK PySem.Challenge.pw_whencewise_k43_pick_keep_call.main.body K43.as) (Kf:=Tp.KK PySem.Challenge.pw_whencewise_k43_pick_keep_call.main.body (K43.as++K43.ts)) (kk:=K43.kk) (e:=K43.wZ) rfl rfl rfl (λw h a=>W.kIn_of a) (Tp.KK_sub _ _ _) (Tp.KK_nd _ _) K43.tb K43.gf K43.tabs rfl rfl #[rfl,by decide,by decide] K43.main)
